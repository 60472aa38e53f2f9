/- What the statements of each kind look like; rows of plain words; labels, words, kinds: the program's and the document's. -/
import Derived.Test.YtipfhfeaalbmcaaDoorPlain
namespace Go.Proofs.YtipfhfeaalbmcaaDoor
open Go.RowKit

def shapeRow : List (List UInt8 × Bool × Int × Int) := [([], false, 0, 0), ([36, 99], false, 1, 9223372036854775807), ([36, 118], false, 1, 9223372036854775807), ([36, 102], true, 2, 2), ([36, 101], true, 1, 9223372036854775807), ([36, 100], false, 2, 32), ([36, 97], true, 1, 9223372036854775807), ([36, 112], true, 1, 9223372036854775807), ([36, 123], false, 0, 0), ([36, 125], false, 0, 0)]
def kwB (k : Nat) : ByteArray := ⟨(shapeRow.getD k ([], false, 0, 0)).1.toArray⟩
def labB (k : Nat) : Bool := (shapeRow.getD k ([], false, 0, 0)).2.1
def lstI (k : Nat) : Int := (shapeRow.getD k ([], false, 0, 0)).2.2.1
def mstI (k : Nat) : Int := (shapeRow.getD k ([], false, 0, 0)).2.2.2
/-- The table of the kinds, the second package variable. -/
def ShapesAt (w : World) : Prop := ∀ k, k < 10 → w.cell? ⟨1, k * 4, none⟩ = some (.string (kwB k)) ∧ w.cell? ⟨1, k * 4 + 1, none⟩ = some (.bool (labB k)) ∧ w.cell? ⟨1, k * 4 + 2, none⟩ = some (.int .i64 (lstI k)) ∧ w.cell? ⟨1, k * 4 + 3, none⟩ = some (.int .i64 (mstI k))
theorem ShapesAt.size {w : World} (h : ShapesAt w) : 1 < w.heap.size := World.block_lt_of_cell? _ _ (h 0 (by omega)).1
theorem ShapesAt.under {w w' : World} (h : ShapesAt w) (hb : Below w.heap.size w w') : ShapesAt w' := fun k hk => by
  obtain ⟨h0, h1, h2, h3⟩ := h k hk
  have hlt := h.size
  exact ⟨(hb.cell (p := ⟨1, _, none⟩) hlt).trans h0, (hb.cell (p := ⟨1, _, none⟩) hlt).trans h1, (hb.cell (p := ⟨1, _, none⟩) hlt).trans h2, (hb.cell (p := ⟨1, _, none⟩) hlt).trans h3⟩
def allPl (ts : List Tok) : Bool := ts.all fun t => plainB t.text
theorem allPl_step {ts : List Tok} {j : Nat} {t : Tok} (h : ts[j]? = some t) : allPl (ts.take (j + 1)) = (allPl (ts.take j) && plainB t.text) := by
  unfold allPl
  rw [List.take_add_one, h]
  simp
theorem allPl_miss {ts : List Tok} {j : Nat} {t : Tok} (h : ts[j]? = some t) (hp : plainB t.text = false) : allPl ts = false := by
  unfold allPl
  rw [List.all_eq_false]
  exact ⟨t, List.mem_of_getElem? h, by simp [hp]⟩

set_option maxRecDepth 100000 in
set_option maxHeartbeats 4000000 in
theorem allPl_any (w : World) (a : Option Addr) (n c : Nat) (ts : List Tok) (hl : ts.length = n) (hn : n ≤ 1048576) (hsz : ∀ t ∈ ts, t.text.size ≤ 1048576) (hT : ToksAt w a ts) :
    Calls Tryd.prog 58 #[.slice a n c] w fun e w' => e = .returned (.bool (allPl ts)) ∧ Below w.heap.size w w' := by
  have HT : Hid (ToksAt w a ts) := hT
  have HL : Hid (ts.length = n) := hl
  have HS : Hid _ := hsz
  clear hT hl hsz
  go_enter Tryd.func58, Tryd.ntmps58
  go_wp2_with fail
  go_loopw [7] (fun i wx => ∃ j : Nat, j ≤ n ∧ i = .int .i64 j ∧ Hid (allPl (ts.take j) = true) ∧ Hid (Below w.heap.size w wx)) (fun i _ => n - (intOf i).toNat)
  case atStart => exact ⟨0, Nat.zero_le _, rfl, rfl, Below.refl _ _⟩
  case round =>
    obtain ⟨j, hj, rfl, hA, hB⟩ := hrel
    by_cases hlt : j < n
    · have n1 : (j : Int) < (n : Int) := by omega
      obtain ⟨k, hk⟩ : ∃ k, ts[j]? = some k := ⟨ts[j]'(by rw [HL.out]; exact hlt), List.getElem?_eq_getElem _⟩
      obtain ⟨g1, o1, rfl, x0, x1, x2, x3⟩ := (HT.out.under hB.out) j k hk
      obtain ⟨w1, hw1⟩ : ∃ w1, w1 = wr.alloc (.cells #[.string k.text, .int .i64 k.off, .int .i64 k.line, .int .i64 k.col] 34) := ⟨_, rfl⟩
      have hb1 : Below wr.heap.size wr w1 := by rw [hw1]; exact below_alloc _ _
      have B1 : Hid (Below w.heap.size w w1) := hB.out.trans (hb1.mono hB.out.size)
      have PL : Hid _ := plain_any k.text w1 (by have := HS.out k (List.mem_of_getElem? hk); omega)
      have y0 : w1.cell? ⟨wr.heap.size, 0, none⟩ = some (.string k.text) := by rw [hw1]; exact M.cell_whole (heap_alloc_new wr _) 0
      have HK : Hid (ts[j]? = some k) := hk
      clear hk hb1
      go_upto_region 4 with fail
      rw [← hw1]
      clear hw1 x0 x1 x2 x3
      cases hp : plainB k.text with
      | true =>
        rw [hp] at PL
        have A2 : Hid (allPl (ts.take (j + 1)) = true) := by show _ = _; rw [allPl_step HK.out, hA.out, hp]; rfl
        go_wp2_with fail
        refine Calls.mono PL.out ?_
        rintro e w2 ⟨rfl, hw2⟩
        subst w2
        clear PL
        go_wp2
        exact ⟨⟨j + 1, by omega, by go_num, A2.out, B1.out⟩, by simp [intOf]; omega⟩
      | false =>
        rw [hp] at PL
        have A2 : Hid (allPl ts = false) := allPl_miss HK.out hp
        go_wp2_with fail
        refine Calls.mono PL.out ?_
        rintro e w2 ⟨rfl, hw2⟩
        subst w2
        clear PL
        go_wp2
        go_ret
        exact ⟨ret_bool (by rw [A2.out]), B1.out⟩
    · have n1 : ¬ (j : Int) < (n : Int) := by omega
      have A2 : Hid (allPl ts = true) := by have h := hA.out; rw [List.take_of_length_le (by rw [HL.out]; omega)] at h; exact h
      go_wp2
      go_ret
      exact ⟨ret_bool (by rw [A2.out]), hB.out⟩

set_option maxRecDepth 100000 in
set_option maxHeartbeats 4000000 in
theorem rallPl_any (w : World) (a : Option Addr) (n c : Nat) (ts : List Tok) (hl : ts.length = n) (hn : n ≤ 1048576) (hsz : ∀ t ∈ ts, t.text.size ≤ 1048576) (hT : ToksAt w a ts) :
    Calls Tryd.prog 52 #[.slice a n c] w fun e w' => e = .returned (.bool (allPl ts)) ∧ w' = w := by
  have HT : Hid (ToksAt w a ts) := hT
  have HL : Hid (ts.length = n) := hl
  have HS : Hid _ := hsz
  clear hT hl hsz
  go_enter Tryd.func52, Tryd.ntmps52
  go_wp2_with fail
  go_loopw [3] (fun i wx => ∃ j : Nat, j ≤ n ∧ i = .int .i64 j ∧ Hid (allPl (ts.take j) = true) ∧ Hid (wx = w)) (fun i _ => n - (intOf i).toNat)
  case atStart => exact ⟨0, Nat.zero_le _, rfl, rfl, rfl⟩
  case round =>
    obtain ⟨j, hj, rfl, hA, hB⟩ := hrel
    have hB' := hB.out
    subst wr
    by_cases hlt : j < n
    · have n1 : (j : Int) < (n : Int) := by omega
      obtain ⟨k, hk⟩ : ∃ k, ts[j]? = some k := ⟨ts[j]'(by rw [HL.out]; exact hlt), List.getElem?_eq_getElem _⟩
      obtain ⟨g1, o1, rfl, x0, x1, x2, x3⟩ := HT.out j k hk
      have PL : Hid _ := rplain_any k.text w (by have := HS.out k (List.mem_of_getElem? hk); omega)
      have HK : Hid (ts[j]? = some k) := hk
      clear hk
      cases hp : plainB k.text with
      | true =>
        rw [hp] at PL
        have A2 : Hid (allPl (ts.take (j + 1)) = true) := by show _ = _; rw [allPl_step HK.out, hA.out, hp]; rfl
        go_wp2_with fail
        refine Calls.mono PL.out ?_
        rintro e w2 ⟨rfl, hw2⟩
        subst w2
        clear PL
        go_wp2
        exact ⟨⟨j + 1, by omega, by go_num, A2.out, by first | exact rfl | exact trivial⟩, by simp [intOf]; omega⟩
      | false =>
        rw [hp] at PL
        have A2 : Hid (allPl ts = false) := allPl_miss HK.out hp
        go_wp2_with fail
        refine Calls.mono PL.out ?_
        rintro e w2 ⟨rfl, hw2⟩
        subst w2
        clear PL
        go_wp2
        go_ret
        exact ⟨ret_bool (by rw [A2.out]), rfl⟩
    · have n1 : ¬ (j : Int) < (n : Int) := by omega
      have A2 : Hid (allPl ts = true) := by have h := hA.out; rw [List.take_of_length_le (by rw [HL.out]; omega)] at h; exact h
      go_wp2
      go_ret
      exact ⟨ret_bool (by rw [A2.out]), rfl⟩

/-- May the text be the label of a kind? -/
def labOk (lab : Bool) (t : ByteArray) : Bool := if lab then plainB t else t.toList.isEmpty
set_option maxRecDepth 100000 in
set_option maxHeartbeats 4000000 in
theorem takesLabel_any (w : World) (kw : ByteArray) (lab : Bool) (l m : Int) (t : ByteArray) (hs : t.size ≤ 1048576) :
    Calls Tryd.prog 55 #[.agg #[.string kw, .bool lab, .int .i64 l, .int .i64 m], .string t] w fun e w' => e = .returned (.bool (labOk lab t)) ∧ Below w.heap.size w w' := by
  obtain ⟨w1, hw1⟩ : ∃ w1, w1 = w.alloc (.cells #[.string kw, .bool lab, .int .i64 l, .int .i64 m] 113) := ⟨_, rfl⟩
  have B1 : Hid (Below w.heap.size w w1) := by rw [hw1]; exact below_alloc _ _
  have PL : Hid _ := plain_any t w1 (by omega)
  have y1 : w1.cell? ⟨w.heap.size, 1, none⟩ = some (.bool lab) := by rw [hw1]; exact M.cell_whole (heap_alloc_new w _) 1
  cases lab with
  | true =>
    go_enter Tryd.func55, Tryd.ntmps55
    go_upto_region 1 with fail
    rw [← hw1]
    clear hw1
    go_wp2_with fail
    refine Calls.mono PL.out ?_
    rintro e w2 ⟨rfl, hw2⟩
    subst w2
    go_wp2
    go_ret
    exact ⟨rfl, B1.out⟩
  | false =>
    go_enter Tryd.func55, Tryd.ntmps55
    go_upto_region 1 with fail
    rw [← hw1]
    clear hw1
    go_wp2
    go_ret
    exact ⟨rfl, B1.out⟩

/-- May the words be those of a kind? -/
def wordsOk (l m : Int) (ts : List Tok) : Bool := decide (l ≤ (ts.length : Int)) && decide ((ts.length : Int) ≤ m) && allPl ts
set_option maxRecDepth 100000 in
set_option maxHeartbeats 4000000 in
theorem takesWords_any (w : World) (kw : ByteArray) (lab : Bool) (l m : Int) (a : Option Addr) (n c : Nat) (ts : List Tok) (hl : ts.length = n) (hn : n ≤ 1048576) (hsz : ∀ t ∈ ts, t.text.size ≤ 1048576) (hT : ToksAt w a ts) :
    Calls Tryd.prog 56 #[.agg #[.string kw, .bool lab, .int .i64 l, .int .i64 m], .slice a n c] w fun e w' => e = .returned (.bool (wordsOk l m ts)) ∧ Below w.heap.size w w' := by
  obtain ⟨w1, hw1⟩ : ∃ w1, w1 = w.alloc (.cells #[.string kw, .bool lab, .int .i64 l, .int .i64 m] 113) := ⟨_, rfl⟩
  have B1 : Hid (Below w.heap.size w w1) := by rw [hw1]; exact below_alloc _ _
  have PL : Hid _ := allPl_any w1 a n c ts hl hn hsz (hT.under B1.out)
  have y2 : w1.cell? ⟨w.heap.size, 2, none⟩ = some (.int .i64 l) := by rw [hw1]; exact M.cell_whole (heap_alloc_new w _) 2
  have y3 : w1.cell? ⟨w.heap.size, 3, none⟩ = some (.int .i64 m) := by rw [hw1]; exact M.cell_whole (heap_alloc_new w _) 3
  have HL : Hid (ts.length = n) := hl
  clear hl hsz hT
  by_cases h1 : l ≤ (n : Int)
  · by_cases h2 : (n : Int) ≤ m
    · have HW : Hid (wordsOk l m ts = allPl ts) := by show _ = _; unfold wordsOk; rw [HL.out, decide_eq_true h1, decide_eq_true h2]; rfl
      go_enter Tryd.func56, Tryd.ntmps56
      go_upto_region 1 with fail
      rw [← hw1]
      clear hw1
      go_wp2_with fail
      refine Calls.mono PL.out ?_
      rintro e w2 ⟨rfl, hb2⟩
      go_wp2
      go_ret
      exact ⟨ret_bool (by rw [HW.out]), B1.out.trans (hb2.mono B1.out.size)⟩
    · have HW : Hid (wordsOk l m ts = false) := by show _ = _; unfold wordsOk; rw [HL.out, decide_eq_false h2]; simp
      go_enter Tryd.func56, Tryd.ntmps56
      go_upto_region 1 with fail
      rw [← hw1]
      clear hw1
      go_wp2
      go_ret
      exact ⟨ret_bool (by rw [HW.out]), B1.out⟩
  · have HW : Hid (wordsOk l m ts = false) := by show _ = _; unfold wordsOk; rw [HL.out, decide_eq_false h1]; simp
    go_enter Tryd.func56, Tryd.ntmps56
    go_upto_region 1 with fail
    rw [← hw1]
    clear hw1
    go_wp2
    go_ret
    exact ⟨ret_bool (by rw [HW.out]), B1.out⟩
theorem isKind_any (w : World) (k : Int) : Calls Tryd.prog 54 #[.int .i64 k] w fun e w' => e = .returned (.bool (decide (0 < k) && decide (k < 10))) ∧ w' = w := by
  by_cases h1 : 0 < k
  · by_cases h2 : k < 10
    · go_enter Tryd.func54, Tryd.ntmps54
      go_wp2
      go_ret
      exact ⟨ret_bool (by simp [h1, h2]), rfl⟩
    · go_enter Tryd.func54, Tryd.ntmps54
      go_wp2
      go_ret
      exact ⟨ret_bool (by simp [h2]), rfl⟩
  · go_enter Tryd.func54, Tryd.ntmps54
    go_wp2
    go_ret
    exact ⟨ret_bool (by rw [decide_eq_false (by omega : ¬ 0 < k)]; rfl), rfl⟩
end Go.Proofs.YtipfhfeaalbmcaaDoor
