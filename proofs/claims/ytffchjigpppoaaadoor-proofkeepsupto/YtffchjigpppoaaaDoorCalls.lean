/- What Parse calls: endsList, slices.IndexFunc, slices.Clone. -/
import Derived.Test.YtffchjigpppoaaaDoorRefX
import Derived.Lib.SliceRun
namespace Go.Proofs.YtffchjigpppoaaaDoor
open Go.RowKit

/-- A word that is this text. -/
def isT (s : List UInt8) (t : Tok) : Bool := t.text.toList == s
def lp : List UInt8 := [40]
def rp : List UInt8 := [41]

set_option maxHeartbeats 1000000 in
theorem ends_any (w : World) (t : Tok) : Calls Tryd.prog 38 #[tokV t] w fun e w' => e = .returned (.bool (isT rp t)) ∧ Below w.heap.size w w' := by
  unfold tokV
  have c0 : (w.alloc (.cells #[.string t.text, .int .i64 t.off, .int .i64 t.line, .int .i64 t.col] 41)).cell? ⟨w.heap.size, 0, none⟩ = some (.string t.text) := (box_new w t).cells.1
  go_enter Tryd.func38, Tryd.ntmps38
  go_wp2
  go_ret
  exact ⟨rfl, below_alloc _ _⟩
/-- The first word that p holds of, from j on; -1: none. -/
def idxT (p : Tok → Bool) (l : List Tok) : Int := match l.findIdx? p with
  | some k => (k : Int)
  | none => -1
theorem idxT_at {p : Tok → Bool} {l : List Tok} {j : Nat} {x : Tok} (hx : l[j]? = some x) (hp : p x = true) (hn : ∀ y ∈ l.take j, p y = false) : l.findIdx? p = some j := by
  obtain ⟨hj, rfl⟩ := List.getElem?_eq_some_iff.1 hx
  rw [List.findIdx?_eq_some_iff_getElem]
  refine ⟨hj, hp, fun i hi => ?_⟩
  have := hn l[i] (List.mem_iff_getElem.2 ⟨i, by rw [List.length_take]; omega, by simp⟩)
  simp [this]
theorem idxT_none {p : Tok → Bool} {l : List Tok} (hn : ∀ y ∈ l, p y = false) : l.findIdx? p = none := by
  rw [List.findIdx?_eq_none_iff]
  exact hn

set_option maxRecDepth 100000 in
set_option maxHeartbeats 4000000 in
theorem index_any (w : World) (a : Option Addr) (n c : Nat) (l : List Tok) (hl : l.length = n) (hn : n ≤ 17592186043904) (h : ToksAt w a l) :
    Calls Tryd.prog 37 #[.slice a n c, .func (.func 38) #[] #[]] w fun e w' => e = .returned (.int .i64 (idxT (isT rp) l)) ∧ Below w.heap.size w w' := by
  have HA : Hid (∀ W, Below w.heap.size w W → ToksAt W a l) := fun W hW => h.under hW
  have HL : Hid (l.length = n) := hl
  have HF : Hid (∀ (W : World) (t : Tok), Calls Tryd.prog 38 #[.agg #[.string t.text, .int .i64 t.off, .int .i64 t.line, .int .i64 t.col]] W fun e W' => e = .returned (.bool (isT rp t)) ∧ Below W.heap.size W W') := fun W t => ends_any W t
  clear h hl
  go_enter Tryd.func37, Tryd.ntmps37
  go_wp2_with fail
  go_loopw [8] (fun i wx => ∃ j : Nat, j ≤ n ∧ i = .int .i64 j ∧ Hid (Below w.heap.size w wx) ∧ Hid (∀ y ∈ l.take j, isT rp y = false)) (fun i _ => n - (intOf i).toNat)
  case atStart => exact ⟨0, Nat.zero_le _, rfl, Below.refl _ _, fun y hy => by simp at hy⟩
  case round =>
    obtain ⟨j, hj, rfl, BX, HN⟩ := hrel
    by_cases hlt : j < n
    · have n1 : (j : Int) < (n : Int) := by omega
      obtain ⟨t, hx⟩ : ∃ x, l[j]? = some x := ⟨l[j]'(by rw [HL.out]; exact hlt), List.getElem?_eq_getElem _⟩
      obtain ⟨b1, o1, rfl, c1, c2, c3, c4⟩ := HA.out wr BX.out j _ hx
      have CC : Hid _ := HF.out wr t
      rcases hp : isT rp t
      · have HN2 : Hid (∀ y ∈ l.take (j + 1), isT rp y = false) := fun y hy => by
          rw [List.take_add_one, hx, Option.toList_some, List.mem_append] at hy
          rcases hy with hy | hy
          · exact HN.out y hy
          · simp at hy; rw [hy]; exact hp
        rw [hp] at CC
        clear hx hp HN
        go_wp2_with fail
        refine Calls.mono CC.out ?_
        rintro e w1 ⟨rfl, hb⟩
        have BY : Hid (Below w.heap.size w w1) := BX.out.trans (hb.mono BX.out.size)
        clear CC hb
        go_wp2
        go_roundw
        case rel => exact ⟨j + 1, by omega, by go_num, BY.out, HN2.out⟩
        case measure => simp [intOf]; omega
      · have HE : Hid (idxT (isT rp) l = (j : Int)) := by show _ = _; unfold idxT; rw [idxT_at hx hp HN.out]
        rw [hp] at CC
        clear hx hp HN
        go_wp2_with fail
        refine Calls.mono CC.out ?_
        rintro e w1 ⟨rfl, hb⟩
        have BY : Hid (Below w.heap.size w w1) := BX.out.trans (hb.mono BX.out.size)
        clear CC hb
        go_wp2
        go_ret
        exact ⟨by rw [HE.out]; rfl, BY.out⟩
    · have n1 : ¬ (j : Int) < (n : Int) := by omega
      have HE : Hid (idxT (isT rp) l = -1) := by show _ = _; unfold idxT; rw [idxT_none (by have h := HN.out; rw [List.take_of_length_le (by rw [HL.out]; omega)] at h; exact h)]
      go_wp2
      go_ret
      exact ⟨by rw [HE.out]; rfl, BX.out⟩
theorem toks_row {w : World} {a : Option Addr} {ts : List Tok} (h : ToksAt w a ts) : ∀ j u, (rowT ts)[j]? = some u → ∃ ad, a = some ad ∧ w.cell? (ad.add j) = some u := fun j u hu => by
  have hlt : j < (rowT ts).length := (List.getElem?_eq_some_iff.1 hu).1
  have hlen : ∀ l : List Tok, (rowT l).length = l.length * 4 := fun l => by
    induction l with
    | nil => rfl
    | cons x l ih =>
      have e : rowT (x :: l) = tokCells x ++ rowT l := rfl
      rw [e, List.length_append, ih, List.length_cons]
      simp [tokCells]; omega
  rw [hlen] at hlt
  have hi : j / 4 < ts.length := by omega
  obtain ⟨b, off, rfl, c0, c1, c2, c3⟩ := h (j / 4) _ (List.getElem?_eq_getElem hi)
  refine ⟨_, rfl, ?_⟩
  have key := rowT_at ts (j / 4) (j % 4) _ (List.getElem?_eq_getElem hi) (by omega)
  rw [show j / 4 * 4 + j % 4 = j by omega, hu] at key
  have hj : j % 4 = 0 ∨ j % 4 = 1 ∨ j % 4 = 2 ∨ j % 4 = 3 := by omega
  have ha : (⟨b, off, none⟩ : Addr).add j = ⟨b, off + j / 4 * 4 + j % 4, none⟩ := by
    rw [Addr.add_lit, show off + j / 4 * 4 + j % 4 = off + j by omega]
  rw [ha]
  rcases hj with e | e | e | e <;> rw [e] at key ⊢ <;> simp [tokCells] at key <;> rw [key] <;> assumption
theorem rowT_one (ts : List Tok) : ∀ u ∈ rowT ts, u.oneCell' = true := fun u hu => by
  unfold rowT at hu
  rw [List.mem_flatMap] at hu
  obtain ⟨t, _, ht⟩ := hu
  simp [tokCells] at ht
  rcases ht with rfl | rfl | rfl | rfl <;> rfl
theorem rowT_len (l : List Tok) : (rowT l).length = l.length * 4 := by
  induction l with
  | nil => rfl
  | cons x l ih =>
    have e : rowT (x :: l) = tokCells x ++ rowT l := rfl
    rw [e, List.length_append, ih, List.length_cons]
    simp [tokCells]; omega

set_option maxRecDepth 100000 in
set_option maxHeartbeats 4000000 in
theorem clone_any (w : World) (a : Option Addr) (n c : Nat) (ts : List Tok) (hl : ts.length = n) (hn : n ≤ 1099511627776) (h : ToksAt w a ts) :
    Calls Tryd.prog 36 #[.slice a n c] w fun e w' => ∃ v, e = .returned v ∧ w'.ownsRow w.heap.size 41 4 v n (rowT ts) ∧ Below w.heap.size w w' := by
  obtain ⟨i0, hi0, hz0, hz1, hz3⟩ := info_parts infoT
  have HA : Hid (ToksAt w a ts) := h
  have HL : Hid (ts.length = n) := hl
  clear h hl
  cases a with
  | none =>
    have hts : ts = [] := by
      cases ts with
      | nil => rfl
      | cons t r => obtain ⟨_, _, e, _⟩ := HA.out 0 t rfl; cases e
    subst hts
    obtain rfl : n = 0 := by have := HL.out; simpa using this.symm
    have hq := Lib.run_eql_slice_nil (P := Tryd.prog) w 35 41 none 0 c 0 0 Tryd.underlying35
    go_enter Tryd.func36, Tryd.ntmps36
    go_wp2
    go_ret
    exact ⟨_, rfl, World.ownsRow_nil _ _ _ _, Below.refl _ _⟩
  | some ad =>
    have hq := Lib.run_eql_slice_nil (P := Tryd.prog) w 35 41 (some ad) n c 0 0 Tryd.underlying35
    go_enter Tryd.func36, Tryd.ntmps36
    have hown : Hid ((w.alloc (.cells #[] 41)).ownsRow w.heap.size 41 4 (.slice (some ⟨w.heap.size, 0, none⟩) 0 0) 0 []) := ⟨rfl, .inr ⟨w.heap.size, 0, _, rfl, Nat.le_refl _, heap_alloc_new w _, Nat.le_refl _, by unfold maxLen; omega, rfl, rfl⟩⟩
    go_wp2_with (at_builtin; refine wpList_append_more (w := w.alloc (.cells #[] 41)) rfl _ _ _ rfl w.heap.size 41 i0 _ 4 40 Tryd.underlying35 hi0 hz0 hz1 hz3 rfl (by omega) _ 0 [] (by rfl) (by exact hown.out) (some ad) n c (rowT ts) (by rfl) (by rw [rowT_len, HL.out]) (by exact toks_row (HA.out.under (below_alloc _ _))) (rowT_one ts) (by unfold maxLen; omega) (by omega) (by exact (below_alloc _ _).size) ?_; intro a2 c2 w2 ho hb; rw [Nat.zero_add, List.nil_append] at ho; have HO : Hid (w2.ownsRow w.heap.size 41 4 (.slice a2 n c2) n (rowT ts)) := ho; have HB : Hid (Below w.heap.size w w2) := (below_alloc _ _).trans hb; clear ho hb)
    go_wp2
    go_ret
    refine ⟨_, rfl, ?_, HB.out⟩
    have := HO.out
    simpa using this
end Go.Proofs.YtffchjigpppoaaaDoor
