/- What Print answers. -/
import Derived.Test.YtffchjigpppoaaaDoorForm
import Derived.Test.YtffchjigpppoaaaDoorTell
import Derived.Test.YtffchjigpppoaaaDoorShelfB
namespace Go.Proofs.YtffchjigpppoaaaDoor
open Go.RowKit

def intV (x : Int) : Value := .int .i64 x
/-- A slice of numbers in memory. -/
def IntsAt (w : World) (a : Option Addr) (l : List Int) : Prop := ∀ (i : Nat) (x : Int), l[i]? = some x → ∃ b off, a = some ⟨b, off, none⟩ ∧ w.cell? ⟨b, off + i, none⟩ = some (.int .i64 x)
theorem IntsAt.under {w w' : World} {a : Option Addr} {l : List Int} (h : IntsAt w a l) (hb : Below w.heap.size w w') : IntsAt w' a l := fun i x hi => by
  obtain ⟨b, off, e, hc⟩ := h i x hi
  exact ⟨b, off, e, (hb.cell (p := ⟨b, off + i, none⟩) (World.block_lt_of_cell? _ _ hc)).trans hc⟩
/-- The letters of a code, and whether it can be written. -/
def wrOk (n : Int) : Bool := n == -1 || n == -2 || (decide (0 ≤ n) && decide (n < (lim : Int)))
def wrT (n : Int) : List UInt8 := if n = -1 then [90] else if n = -2 then [63] else enc n.toNat
def wrE (n : Int) : Int := if wrOk n then 0 else 90
theorem wrT_len (n : Int) (h : wrOk n = true) : (wrT n).length ≤ 21 := by
  unfold wrT
  split
  · simp
  · split
    · simp
    · refine enc_len _ ?_
      simp only [wrOk, Bool.or_eq_true, beq_iff_eq, Bool.and_eq_true, decide_eq_true_eq] at h
      omega
set_option maxRecDepth 100000 in
set_option maxHeartbeats 1000000 in
theorem write_any (w : World) (n : Int) : Calls Tryd.prog 47 #[.int .i64 n] w fun e w' => e = .returned (.tuple #[.string (if wrOk n then strB (wrT n) else ⟨#[]⟩), .int .i64 (wrE n)]) ∧ Below w.heap.size w w' := by
  by_cases h1 : n = -1
  · subst h1
    go_enter Tryd.func47, Tryd.ntmps47
    go_wp2
    go_ret2
    exact ⟨rfl, Below.refl _ _⟩
  · by_cases h2 : n = -2
    · subst h2
      go_enter Tryd.func47, Tryd.ntmps47
      go_wp2
      go_ret2
      exact ⟨rfl, Below.refl _ _⟩
    · have b1 : (n == -1) = false := beq_eq_false_iff_ne.2 h1
      have b2 : (n == -2) = false := beq_eq_false_iff_ne.2 h2
      have EN : Hid (Calls Tryd.prog 60 #[.int .i64 n] w fun e w' => e = .returned (.tuple #[.string (if wrOk n then strB (wrT n) else ⟨#[]⟩), .int .i64 (wrE n)]) ∧ Below w.heap.size w w') := by
        have h := encode_any w n
        have e1 : encT n = if wrOk n then strB (wrT n) else ⟨#[]⟩ := by
          unfold encT wrOk wrT
          rw [b1, b2, if_neg h1, if_neg h2]
          by_cases h3 : n < 0 ∨ (lim : Int) ≤ n
          · rw [if_pos h3, if_neg (by simp; omega)]
          · rw [if_neg h3, if_pos (by simp; omega)]
        have e2 : encE n = wrE n := by
          unfold encE wrE wrOk
          rw [b1, b2]
          by_cases h3 : n < 0 ∨ (lim : Int) ≤ n
          · rw [if_pos h3, if_neg (by simp; omega)]
          · rw [if_neg h3, if_pos (by simp; omega)]
        rw [e1, e2] at h
        exact h
      clear h1 h2
      generalize (if wrOk n then strB (wrT n) else (⟨#[]⟩ : ByteArray)) = s at EN ⊢
      go_enter Tryd.func47, Tryd.ntmps47
      go_wp2_with fail
      refine Calls.mono EN.out ?_
      rintro e w' ⟨rfl, hb⟩
      go_wp2
      go_ret2
      exact ⟨rfl, hb⟩

theorem builder_under {B b : Nat} {bs : List Value} {w w' : World} (h : Lib.IsBuilder 77 5 B b bs w) (hb : Below w.heap.size w w') : Lib.IsBuilder 77 5 B b bs w' := by
  have key : ∀ p, Lib.BuilderAt 77 5 B b p bs w → Lib.BuilderAt 77 5 B b p bs w' := by
    rintro p ⟨h0, v, h1, h2, h3⟩
    exact ⟨h0, v, (hb.block b (Array.getElem?_eq_some_iff.1 h1).1).trans h1, owns_under h2 hb, h3⟩
  rcases h with h | h
  · exact .inl (key _ h)
  · exact .inr (key _ h)
/-- What Print answers: the text and the error. -/
def prOk (l : List Int) : Bool := l.all wrOk
def prB (l : List Int) : List UInt8 := l.flatMap wrT
def prT (l : List Int) : ByteArray := if prOk l then strB (prB l) else ⟨#[]⟩
def prE (l : List Int) : Int := if prOk l then 0 else 90
theorem prB_len (l : List Int) (h : prOk l = true) : (prB l).length ≤ 21 * l.length := by
  induction l with
  | nil => simp [prB]
  | cons n l ih =>
    simp only [prOk, List.all_cons, Bool.and_eq_true] at h
    have h1 := wrT_len n h.1
    have h2 := ih h.2
    have e : prB (n :: l) = wrT n ++ prB l := rfl
    rw [e, List.length_append, List.length_cons]; omega
theorem prB_append (l m : List Int) : prB (l ++ m) = prB l ++ prB m := by simp [prB]
theorem prOk_append (l m : List Int) : prOk (l ++ m) = (prOk l && prOk m) := by simp [prOk]

set_option maxRecDepth 100000 in
set_option maxHeartbeats 4000000 in
theorem print_any (w : World) (a : Option Addr) (n c : Nat) (l : List Int) (hl : l.length = n) (_ : n ≤ c) (hn : n ≤ 4294967296) (h : IntsAt w a l) :
    Calls Tryd.prog 30 #[.slice a n c] w fun e w' => e = .returned (.tuple #[.string (prT l), .int .i64 (prE l)]) ∧ Below w.heap.size w w' := by
  have HI : Hid (IntsAt w a l) := h
  have HL : Hid (l.length = n) := hl
  have H0 : Hid (Lib.IsBuilder 77 5 w.heap.size w.heap.size (Lib.byteCells []) (w.alloc (.cells #[.pointer none, .slice none 0 0] 77))) := Lib.fresh_isBuilder 77 5 w
  have HB0 : Hid (Below w.heap.size w (w.alloc (.cells #[.pointer none, .slice none 0 0] 77))) := below_alloc _ _
  clear h hl
  go_enter Tryd.func30, Tryd.ntmps30
  go_wp2_with fail
  generalize w.alloc (.cells #[.pointer none, .slice none 0 0] 77) = W0 at *
  obtain ⟨b, hb⟩ : ∃ b, b = w.heap.size := ⟨_, rfl⟩
  have HBb : Hid (w.heap.size = b) := hb.symm
  rw [← hb] at H0 HB0 ⊢
  clear hb
  go_loopw [6, 7, 8, 11] (fun _ _ _ i wx => ∃ j : Nat, j ≤ n ∧ i = .int .i64 j ∧ Hid (prOk (l.take j) = true) ∧ Hid (Lib.IsBuilder 77 5 b b (Lib.byteCells (prB (l.take j))) wx) ∧ Hid (Below b w wx)) (fun _ _ _ i _ => n - (intOf i).toNat)
  case atStart => exact ⟨0, Nat.zero_le _, rfl, rfl, H0.out, HB0.out⟩
  case round =>
    clear H0 HB0
    obtain ⟨j, hj, rfl, hOk, hBu, hB⟩ := hrel
    by_cases hlt : j < n
    · have n1 : (j : Int) < (n : Int) := by omega
      obtain ⟨x, hx⟩ : ∃ x, l[j]? = some x := ⟨l[j]'(by rw [HL.out]; exact hlt), List.getElem?_eq_getElem _⟩
      obtain ⟨g, off, rfl, c0⟩ := HI.out j x hx
      have hgw : g < w.heap.size := World.block_lt_of_cell? _ _ c0
      replace c0 := (hB.out.cell (p := ⟨g, off + j, none⟩) (by have := HBb.out; show g < b; omega)).trans c0
      have WR : Hid _ := write_any wr x
      have htk : Hid (l.take (j + 1) = l.take j ++ [x]) := by show _ = _; rw [List.take_add_one, hx]; rfl
      have hbsz : Hid (b ≤ wr.heap.size) := by have h1 := hB.out.size; have h2 := HBb.out; show b ≤ _; omega
      cases hw : wrOk x with
      | false =>
        have hE : Hid (wrE x = 90) := by show _ = _; unfold wrE; rw [hw]; rfl
        have hall : Hid (prOk l = false) := by
          show _ = _
          have e : l = l.take (j + 1) ++ l.drop (j + 1) := (List.take_append_drop _ _).symm
          rw [e, prOk_append, htk.out, prOk_append]
          simp [prOk, hw]
        rw [hE.out, hw] at WR
        simp only [Bool.false_eq_true, if_false] at WR
        clear hw hx
        go_wp2_with fail
        refine Calls.mono WR.out ?_
        rintro e w2 ⟨rfl, hb2⟩
        go_wp2
        go_ret2
        refine ⟨?_, ?_⟩
        · unfold prT prE; rw [hall.out]; rfl
        · rw [HBb.out]; exact hB.out.trans (hb2.mono hbsz.out)
      | true =>
        have hE : Hid (wrE x = 0) := by show _ = _; unfold wrE; rw [hw]; rfl
        have hOk2 : Hid (prOk (l.take (j + 1)) = true) := by show _ = _; rw [htk.out, prOk_append, hOk.out]; simp [prOk, hw]
        have hlen1 := prB_len _ hOk.out
        have hlen2 := wrT_len x hw
        rw [hE.out, hw] at WR
        simp only [if_true] at WR
        clear hw hx
        go_wp2_with fail
        refine Calls.mono WR.out ?_
        rintro e w2 ⟨rfl, hb2⟩
        have HBu2 : Hid (Lib.IsBuilder 77 5 b b (Lib.byteCells (prB (l.take j))) w2) := builder_under hBu.out hb2
        have HB2 : Hid (Below b w w2) := hB.out.trans (hb2.mono hbsz.out)
        have WS : Hid _ := Tryd.Builder_WriteString b b (Lib.byteCells (prB (l.take j))) (strB (wrT x)) w2 HBu2.out (by rw [Lib.byteCells_length, strB_size]; rw [List.length_take] at hlen1; omega) (by have h1 := hb2.size; have h2 := hbsz.out; omega)
        clear hb2 WR hlen1 hlen2
        go_wp2_with fail
        refine Calls.mono WS.out ?_
        rintro e w3 ⟨rfl, h3, hb3⟩
        have HBu3 : Hid (Lib.IsBuilder 77 5 b b (Lib.byteCells (prB (l.take (j + 1)))) w3) := by
          refine .inr ?_
          rw [htk.out, prB_append, Lib.byteCells_append]
          have e5 : prB [x] = wrT x := by simp [prB]
          rw [e5]
          exact h3
        have HB3 : Hid (Below b w w3) := HB2.out.trans hb3
        clear h3 hb3 WS
        go_wp2
        exact ⟨⟨j + 1, by omega, by go_num, hOk2.out, HBu3.out, HB3.out⟩, by simp [intOf]; omega⟩
    · have n1 : ¬ (j : Int) < (n : Int) := by omega
      have htk : Hid (l.take j = l) := by show _ = _; rw [List.take_of_length_le (by rw [HL.out]; omega)]
      have hO := hOk.out
      have hB2 := hBu.out
      rw [htk.out] at hO hB2
      have ST : Hid _ := Tryd.Builder_String_any b b (prB l) wr hB2 (by have h1 := hB.out.size; have h2 := HBb.out; omega)
      have HO : Hid (prOk l = true) := hO
      clear hO hB2
      go_wp2_with fail
      refine Calls.mono ST.out ?_
      rintro e w3 ⟨rfl, hb3⟩
      go_wp2
      go_ret2
      refine ⟨?_, ?_⟩
      · unfold prT prE; rw [HO.out]; rfl
      · rw [HBb.out]; exact hB.out.trans hb3
end Go.Proofs.YtffchjigpppoaaaDoor
