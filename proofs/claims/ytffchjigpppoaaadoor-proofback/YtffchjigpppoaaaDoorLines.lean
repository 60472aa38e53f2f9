/- Words laid in lines: inLines. -/
import Derived.Test.YtffchjigpppoaaaDoorTexts
import Derived.WalkMore
namespace Go.Proofs.YtffchjigpppoaaaDoor
open Go.RowKit

/-- One more word: on the line, or on the next. -/
def stp (s : List UInt8 × Nat) (x : ByteArray) : List UInt8 × Nat := if s.2 + 1 + x.size ≤ 72 then (s.1 ++ (32 :: x.data.toList), s.2 + 1 + x.size) else (s.1 ++ (10 :: x.data.toList), x.size)
def linesFrom (b : List UInt8) (x : ByteArray) (r : List ByteArray) : List UInt8 := (r.foldl stp (b ++ x.data.toList, x.size)).1
/-- Words in lines. -/
def linesOf : List ByteArray → List UInt8
  | [] => []
  | x :: r => linesFrom [] x r
/-- How long a text of so many words can be. -/
def lenTo (l : List ByteArray) (k : Nat) : Nat := ((l.take k).flatMap fun x => x.data.toList).length + k
theorem lenTo_succ {l : List ByteArray} {k : Nat} {x : ByteArray} (h : l[k]? = some x) : lenTo l (k + 1) = lenTo l k + x.size + 1 := by
  unfold lenTo
  rw [List.take_add_one, h, Option.toList_some, List.flatMap_append, List.length_append]
  have : ([x].flatMap fun x => x.data.toList).length = x.size := by rw [List.flatMap_cons, List.flatMap_nil, List.append_nil]; rfl
  omega
theorem lenTo_mono {l : List ByteArray} {j k : Nat} (h : j ≤ k) : lenTo l j ≤ lenTo l k := by
  unfold lenTo
  have e : l.take k = l.take j ++ (l.drop j).take (k - j) := by
    rw [show k = j + (k - j) by omega, List.take_add]
    simp
  rw [e, List.flatMap_append, List.length_append]
  omega
theorem size_list (x : ByteArray) : x.data.toList.length = x.size := rfl
theorem strCells_bytes (x : ByteArray) : Lib.strCells x = Lib.byteCells x.data.toList := rfl
def sliceLn : Value → Nat
  | .slice _ n _ => n
  | _ => 0

set_option maxRecDepth 100000 in
set_option maxHeartbeats 8000000 in
theorem inLines_any (w : World) (a : Option Addr) (n c : Nat) (l : List ByteArray) (hl : l.length = n) (hc : n ≤ c) (hS : lenTo l n ≤ 1099511627776) (h : StrsAt w a l) :
    Calls Tryd.prog 28 #[.slice a n c] w fun e w' => e = .returned (.string (strB (linesOf l))) ∧ Below w.heap.size w w' := by
  have HI : Hid (StrsAt w a l) := h
  have HL : Hid (l.length = n) := hl
  have HS : Hid (∀ k, k ≤ n → lenTo l k ≤ 1099511627776) := fun k hk => Nat.le_trans (lenTo_mono hk) hS
  have hnb : n ≤ 1099511627776 := by have h1 : n ≤ lenTo l n := by unfold lenTo; omega
                                     omega
  have H0 : Hid (Lib.IsBuilder 77 5 w.heap.size w.heap.size (Lib.byteCells []) (w.alloc (.cells #[.pointer none, .slice none 0 0] 77))) := Lib.fresh_isBuilder 77 5 w
  have HB0 : Hid (Below w.heap.size w (w.alloc (.cells #[.pointer none, .slice none 0 0] 77))) := below_alloc _ _
  obtain ⟨T, hT⟩ : ∃ T, linesOf l = T := ⟨_, rfl⟩
  have HT0 : Hid ((l = [] → ([] : List UInt8) = T) ∧ ∀ x r, l = x :: r → linesFrom [] x r = T) := ⟨fun e => by rw [← hT, e]; rfl, fun x r e => by rw [← hT, e]; rfl⟩
  rw [hT]
  clear h hl hS hT
  go_enter Tryd.func28, Tryd.ntmps28
  go_wp2_with fail
  go_step3
  go_wp2_with fail
  go_step3
  go_wp2_with fail
  generalize w.alloc (.cells #[.pointer none, .slice none 0 0] 77) = W0 at *
  obtain ⟨b, hb⟩ : ∃ b, b = w.heap.size := ⟨_, rfl⟩
  have HBb : Hid (w.heap.size = b) := hb.symm
  rw [← hb] at H0 HB0 ⊢
  clear hb
  go_loopw [0, 4, 5, 6] (fun ws _ _ _ wx => ∃ (q m cp : Nat) (ad : Option Addr) (Bt : List UInt8), q + m = n ∧ m ≤ cp ∧ ws = .slice ad m cp ∧ Hid (StrsAt w ad (l.drop q)) ∧ Hid (Bt.length ≤ lenTo l q) ∧ Hid ((l.drop q = [] → Bt = T) ∧ ∀ x r, l.drop q = x :: r → linesFrom Bt x r = T) ∧ Hid (Lib.IsBuilder 77 5 b b (Lib.byteCells Bt) wx) ∧ Hid (Below b w wx)) (fun ws _ _ _ _ => sliceLn ws)
  case atStart => exact ⟨0, n, c, a, [], by omega, hc, rfl, HI.out, Nat.zero_le _, HT0.out, H0.out, HB0.out⟩
  case round =>
    clear H0 HB0 HT0 HI
    obtain ⟨q, m, cp, ad, Bt, hqm, hmc, rfl, hI, hlen, hT, hBu, hB⟩ := hrel
    have hbsz : Hid (b ≤ wr.heap.size) := by have h1 := hB.out.size; have h2 := HBb.out; show b ≤ _; omega
    rcases Nat.eq_zero_or_pos m with h0 | h0
    · subst h0
      have hdr : l.drop q = [] := List.drop_eq_nil_of_le (by rw [HL.out]; omega)
      have hBT : Bt = T := hT.out.1 hdr
      subst hBT
      have ST : Hid _ := Tryd.Builder_String_any b b Bt wr hBu.out hbsz.out
      clear hdr
      have HBE : Hid (Below b w wr) := hB.out
      clear hB hBu
      go_wp2_with fail
      refine Calls.mono ST.out ?_
      rintro e w3 ⟨rfl, hb3⟩
      have BE : Hid (Below w.heap.size w w3) := by rw [HBb.out]; exact HBE.out.trans hb3
      clear ST hb3
      go_wp2
      (try rw [Exit.noGoto_ret])
      go_ret
      exact ⟨rfl, BE.out⟩
    · obtain ⟨x, hx⟩ : ∃ x, l[q]? = some x := ⟨l[q]'(by rw [HL.out]; omega), List.getElem?_eq_getElem _⟩
      have hdr : l.drop q = x :: l.drop (q + 1) := by
        obtain ⟨hq, rfl⟩ := List.getElem?_eq_some_iff.1 hx
        exact List.drop_eq_getElem_cons hq
      have HFT : Hid (linesFrom Bt x (l.drop (q + 1)) = T) := hT.out.2 x _ hdr
      obtain ⟨g, off, ea, c0⟩ := hI.out 0 x (by rw [hdr]; rfl)
      subst ea
      rw [Nat.add_zero] at c0
      have hgw : g < w.heap.size := World.block_lt_of_cell? _ _ c0
      have hgb : g < b := by have := HBb.out; omega
      have hlx := lenTo_succ hx
      have hl1 := HS.out (q + 1) (by omega)
      have CW : Hid (∀ wx, Below b w wx → wx.cell? ⟨g, off, none⟩ = some (.string x)) := fun wx hw => (hw.cell (p := ⟨g, off, none⟩) hgb).trans c0
      have c1 := CW.out wr hB.out
      have hlen0 := hlen.out
      have WS : Hid _ := Tryd.Builder_WriteString b b (Lib.byteCells Bt) x wr hBu.out (by rw [Lib.byteCells_length]; omega) hbsz.out
      have HR : Hid (∀ j y, l[q + 1 + j]? = some y → w.cell? ⟨g, off + 1 + j, none⟩ = some (.string y)) := fun j y hy => by
        obtain ⟨g', off', e', h1⟩ := hI.out (j + 1) y (by rw [List.getElem?_drop, show q + (j + 1) = q + 1 + j by omega]; exact hy)
        cases e'
        rw [show off + 1 + j = off + (j + 1) by omega]
        exact h1
      have m1 : 0 < (m : Int) := by omega
      have m2 : ¬ m = 0 := by omega
      have m3 : (0 : Int) < (m : Int) := by omega
      have m4 : 1 ≤ m := by omega
      have m5 : (1 : Int) ≤ (m : Int) := by omega
      clear c0 hT hdr hI hx
      go_wp2_with fail
      refine Calls.mono WS.out ?_
      rintro e w2 ⟨rfl, h2, hb2⟩
      have HBu2 : Hid (Lib.IsBuilder 77 5 b b (Lib.byteCells (Bt ++ x.data.toList)) w2) := by
        refine .inr ?_
        rw [Lib.byteCells_append]
        exact h2
      have HB2 : Hid (Below b w w2) := hB.out.trans hb2
      have c2 := CW.out w2 HB2.out
      have HBl : Hid ((Bt ++ x.data.toList).length + 1 ≤ lenTo l (q + 1)) := by show _ ≤ _; rw [List.length_append, size_list]; omega
      have hxs : x.size ≤ 1099511627776 := by omega
      clear h2 hb2 WS hBu hB c1 hlen0 hlen hlx
      obtain ⟨Bx, hBx⟩ : ∃ Bx, Bt ++ x.data.toList = Bx := ⟨_, rfl⟩
      rw [hBx] at HBu2 HBl
      have HFx : Hid (((l.drop (q + 1)).foldl stp (Bx, x.size)).1 = T) := by show _ = _; rw [← hBx]; exact HFT.out
      clear hBx HFT
      by_cases hcp : cp = 1
      · obtain rfl : m = 1 := by omega
        subst hcp
        have hdr2 : l.drop (q + 1) = [] := List.drop_eq_nil_of_le (by rw [HL.out]; omega)
        have hBT : Bx = T := by have h := HFx.out; rw [hdr2] at h; exact h
        subst hBT
        have ST : Hid _ := Tryd.Builder_String_any b b Bx w2 HBu2.out (by have h1 := HB2.out.size; have h2 := HBb.out; omega)
        have HBE : Hid (Below b w w2) := HB2.out
        clear hdr2 HFx
        go_wp2_with fail
        go_loopw [0, 4, 5, 6, 21] (fun ws f _ _ i wx => ws = .slice (some ⟨g, off, none⟩) 1 1 ∧ f = .int .i64 x.size ∧ i = .int .i64 0 ∧ wx = w2) (fun _ _ _ _ _ _ => 0)
        case atStart => exact ⟨rfl, rfl, rfl, rfl⟩
        case round =>
          obtain ⟨rfl, rfl, rfl, rfl⟩ := hrel
          go_wp2_with fail
          refine Calls.mono ST.out ?_
          rintro e w3 ⟨rfl, hb3⟩
          have BE : Hid (Below w.heap.size w w3) := by rw [HBb.out]; exact HBE.out.trans hb3
          clear ST hb3
          go_wp2
          (try rw [Exit.noGoto_ret])
          go_ret
          exact ⟨rfl, BE.out⟩
      · obtain ⟨k, rfl⟩ : ∃ k, m = k + 1 := ⟨m - 1, by omega⟩
        obtain ⟨cq, rfl⟩ : ∃ cq, cp = cq + 1 := ⟨cp - 1, by omega⟩
        have hcq : ¬ cq = 0 := by omega
        have HLr : Hid ((l.drop (q + 1)).length = k) := by show _ = _; rw [List.length_drop, HL.out]; omega
        go_wp2_with fail
        go_loopw [0, 4, 5, 6, 21] (fun ws f _ _ i wx => ∃ (j col : Nat) (C : List UInt8), j ≤ k ∧ ws = .slice (some ⟨g, off, none⟩) (k + 1) (cq + 1) ∧ col ≤ 1099511627776 ∧ f = .int .i64 col ∧ i = .int .i64 j ∧ Hid (((l.drop (q + 1)).take j).foldl stp (Bx, x.size) = (C, col)) ∧ Hid (C.length + 1 ≤ lenTo l (q + 1 + j)) ∧ Hid (Lib.IsBuilder 77 5 b b (Lib.byteCells C) wx) ∧ Hid (Below b w wx)) (fun _ _ _ _ i _ => k - (intOf i).toNat)
        case atStart => exact ⟨0, x.size, Bx, Nat.zero_le _, rfl, hxs, rfl, rfl, rfl, HBl.out, HBu2.out, HB2.out⟩
        case round =>
          clear HBu2 HB2 HBl c2
          obtain ⟨j, col, C, hj, rfl, hcol, rfl, rfl, hF, hCl, hBu, hB⟩ := hrel
          have hbs : Hid (b ≤ wr.heap.size) := by have h1 := hB.out.size; have h2 := HBb.out; show b ≤ _; omega
          by_cases hlt : j < k
          · have n1 : (j : Int) < (k : Int) := by omega
            obtain ⟨y, hy⟩ : ∃ y, l[q + 1 + j]? = some y := ⟨l[q + 1 + j]'(by rw [HL.out]; omega), List.getElem?_eq_getElem _⟩
            have c3 : wr.cell? ⟨g, off + 1 + j, none⟩ = some (.string y) := (hB.out.cell (p := ⟨g, off + 1 + j, none⟩) hgb).trans (HR.out j y hy)
            have hl2 := lenTo_succ hy
            have hl3 := HS.out (q + 1 + j + 1) (by omega)
            have hCl0 := hCl.out
            have hys : y.size ≤ 1099511627776 := by omega
            have hyd : (l.drop (q + 1))[j]? = some y := by rw [List.getElem?_drop]; exact hy
            have HTK : Hid (((l.drop (q + 1)).take (j + 1)).foldl stp (Bx, x.size) = stp (C, col) y) := by
              show _ = _
              rw [List.take_add_one, hyd, Option.toList_some, List.foldl_append, hF.out]
              rfl
            by_cases h72 : col + 1 + y.size ≤ 72
            · have i1 : ¬ (72 : Int) < (col : Int) + 1 + (y.size : Int) := by omega
              have i2 : (col : Int) + 1 + (y.size : Int) ≤ 72 := by omega
              have HST : Hid (stp (C, col) y = ((C ++ [32]) ++ y.data.toList, col + 1 + y.size)) := by show _ = _; unfold stp; rw [if_pos h72]; simp
              have W1 : Hid _ := Tryd.Builder_WriteByte b b (Lib.byteCells C) 32 wr hBu.out (by rw [Lib.byteCells_length]; omega) hbs.out
              have W2 : Hid (∀ wx, Lib.IsBuilder 77 5 b b (Lib.byteCells (C ++ [32])) wx → b ≤ wx.heap.size → _) := fun wx h1 h2 => Tryd.Builder_WriteString b b (Lib.byteCells (C ++ [32])) y wx h1 (by rw [Lib.byteCells_length, List.length_append]; simp only [List.length_cons, List.length_nil]; omega) h2
              clear hy hyd
              go_wp2_with fail
              refine Calls.mono W1.out ?_
              rintro e w4 ⟨rfl, h4, hb4⟩
              have HB4 : Hid (Below b w w4) := hB.out.trans hb4
              have HBu4 : Lib.IsBuilder 77 5 b b (Lib.byteCells (C ++ [32])) w4 := by refine .inr ?_; rw [Lib.byteCells_append]; exact h4
              have W3 : Hid _ := W2.out w4 HBu4 (Nat.le_trans hbs.out hb4.size)
              clear W1 W2 h4 hb4 HBu4 hBu c3
              go_wp2_with fail
              refine Calls.mono W3.out ?_
              rintro e w5 ⟨rfl, h5, hb5⟩
              have HB5 : Hid (Below b w w5) := HB4.out.trans hb5
              have HBu5 : Hid (Lib.IsBuilder 77 5 b b (Lib.byteCells ((C ++ [32]) ++ y.data.toList)) w5) := by refine .inr ?_; rw [Lib.byteCells_append]; exact h5
              clear W3 h5 hb5 HB4 hB
              go_wp2
              exact ⟨⟨j + 1, col + 1 + y.size, (C ++ [32]) ++ y.data.toList, by omega, rfl, by omega, by go_num, by go_num, HTK.out.trans HST.out, (by rw [List.length_append, List.length_append, size_list]; simp only [List.length_cons, List.length_nil]; rw [show q + 1 + (j + 1) = q + 1 + j + 1 by omega]; omega : ((C ++ [32]) ++ y.data.toList).length + 1 ≤ lenTo l (q + 1 + (j + 1))), HBu5.out, HB5.out⟩, by simp [intOf]; omega⟩
            · have i1 : (72 : Int) < (col : Int) + 1 + (y.size : Int) := by omega
              have HST : Hid (stp (C, col) y = ((C ++ [10]) ++ y.data.toList, y.size)) := by show _ = _; unfold stp; rw [if_neg h72]; simp
              have HNX : Hid ((l.drop (q + 1 + j) = [] → C ++ [10] = T) ∧ ∀ x' r', l.drop (q + 1 + j) = x' :: r' → linesFrom (C ++ [10]) x' r' = T) := by
                have hq : q + 1 + j < l.length := by rw [HL.out]; omega
                have hd : l.drop (q + 1 + j) = y :: l.drop (q + 1 + j + 1) := by
                  obtain ⟨_, e1⟩ := List.getElem?_eq_some_iff.1 hy
                  rw [← e1]
                  exact List.drop_eq_getElem_cons hq
                refine ⟨fun e1 => (by rw [hd] at e1; cases e1), fun x' r' e1 => ?_⟩
                rw [hd] at e1
                cases e1
                have hT := HFx.out
                rw [← List.take_append_drop (j + 1) (l.drop (q + 1)), List.foldl_append, HTK.out, HST.out, List.drop_drop] at hT
                unfold linesFrom
                rw [show q + 1 + (j + 1) = q + 1 + j + 1 by omega] at hT
                exact hT
              have HIX : Hid (StrsAt w (some ⟨g, off + (1 + j), none⟩) (l.drop (q + 1 + j))) := fun i z hz => by
                rw [List.getElem?_drop] at hz
                refine ⟨g, off + (1 + j), rfl, ?_⟩
                rw [show off + (1 + j) + i = off + 1 + (j + i) by omega]
                exact HR.out (j + i) z (by rw [show q + 1 + (j + i) = q + 1 + j + i by omega]; exact hz)
              have W1 : Hid _ := Tryd.Builder_WriteByte b b (Lib.byteCells C) 10 wr hBu.out (by rw [Lib.byteCells_length]; omega) hbs.out
              have j1 : (0 : Int) ≤ 1 + (j : Int) := by omega
              have j2 : 1 + (j : Int) ≤ (k : Int) + 1 := by omega
              have j3 : ¬ cq + 1 = 1 + j := by omega
              have j4 : 1 + j ≤ k + 1 := by omega
              clear hy hyd
              go_wp2_with fail
              refine Calls.mono W1.out ?_
              rintro e w4 ⟨rfl, h4, hb4⟩
              have HB4 : Hid (Below b w w4) := hB.out.trans hb4
              have HBu4 : Hid (Lib.IsBuilder 77 5 b b (Lib.byteCells (C ++ [10])) w4) := by refine .inr ?_; rw [Lib.byteCells_append]; exact h4
              clear W1 h4 hb4 hBu c3
              go_wp2
              exact ⟨⟨q + 1 + j, k + 1 - (1 + j), cq + 1 - (1 + j), some ⟨g, off + (1 + j), none⟩, C ++ [10], by omega, by omega, rfl, HIX.out, (by rw [List.length_append]; exact hCl.out : (C ++ [10]).length ≤ lenTo l (q + 1 + j)), HNX.out, HBu4.out, HB4.out⟩, by show k + 1 - (1 + j) < k + 1; omega⟩
          · have n1 : ¬ (j : Int) < (k : Int) := by omega
            obtain rfl : j = k := by omega
            have hBT : C = T := by
              have h1 := hF.out
              have h2 := HFx.out
              rw [List.take_of_length_le (by rw [HLr.out]; exact Nat.le_refl _)] at h1
              rw [h1] at h2
              exact h2
            subst hBT
            have ST : Hid _ := Tryd.Builder_String_any b b C wr hBu.out hbs.out
            have HBE : Hid (Below b w wr) := hB.out
            clear hF hCl hBu hB
            go_wp2_with fail
            refine Calls.mono ST.out ?_
            rintro e w3 ⟨rfl, hb3⟩
            have BE : Hid (Below w.heap.size w w3) := by rw [HBb.out]; exact HBE.out.trans hb3
            clear ST hb3
            go_wp2
            (try rw [Exit.noGoto_ret])
            go_ret
            exact ⟨rfl, BE.out⟩
end Go.Proofs.YtffchjigpppoaaaDoor
