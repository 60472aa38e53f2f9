/- The document's lines. -/
import Derived.Test.YtffchjigpppoaaaDoorLines
import Derived.Test.YtffchjigpppoaaaDoorLong
import Derived.Lib.AppendStr
namespace Go.Proofs.YtffchjigpppoaaaDoor
open Go.RowKit

theorem linesOf_snoc {l : List ByteArray} (x : ByteArray) {y : ByteArray} {r : List ByteArray} (h : l = y :: r) : linesOf (l ++ [x]) = (stp (r.foldl stp (y.data.toList, y.size)) x).1 := by
  subst h
  show ((r ++ [x]).foldl stp ([] ++ y.data.toList, y.size)).1 = _
  rw [List.foldl_append]
  rfl
/-- The column behind words. -/
def colOf : List ByteArray → Nat
  | [] => 0
  | x :: r => (r.foldl stp (x.data.toList, x.size)).2
theorem state_of (y : ByteArray) (r : List ByteArray) : r.foldl stp (y.data.toList, y.size) = (linesOf (y :: r), colOf (y :: r)) := rfl
theorem lines_step {l : List ByteArray} (hl : l ≠ []) (x : ByteArray) : linesOf (l ++ [x]) = (stp (linesOf l, colOf l) x).1 ∧ colOf (l ++ [x]) = (stp (linesOf l, colOf l) x).2 := by
  cases l with
  | nil => exact absurd rfl hl
  | cons y r =>
    refine ⟨by rw [linesOf_snoc x rfl, state_of], ?_⟩
    show ((r ++ [x]).foldl stp (y.data.toList, y.size)).2 = _
    rw [List.foldl_append, state_of]
    rfl
theorem lines_len (l : List ByteArray) : ∀ k, k ≤ l.length → (linesOf (l.take k)).length ≤ lenTo l k ∧ colOf (l.take k) ≤ lenTo l k := by
  intro k
  induction k with
  | zero => intro _; exact ⟨by simp [linesOf], by simp [colOf]⟩
  | succ k ih =>
    intro hk
    obtain ⟨h1, h2⟩ := ih (by omega)
    obtain ⟨x, hx⟩ : ∃ x, l[k]? = some x := ⟨l[k]'(by omega), List.getElem?_eq_getElem _⟩
    have e : l.take (k + 1) = l.take k ++ [x] := by rw [List.take_add_one, hx]; rfl
    have hs := lenTo_succ hx
    rw [e]
    cases hq : l.take k with
    | nil =>
      have e1 : linesOf ([] ++ [x]) = x.data.toList := by show ([] ++ x.data.toList) = _; simp
      have e2 : colOf ([] ++ [x]) = x.size := rfl
      rw [e1, e2, size_list]
      omega
    | cons y r =>
      have hne : (y :: r) ≠ [] := by simp
      obtain ⟨s1, s2⟩ := lines_step hne x
      rw [s1, s2]
      rw [hq] at h1 h2
      unfold stp
      split
      · simp only [List.length_append, List.length_cons, size_list]; omega
      · simp only [List.length_append, List.length_cons, size_list]; omega
theorem bytes_row (s : ByteArray) : (s.data.toList.map byteV).length = s.size := by rw [List.length_map]; rfl

section
variable {P : Program} {w : World}
/-- append of a string to a row of bytes of one's own. -/
theorem wpList_append_str {ops : Array Oper} {rest : List Oper} {o : Oper} {a : Act} {Q : Exit → Act → World → Prop} (hgd : o.guard = none) (s x : Operand) (t u : TypeId)
    (ho : o.op = .call { callee := .builtin .append, args := #[s, x], argTypes := #[t, u] })
    (base : Nat) (e : TypeId) (i : TypeInfo) (ht : P.underlying t = some (.slice e)) (hu : P.underlying u = some .string) (hi : P.info? e = some i) (hz : i.zero = some (.int .u8 0)) (hsize : i.size = 1) (hby : i.bytes = 1)
    (v : Value) (n : Nat) (xs : List Value) (hs : a.eval s = v) (hown : w.ownsRow base e 1 v n xs) (str : ByteArray) (hx : a.eval x = .string str)
    (h63 : n + str.size ≤ maxLen) (hbytes : n + str.size ≤ 140737488355328) (hbase : base ≤ w.heap.size)
    (h : ∀ a' c' w', w'.ownsRow base e 1 (.slice a' (n + str.size) c') (n + str.size) (xs ++ Lib.strCells str) → Below base w w' → wpList P ops Q rest (a.put o.dst (.slice a' (n + str.size) c')) w') : wpList P ops Q (o :: rest) a w := by
  refine wpList_plain hgd fun K hK => ?_
  obtain ⟨v', w', hr, h2, h3, _⟩ := Lib.run_append_own_string (P := P) (w := w) base t u o.type e i ht hu hi hz hsize hby v n xs hown str h63 hbytes hbase
  obtain ⟨a', c', rfl, _⟩ := own_shape h2
  unfold Oper.wp execOp
  simp only [ho, resolve, invoke, builtin, Sem.run_bind, Sem.run_pure, Result.andThen_ok, List.map_toArray, List.map_cons, List.map_nil, hs, hx, hr]
  exact hK _ _ (h a' c' w' h2 ((Below.refl _ _).grown h3 hbase (own_ge hown)))
end

set_option maxRecDepth 100000 in
set_option maxHeartbeats 8000000 in
theorem rlines_any (w : World) (a : Option Addr) (n c : Nat) (l : List ByteArray) (hl : l.length = n) (hS : lenTo l n ≤ 1099511627776) (h : StrsAt w a l) :
    Calls Tryd.prog 34 #[.slice a n c] w fun e w' => e = .returned (.string (strB (linesOf l))) ∧ Below w.heap.size w w' := by
  obtain ⟨i0, hi0, hz0, hz1, hz3⟩ := info_parts infoY
  have HI : Hid (StrsAt w a l) := h
  have HL : Hid (l.length = n) := hl
  have HS : Hid (∀ k, k ≤ n → lenTo l k ≤ 1099511627776) := fun k hk => Nat.le_trans (lenTo_mono hk) hS
  have hnb : n ≤ 1099511627776 := by
    have h1 : n ≤ lenTo l n := by unfold lenTo; omega
    omega
  clear h hl hS
  go_enter Tryd.func34, Tryd.ntmps34
  go_wp2_with fail
  go_loopw [3, 4, 5] (fun r cl i wx => ∃ (j q col : Nat) (av : Option Addr) (cap : Nat), j ≤ n ∧ q ≤ 1099511627776 ∧ col ≤ 1099511627776 ∧ r = .slice av q cap ∧ cl = .int .i64 col ∧ i = .int .i64 j ∧ Hid ((linesOf (l.take j)).length = q) ∧ Hid (colOf (l.take j) = col) ∧ Hid (wx.ownsRow w.heap.size 5 1 (.slice av q cap) q ((linesOf (l.take j)).map byteV)) ∧ Hid (Below w.heap.size w wx)) (fun _ _ i _ => n - (intOf i).toNat)
  case atStart => exact ⟨0, 0, 0, none, 0, Nat.zero_le _, Nat.zero_le _, Nat.zero_le _, rfl, rfl, rfl, rfl, rfl, World.ownsRow_nil _ _ _ _, Below.refl _ _⟩
  case round =>
    obtain ⟨j, q, col, av, cap, hj, hq, hcol, rfl, rfl, rfl, hQ, hC, hO, hB⟩ := hrel
    by_cases hlt : j < n
    · have n1 : (j : Int) < (n : Int) := by omega
      obtain ⟨x, hx⟩ : ∃ x, l[j]? = some x := ⟨l[j]'(by rw [HL.out]; exact hlt), List.getElem?_eq_getElem _⟩
      obtain ⟨g, off, rfl, c0w⟩ := HI.out j x hx
      have hgw : g < w.heap.size := World.block_lt_of_cell? _ _ c0w
      have CW : Hid (∀ wx, Below w.heap.size w wx → wx.cell? ⟨g, off + j, none⟩ = some (.string x)) := fun wx hw => (hw.cell (p := ⟨g, off + j, none⟩) hgw).trans c0w
      have c0 := CW.out wr hB.out
      have hs := lenTo_succ hx
      have hS1 := HS.out (j + 1) (by omega)
      have hln := lines_len l j (by rw [HL.out]; omega)
      rw [hQ.out, hC.out] at hln
      have hln2 := lines_len l (j + 1) (by rw [HL.out]; omega)
      have htk : Hid (l.take (j + 1) = l.take j ++ [x]) := by show _ = _; rw [List.take_add_one, hx]; rfl
      have hxs : x.size ≤ 1099511627776 := by omega
      have HLN : Hid ((linesOf (l.take (j + 1))).length ≤ 1099511627776 ∧ colOf (l.take (j + 1)) ≤ 1099511627776) := ⟨by omega, by omega⟩
      clear c0w hx hln2
      rcases Nat.eq_zero_or_pos j with hj0 | hj0
      · subst hj0
        have e0 : linesOf (l.take 0) = [] := rfl
        have hq0 : q = 0 := by rw [← hQ.out, e0]; rfl
        have hc0 : col = 0 := hC.out.symm
        subst hq0
        subst hc0
        have e1 : linesOf (l.take (0 + 1)) = x.data.toList := by rw [htk.out]; show ([] ++ x.data.toList) = _; simp
        have e2 : colOf (l.take (0 + 1)) = x.size := by rw [htk.out]; rfl
        have HE : Hid (linesOf (l.take (0 + 1)) = x.data.toList ∧ colOf (l.take (0 + 1)) = x.size) := ⟨e1, e2⟩
        have HO0 : Hid (wr.ownsRow w.heap.size 5 1 (.slice av 0 cap) 0 []) := hO.out
        rw [Nat.add_zero] at c0 CW
        clear e0 e1 e2 hO hQ hC hs
        go_wp2_with (at_builtin; (refine wpList_append_str (w := wr) rfl _ _ _ _ rfl w.heap.size 5 i0 Tryd.underlying54 Tryd.underlying9 hi0 hz0 hz1 hz3 _ (0) ([]) (by rfl) (by exact HO0.out) x (by rfl) (by unfold maxLen; omega) (by omega) (by exact hB.out.size) ?_; intro a5 c5 w5 ho5 hb5; have HO5 : Hid (w5.ownsRow w.heap.size 5 1 (.slice a5 (0 + x.size) c5) (0 + x.size) ([] ++ Lib.strCells x)) := ho5; have HB5 : Hid (Below w.heap.size w w5) := hB.out.trans hb5; clear ho5 hb5; have c5' := CW.out w5 HB5.out))
        go_wp2
        exact ⟨⟨0 + 1, x.size, x.size, a5, c5, by omega, by omega, by omega, rfl, by go_num, by go_num, (by rw [HE.out.1, size_list] : (linesOf (l.take (0 + 1))).length = x.size), HE.out.2, (by rw [HE.out.1]; have h := HO5.out; rw [List.nil_append, Nat.zero_add] at h; exact h : w5.ownsRow w.heap.size 5 1 (.slice a5 x.size c5) x.size ((linesOf (l.take (0 + 1))).map byteV)), HB5.out⟩, by simp [intOf]; omega⟩
      · have hne : l.take j ≠ [] := by
          intro e
          have h1 := congrArg List.length e
          rw [List.length_take, HL.out] at h1
          simp at h1
          omega
        have hst := lines_step hne x
        have hj1 : ((j : Int) == 0) = false := by simp; omega
        have hj2 : ¬ j = 0 := by omega
        by_cases h72 : col + 1 + x.size ≤ 72
        · have i1 : (col : Int) + 1 + (x.size : Int) ≤ 72 := by omega
          have HE : Hid (linesOf (l.take (j + 1)) = (linesOf (l.take j) ++ [32]) ++ x.data.toList ∧ colOf (l.take (j + 1)) = col + 1 + x.size) := by
            rw [htk.out, hst.1, hst.2, hC.out]
            unfold stp
            rw [if_pos h72]
            exact ⟨by simp, rfl⟩
          clear hst hne hs
          go_wp2_with (at_builtin; first | (refine wpList_append_more (w := wr.alloc (.cells #[.int .u8 32] 5)) rfl _ _ _ rfl w.heap.size 5 i0 _ 1 1 Tryd.underlying54 hi0 hz0 hz1 hz3 rfl (by omega) _ q ((linesOf (l.take j)).map byteV) (by rfl) (by exact owns_alloc hO.out _) (some ⟨wr.heap.size, 0, none⟩) 1 1 [.int .u8 32] (by rfl) (by rfl) (fun j' u hu => ⟨_, rfl, World.news_of_block (cs := #[.int .u8 32]) (t := 5) (fr := (0, 0)) (heap_alloc_new wr _) j' u hu⟩) (by simp [Value.oneCell']) (by unfold maxLen; omega) (by omega) (by exact Nat.le_trans hB.out.size (below_alloc _ _).size) ?_; intro a4 c4 w4 ho4 hb4; have HO4 : Hid (w4.ownsRow w.heap.size 5 1 (.slice a4 (q + 1) c4) (q + 1) ((linesOf (l.take j)).map byteV ++ [.int .u8 32])) := ho4; have HB4 : Hid (Below w.heap.size w w4) := (hB.out.alloc hB.out.size _).trans hb4; clear ho4 hb4; have c4' := CW.out w4 HB4.out) | (refine wpList_append_str (w := w4) rfl _ _ _ _ rfl w.heap.size 5 i0 Tryd.underlying54 Tryd.underlying9 hi0 hz0 hz1 hz3 _ (q + 1) (((linesOf (l.take j)).map byteV ++ [.int .u8 32])) (by rfl) (by exact HO4.out) x (by rfl) (by unfold maxLen; omega) (by omega) (by exact HB4.out.size) ?_; intro a5 c5 w5 ho5 hb5; have HO5 : Hid (w5.ownsRow w.heap.size 5 1 (.slice a5 (q + 1 + x.size) c5) (q + 1 + x.size) (((linesOf (l.take j)).map byteV ++ [.int .u8 32]) ++ Lib.strCells x)) := ho5; have HB5 : Hid (Below w.heap.size w w5) := HB4.out.trans hb5; clear ho5 hb5; have c5' := CW.out w5 HB5.out))
          go_wp2
          exact ⟨⟨j + 1, q + 1 + x.size, col + 1 + x.size, a5, c5, by omega, by have h := HLN.out.1; rw [HE.out.1, List.length_append, List.length_append, size_list, hQ.out] at h; exact h, by have h := HLN.out.2; rw [HE.out.2] at h; exact h, rfl, by go_num, by go_num, (by rw [HE.out.1, List.length_append, List.length_append, size_list, hQ.out]; rfl : (linesOf (l.take (j + 1))).length = q + 1 + x.size), HE.out.2, (by rw [HE.out.1, List.map_append, List.map_append]; exact HO5.out : w5.ownsRow w.heap.size 5 1 (.slice a5 (q + 1 + x.size) c5) (q + 1 + x.size) ((linesOf (l.take (j + 1))).map byteV)), HB5.out⟩, by simp [intOf]; omega⟩
        · have i1 : ¬ (col : Int) + 1 + (x.size : Int) ≤ 72 := by omega
          have HE : Hid (linesOf (l.take (j + 1)) = (linesOf (l.take j) ++ [10]) ++ x.data.toList ∧ colOf (l.take (j + 1)) = x.size) := by
            rw [htk.out, hst.1, hst.2, hC.out]
            unfold stp
            rw [if_neg h72]
            exact ⟨by simp, rfl⟩
          clear hst hne hs
          go_wp2_with (at_builtin; first | (refine wpList_append_more (w := wr.alloc (.cells #[.int .u8 10] 5)) rfl _ _ _ rfl w.heap.size 5 i0 _ 1 1 Tryd.underlying54 hi0 hz0 hz1 hz3 rfl (by omega) _ q ((linesOf (l.take j)).map byteV) (by rfl) (by exact owns_alloc hO.out _) (some ⟨wr.heap.size, 0, none⟩) 1 1 [.int .u8 10] (by rfl) (by rfl) (fun j' u hu => ⟨_, rfl, World.news_of_block (cs := #[.int .u8 10]) (t := 5) (fr := (0, 0)) (heap_alloc_new wr _) j' u hu⟩) (by simp [Value.oneCell']) (by unfold maxLen; omega) (by omega) (by exact Nat.le_trans hB.out.size (below_alloc _ _).size) ?_; intro a4 c4 w4 ho4 hb4; have HO4 : Hid (w4.ownsRow w.heap.size 5 1 (.slice a4 (q + 1) c4) (q + 1) ((linesOf (l.take j)).map byteV ++ [.int .u8 10])) := ho4; have HB4 : Hid (Below w.heap.size w w4) := (hB.out.alloc hB.out.size _).trans hb4; clear ho4 hb4; have c4' := CW.out w4 HB4.out) | (refine wpList_append_str (w := w4) rfl _ _ _ _ rfl w.heap.size 5 i0 Tryd.underlying54 Tryd.underlying9 hi0 hz0 hz1 hz3 _ (q + 1) (((linesOf (l.take j)).map byteV ++ [.int .u8 10])) (by rfl) (by exact HO4.out) x (by rfl) (by unfold maxLen; omega) (by omega) (by exact HB4.out.size) ?_; intro a5 c5 w5 ho5 hb5; have HO5 : Hid (w5.ownsRow w.heap.size 5 1 (.slice a5 (q + 1 + x.size) c5) (q + 1 + x.size) (((linesOf (l.take j)).map byteV ++ [.int .u8 10]) ++ Lib.strCells x)) := ho5; have HB5 : Hid (Below w.heap.size w w5) := HB4.out.trans hb5; clear ho5 hb5; have c5' := CW.out w5 HB5.out))
          go_wp2
          exact ⟨⟨j + 1, q + 1 + x.size, x.size, a5, c5, by omega, by have h := HLN.out.1; rw [HE.out.1, List.length_append, List.length_append, size_list, hQ.out] at h; exact h, by omega, rfl, by go_num, by go_num, (by rw [HE.out.1, List.length_append, List.length_append, size_list, hQ.out]; rfl : (linesOf (l.take (j + 1))).length = q + 1 + x.size), HE.out.2, (by rw [HE.out.1, List.map_append, List.map_append]; exact HO5.out : w5.ownsRow w.heap.size 5 1 (.slice a5 (q + 1 + x.size) c5) (q + 1 + x.size) ((linesOf (l.take (j + 1))).map byteV)), HB5.out⟩, by simp [intOf]; omega⟩
    · have n1 : ¬ (j : Int) < (n : Int) := by omega
      have htk : l.take j = l := List.take_of_length_le (by rw [HL.out]; omega)
      rw [htk] at hO
      have CV : (convert 54 9 (.slice av q cap)).run Tryd.prog wr = .ok (.string (strB (linesOf l))) wr := conv_own hO.out
      clear htk hO
      go_wp2
      go_ret
      exact ⟨rfl, hB.out⟩
end Go.Proofs.YtffchjigpppoaaaDoor
