/- A statement's words as they stand in the text: the law's own all. -/
import Derived.Test.YtipfhfeaalbmcaaDoorPlaces
namespace Go.Proofs.YtipfhfeaalbmcaaDoor
open Go.RowKit

/-- A step of the law's own row of words: one more, or a whole row more. -/
theorem one_news (w : World) (t : Tok) : ∀ j u, (rowT [t])[j]? = some u → ∃ ad, (some ⟨w.heap.size, 0, none⟩ : Option Addr) = some ad ∧ (w.alloc (.cells #[.string t.text, .int .i64 t.off, .int .i64 t.line, .int .i64 t.col] 34)).cell? (ad.add j) = some u := fun j u hu =>
  ⟨_, rfl, World.news_of_block (cs := #[.string t.text, .int .i64 t.off, .int .i64 t.line, .int .i64 t.col]) (t := 34) (fr := (0, 0)) (heap_alloc_new w _) j u hu⟩

theorem txt_ne {a b : ByteArray} (h : a ≠ b) : (a.toList == b.toList) = false := by
  rw [beq_eq_false_iff_ne]
  intro e
  apply h
  obtain ⟨⟨a⟩⟩ := a
  obtain ⟨⟨b⟩⟩ := b
  simpa [ByteArray.toList_eq] using e
set_option maxRecDepth 100000 in
set_option maxHeartbeats 16000000 in
theorem allT_any (w : World) (k : Int) (lb ky fn : Tok) (pr : Bool) (ws ps : List Tok) (aw ap : Option Addr) (nw cw np cp : Nat) (hlw : ws.length = nw) (hlp : ps.length = np) (hw : nw ≤ 1048576) (hp : np ≤ 1048576) (hTw : ToksAt w aw ws) (hTp : ToksAt w ap ps) (hfk : fn = ky ∨ fn.text ≠ ky.text) :
    Calls Tryd.prog 10 #[.agg #[.int .i64 k, .string lb.text, .int .i64 lb.off, .int .i64 lb.line, .int .i64 lb.col, .string ky.text, .int .i64 ky.off, .int .i64 ky.line, .int .i64 ky.col, .bool pr, .slice aw nw cw, .slice ap np cp, .string fn.text, .int .i64 fn.off, .int .i64 fn.line, .int .i64 fn.col]] w fun e w' => ∃ a n c, e = .returned (.slice a n c) ∧ n = (allT ⟨k, lb, ky, pr, ws, ps, fn⟩).length ∧ w'.ownsRow w.heap.size 34 4 (.slice a n c) n (rowT (allT ⟨k, lb, ky, pr, ws, ps, fn⟩)) ∧ Below w.heap.size w w' := by
  obtain ⟨ip, hip, ipz, ips, ipb⟩ := info_parts infoT
  obtain ⟨w1, hw1⟩ : ∃ w1, w1 = w.alloc (.cells #[.int .i64 k, .string lb.text, .int .i64 lb.off, .int .i64 lb.line, .int .i64 lb.col, .string ky.text, .int .i64 ky.off, .int .i64 ky.line, .int .i64 ky.col, .bool pr, .slice aw nw cw, .slice ap np cp, .string fn.text, .int .i64 fn.off, .int .i64 fn.line, .int .i64 fn.col] 36) := ⟨_, rfl⟩
  have B1 : Hid (Below w.heap.size w w1) := by rw [hw1]; exact below_alloc _ _
  have K1 : Hid (w1.heap[w.heap.size]? = some (.cells #[.int .i64 k, .string lb.text, .int .i64 lb.off, .int .i64 lb.line, .int .i64 lb.col, .string ky.text, .int .i64 ky.off, .int .i64 ky.line, .int .i64 ky.col, .bool pr, .slice aw nw cw, .slice ap np cp, .string fn.text, .int .i64 fn.off, .int .i64 fn.line, .int .i64 fn.col] 36 (0, 0))) := by show _ = _; rw [hw1]; exact heap_alloc_new w _
  have H1 : Hid (w1 = w.alloc (.cells #[.int .i64 k, .string lb.text, .int .i64 lb.off, .int .i64 lb.line, .int .i64 lb.col, .string ky.text, .int .i64 ky.off, .int .i64 ky.line, .int .i64 ky.col, .bool pr, .slice aw nw cw, .slice ap np cp, .string fn.text, .int .i64 fn.off, .int .i64 fn.line, .int .i64 fn.col] 36)) := hw1
  have HTW : Hid (ToksAt w aw ws ∧ ToksAt w ap ps) := ⟨hTw, hTp⟩
  have HL : Hid (ws.length = nw ∧ ps.length = np) := ⟨hlw, hlp⟩
  obtain ⟨B, hB⟩ : ∃ B, w.heap.size = B := ⟨_, rfl⟩
  have CEL : Hid (∀ wx, Below w1.heap.size w1 wx → ∀ i v, (#[.int .i64 k, .string lb.text, .int .i64 lb.off, .int .i64 lb.line, .int .i64 lb.col, .string ky.text, .int .i64 ky.off, .int .i64 ky.line, .int .i64 ky.col, .bool pr, .slice aw nw cw, .slice ap np cp, .string fn.text, .int .i64 fn.off, .int .i64 fn.line, .int .i64 fn.col] : Array Value)[i]? = some v → wx.cell? ⟨B, i, none⟩ = some v) := fun wx hb i v hv => by
    have hk := K1.out
    rw [hB] at hk
    exact (M.cell_whole ((hb.block B (Array.getElem?_eq_some_iff.1 hk).1).trans hk) i).trans hv
  have HBs : Hid (w.heap.size = B) := hB
  have l1 : w1.cell? ⟨B, 1, none⟩ = some (.string lb.text) := CEL.out w1 (Below.refl _ _) 1 _ rfl
  have l2 : w1.cell? ⟨B, 2, none⟩ = some (.int .i64 lb.off) := CEL.out w1 (Below.refl _ _) 2 _ rfl
  have l3 : w1.cell? ⟨B, 3, none⟩ = some (.int .i64 lb.line) := CEL.out w1 (Below.refl _ _) 3 _ rfl
  have l4 : w1.cell? ⟨B, 4, none⟩ = some (.int .i64 lb.col) := CEL.out w1 (Below.refl _ _) 4 _ rfl
  have HFL : Hid (∀ ac, rowT (ac ++ (waitL lb ++ ([ky] ++ (ws ++ ps))) ++ finL ⟨k, lb, ky, pr, ws, ps, fn⟩) = rowT (ac ++ allT ⟨k, lb, ky, pr, ws, ps, fn⟩)) := fun ac => by unfold allT; simp
  have HLN : Hid ((allT ⟨k, lb, ky, pr, ws, ps, fn⟩).length = (waitL lb).length + 1 + nw + np + (finL ⟨k, lb, ky, pr, ws, ps, fn⟩).length) := by show _ = _; unfold allT; simp [HL.out.1, HL.out.2]; omega
  clear hw1 hTw hTp hlw hlp hB
  cases he : emp lb with
  | true =>
    have HW : Hid (waitL lb = []) := by show _ = _; unfold waitL; rw [if_pos he]
    have hE := emp_iff.1 he
    rw [hE] at l1
    rw [HW.out] at HFL HLN
    clear he hE
    go_enter Tryd.func10, Tryd.ntmps10
    go_upto_region 1 with fail
    rw [← H1.out, HBs.out]
    clear H1
    go_upto_region 4 with fail
    have m5 : w1.cell? ⟨B, 5, none⟩ = some (.string ky.text) := CEL.out w1 (Below.refl w1.heap.size w1) 5 _ rfl
    have m6 : w1.cell? ⟨B, 6, none⟩ = some (.int .i64 ky.off) := CEL.out w1 (Below.refl w1.heap.size w1) 6 _ rfl
    have m7 : w1.cell? ⟨B, 7, none⟩ = some (.int .i64 ky.line) := CEL.out w1 (Below.refl w1.heap.size w1) 7 _ rfl
    have m8 : w1.cell? ⟨B, 8, none⟩ = some (.int .i64 ky.col) := CEL.out w1 (Below.refl w1.heap.size w1) 8 _ rfl
    go_upto_region 5 with (at_builtin; (refine wpList_append_more (w := w1.alloc (.cells #[.string ky.text, .int .i64 ky.off, .int .i64 ky.line, .int .i64 ky.col] 34)) rfl _ _ _ rfl w1.heap.size 34 ip _ 4 40 Tryd.underlying31 hip ipz ips ipb rfl (by omega) _ (0) (rowT (([] : List Tok))) (by rfl) (by exact M.owns_alloc (World.ownsRow_nil w1 w1.heap.size 34 4) _) (some ⟨w1.heap.size, 0, none⟩) 1 1 (rowT [ky]) (by rfl) (by rfl) (one_news w1 ky) (rowT_one _) (by unfold maxLen; omega) (by omega) (Nat.le_trans (Below.refl w1.heap.size w1).size (below_alloc _ _).size) ?_; intro a2 c2 w2 ho' hb'; have O2 : Hid (w2.ownsRow w1.heap.size 34 4 (.slice a2 (0 + 1) c2) (0 + 1) (rowT (([] : List Tok) ++ [ky]))) := (by show World.ownsRow _ _ _ _ _ _ _; rw [rowT_append]; exact ho'); have B2 : Hid (Below w1.heap.size w1 w2) := ((Below.refl w1.heap.size w1).alloc (Below.refl w1.heap.size w1).size _).trans hb'; clear ho' hb'))
    clear m5 m6 m7 m8
    have p10 : w2.cell? ⟨B, 10, none⟩ = some (.slice aw nw cw) := CEL.out w2 B2.out 10 _ rfl
    go_upto_region 6 with (at_builtin; (refine wpList_append_more (w := w2) rfl _ _ _ rfl w1.heap.size 34 ip _ 4 40 Tryd.underlying31 hip ipz ips ipb rfl (by omega) _ (0 + 1) (rowT (([] : List Tok) ++ [ky])) (by rfl) (by exact O2.out) aw nw cw (rowT ws) (by rfl) (by rw [rowT_len, HL.out.1]) (toks_row (HTW.out.1.under (B1.out.trans (B2.out.mono B1.out.size)))) (rowT_one _) (by unfold maxLen; omega) (by omega) (B2.out).size ?_; intro a3 c3 w3 ho' hb'; have O3 : Hid (w3.ownsRow w1.heap.size 34 4 (.slice a3 (0 + 1 + nw) c3) (0 + 1 + nw) (rowT (([] : List Tok) ++ [ky] ++ ws))) := (by show World.ownsRow _ _ _ _ _ _ _; rw [rowT_append]; exact ho'); have B3 : Hid (Below w1.heap.size w1 w3) := (B2.out).trans hb'; clear ho' hb'))
    clear p10
    have p11 : w3.cell? ⟨B, 11, none⟩ = some (.slice ap np cp) := CEL.out w3 B3.out 11 _ rfl
    go_upto_region 7 with (at_builtin; (refine wpList_append_more (w := w3) rfl _ _ _ rfl w1.heap.size 34 ip _ 4 40 Tryd.underlying31 hip ipz ips ipb rfl (by omega) _ (0 + 1 + nw) (rowT (([] : List Tok) ++ [ky] ++ ws)) (by rfl) (by exact O3.out) ap np cp (rowT ps) (by rfl) (by rw [rowT_len, HL.out.2]) (toks_row (HTW.out.2.under (B1.out.trans (B3.out.mono B1.out.size)))) (rowT_one _) (by unfold maxLen; omega) (by omega) (B3.out).size ?_; intro a4 c4 w4 ho' hb'; have O4 : Hid (w4.ownsRow w1.heap.size 34 4 (.slice a4 (0 + 1 + nw + np) c4) (0 + 1 + nw + np) (rowT (([] : List Tok) ++ [ky] ++ ws ++ ps))) := (by show World.ownsRow _ _ _ _ _ _ _; rw [rowT_append]; exact ho'); have B4 : Hid (Below w1.heap.size w1 w4) := (B3.out).trans hb'; clear ho' hb'))
    clear p11
    have q5 : w4.cell? ⟨B, 5, none⟩ = some (.string ky.text) := CEL.out w4 B4.out 5 _ rfl
    have q6 : w4.cell? ⟨B, 6, none⟩ = some (.int .i64 ky.off) := CEL.out w4 B4.out 6 _ rfl
    have q7 : w4.cell? ⟨B, 7, none⟩ = some (.int .i64 ky.line) := CEL.out w4 B4.out 7 _ rfl
    have q8 : w4.cell? ⟨B, 8, none⟩ = some (.int .i64 ky.col) := CEL.out w4 B4.out 8 _ rfl
    have q12 : w4.cell? ⟨B, 12, none⟩ = some (.string fn.text) := CEL.out w4 B4.out 12 _ rfl
    have q13 : w4.cell? ⟨B, 13, none⟩ = some (.int .i64 fn.off) := CEL.out w4 B4.out 13 _ rfl
    have q14 : w4.cell? ⟨B, 14, none⟩ = some (.int .i64 fn.line) := CEL.out w4 B4.out 14 _ rfl
    have q15 : w4.cell? ⟨B, 15, none⟩ = some (.int .i64 fn.col) := CEL.out w4 B4.out 15 _ rfl
    go_upto_region 7 with fail
    rcases hfk with hfk | hfk
    · have HFE : Hid (finL ⟨k, lb, ky, pr, ws, ps, fn⟩ = []) := by show _ = _; unfold finL; rw [if_neg fun e => e.1 hfk]
      have e1 : fn.text = ky.text := by rw [hfk]
      have e2 : fn.off = ky.off := by rw [hfk]
      have e3 : fn.line = ky.line := by rw [hfk]
      have e4 : fn.col = ky.col := by rw [hfk]
      rw [e1] at q12
      rw [e2] at q13
      rw [e3] at q14
      rw [e4] at q15
      clear e1 e2 e3 e4 hfk
      go_wp2_with fail
      go_ret
      exact ⟨_, _, _, rfl, by have := HLN.out; rw [HFE.out] at this; simp only [List.length_nil] at this; omega, by have h := HFL.out []; rw [HFE.out] at h; rw [← List.nil_append (allT _), ← h]; exact M.owns_mono (by simpa using O4.out) B1.out.size, B1.out.trans (B4.out.mono B1.out.size)⟩
    · have ef : (fn.text.toList == ky.text.toList) = false := txt_ne hfk
      cases hef : emp fn with
      | true =>
        have HFE : Hid (finL ⟨k, lb, ky, pr, ws, ps, fn⟩ = []) := by show _ = _; unfold finL; rw [if_neg fun e => by rw [hef] at e; cases e.2]
        have e1 := emp_iff.1 hef
        have ef2 : ky.text.toList.isEmpty = false := emp_ne fun e => hfk (e1.trans e)
        rw [e1] at q12
        clear e1 hef hfk ef
        go_wp2_with fail
        go_ret
        exact ⟨_, _, _, rfl, by have := HLN.out; rw [HFE.out] at this; simp only [List.length_nil] at this; omega, by have h := HFL.out []; rw [HFE.out] at h; rw [← List.nil_append (allT _), ← h]; exact M.owns_mono (by simpa using O4.out) B1.out.size, B1.out.trans (B4.out.mono B1.out.size)⟩
      | false =>
        have HFE : Hid (finL ⟨k, lb, ky, pr, ws, ps, fn⟩ = [fn]) := by show _ = _; unfold finL; rw [if_pos ⟨fun e => hfk (congrArg Tok.text e), hef⟩]
        have e1 : fn.text.toList.isEmpty = false := hef
        clear hef hfk
        go_wp2_with (at_builtin; (refine wpList_append_more (w := w4.alloc (.cells #[.string fn.text, .int .i64 fn.off, .int .i64 fn.line, .int .i64 fn.col] 34)) rfl _ _ _ rfl w1.heap.size 34 ip _ 4 40 Tryd.underlying31 hip ipz ips ipb rfl (by omega) _ (0 + 1 + nw + np) (rowT (([] : List Tok) ++ [ky] ++ ws ++ ps)) (by rfl) (by exact M.owns_alloc O4.out _) (some ⟨w4.heap.size, 0, none⟩) 1 1 (rowT [fn]) (by rfl) (by rfl) (one_news w4 fn) (rowT_one _) (by unfold maxLen; omega) (by omega) (Nat.le_trans (B4.out).size (below_alloc _ _).size) ?_; intro a5 c5 w5 ho' hb'; have O5 : Hid (w5.ownsRow w1.heap.size 34 4 (.slice a5 (0 + 1 + nw + np + 1) c5) (0 + 1 + nw + np + 1) (rowT (([] : List Tok) ++ [ky] ++ ws ++ ps ++ [fn]))) := (by show World.ownsRow _ _ _ _ _ _ _; rw [rowT_append]; exact ho'); have B5 : Hid (Below w1.heap.size w1 w5) := ((B4.out).alloc (B4.out).size _).trans hb'; clear ho' hb'))
        go_ret
        exact ⟨_, _, _, rfl, by have := HLN.out; rw [HFE.out] at this; simp only [List.length_nil, List.length_cons] at this; omega, by have h := HFL.out []; rw [HFE.out] at h; rw [← List.nil_append (allT _), ← h]; exact M.owns_mono (by simpa using O5.out) B1.out.size, B1.out.trans (B5.out.mono B1.out.size)⟩
  | false =>
    have HW : Hid (waitL lb = [lb]) := by show _ = _; unfold waitL; rw [if_neg (by rw [he]; exact Bool.false_ne_true)]
    have hE : lb.text.toList.isEmpty = false := he
    rw [HW.out] at HFL HLN
    clear he
    go_enter Tryd.func10, Tryd.ntmps10
    go_upto_region 1 with fail
    rw [← H1.out, HBs.out]
    clear H1
    go_upto_region 4 with (at_builtin; (refine wpList_append_more (w := w1.alloc (.cells #[.string lb.text, .int .i64 lb.off, .int .i64 lb.line, .int .i64 lb.col] 34)) rfl _ _ _ rfl w1.heap.size 34 ip _ 4 40 Tryd.underlying31 hip ipz ips ipb rfl (by omega) _ (0) (rowT (([] : List Tok))) (by rfl) (by exact M.owns_alloc (World.ownsRow_nil w1 w1.heap.size 34 4) _) (some ⟨w1.heap.size, 0, none⟩) 1 1 (rowT [lb]) (by rfl) (by rfl) (one_news w1 lb) (rowT_one _) (by unfold maxLen; omega) (by omega) (Nat.le_trans (Below.refl w1.heap.size w1).size (below_alloc _ _).size) ?_; intro a0 c0 w0 ho' hb'; have O0 : Hid (w0.ownsRow w1.heap.size 34 4 (.slice a0 (0 + 1) c0) (0 + 1) (rowT (([] : List Tok) ++ [lb]))) := (by show World.ownsRow _ _ _ _ _ _ _; rw [rowT_append]; exact ho'); have B0 : Hid (Below w1.heap.size w1 w0) := ((Below.refl w1.heap.size w1).alloc (Below.refl w1.heap.size w1).size _).trans hb'; clear ho' hb'))
    have m5 : w0.cell? ⟨B, 5, none⟩ = some (.string ky.text) := CEL.out w0 (B0.out) 5 _ rfl
    have m6 : w0.cell? ⟨B, 6, none⟩ = some (.int .i64 ky.off) := CEL.out w0 (B0.out) 6 _ rfl
    have m7 : w0.cell? ⟨B, 7, none⟩ = some (.int .i64 ky.line) := CEL.out w0 (B0.out) 7 _ rfl
    have m8 : w0.cell? ⟨B, 8, none⟩ = some (.int .i64 ky.col) := CEL.out w0 (B0.out) 8 _ rfl
    go_upto_region 5 with (at_builtin; (refine wpList_append_more (w := w0.alloc (.cells #[.string ky.text, .int .i64 ky.off, .int .i64 ky.line, .int .i64 ky.col] 34)) rfl _ _ _ rfl w1.heap.size 34 ip _ 4 40 Tryd.underlying31 hip ipz ips ipb rfl (by omega) _ (0 + 1) (rowT (([] : List Tok) ++ [lb])) (by rfl) (by exact M.owns_alloc O0.out _) (some ⟨w0.heap.size, 0, none⟩) 1 1 (rowT [ky]) (by rfl) (by rfl) (one_news w0 ky) (rowT_one _) (by unfold maxLen; omega) (by omega) (Nat.le_trans (B0.out).size (below_alloc _ _).size) ?_; intro a2 c2 w2 ho' hb'; have O2 : Hid (w2.ownsRow w1.heap.size 34 4 (.slice a2 (0 + 1 + 1) c2) (0 + 1 + 1) (rowT (([] : List Tok) ++ [lb] ++ [ky]))) := (by show World.ownsRow _ _ _ _ _ _ _; rw [rowT_append]; exact ho'); have B2 : Hid (Below w1.heap.size w1 w2) := ((B0.out).alloc (B0.out).size _).trans hb'; clear ho' hb'))
    clear m5 m6 m7 m8
    have p10 : w2.cell? ⟨B, 10, none⟩ = some (.slice aw nw cw) := CEL.out w2 B2.out 10 _ rfl
    go_upto_region 6 with (at_builtin; (refine wpList_append_more (w := w2) rfl _ _ _ rfl w1.heap.size 34 ip _ 4 40 Tryd.underlying31 hip ipz ips ipb rfl (by omega) _ (0 + 1 + 1) (rowT (([] : List Tok) ++ [lb] ++ [ky])) (by rfl) (by exact O2.out) aw nw cw (rowT ws) (by rfl) (by rw [rowT_len, HL.out.1]) (toks_row (HTW.out.1.under (B1.out.trans (B2.out.mono B1.out.size)))) (rowT_one _) (by unfold maxLen; omega) (by omega) (B2.out).size ?_; intro a3 c3 w3 ho' hb'; have O3 : Hid (w3.ownsRow w1.heap.size 34 4 (.slice a3 (0 + 1 + 1 + nw) c3) (0 + 1 + 1 + nw) (rowT (([] : List Tok) ++ [lb] ++ [ky] ++ ws))) := (by show World.ownsRow _ _ _ _ _ _ _; rw [rowT_append]; exact ho'); have B3 : Hid (Below w1.heap.size w1 w3) := (B2.out).trans hb'; clear ho' hb'))
    clear p10
    have p11 : w3.cell? ⟨B, 11, none⟩ = some (.slice ap np cp) := CEL.out w3 B3.out 11 _ rfl
    go_upto_region 7 with (at_builtin; (refine wpList_append_more (w := w3) rfl _ _ _ rfl w1.heap.size 34 ip _ 4 40 Tryd.underlying31 hip ipz ips ipb rfl (by omega) _ (0 + 1 + 1 + nw) (rowT (([] : List Tok) ++ [lb] ++ [ky] ++ ws)) (by rfl) (by exact O3.out) ap np cp (rowT ps) (by rfl) (by rw [rowT_len, HL.out.2]) (toks_row (HTW.out.2.under (B1.out.trans (B3.out.mono B1.out.size)))) (rowT_one _) (by unfold maxLen; omega) (by omega) (B3.out).size ?_; intro a4 c4 w4 ho' hb'; have O4 : Hid (w4.ownsRow w1.heap.size 34 4 (.slice a4 (0 + 1 + 1 + nw + np) c4) (0 + 1 + 1 + nw + np) (rowT (([] : List Tok) ++ [lb] ++ [ky] ++ ws ++ ps))) := (by show World.ownsRow _ _ _ _ _ _ _; rw [rowT_append]; exact ho'); have B4 : Hid (Below w1.heap.size w1 w4) := (B3.out).trans hb'; clear ho' hb'))
    clear p11
    have q5 : w4.cell? ⟨B, 5, none⟩ = some (.string ky.text) := CEL.out w4 B4.out 5 _ rfl
    have q6 : w4.cell? ⟨B, 6, none⟩ = some (.int .i64 ky.off) := CEL.out w4 B4.out 6 _ rfl
    have q7 : w4.cell? ⟨B, 7, none⟩ = some (.int .i64 ky.line) := CEL.out w4 B4.out 7 _ rfl
    have q8 : w4.cell? ⟨B, 8, none⟩ = some (.int .i64 ky.col) := CEL.out w4 B4.out 8 _ rfl
    have q12 : w4.cell? ⟨B, 12, none⟩ = some (.string fn.text) := CEL.out w4 B4.out 12 _ rfl
    have q13 : w4.cell? ⟨B, 13, none⟩ = some (.int .i64 fn.off) := CEL.out w4 B4.out 13 _ rfl
    have q14 : w4.cell? ⟨B, 14, none⟩ = some (.int .i64 fn.line) := CEL.out w4 B4.out 14 _ rfl
    have q15 : w4.cell? ⟨B, 15, none⟩ = some (.int .i64 fn.col) := CEL.out w4 B4.out 15 _ rfl
    go_upto_region 7 with fail
    rcases hfk with hfk | hfk
    · have HFE : Hid (finL ⟨k, lb, ky, pr, ws, ps, fn⟩ = []) := by show _ = _; unfold finL; rw [if_neg fun e => e.1 hfk]
      have e1 : fn.text = ky.text := by rw [hfk]
      have e2 : fn.off = ky.off := by rw [hfk]
      have e3 : fn.line = ky.line := by rw [hfk]
      have e4 : fn.col = ky.col := by rw [hfk]
      rw [e1] at q12
      rw [e2] at q13
      rw [e3] at q14
      rw [e4] at q15
      clear e1 e2 e3 e4 hfk
      go_wp2_with fail
      go_ret
      exact ⟨_, _, _, rfl, by have := HLN.out; rw [HFE.out] at this; simp only [List.length_nil, List.length_cons] at this; omega, by have h := HFL.out []; rw [HFE.out] at h; rw [← List.nil_append (allT _), ← h]; exact M.owns_mono (by simpa using O4.out) B1.out.size, B1.out.trans (B4.out.mono B1.out.size)⟩
    · have ef : (fn.text.toList == ky.text.toList) = false := txt_ne hfk
      cases hef : emp fn with
      | true =>
        have HFE : Hid (finL ⟨k, lb, ky, pr, ws, ps, fn⟩ = []) := by show _ = _; unfold finL; rw [if_neg fun e => by rw [hef] at e; cases e.2]
        have e1 := emp_iff.1 hef
        have ef2 : ky.text.toList.isEmpty = false := emp_ne fun e => hfk (e1.trans e)
        rw [e1] at q12
        clear e1 hef hfk ef
        go_wp2_with fail
        go_ret
        exact ⟨_, _, _, rfl, by have := HLN.out; rw [HFE.out] at this; simp only [List.length_nil, List.length_cons] at this; omega, by have h := HFL.out []; rw [HFE.out] at h; rw [← List.nil_append (allT _), ← h]; exact M.owns_mono (by simpa using O4.out) B1.out.size, B1.out.trans (B4.out.mono B1.out.size)⟩
      | false =>
        have HFE : Hid (finL ⟨k, lb, ky, pr, ws, ps, fn⟩ = [fn]) := by show _ = _; unfold finL; rw [if_pos ⟨fun e => hfk (congrArg Tok.text e), hef⟩]
        have e1 : fn.text.toList.isEmpty = false := hef
        clear hef hfk
        go_wp2_with (at_builtin; (refine wpList_append_more (w := w4.alloc (.cells #[.string fn.text, .int .i64 fn.off, .int .i64 fn.line, .int .i64 fn.col] 34)) rfl _ _ _ rfl w1.heap.size 34 ip _ 4 40 Tryd.underlying31 hip ipz ips ipb rfl (by omega) _ (0 + 1 + 1 + nw + np) (rowT (([] : List Tok) ++ [lb] ++ [ky] ++ ws ++ ps)) (by rfl) (by exact M.owns_alloc O4.out _) (some ⟨w4.heap.size, 0, none⟩) 1 1 (rowT [fn]) (by rfl) (by rfl) (one_news w4 fn) (rowT_one _) (by unfold maxLen; omega) (by omega) (Nat.le_trans (B4.out).size (below_alloc _ _).size) ?_; intro a5 c5 w5 ho' hb'; have O5 : Hid (w5.ownsRow w1.heap.size 34 4 (.slice a5 (0 + 1 + 1 + nw + np + 1) c5) (0 + 1 + 1 + nw + np + 1) (rowT (([] : List Tok) ++ [lb] ++ [ky] ++ ws ++ ps ++ [fn]))) := (by show World.ownsRow _ _ _ _ _ _ _; rw [rowT_append]; exact ho'); have B5 : Hid (Below w1.heap.size w1 w5) := ((B4.out).alloc (B4.out).size _).trans hb'; clear ho' hb'))
        go_ret
        exact ⟨_, _, _, rfl, by have := HLN.out; rw [HFE.out] at this; simp only [List.length_nil, List.length_cons] at this; omega, by have h := HFL.out []; rw [HFE.out] at h; rw [← List.nil_append (allT _), ← h]; exact M.owns_mono (by simpa using O5.out) B1.out.size, B1.out.trans (B5.out.mono B1.out.size)⟩
end Go.Proofs.YtipfhfeaalbmcaaDoor
