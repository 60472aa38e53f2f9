/- The document's answer: Decode. -/
import Derived.Test.YtffchjigpppoaaaDoorRefD
namespace Go.Proofs.YtffchjigpppoaaaDoor
open Go.RowKit

set_option maxRecDepth 100000 in
set_option maxHeartbeats 8000000 in
theorem rdecode_any (w : World) (a : Option Addr) (n c : Nat) (ts : List Tok) (hl : ts.length = n) (hn : n ≤ 4294967297) (h : ToksAt w a ts) (hB : (allBytes ts).length ≤ 4294967296) :
    Calls Tryd.prog 40 #[.slice a n c] w fun e w' => ∃ v, e = .returned (.tuple #[v, .bool (decide (0 < endOf 0 ts))]) ∧ w'.ownsRow w.heap.size 51 5 v (codesOf 0 ts).length (rowC (codesOf 0 ts)) ∧ Below w.heap.size w w' := by
  obtain ⟨i0, hi0, hz0, hz1, hz3⟩ := info_parts infoC
  have HI : Hid (ToksAt w a ts) := h
  have HL : Hid (ts.length = n) := hl
  have HBB : Hid ((allBytes ts).length ≤ 4294967296) := hB
  clear h hl hB
  go_enter Tryd.func40, Tryd.ntmps40
  go_wp2_with fail
  go_loopw [4, 5, 6, 7] (fun v av ad i wx => ∃ (j m aa dd : Nat) (ar : Option Addr) (cap : Nat), j ≤ n ∧ m ≤ 4294967300 ∧ aa ≤ 1125899906842624 ∧ dd ≤ 4294967300 ∧ v = .slice ar m cap ∧ av = .int .i64 aa ∧ ad = .int .i64 dd ∧ i = .int .i64 j ∧ Hid (endOf 0 (ts.take j) = aa) ∧ Hid (dd ≤ (allBytes (ts.take j)).length) ∧ Hid (0 < dd ↔ 0 < aa) ∧ Hid ((codesOf 0 (ts.take j)).length = m) ∧ Hid (wx.ownsRow w.heap.size 51 5 (.slice ar m cap) m (rowC (codesOf 0 (ts.take j)))) ∧ Hid (Below w.heap.size w wx)) (fun _ _ _ i _ => n - (intOf i).toNat)
  case atStart => exact ⟨0, 0, 0, 0, none, 0, Nat.zero_le _, by omega, by omega, by omega, rfl, rfl, rfl, rfl, rfl, Nat.zero_le _, Iff.rfl, rfl, World.ownsRow_nil _ _ _ _, Below.refl _ _⟩
  case round =>
    obtain ⟨j, m, aa, dd, ar, cap, hj, hm, haa, hdd, rfl, rfl, rfl, rfl, hE, hDl, hDA, hM, hO, hb⟩ := hrel
    by_cases hlt : j < n
    · have n1 : (j : Int) < (n : Int) := by omega
      obtain ⟨t, ht⟩ : ∃ t, ts[j]? = some t := ⟨ts[j]'(by rw [HL.out]; exact hlt), List.getElem?_eq_getElem _⟩
      obtain ⟨g, off, rfl, c0, c1, c2, c3⟩ := HI.out j t ht
      have hgw : g < w.heap.size := World.block_lt_of_cell? _ _ c0
      have HC : Hid (∀ wx, Below w.heap.size w wx → wx.cell? ⟨g, off + j * 4, none⟩ = some (.string t.text) ∧ wx.cell? ⟨g, off + j * 4 + 1, none⟩ = some (.int .i64 t.off) ∧ wx.cell? ⟨g, off + j * 4 + 2, none⟩ = some (.int .i64 t.line) ∧ wx.cell? ⟨g, off + j * 4 + 3, none⟩ = some (.int .i64 t.col)) := fun wx hx => ⟨(hx.cell (p := ⟨g, _, none⟩) hgw).trans c0, (hx.cell (p := ⟨g, _, none⟩) hgw).trans c1, (hx.cell (p := ⟨g, _, none⟩) hgw).trans c2, (hx.cell (p := ⟨g, _, none⟩) hgw).trans c3⟩
      have htk : Hid (ts.take (j + 1) = ts.take j ++ [t]) := by show _ = _; rw [List.take_add_one, ht]; rfl
      have hbyt : Hid ((allBytes (ts.take j)).length + t.text.size ≤ 4294967296) := by
        have e1 : ts = ts.take (j + 1) ++ ts.drop (j + 1) := (List.take_append_drop _ _).symm
        have e2 := congrArg (fun l => (allBytes l).length) e1
        simp only [htk.out, allBytes_append, List.length_append] at e2
        have e3 : (allBytes [t]).length = t.text.size := by simp [allBytes, Tok.size]
        have := HBB.out
        show _ ≤ _
        omega
      have hcl : Hid ((codesOf 0 (ts.take j)).length ≤ (allBytes (ts.take j)).length + 1) := codesOf_len _ _
      have htz : t.text.size ≤ 4294967296 := by have := hbyt.out; omega
      obtain ⟨c0, c1, c2, c3⟩ := HC.out wr hb.out
      clear ht
      go_wp2_with fail
      clear c0 c1 c2 c3
      go_loopw [4, 5, 6, 9] (fun v av ad i wx => ∃ (p m' a' d' : Nat) (ar' : Option Addr) (cap' : Nat), p ≤ t.text.size ∧ m' ≤ 4294967300 ∧ a' ≤ 1125899906842624 ∧ d' ≤ 4294967300 ∧ v = .slice ar' m' cap' ∧ av = .int .i64 a' ∧ ad = .int .i64 d' ∧ i = .int .i64 p ∧ Hid (endA aa (t.bytes.take p) = a') ∧ Hid (d' ≤ (allBytes (ts.take j)).length + p) ∧ Hid (0 < d' ↔ 0 < a') ∧ Hid (m + (numsOf aa (t.bytes.take p)).length = m') ∧ Hid (wx.ownsRow w.heap.size 51 5 (.slice ar' m' cap') m' (rowC (codesOf 0 (ts.take j) ++ toldBy t (numsOf aa (t.bytes.take p))))) ∧ Hid (Below w.heap.size w wx)) (fun _ _ _ i _ => t.text.size - (intOf i).toNat)
      case atStart => exact ⟨0, m, aa, dd, ar, cap, Nat.zero_le _, hm, haa, hdd, rfl, rfl, rfl, rfl, rfl, hDl.out, hDA.out, rfl, by show World.ownsRow _ _ _ _ _ _ _; simpa [numsOf, toldBy] using hO.out, hb.out⟩
      case round =>
        clear hO hb hDl hDA hdd
        obtain ⟨p, m', a', d', ar', cap', hp, hm', ha', hd', rfl, rfl, rfl, rfl, hE', hDl', hDA', hM', hO', hb'⟩ := hrel
        have hsz : Hid (w.heap.size ≤ wr.heap.size) := hb'.out.size
        by_cases hlt2 : p < t.text.size
        · have n2 : (p : Int) < (t.text.size : Int) := by omega
          obtain ⟨x, hx⟩ : ∃ x, t.text[p]'hlt2 = x := ⟨_, rfl⟩
          have hlx : t.bytes[p]? = some x := by
            have e : t.text.data.toList[p]? = some (t.text[p]'hlt2) := by rw [Array.getElem?_toList]; exact Array.getElem?_eq_getElem _
            rw [hx] at e
            exact e
          have htk2 : Hid (t.bytes.take (p + 1) = t.bytes.take p ++ [x]) := by show _ = _; rw [List.take_add_one, hlx]; rfl
          have hE2 : Hid (endA aa (t.bytes.take (p + 1)) = stepA a' x) := by show _ = _; rw [htk2.out, endA_append, hE'.out]; rfl
          have hN2 : Hid (numsOf aa (t.bytes.take (p + 1)) = numsOf aa (t.bytes.take p) ++ stepN a' x) := by
            show _ = _
            rw [htk2.out, numsOf_append, hE'.out]
            congr 1
            simp [numsOf]
          have hM2 : Hid (m + (numsOf aa (t.bytes.take (p + 1))).length = m' + (stepN a' x).length) := by show _ = _; rw [hN2.out, List.length_append, ← hM'.out]; omega
          have hMb : Hid (m' + (stepN a' x).length ≤ 4294967299) := by
            show _ ≤ _
            rw [← hM2.out]
            have h1 := numsOf_len (t.bytes.take (p + 1)) aa
            have h2 : (t.bytes.take (p + 1)).length ≤ t.text.size := by rw [List.length_take, Tok.size]; omega
            have h3 : (if 0 < aa then 1 else 0) ≤ 1 := by split <;> omega
            have h4 := hcl.out
            rw [hM.out] at h4
            have h5 := hbyt.out
            omega
          have hDb : Hid (d' + 1 ≤ 4294967297) := by show _ ≤ _; have h1 := hDl'.out; have h5 := hbyt.out; omega
          obtain ⟨row, hrow⟩ : ∃ row, row = rowC (codesOf 0 (ts.take j) ++ toldBy t (numsOf aa (t.bytes.take p))) := ⟨_, rfl⟩
          have hR2 : Hid (rowC (codesOf 0 (ts.take j) ++ toldBy t (numsOf aa (t.bytes.take (p + 1)))) = row ++ rowC (toldBy t (stepN a' x))) := by show _ = _; rw [hN2.out, toldBy_append, ← List.append_assoc, rowC_append, hrow]
          rw [← hrow] at hO'
          obtain ⟨c0, c1, c2, c3⟩ := HC.out wr hb'.out
          clear hlx hrow
          by_cases hD : isD x = true
          · have hr := isD_range hD
            have d1 : decide ((85 : Int) ≤ (x.toNat : Int)) = true := decide_eq_true (by omega)
            have d2 : decide ((x.toNat : Int) ≤ 89) = true := decide_eq_true (by omega)
            have s1 : stepN a' x = [] := by unfold stepN; rw [if_pos hD]
            have s2 : stepA a' x = min (5 * a' + (x.toNat - 85) + 1) lim := by unfold stepA; rw [if_pos hD]
            have s1l : (stepN a' x).length = 0 := by rw [s1]; rfl
            rw [s1] at hR2
            rw [s1l, Nat.add_zero] at hM2
            rw [s2] at hE2
            have hR3 : Hid (rowC (codesOf 0 (ts.take j) ++ toldBy t (numsOf aa (t.bytes.take (p + 1)))) = row) := by show _ = _; rw [hR2.out]; exact List.append_nil _
            have ex : Hid ((x.toNat : Int) - 85 = ((x.toNat - 85 : Nat) : Int)) := by show _ = _; omega
            obtain ⟨y, hy⟩ : ∃ y, y = x.toNat - 85 := ⟨_, rfl⟩
            have hyx : Hid ((x.toNat : Int) - 85 = (y : Int)) := by show _ = _; rw [hy]; exact ex.out
            have hy5 : y < 5 := by omega
            rw [← hy] at hE2
            clear s1 s1l s2 hD hR2 ex hy
            by_cases hbig : 1125899906842624 < 5 * a' + y + 1
            · have d3 : decide ((1125899906842624 : Int) < 5 * (a' : Int) + ((x.toNat : Int) - 85) + 1) = true := decide_eq_true (by rw [hyx.out]; omega)
              have hE3 : Hid (endA aa (t.bytes.take (p + 1)) = 1125899906842624) := by show _ = _; rw [hE2.out]; exact Nat.min_eq_right (show lim ≤ _ from Nat.le_of_lt hbig)
              clear hbig hE2
              go_wp2
              refine ⟨⟨p + 1, m', 1125899906842624, d' + 1, ar', cap', by omega, hm', by omega, by have := hDb.out; omega, rfl, rfl, by go_num, by go_num, hE3.out, ?_, ?_, hM2.out, ?_, hb'.out⟩, by simp [intOf]; omega⟩
              · show d' + 1 ≤ _; have := hDl'.out; omega
              · exact ⟨fun _ => Nat.succ_pos _, fun _ => Nat.succ_pos _⟩
              · show World.ownsRow _ _ _ _ _ _ _; rw [hR3.out]; exact hO'.out
            · have d3 : decide ((1125899906842624 : Int) < 5 * (a' : Int) + ((x.toNat : Int) - 85) + 1) = false := decide_eq_false (by rw [hyx.out]; omega)
              have hE3 : Hid (endA aa (t.bytes.take (p + 1)) = 5 * a' + y + 1) := by show _ = _; rw [hE2.out]; exact Nat.min_eq_left (show _ ≤ lim from Nat.le_of_not_lt hbig)
              have hle : 5 * a' + y + 1 ≤ 1125899906842624 := by omega
              have HLE : Hid (5 * a' + y + 1 ≤ 1125899906842624) := hle
              clear hbig hE2 hle
              go_wp2
              refine ⟨⟨p + 1, m', 5 * a' + y + 1, d' + 1, ar', cap', by omega, hm', HLE.out, by have := hDb.out; omega, rfl, ?_, by go_num, by go_num, hE3.out, ?_, ?_, hM2.out, ?_, hb'.out⟩, by simp [intOf]; omega⟩
              · rw [hyx.out]; simp
              · show d' + 1 ≤ _; have := hDl'.out; omega
              · exact ⟨fun _ => Nat.succ_pos _, fun _ => Nat.succ_pos _⟩
              · show World.ownsRow _ _ _ _ _ _ _; rw [hR3.out]; exact hO'.out
          · have hD' : isD x = false := by simpa using hD
            have hDr : ¬ (85 ≤ x.toNat ∧ x.toNat ≤ 89) := by simpa [isD] using hD
            have hE3 : Hid (endA aa (t.bytes.take (p + 1)) = 0) := by show _ = _; rw [hE2.out]; unfold stepA; rw [hD']; rfl
            by_cases hL : isL x = true
            · have hr := isL_range hL
              have d1 : decide ((85 : Int) ≤ (x.toNat : Int)) = false := decide_eq_false (by omega)
              have d2 : decide ((65 : Int) ≤ (x.toNat : Int)) = true := decide_eq_true (by omega)
              have d3 : decide ((x.toNat : Int) ≤ 84) = true := decide_eq_true (by omega)
              obtain ⟨y, hy⟩ : ∃ y, y = x.toNat - 65 := ⟨_, rfl⟩
              have hyx : Hid ((x.toNat : Int) - 65 = (y : Int)) := by show _ = _; rw [hy]; omega
              have hy5 : y < 20 := by omega
              have s1 : stepN a' x = [((min (20 * a' + y) lim : Nat) : Int)] := by unfold stepN; rw [hD', hL, hy]; rfl
              have s1l : (stepN a' x).length = 1 := by rw [s1]; rfl
              rw [s1] at hR2
              rw [s1l] at hM2 hMb
              clear s1 s1l hD hD' hL hDr hy hE2
              have hMc : m' + 1 ≤ 4294967299 := hMb.out
              by_cases hbig : 1125899906842624 < 20 * a' + y
              · have d4 : decide ((1125899906842624 : Int) < 20 * (a' : Int) + ((x.toNat : Int) - 65)) = true := decide_eq_true (by rw [hyx.out]; omega)
                have hv : Hid (((min (20 * a' + y) lim : Nat) : Int) = 1125899906842624) := by show _ = _; unfold lim; omega
                have hR3 : Hid (rowC (codesOf 0 (ts.take j) ++ toldBy t (numsOf aa (t.bytes.take (p + 1)))) = row ++ rowC [((1125899906842624 : Int), t)]) := by show _ = _; rw [hR2.out, hv.out]; rfl
                clear hbig
                go_wp2_with (at_builtin; refine wpList_append_more (w := wr.alloc (.cells #[.int .i64 1125899906842624, .string t.text, .int .i64 t.off, .int .i64 t.line, .int .i64 t.col] 51)) rfl _ _ _ rfl w.heap.size 51 i0 _ 5 48 Tryd.underlying37 hi0 hz0 hz1 hz3 rfl (by omega) _ (m') (row) (by rfl) (by exact hO'.out.alloc _) (some ⟨wr.heap.size, 0, none⟩) 1 1 (rowC [(1125899906842624, t)]) (by rfl) (by rfl) (by intro i u hu; refine ⟨_, rfl, ?_⟩; exact World.news_of_block (cs := #[.int .i64 1125899906842624, .string t.text, .int .i64 t.off, .int .i64 t.line, .int .i64 t.col]) (t := 51) (fr := (0, 0)) (heap_alloc_new wr _) i u hu) (by simp [tokCells, rowC, codeCells, Value.oneCell']) (by unfold maxLen; omega) (by omega) (by have := hsz.out; simp; omega) ?_; intro a9 c9 w9 ho9 hb9; have HO9 : Hid (w9.ownsRow w.heap.size 51 5 (.slice a9 (m' + 1) c9) (m' + 1) (row ++ rowC [(1125899906842624, t)])) := ho9; have HB9 : Hid (Below w.heap.size w w9) := (hb'.out.alloc hsz.out _).trans hb9; clear ho9 hb9)
                go_wp2
                exact ⟨⟨p + 1, m' + 1, 0, 0, a9, c9, by omega, by omega, by omega, by omega, rfl, rfl, rfl, by go_num, hE3.out, Nat.zero_le _, Iff.rfl, hM2.out, by show World.ownsRow _ _ _ _ _ _ _; rw [hR3.out]; exact HO9.out, HB9.out⟩, by simp [intOf]; omega⟩
              · have d4 : decide ((1125899906842624 : Int) < 20 * (a' : Int) + ((x.toNat : Int) - 65)) = false := decide_eq_false (by rw [hyx.out]; omega)
                have hv : Hid (((min (20 * a' + y) lim : Nat) : Int) = 20 * (a' : Int) + ((x.toNat : Int) - 65)) := by show _ = _; rw [hyx.out]; unfold lim; omega
                have hR3 : Hid (rowC (codesOf 0 (ts.take j) ++ toldBy t (numsOf aa (t.bytes.take (p + 1)))) = row ++ rowC [(20 * (a' : Int) + ((x.toNat : Int) - 65), t)]) := by show _ = _; rw [hR2.out, hv.out]; rfl
                clear hbig
                go_wp2_with (at_builtin; refine wpList_append_more (w := wr.alloc (.cells #[.int .i64 (20 * (a' : Int) + ((x.toNat : Int) - 65)), .string t.text, .int .i64 t.off, .int .i64 t.line, .int .i64 t.col] 51)) rfl _ _ _ rfl w.heap.size 51 i0 _ 5 48 Tryd.underlying37 hi0 hz0 hz1 hz3 rfl (by omega) _ (m') (row) (by rfl) (by exact hO'.out.alloc _) (some ⟨wr.heap.size, 0, none⟩) 1 1 (rowC [((20 * (a' : Int) + ((x.toNat : Int) - 65)), t)]) (by rfl) (by rfl) (by intro i u hu; refine ⟨_, rfl, ?_⟩; exact World.news_of_block (cs := #[.int .i64 (20 * (a' : Int) + ((x.toNat : Int) - 65)), .string t.text, .int .i64 t.off, .int .i64 t.line, .int .i64 t.col]) (t := 51) (fr := (0, 0)) (heap_alloc_new wr _) i u hu) (by simp [tokCells, rowC, codeCells, Value.oneCell']) (by unfold maxLen; omega) (by omega) (by have := hsz.out; simp; omega) ?_; intro a9 c9 w9 ho9 hb9; have HO9 : Hid (w9.ownsRow w.heap.size 51 5 (.slice a9 (m' + 1) c9) (m' + 1) (row ++ rowC [((20 * (a' : Int) + ((x.toNat : Int) - 65)), t)])) := ho9; have HB9 : Hid (Below w.heap.size w w9) := (hb'.out.alloc hsz.out _).trans hb9; clear ho9 hb9)
                go_wp2
                exact ⟨⟨p + 1, m' + 1, 0, 0, a9, c9, by omega, by omega, by omega, by omega, rfl, rfl, rfl, by go_num, hE3.out, Nat.zero_le _, Iff.rfl, hM2.out, by show World.ownsRow _ _ _ _ _ _ _; rw [hR3.out]; exact HO9.out, HB9.out⟩, by simp [intOf]; omega⟩
            · have hL' : isL x = false := by simpa using hL
              have hLr : ¬ (65 ≤ x.toNat ∧ x.toNat ≤ 84) := by simpa [isL] using hL
              have W1 : (decide ((85 : Int) ≤ (x.toNat : Int)) = false ∧ decide ((65 : Int) ≤ (x.toNat : Int)) = false) ∨ (decide ((85 : Int) ≤ (x.toNat : Int)) = true ∧ decide ((x.toNat : Int) ≤ 89) = false ∧ decide ((65 : Int) ≤ (x.toNat : Int)) = true ∧ decide ((x.toNat : Int) ≤ 84) = false) := by
                by_cases h1 : 85 ≤ x.toNat
                · exact .inr ⟨decide_eq_true (by omega), decide_eq_false (by omega), decide_eq_true (by omega), decide_eq_false (by omega)⟩
                · exact .inl ⟨decide_eq_false (by omega), decide_eq_false (by omega)⟩
              have s1 : stepN a' x = (if 0 < a' then [-3] else []) ++ [aloneN x] := by unfold stepN; rw [hD', hL']; rfl
              rw [s1] at hR2
              have HX : Hid (aloneN x = if x.toNat = 90 then -1 else if x.toNat = 63 then -2 else -3) := rfl
              have s2l : (stepN a' x).length = (if 0 < a' then 2 else 1) := by rw [s1]; split <;> rfl
              rw [s2l] at hM2 hMb
              clear s1 s2l hD hD' hL hL' hDr hLr hE2
              obtain ⟨z, hz⟩ : ∃ z, z = aloneN x := ⟨_, rfl⟩
              rw [← hz] at hR2
              have ZZ : (z = -1 ∧ ((x.toNat : Int) == 90) = true ∧ ((x.toNat : Int) == 63) = false) ∨ (z = -2 ∧ ((x.toNat : Int) == 90) = false ∧ ((x.toNat : Int) == 63) = true) ∨ (z = -3 ∧ ((x.toNat : Int) == 90) = false ∧ ((x.toNat : Int) == 63) = false) := by
                rw [hz, HX.out]
                by_cases h90 : x.toNat = 90
                · left; rw [if_pos h90, h90]; exact ⟨rfl, rfl, rfl⟩
                · by_cases h63 : x.toNat = 63
                  · right; left; rw [if_neg h90, if_pos h63, h63]; exact ⟨rfl, rfl, rfl⟩
                  · right; right; rw [if_neg h90, if_neg h63]; exact ⟨rfl, beq_eq_false_iff_ne.2 (by omega), beq_eq_false_iff_ne.2 (by omega)⟩
              clear hz HX
              by_cases hd0 : 0 < d'
              · have g1 : (0 : Int) < (d' : Int) := by omega
                have ha0 : 0 < a' := hDA'.out.1 hd0
                rw [if_pos ha0] at hR2 hM2 hMb
                have hMc : m' + 2 ≤ 4294967299 := hMb.out
                have hR3 : Hid (rowC (codesOf 0 (ts.take j) ++ toldBy t (numsOf aa (t.bytes.take (p + 1)))) = row ++ rowC [((-3 : Int), t)] ++ rowC [(z, t)]) := by show _ = _; rw [hR2.out, List.append_assoc]; rfl
                clear ha0 hR2
                rcases W1 with ⟨w1, w2⟩ | ⟨w1, w1', w2, w2'⟩ <;> rcases ZZ with ⟨rfl, b1, b2⟩ | ⟨rfl, b1, b2⟩ | ⟨rfl, b1, b2⟩
                · go_wp2_with (at_builtin; first | (refine wpList_append_more (w := w9.alloc (.cells #[.int .i64 (-1), .string t.text, .int .i64 t.off, .int .i64 t.line, .int .i64 t.col] 51)) rfl _ _ _ rfl w.heap.size 51 i0 _ 5 48 Tryd.underlying37 hi0 hz0 hz1 hz3 rfl (by omega) _ (m' + 1) (row ++ rowC [((-3 : Int), t)]) (by rfl) (by exact HO9.out.alloc _) (some ⟨w9.heap.size, 0, none⟩) 1 1 (rowC [((-1), t)]) (by rfl) (by rfl) (by intro i u hu; refine ⟨_, rfl, ?_⟩; exact World.news_of_block (cs := #[.int .i64 (-1), .string t.text, .int .i64 t.off, .int .i64 t.line, .int .i64 t.col]) (t := 51) (fr := (0, 0)) (heap_alloc_new w9 _) i u hu) (by simp [tokCells, rowC, codeCells, Value.oneCell']) (by unfold maxLen; omega) (by omega) (by have := hsz9.out; simp; omega) ?_; intro a8 c8 w8 ho8 hb8; have HO8 : Hid (w8.ownsRow w.heap.size 51 5 (.slice a8 (m' + 1 + 1) c8) (m' + 1 + 1) (row ++ rowC [((-3 : Int), t)] ++ rowC [((-1), t)])) := ho8; have HB8 : Hid (Below w.heap.size w w8) := (HB9.out.alloc hsz9.out _).trans hb8; clear ho8 hb8) | (refine wpList_append_more (w := wr.alloc (.cells #[.int .i64 (-3), .string t.text, .int .i64 t.off, .int .i64 t.line, .int .i64 t.col] 51)) rfl _ _ _ rfl w.heap.size 51 i0 _ 5 48 Tryd.underlying37 hi0 hz0 hz1 hz3 rfl (by omega) _ (m') (row) (by rfl) (by exact hO'.out.alloc _) (some ⟨wr.heap.size, 0, none⟩) 1 1 (rowC [((-3), t)]) (by rfl) (by rfl) (by intro i u hu; refine ⟨_, rfl, ?_⟩; exact World.news_of_block (cs := #[.int .i64 (-3), .string t.text, .int .i64 t.off, .int .i64 t.line, .int .i64 t.col]) (t := 51) (fr := (0, 0)) (heap_alloc_new wr _) i u hu) (by simp [tokCells, rowC, codeCells, Value.oneCell']) (by unfold maxLen; omega) (by omega) (by have := hsz.out; simp; omega) ?_; intro a9 c9 w9 ho9 hb9; have HO9 : Hid (w9.ownsRow w.heap.size 51 5 (.slice a9 (m' + 1) c9) (m' + 1) (row ++ rowC [((-3), t)])) := ho9; have HB9 : Hid (Below w.heap.size w w9) := (hb'.out.alloc hsz.out _).trans hb9; clear ho9 hb9; have hsz9 : Hid (w.heap.size ≤ w9.heap.size) := HB9.out.size; obtain ⟨u0, u1, u2, u3⟩ := HC.out w9 HB9.out))
                  go_wp2
                  exact ⟨⟨p + 1, m' + 1 + 1, 0, 0, a8, c8, by omega, by omega, by omega, by omega, rfl, rfl, rfl, by go_num, hE3.out, Nat.zero_le _, Iff.rfl, hM2.out, by show World.ownsRow _ _ _ _ _ _ _; rw [hR3.out]; exact HO8.out, HB8.out⟩, by simp [intOf]; omega⟩
                · go_wp2_with (at_builtin; first | (refine wpList_append_more (w := w9.alloc (.cells #[.int .i64 (-2), .string t.text, .int .i64 t.off, .int .i64 t.line, .int .i64 t.col] 51)) rfl _ _ _ rfl w.heap.size 51 i0 _ 5 48 Tryd.underlying37 hi0 hz0 hz1 hz3 rfl (by omega) _ (m' + 1) (row ++ rowC [((-3 : Int), t)]) (by rfl) (by exact HO9.out.alloc _) (some ⟨w9.heap.size, 0, none⟩) 1 1 (rowC [((-2), t)]) (by rfl) (by rfl) (by intro i u hu; refine ⟨_, rfl, ?_⟩; exact World.news_of_block (cs := #[.int .i64 (-2), .string t.text, .int .i64 t.off, .int .i64 t.line, .int .i64 t.col]) (t := 51) (fr := (0, 0)) (heap_alloc_new w9 _) i u hu) (by simp [tokCells, rowC, codeCells, Value.oneCell']) (by unfold maxLen; omega) (by omega) (by have := hsz9.out; simp; omega) ?_; intro a8 c8 w8 ho8 hb8; have HO8 : Hid (w8.ownsRow w.heap.size 51 5 (.slice a8 (m' + 1 + 1) c8) (m' + 1 + 1) (row ++ rowC [((-3 : Int), t)] ++ rowC [((-2), t)])) := ho8; have HB8 : Hid (Below w.heap.size w w8) := (HB9.out.alloc hsz9.out _).trans hb8; clear ho8 hb8) | (refine wpList_append_more (w := wr.alloc (.cells #[.int .i64 (-3), .string t.text, .int .i64 t.off, .int .i64 t.line, .int .i64 t.col] 51)) rfl _ _ _ rfl w.heap.size 51 i0 _ 5 48 Tryd.underlying37 hi0 hz0 hz1 hz3 rfl (by omega) _ (m') (row) (by rfl) (by exact hO'.out.alloc _) (some ⟨wr.heap.size, 0, none⟩) 1 1 (rowC [((-3), t)]) (by rfl) (by rfl) (by intro i u hu; refine ⟨_, rfl, ?_⟩; exact World.news_of_block (cs := #[.int .i64 (-3), .string t.text, .int .i64 t.off, .int .i64 t.line, .int .i64 t.col]) (t := 51) (fr := (0, 0)) (heap_alloc_new wr _) i u hu) (by simp [tokCells, rowC, codeCells, Value.oneCell']) (by unfold maxLen; omega) (by omega) (by have := hsz.out; simp; omega) ?_; intro a9 c9 w9 ho9 hb9; have HO9 : Hid (w9.ownsRow w.heap.size 51 5 (.slice a9 (m' + 1) c9) (m' + 1) (row ++ rowC [((-3), t)])) := ho9; have HB9 : Hid (Below w.heap.size w w9) := (hb'.out.alloc hsz.out _).trans hb9; clear ho9 hb9; have hsz9 : Hid (w.heap.size ≤ w9.heap.size) := HB9.out.size; obtain ⟨u0, u1, u2, u3⟩ := HC.out w9 HB9.out))
                  go_wp2
                  exact ⟨⟨p + 1, m' + 1 + 1, 0, 0, a8, c8, by omega, by omega, by omega, by omega, rfl, rfl, rfl, by go_num, hE3.out, Nat.zero_le _, Iff.rfl, hM2.out, by show World.ownsRow _ _ _ _ _ _ _; rw [hR3.out]; exact HO8.out, HB8.out⟩, by simp [intOf]; omega⟩
                · go_wp2_with (at_builtin; first | (refine wpList_append_more (w := w9.alloc (.cells #[.int .i64 (-3), .string t.text, .int .i64 t.off, .int .i64 t.line, .int .i64 t.col] 51)) rfl _ _ _ rfl w.heap.size 51 i0 _ 5 48 Tryd.underlying37 hi0 hz0 hz1 hz3 rfl (by omega) _ (m' + 1) (row ++ rowC [((-3 : Int), t)]) (by rfl) (by exact HO9.out.alloc _) (some ⟨w9.heap.size, 0, none⟩) 1 1 (rowC [((-3), t)]) (by rfl) (by rfl) (by intro i u hu; refine ⟨_, rfl, ?_⟩; exact World.news_of_block (cs := #[.int .i64 (-3), .string t.text, .int .i64 t.off, .int .i64 t.line, .int .i64 t.col]) (t := 51) (fr := (0, 0)) (heap_alloc_new w9 _) i u hu) (by simp [tokCells, rowC, codeCells, Value.oneCell']) (by unfold maxLen; omega) (by omega) (by have := hsz9.out; simp; omega) ?_; intro a8 c8 w8 ho8 hb8; have HO8 : Hid (w8.ownsRow w.heap.size 51 5 (.slice a8 (m' + 1 + 1) c8) (m' + 1 + 1) (row ++ rowC [((-3 : Int), t)] ++ rowC [((-3), t)])) := ho8; have HB8 : Hid (Below w.heap.size w w8) := (HB9.out.alloc hsz9.out _).trans hb8; clear ho8 hb8) | (refine wpList_append_more (w := wr.alloc (.cells #[.int .i64 (-3), .string t.text, .int .i64 t.off, .int .i64 t.line, .int .i64 t.col] 51)) rfl _ _ _ rfl w.heap.size 51 i0 _ 5 48 Tryd.underlying37 hi0 hz0 hz1 hz3 rfl (by omega) _ (m') (row) (by rfl) (by exact hO'.out.alloc _) (some ⟨wr.heap.size, 0, none⟩) 1 1 (rowC [((-3), t)]) (by rfl) (by rfl) (by intro i u hu; refine ⟨_, rfl, ?_⟩; exact World.news_of_block (cs := #[.int .i64 (-3), .string t.text, .int .i64 t.off, .int .i64 t.line, .int .i64 t.col]) (t := 51) (fr := (0, 0)) (heap_alloc_new wr _) i u hu) (by simp [tokCells, rowC, codeCells, Value.oneCell']) (by unfold maxLen; omega) (by omega) (by have := hsz.out; simp; omega) ?_; intro a9 c9 w9 ho9 hb9; have HO9 : Hid (w9.ownsRow w.heap.size 51 5 (.slice a9 (m' + 1) c9) (m' + 1) (row ++ rowC [((-3), t)])) := ho9; have HB9 : Hid (Below w.heap.size w w9) := (hb'.out.alloc hsz.out _).trans hb9; clear ho9 hb9; have hsz9 : Hid (w.heap.size ≤ w9.heap.size) := HB9.out.size; obtain ⟨u0, u1, u2, u3⟩ := HC.out w9 HB9.out))
                  go_wp2
                  exact ⟨⟨p + 1, m' + 1 + 1, 0, 0, a8, c8, by omega, by omega, by omega, by omega, rfl, rfl, rfl, by go_num, hE3.out, Nat.zero_le _, Iff.rfl, hM2.out, by show World.ownsRow _ _ _ _ _ _ _; rw [hR3.out]; exact HO8.out, HB8.out⟩, by simp [intOf]; omega⟩
                · go_wp2_with (at_builtin; first | (refine wpList_append_more (w := w9.alloc (.cells #[.int .i64 (-1), .string t.text, .int .i64 t.off, .int .i64 t.line, .int .i64 t.col] 51)) rfl _ _ _ rfl w.heap.size 51 i0 _ 5 48 Tryd.underlying37 hi0 hz0 hz1 hz3 rfl (by omega) _ (m' + 1) (row ++ rowC [((-3 : Int), t)]) (by rfl) (by exact HO9.out.alloc _) (some ⟨w9.heap.size, 0, none⟩) 1 1 (rowC [((-1), t)]) (by rfl) (by rfl) (by intro i u hu; refine ⟨_, rfl, ?_⟩; exact World.news_of_block (cs := #[.int .i64 (-1), .string t.text, .int .i64 t.off, .int .i64 t.line, .int .i64 t.col]) (t := 51) (fr := (0, 0)) (heap_alloc_new w9 _) i u hu) (by simp [tokCells, rowC, codeCells, Value.oneCell']) (by unfold maxLen; omega) (by omega) (by have := hsz9.out; simp; omega) ?_; intro a8 c8 w8 ho8 hb8; have HO8 : Hid (w8.ownsRow w.heap.size 51 5 (.slice a8 (m' + 1 + 1) c8) (m' + 1 + 1) (row ++ rowC [((-3 : Int), t)] ++ rowC [((-1), t)])) := ho8; have HB8 : Hid (Below w.heap.size w w8) := (HB9.out.alloc hsz9.out _).trans hb8; clear ho8 hb8) | (refine wpList_append_more (w := wr.alloc (.cells #[.int .i64 (-3), .string t.text, .int .i64 t.off, .int .i64 t.line, .int .i64 t.col] 51)) rfl _ _ _ rfl w.heap.size 51 i0 _ 5 48 Tryd.underlying37 hi0 hz0 hz1 hz3 rfl (by omega) _ (m') (row) (by rfl) (by exact hO'.out.alloc _) (some ⟨wr.heap.size, 0, none⟩) 1 1 (rowC [((-3), t)]) (by rfl) (by rfl) (by intro i u hu; refine ⟨_, rfl, ?_⟩; exact World.news_of_block (cs := #[.int .i64 (-3), .string t.text, .int .i64 t.off, .int .i64 t.line, .int .i64 t.col]) (t := 51) (fr := (0, 0)) (heap_alloc_new wr _) i u hu) (by simp [tokCells, rowC, codeCells, Value.oneCell']) (by unfold maxLen; omega) (by omega) (by have := hsz.out; simp; omega) ?_; intro a9 c9 w9 ho9 hb9; have HO9 : Hid (w9.ownsRow w.heap.size 51 5 (.slice a9 (m' + 1) c9) (m' + 1) (row ++ rowC [((-3), t)])) := ho9; have HB9 : Hid (Below w.heap.size w w9) := (hb'.out.alloc hsz.out _).trans hb9; clear ho9 hb9; have hsz9 : Hid (w.heap.size ≤ w9.heap.size) := HB9.out.size; obtain ⟨u0, u1, u2, u3⟩ := HC.out w9 HB9.out))
                  go_wp2
                  exact ⟨⟨p + 1, m' + 1 + 1, 0, 0, a8, c8, by omega, by omega, by omega, by omega, rfl, rfl, rfl, by go_num, hE3.out, Nat.zero_le _, Iff.rfl, hM2.out, by show World.ownsRow _ _ _ _ _ _ _; rw [hR3.out]; exact HO8.out, HB8.out⟩, by simp [intOf]; omega⟩
                · go_wp2_with (at_builtin; first | (refine wpList_append_more (w := w9.alloc (.cells #[.int .i64 (-2), .string t.text, .int .i64 t.off, .int .i64 t.line, .int .i64 t.col] 51)) rfl _ _ _ rfl w.heap.size 51 i0 _ 5 48 Tryd.underlying37 hi0 hz0 hz1 hz3 rfl (by omega) _ (m' + 1) (row ++ rowC [((-3 : Int), t)]) (by rfl) (by exact HO9.out.alloc _) (some ⟨w9.heap.size, 0, none⟩) 1 1 (rowC [((-2), t)]) (by rfl) (by rfl) (by intro i u hu; refine ⟨_, rfl, ?_⟩; exact World.news_of_block (cs := #[.int .i64 (-2), .string t.text, .int .i64 t.off, .int .i64 t.line, .int .i64 t.col]) (t := 51) (fr := (0, 0)) (heap_alloc_new w9 _) i u hu) (by simp [tokCells, rowC, codeCells, Value.oneCell']) (by unfold maxLen; omega) (by omega) (by have := hsz9.out; simp; omega) ?_; intro a8 c8 w8 ho8 hb8; have HO8 : Hid (w8.ownsRow w.heap.size 51 5 (.slice a8 (m' + 1 + 1) c8) (m' + 1 + 1) (row ++ rowC [((-3 : Int), t)] ++ rowC [((-2), t)])) := ho8; have HB8 : Hid (Below w.heap.size w w8) := (HB9.out.alloc hsz9.out _).trans hb8; clear ho8 hb8) | (refine wpList_append_more (w := wr.alloc (.cells #[.int .i64 (-3), .string t.text, .int .i64 t.off, .int .i64 t.line, .int .i64 t.col] 51)) rfl _ _ _ rfl w.heap.size 51 i0 _ 5 48 Tryd.underlying37 hi0 hz0 hz1 hz3 rfl (by omega) _ (m') (row) (by rfl) (by exact hO'.out.alloc _) (some ⟨wr.heap.size, 0, none⟩) 1 1 (rowC [((-3), t)]) (by rfl) (by rfl) (by intro i u hu; refine ⟨_, rfl, ?_⟩; exact World.news_of_block (cs := #[.int .i64 (-3), .string t.text, .int .i64 t.off, .int .i64 t.line, .int .i64 t.col]) (t := 51) (fr := (0, 0)) (heap_alloc_new wr _) i u hu) (by simp [tokCells, rowC, codeCells, Value.oneCell']) (by unfold maxLen; omega) (by omega) (by have := hsz.out; simp; omega) ?_; intro a9 c9 w9 ho9 hb9; have HO9 : Hid (w9.ownsRow w.heap.size 51 5 (.slice a9 (m' + 1) c9) (m' + 1) (row ++ rowC [((-3), t)])) := ho9; have HB9 : Hid (Below w.heap.size w w9) := (hb'.out.alloc hsz.out _).trans hb9; clear ho9 hb9; have hsz9 : Hid (w.heap.size ≤ w9.heap.size) := HB9.out.size; obtain ⟨u0, u1, u2, u3⟩ := HC.out w9 HB9.out))
                  go_wp2
                  exact ⟨⟨p + 1, m' + 1 + 1, 0, 0, a8, c8, by omega, by omega, by omega, by omega, rfl, rfl, rfl, by go_num, hE3.out, Nat.zero_le _, Iff.rfl, hM2.out, by show World.ownsRow _ _ _ _ _ _ _; rw [hR3.out]; exact HO8.out, HB8.out⟩, by simp [intOf]; omega⟩
                · go_wp2_with (at_builtin; first | (refine wpList_append_more (w := w9.alloc (.cells #[.int .i64 (-3), .string t.text, .int .i64 t.off, .int .i64 t.line, .int .i64 t.col] 51)) rfl _ _ _ rfl w.heap.size 51 i0 _ 5 48 Tryd.underlying37 hi0 hz0 hz1 hz3 rfl (by omega) _ (m' + 1) (row ++ rowC [((-3 : Int), t)]) (by rfl) (by exact HO9.out.alloc _) (some ⟨w9.heap.size, 0, none⟩) 1 1 (rowC [((-3), t)]) (by rfl) (by rfl) (by intro i u hu; refine ⟨_, rfl, ?_⟩; exact World.news_of_block (cs := #[.int .i64 (-3), .string t.text, .int .i64 t.off, .int .i64 t.line, .int .i64 t.col]) (t := 51) (fr := (0, 0)) (heap_alloc_new w9 _) i u hu) (by simp [tokCells, rowC, codeCells, Value.oneCell']) (by unfold maxLen; omega) (by omega) (by have := hsz9.out; simp; omega) ?_; intro a8 c8 w8 ho8 hb8; have HO8 : Hid (w8.ownsRow w.heap.size 51 5 (.slice a8 (m' + 1 + 1) c8) (m' + 1 + 1) (row ++ rowC [((-3 : Int), t)] ++ rowC [((-3), t)])) := ho8; have HB8 : Hid (Below w.heap.size w w8) := (HB9.out.alloc hsz9.out _).trans hb8; clear ho8 hb8) | (refine wpList_append_more (w := wr.alloc (.cells #[.int .i64 (-3), .string t.text, .int .i64 t.off, .int .i64 t.line, .int .i64 t.col] 51)) rfl _ _ _ rfl w.heap.size 51 i0 _ 5 48 Tryd.underlying37 hi0 hz0 hz1 hz3 rfl (by omega) _ (m') (row) (by rfl) (by exact hO'.out.alloc _) (some ⟨wr.heap.size, 0, none⟩) 1 1 (rowC [((-3), t)]) (by rfl) (by rfl) (by intro i u hu; refine ⟨_, rfl, ?_⟩; exact World.news_of_block (cs := #[.int .i64 (-3), .string t.text, .int .i64 t.off, .int .i64 t.line, .int .i64 t.col]) (t := 51) (fr := (0, 0)) (heap_alloc_new wr _) i u hu) (by simp [tokCells, rowC, codeCells, Value.oneCell']) (by unfold maxLen; omega) (by omega) (by have := hsz.out; simp; omega) ?_; intro a9 c9 w9 ho9 hb9; have HO9 : Hid (w9.ownsRow w.heap.size 51 5 (.slice a9 (m' + 1) c9) (m' + 1) (row ++ rowC [((-3), t)])) := ho9; have HB9 : Hid (Below w.heap.size w w9) := (hb'.out.alloc hsz.out _).trans hb9; clear ho9 hb9; have hsz9 : Hid (w.heap.size ≤ w9.heap.size) := HB9.out.size; obtain ⟨u0, u1, u2, u3⟩ := HC.out w9 HB9.out))
                  go_wp2
                  exact ⟨⟨p + 1, m' + 1 + 1, 0, 0, a8, c8, by omega, by omega, by omega, by omega, rfl, rfl, rfl, by go_num, hE3.out, Nat.zero_le _, Iff.rfl, hM2.out, by show World.ownsRow _ _ _ _ _ _ _; rw [hR3.out]; exact HO8.out, HB8.out⟩, by simp [intOf]; omega⟩
              · have g1 : ¬ (0 : Int) < (d' : Int) := by omega
                have ha0 : ¬ 0 < a' := fun h => hd0 (hDA'.out.2 h)
                rw [if_neg ha0] at hR2 hM2 hMb
                have hMc : m' + 1 ≤ 4294967299 := hMb.out
                have hR3 : Hid (rowC (codesOf 0 (ts.take j) ++ toldBy t (numsOf aa (t.bytes.take (p + 1)))) = row ++ rowC [(z, t)]) := by show _ = _; rw [hR2.out]; rfl
                clear ha0 hR2
                rcases W1 with ⟨w1, w2⟩ | ⟨w1, w1', w2, w2'⟩ <;> rcases ZZ with ⟨rfl, b1, b2⟩ | ⟨rfl, b1, b2⟩ | ⟨rfl, b1, b2⟩
                · go_wp2_with (at_builtin; refine wpList_append_more (w := wr.alloc (.cells #[.int .i64 (-1), .string t.text, .int .i64 t.off, .int .i64 t.line, .int .i64 t.col] 51)) rfl _ _ _ rfl w.heap.size 51 i0 _ 5 48 Tryd.underlying37 hi0 hz0 hz1 hz3 rfl (by omega) _ (m') (row) (by rfl) (by exact hO'.out.alloc _) (some ⟨wr.heap.size, 0, none⟩) 1 1 (rowC [((-1), t)]) (by rfl) (by rfl) (by intro i u hu; refine ⟨_, rfl, ?_⟩; exact World.news_of_block (cs := #[.int .i64 (-1), .string t.text, .int .i64 t.off, .int .i64 t.line, .int .i64 t.col]) (t := 51) (fr := (0, 0)) (heap_alloc_new wr _) i u hu) (by simp [tokCells, rowC, codeCells, Value.oneCell']) (by unfold maxLen; omega) (by omega) (by have := hsz.out; simp; omega) ?_; intro a8 c8 w8 ho8 hb8; have HO8 : Hid (w8.ownsRow w.heap.size 51 5 (.slice a8 (m' + 1) c8) (m' + 1) (row ++ rowC [((-1), t)])) := ho8; have HB8 : Hid (Below w.heap.size w w8) := (hb'.out.alloc hsz.out _).trans hb8; clear ho8 hb8)
                  go_wp2
                  exact ⟨⟨p + 1, m' + 1, 0, 0, a8, c8, by omega, by omega, by omega, by omega, rfl, rfl, rfl, by go_num, hE3.out, Nat.zero_le _, Iff.rfl, hM2.out, by show World.ownsRow _ _ _ _ _ _ _; rw [hR3.out]; exact HO8.out, HB8.out⟩, by simp [intOf]; omega⟩
                · go_wp2_with (at_builtin; refine wpList_append_more (w := wr.alloc (.cells #[.int .i64 (-2), .string t.text, .int .i64 t.off, .int .i64 t.line, .int .i64 t.col] 51)) rfl _ _ _ rfl w.heap.size 51 i0 _ 5 48 Tryd.underlying37 hi0 hz0 hz1 hz3 rfl (by omega) _ (m') (row) (by rfl) (by exact hO'.out.alloc _) (some ⟨wr.heap.size, 0, none⟩) 1 1 (rowC [((-2), t)]) (by rfl) (by rfl) (by intro i u hu; refine ⟨_, rfl, ?_⟩; exact World.news_of_block (cs := #[.int .i64 (-2), .string t.text, .int .i64 t.off, .int .i64 t.line, .int .i64 t.col]) (t := 51) (fr := (0, 0)) (heap_alloc_new wr _) i u hu) (by simp [tokCells, rowC, codeCells, Value.oneCell']) (by unfold maxLen; omega) (by omega) (by have := hsz.out; simp; omega) ?_; intro a8 c8 w8 ho8 hb8; have HO8 : Hid (w8.ownsRow w.heap.size 51 5 (.slice a8 (m' + 1) c8) (m' + 1) (row ++ rowC [((-2), t)])) := ho8; have HB8 : Hid (Below w.heap.size w w8) := (hb'.out.alloc hsz.out _).trans hb8; clear ho8 hb8)
                  go_wp2
                  exact ⟨⟨p + 1, m' + 1, 0, 0, a8, c8, by omega, by omega, by omega, by omega, rfl, rfl, rfl, by go_num, hE3.out, Nat.zero_le _, Iff.rfl, hM2.out, by show World.ownsRow _ _ _ _ _ _ _; rw [hR3.out]; exact HO8.out, HB8.out⟩, by simp [intOf]; omega⟩
                · go_wp2_with (at_builtin; refine wpList_append_more (w := wr.alloc (.cells #[.int .i64 (-3), .string t.text, .int .i64 t.off, .int .i64 t.line, .int .i64 t.col] 51)) rfl _ _ _ rfl w.heap.size 51 i0 _ 5 48 Tryd.underlying37 hi0 hz0 hz1 hz3 rfl (by omega) _ (m') (row) (by rfl) (by exact hO'.out.alloc _) (some ⟨wr.heap.size, 0, none⟩) 1 1 (rowC [((-3), t)]) (by rfl) (by rfl) (by intro i u hu; refine ⟨_, rfl, ?_⟩; exact World.news_of_block (cs := #[.int .i64 (-3), .string t.text, .int .i64 t.off, .int .i64 t.line, .int .i64 t.col]) (t := 51) (fr := (0, 0)) (heap_alloc_new wr _) i u hu) (by simp [tokCells, rowC, codeCells, Value.oneCell']) (by unfold maxLen; omega) (by omega) (by have := hsz.out; simp; omega) ?_; intro a8 c8 w8 ho8 hb8; have HO8 : Hid (w8.ownsRow w.heap.size 51 5 (.slice a8 (m' + 1) c8) (m' + 1) (row ++ rowC [((-3), t)])) := ho8; have HB8 : Hid (Below w.heap.size w w8) := (hb'.out.alloc hsz.out _).trans hb8; clear ho8 hb8)
                  go_wp2
                  exact ⟨⟨p + 1, m' + 1, 0, 0, a8, c8, by omega, by omega, by omega, by omega, rfl, rfl, rfl, by go_num, hE3.out, Nat.zero_le _, Iff.rfl, hM2.out, by show World.ownsRow _ _ _ _ _ _ _; rw [hR3.out]; exact HO8.out, HB8.out⟩, by simp [intOf]; omega⟩
                · go_wp2_with (at_builtin; refine wpList_append_more (w := wr.alloc (.cells #[.int .i64 (-1), .string t.text, .int .i64 t.off, .int .i64 t.line, .int .i64 t.col] 51)) rfl _ _ _ rfl w.heap.size 51 i0 _ 5 48 Tryd.underlying37 hi0 hz0 hz1 hz3 rfl (by omega) _ (m') (row) (by rfl) (by exact hO'.out.alloc _) (some ⟨wr.heap.size, 0, none⟩) 1 1 (rowC [((-1), t)]) (by rfl) (by rfl) (by intro i u hu; refine ⟨_, rfl, ?_⟩; exact World.news_of_block (cs := #[.int .i64 (-1), .string t.text, .int .i64 t.off, .int .i64 t.line, .int .i64 t.col]) (t := 51) (fr := (0, 0)) (heap_alloc_new wr _) i u hu) (by simp [tokCells, rowC, codeCells, Value.oneCell']) (by unfold maxLen; omega) (by omega) (by have := hsz.out; simp; omega) ?_; intro a8 c8 w8 ho8 hb8; have HO8 : Hid (w8.ownsRow w.heap.size 51 5 (.slice a8 (m' + 1) c8) (m' + 1) (row ++ rowC [((-1), t)])) := ho8; have HB8 : Hid (Below w.heap.size w w8) := (hb'.out.alloc hsz.out _).trans hb8; clear ho8 hb8)
                  go_wp2
                  exact ⟨⟨p + 1, m' + 1, 0, 0, a8, c8, by omega, by omega, by omega, by omega, rfl, rfl, rfl, by go_num, hE3.out, Nat.zero_le _, Iff.rfl, hM2.out, by show World.ownsRow _ _ _ _ _ _ _; rw [hR3.out]; exact HO8.out, HB8.out⟩, by simp [intOf]; omega⟩
                · go_wp2_with (at_builtin; refine wpList_append_more (w := wr.alloc (.cells #[.int .i64 (-2), .string t.text, .int .i64 t.off, .int .i64 t.line, .int .i64 t.col] 51)) rfl _ _ _ rfl w.heap.size 51 i0 _ 5 48 Tryd.underlying37 hi0 hz0 hz1 hz3 rfl (by omega) _ (m') (row) (by rfl) (by exact hO'.out.alloc _) (some ⟨wr.heap.size, 0, none⟩) 1 1 (rowC [((-2), t)]) (by rfl) (by rfl) (by intro i u hu; refine ⟨_, rfl, ?_⟩; exact World.news_of_block (cs := #[.int .i64 (-2), .string t.text, .int .i64 t.off, .int .i64 t.line, .int .i64 t.col]) (t := 51) (fr := (0, 0)) (heap_alloc_new wr _) i u hu) (by simp [tokCells, rowC, codeCells, Value.oneCell']) (by unfold maxLen; omega) (by omega) (by have := hsz.out; simp; omega) ?_; intro a8 c8 w8 ho8 hb8; have HO8 : Hid (w8.ownsRow w.heap.size 51 5 (.slice a8 (m' + 1) c8) (m' + 1) (row ++ rowC [((-2), t)])) := ho8; have HB8 : Hid (Below w.heap.size w w8) := (hb'.out.alloc hsz.out _).trans hb8; clear ho8 hb8)
                  go_wp2
                  exact ⟨⟨p + 1, m' + 1, 0, 0, a8, c8, by omega, by omega, by omega, by omega, rfl, rfl, rfl, by go_num, hE3.out, Nat.zero_le _, Iff.rfl, hM2.out, by show World.ownsRow _ _ _ _ _ _ _; rw [hR3.out]; exact HO8.out, HB8.out⟩, by simp [intOf]; omega⟩
                · go_wp2_with (at_builtin; refine wpList_append_more (w := wr.alloc (.cells #[.int .i64 (-3), .string t.text, .int .i64 t.off, .int .i64 t.line, .int .i64 t.col] 51)) rfl _ _ _ rfl w.heap.size 51 i0 _ 5 48 Tryd.underlying37 hi0 hz0 hz1 hz3 rfl (by omega) _ (m') (row) (by rfl) (by exact hO'.out.alloc _) (some ⟨wr.heap.size, 0, none⟩) 1 1 (rowC [((-3), t)]) (by rfl) (by rfl) (by intro i u hu; refine ⟨_, rfl, ?_⟩; exact World.news_of_block (cs := #[.int .i64 (-3), .string t.text, .int .i64 t.off, .int .i64 t.line, .int .i64 t.col]) (t := 51) (fr := (0, 0)) (heap_alloc_new wr _) i u hu) (by simp [tokCells, rowC, codeCells, Value.oneCell']) (by unfold maxLen; omega) (by omega) (by have := hsz.out; simp; omega) ?_; intro a8 c8 w8 ho8 hb8; have HO8 : Hid (w8.ownsRow w.heap.size 51 5 (.slice a8 (m' + 1) c8) (m' + 1) (row ++ rowC [((-3), t)])) := ho8; have HB8 : Hid (Below w.heap.size w w8) := (hb'.out.alloc hsz.out _).trans hb8; clear ho8 hb8)
                  go_wp2
                  exact ⟨⟨p + 1, m' + 1, 0, 0, a8, c8, by omega, by omega, by omega, by omega, rfl, rfl, rfl, by go_num, hE3.out, Nat.zero_le _, Iff.rfl, hM2.out, by show World.ownsRow _ _ _ _ _ _ _; rw [hR3.out]; exact HO8.out, HB8.out⟩, by simp [intOf]; omega⟩
        · have n2 : ¬ (p : Int) < (t.text.size : Int) := by omega
          have hall : Hid (t.bytes.take p = t.bytes) := by show _ = _; rw [List.take_of_length_le (by rw [Tok.size]; omega)]
          go_wp2
          have q1 := hE'.out
          have q2 := hM'.out
          have q3 := hO'.out
          rw [hall.out] at q1 q2 q3
          have r1 : codesOf 0 (ts.take (j + 1)) = codesOf 0 (ts.take j) ++ toldBy t (numsOf aa t.bytes) := by
            rw [htk.out, codesOf_append, hE.out]
            simp only [codesOf, List.append_nil]
          refine ⟨⟨j + 1, m', a', d', ar', cap', by omega, hm', ha', hd', rfl, rfl, rfl, by go_num, ?_, ?_, hDA'.out, ?_, ?_, hb'.out⟩, by simp [intOf]; omega⟩
          · show _ = _; rw [htk.out, endOf_append, hE.out]; exact q1
          · show _ ≤ _
            rw [htk.out, allBytes_append, List.length_append]
            have e3 : (allBytes [t]).length = t.text.size := by simp [allBytes, Tok.size]
            have := hDl'.out
            omega
          · show _ = _; rw [r1, List.length_append, toldBy_len, hM.out]; exact q2
          · show World.ownsRow _ _ _ _ _ _ _; rw [r1]; exact q3
    · have n1 : ¬ (j : Int) < (n : Int) := by omega
      have htk : Hid (ts.take j = ts) := by show _ = _; rw [List.take_of_length_le (by rw [HL.out]; omega)]
      have h2 := hM.out
      have h3 := hO.out
      have h4 := hE.out
      rw [htk.out] at h2 h3 h4
      have H2 : Hid ((codesOf 0 ts).length = m) := h2
      have H3 : Hid (wr.ownsRow w.heap.size 51 5 (.slice ar m cap) m (rowC (codesOf 0 ts))) := h3
      have H4 : Hid (endOf 0 ts = aa) := h4
      clear h2 h3 h4
      by_cases h0 : 0 < dd
      · have g0 : (0 : Int) < (dd : Int) := by omega
        have hfin : Hid (decide (0 < endOf 0 ts) = true) := by show _ = _; rw [H4.out]; exact decide_eq_true (hDA.out.1 h0)
        go_wp2
        go_ret2
        rw [hfin.out]
        exact ⟨_, rfl, by rw [H2.out]; exact H3.out, hb.out⟩
      · have g0 : ¬ (0 : Int) < (dd : Int) := by omega
        have hfin : Hid (decide (0 < endOf 0 ts) = false) := by show _ = _; rw [H4.out]; exact decide_eq_false (fun h => h0 (hDA.out.2 h))
        go_wp2
        go_ret2
        rw [hfin.out]
        exact ⟨_, rfl, by rw [H2.out]; exact H3.out, hb.out⟩

end Go.Proofs.YtffchjigpppoaaaDoor
