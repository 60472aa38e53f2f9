/- The walk of the law on words with blanks and comments about them. -/
import Derived.Test.YtekbddpdcjbinaaDoorSpreadParts
import Derived.Lib.AppendStr
import Derived.Deep.RegionWith
namespace Go.Proofs.YtekbddpdcjbinaaDoor
open Go.RowKit

/-- The gap's number behind the word i. -/
def gapAt (Z : Nat → Int) (gn i : Nat) : Nat := if 0 < gn then gapN (Z (i % gn)) else 0
def wsTo (S : Nat → ByteArray) (Z : Nat → Int) (gn k : Nat) : List (List UInt8 × Nat) := (List.range k).map (fun i => (wordB (S i).data.toList, gapAt Z gn i))
def preL (Z : Nat → Int) (gn : Nat) : List UInt8 := if 0 < gn then gapL (gapN (Z 0)) else []
def textL (S : Nat → ByteArray) (Z : Nat → Int) (gn k : Nat) : List UInt8 := preL Z gn ++ layL (wsTo S Z gn k)
theorem textL_succ (S : Nat → ByteArray) (Z : Nat → Int) (gn k : Nat) : textL S Z gn (k + 1) = (textL S Z gn k ++ wordB (S k).data.toList) ++ gapL (gapAt Z gn k) := by
  unfold textL wsTo layL
  rw [List.range_succ, List.map_append, List.flatMap_append]
  simp
theorem textL_zero (S : Nat → ByteArray) (Z : Nat → Int) (gn : Nat) : textL S Z gn 0 = preL Z gn := by simp [textL, wsTo, layL]
theorem wsTo_len (S : Nat → ByteArray) (Z : Nat → Int) (gn k : Nat) : (wsTo S Z gn k).length = k := by simp [wsTo]
theorem wsTo_plain (S : Nat → ByteArray) (Z : Nat → Int) (gn k : Nat) : ∀ p ∈ wsTo S Z gn k, Plain p.1 := by
  intro p hp
  obtain ⟨i, _, rfl⟩ := List.mem_map.1 hp
  exact (wordB_plain _).1
theorem pre_len (Z : Nat → Int) (gn : Nat) : (preL Z gn).length ≤ 23 := by
  unfold preL
  split
  · exact (gap_kinds _).2
  · simp
/-- An append whose run is known, at a plain region's list. -/
theorem wpList_append_run2 {P : Program} {w : World} {ops : Array Oper} {rest : List Oper} {o : Oper} {a : Act} {Q : Exit → Act → World → Prop} (hgd : o.guard = none) (s x : Operand) (t u : TypeId)
    (ho : o.op = .call { callee := .builtin .append, args := #[s, x], argTypes := #[t, u] }) (v xv v' : Value) (w' : World) (hs : a.eval s = v) (hx : a.eval x = xv)
    (hr : (Builtin.append_ #[t, u] o.type #[v, xv]).run P w = .ok v' w') (h : wpList P ops Q rest (a.put o.dst v') w') : wpList P ops Q (o :: rest) a w := by
  refine wpList_plain hgd fun K hK => ?_
  unfold Oper.wp
  simp [execOp, ho, resolve, invoke, builtin, hs, hx, hr, Result.andThen]
  exact hK _ _ h
theorem strCells_byteV (l : List UInt8) : Lib.strCells ⟨l.toArray⟩ = l.map byteV := by
  unfold Lib.strCells byteV; simp
theorem size_arr (l : List UInt8) : (⟨l.toArray⟩ : ByteArray).size = l.length := rfl

theorem ms_lt (k i : Nat) (h : i < k) : k - (i + 1) < k - i := by omega
theorem text_at {S : Nat → ByteArray} {Z : Nat → Int} {gn k : Nat} {l : List Tok} (h : l.map (fun t => t.text.data.toList) = (wsTo S Z gn k).map (·.1)) {i : Nat} (hi : i < k) {t : Tok} (ht : l[i]? = some t) : t.text = wordS (S i) := by
  have h1 := congrArg (fun m => m[i]?) h
  simp only [List.getElem?_map, ht, Option.map_some, wsTo] at h1
  rw [List.getElem?_range hi] at h1
  simp only [Option.map_some, Option.some.injEq] at h1
  unfold wordS
  rw [← h1]


set_option maxRecDepth 100000 in
set_option maxHeartbeats 8000000 in
theorem spread_none (wa ga : Option Addr) (wn wc gc : Nat) (S : Nat → ByteArray) (Z : Nat → Int) (w : World) (m : Int) (hwn : (wn : Int) ≤ 4611686018427387904) 
   
    (hss : ∀ i, i < wn → ∃ b off, wa = some ⟨b, off, none⟩ ∧ w.cell? ⟨b, off + i, none⟩ = some (.string (S i)) ∧ (S i).size ≤ 9223372036854775807)
    (hKB : KB w) (hm : w.cell? ⟨1, 0, none⟩ = some (.int .i64 m)) :
    Calls Tryd.prog 7 #[.slice wa wn wc, .slice ga 0 gc] w fun e w' => e = .returned (.bool true) ∧ Below w.heap.size w w' := by
  have hw1 : 1 < w.heap.size := World.block_lt_of_cell? _ _ hm
  have AL := alive_any w m hKB hm
  replace AL := show Hid _ from AL
  obtain ⟨i0, hi0, hz0, hz1, hz3⟩ := info_parts info5
  have Hss := show Hid _ from hss
  clear hss
  go_enter Tryd.func7, Tryd.ntmps7
  go_wp2_with fail
  refine Calls.mono AL.out ?_
  rintro e w1 ⟨rfl, hb1⟩
  have hzz := hb1.size
  clear AL
  have g1 : preL Z 0 = [] := rfl
  have Hown0 : Hid (w1.ownsRow w1.heap.size 5 1 (.slice none 0 0) 0 ((preL Z 0).map byteV)) := World.ownsRow_nil _ _ _ _
  have HN0 : Hid (0 = (preL Z 0).length) := rfl
  have hbel0 : Below w1.heap.size w1 w1 := Below.refl _ _
  have hpl : 0 ≤ 23 := by omega
  clear g1
  go_wp2
  go_loopw [5, 6, 7] (fun bv pv iv wr => ∃ (k n cp : Nat) (a : Option Addr), k ≤ wn ∧ iv = .int .i64 k ∧ pv = .int .i64 k ∧ bv = .slice a n cp ∧ n ≤ 60100 ∧ Hid (n = (textL S Z 0 k).length) ∧ Hid (wr.ownsRow w1.heap.size 5 1 (.slice a n cp) n ((textL S Z 0 k).map byteV)) ∧ Below w1.heap.size w1 wr) (fun _ _ iv _ => wn - (intOf iv).toNat)
  case atStart => exact ⟨0, _, _, _, Nat.zero_le _, rfl, rfl, rfl, by omega, (by rw [textL_zero]; exact HN0), (by rw [textL_zero]; exact Hown0), hbel0⟩
  case round =>
    clear Hown0 HN0 hbel0 hpl
    obtain ⟨k, n, cp, a, hk, rfl, rfl, rfl, hn6, hlen, hown, hbel⟩ := hrel
    have hzr := hbel.size
    by_cases hgo : k < wn ∧ n < 60000
    · obtain ⟨hkn, hn60⟩ := hgo
      obtain ⟨wb, wo, hwa, hwc, hws⟩ := Hss.out k hkn
      cases hwa
      have c0 : wr.cell? ⟨wb, wo + k, none⟩ = some (.string (S k)) := by
        have hlt := World.block_lt_of_cell? _ _ hwc
        exact ((hbel.cell (p := ⟨wb, wo + k, none⟩) (by simp at hlt ⊢; omega)).trans (hb1.cell (p := ⟨wb, wo + k, none⟩) hlt)).trans hwc
      have k0 : (0 : Int) ≤ (k : Int) := by omega
      have k1 : (k : Int) < (wn : Int) := by omega
      have k2 : (n : Int) < 60000 := by omega
      go_wp2_with fail
      refine Calls.mono (word_any (S k) wr hws) ?_
      rintro e w4 ⟨rfl, hb4⟩
      have hz4 := hb4.size
      obtain ⟨hWp, hW40⟩ := wordB_plain (S k).data.toList
      have hWs : (wordS (S k)).size = (wordB (S k).data.toList).length := rfl
      obtain ⟨v5, w5, hap5, own5, hgr5, _⟩ := Lib.run_append_own_string (P := Tryd.prog) w4 w1.heap.size 23 9 23 5 i0 Tryd.underlying23 Tryd.underlying9 hi0 hz0 hz1 hz3 (.slice a n cp) n ((textL S Z 0 k).map byteV) (owns_below hown.out hb4) (wordS (S k)) (by unfold maxLen; omega) (by omega) (by omega)
      obtain ⟨a5, c5, rfl, hgo5⟩ := slice_form own5
      obtain ⟨_, _, _, hgo4⟩ := slice_form hown.out
      have bel5 : Below w1.heap.size w1 w5 := (hbel.trans (hb4.mono hzr)).grown hgr5 (by omega) hgo4
      have e5 : Lib.strCells (wordS (S k)) = (wordB (S k).data.toList).map byteV := strCells_byteV _
      rw [e5, ← List.map_append] at own5
      have Hap5 : Hid _ := hap5
      obtain ⟨n5, hn5⟩ : ∃ n5, n5 = n + (wordS (S k)).size := ⟨_, rfl⟩
      rw [← hn5] at own5 Hap5
      have hz5 := bel5.size
      have Own5 : Hid (w5.ownsRow w1.heap.size 5 1 (.slice a5 n5 c5) n5 ((textL S Z 0 k ++ wordB (S k).data.toList).map byteV)) := own5
      have hn5b : n5 ≤ 60040 := by omega
      have Hn5 : Hid (n5 = n + (wordB (S k).data.toList).length) := by show _ = _; omega
      clear hap5 own5 hgr5 hgo5 hgo4 e5 hn5 hWs hWp hW40 c0
      have Hga : Hid (gapAt Z 0 k = gapN 0) := rfl
      go_wp2_with (at_builtin; refine wpList_append_run2 rfl _ _ 23 9 rfl _ _ _ _ rfl rfl Hap5.out ?_)
      refine Calls.mono (between_any 0 w5) ?_
      rintro e w6 ⟨rfl, hb6⟩
      have hz6 := hb6.size
      obtain ⟨_, hgl⟩ := gap_kinds (gapN 0)
      have hGs : (gapStr (gapN 0)).size = (gapL (gapN 0)).length := rfl
      obtain ⟨v7, w7, hap7, own7, hgr7, _⟩ := Lib.run_append_own_string (P := Tryd.prog) w6 w1.heap.size 23 9 23 5 i0 Tryd.underlying23 Tryd.underlying9 hi0 hz0 hz1 hz3 (.slice a5 n5 c5) n5 ((textL S Z 0 k ++ wordB (S k).data.toList).map byteV) (owns_below Own5.out hb6) (gapStr (gapN 0)) (by unfold maxLen; omega) (by omega) (by omega)
      obtain ⟨a7, c7, rfl, _⟩ := slice_form own7
      obtain ⟨_, _, _, hgo6⟩ := slice_form Own5.out
      have bel7 : Below w1.heap.size w1 w7 := (bel5.trans (hb6.mono hz5)).grown hgr7 (by omega) hgo6
      have e7 : Lib.strCells (gapStr (gapN 0)) = (gapL (gapN 0)).map byteV := strCells_byteV _
      have Hap7 : Hid _ := hap7
      obtain ⟨n7, hn7⟩ : ∃ n7, n7 = n5 + (gapStr (gapN 0)).size := ⟨_, rfl⟩
      rw [← hn7] at own7 Hap7
      rw [e7, ← List.map_append, ← Hga.out, ← textL_succ] at own7
      have Own7 : Hid (w7.ownsRow w1.heap.size 5 1 (.slice a7 n7 c7) n7 ((textL S Z 0 (k + 1)).map byteV)) := own7
      have hn7b : n7 ≤ 60100 := by omega
      have Hn7 : Hid (n7 = (textL S Z 0 (k + 1)).length) := by
        have h := Own7.out.1
        rw [List.length_map, Nat.mul_one] at h
        exact h.symm
      clear hap7 own7 hgr7 hgo6 e7 hn7 hGs
      go_wp2_with (at_builtin; refine wpList_append_run2 rfl _ _ 23 9 rfl _ _ _ _ rfl rfl Hap7.out ?_)
      go_roundw
      case rel => exact ⟨k + 1, n7, c7, a7, by omega, by go_num, by go_num, (by first | rfl | trivial), hn7b, Hn7, Own7, bel7⟩
      case measure => simp [intOf]; omega
    · have hT : (⟨(textL S Z 0 k).toArray⟩ : ByteArray).size = n := by rw [size_arr]; exact hlen.out.symm
      have hcv : (convert 23 9 (.slice a n cp)).run Tryd.prog wr = .ok (.string ⟨(textL S Z 0 k).toArray⟩) wr := convert_row hown.out
      obtain ⟨T, hTd⟩ : ∃ T : ByteArray, T = ⟨(textL S Z 0 k).toArray⟩ := ⟨_, rfl⟩
      rw [← hTd] at hT hcv
      have hTl : T.data.toList = (match none with | none => [] | some k => gapL k) ++ layL (wsTo S Z 0 k) := by rw [hTd]; rfl
      obtain ⟨s1, s2⟩ := spread_scan T (none) (wsTo S Z 0 k) hTl (by omega) (wsTo_plain S Z 0 k)
      rw [wsTo_len] at s1 s2
      have hbw : Below w.heap.size w wr := hb1.trans (hbel.mono hzz)
      have hzw := hbw.size
      have SC := scan_any T wr m (by omega) (kb_below hKB hbw hw1) (max_below hm hbw hw1)
      unfold ScanPost ScanOut at SC
      replace SC := show Hid _ from SC
      have S1 := show Hid _ from s1
      have S2 := show Hid _ from s2
      clear s1 s2 hTl hTd hT hlen hown
      have CUT : ∀ X : Prop, X → X := fun _ x => x
      clear CUT
      by_cases hk6 : 16384 < k
      · have q6 : (16384 : Int) < (k : Int) := by omega
        obtain ⟨ft, h1, h2⟩ := S2.out hk6
        rw [h1, h2] at SC
        by_cases hkn : k < wn
        · have k1 : (k : Int) < (wn : Int) := by omega
          have k2 : decide ((n : Int) < 60000) = false := decide_eq_false (by omega)
          clear hgo S1 S2 h1 h2 hk6 hkn
          go_wp2_with fail
          refine Calls.mono SC.out ?_
          rintro e w5 ⟨v, fv, rfl, ⟨hown5, Bf, rfl, hBf, hFa⟩, hb5⟩
          obtain ⟨va, vc, rfl, _⟩ := slice_form hown5
          obtain ⟨p0, p1, p2, p3, p4⟩ := hFa.cells
          have hbf : Below w.heap.size w w5 := hbw.trans (hb5.mono hzw)
          clear hown5 hFa
          go_wp2_with (go_at_call 11; refine (num_any _ _).mono ?_; rintro e w' ⟨rfl, rfl⟩)
          go_ret
          exact ⟨rfl, hbf⟩
        · have k1 : (wn : Int) ≤ (k : Int) := by omega
          have k1' : wn ≤ k := by omega
          clear hgo S1 S2 h1 h2 hk6 hkn
          go_wp2_with fail
          refine Calls.mono SC.out ?_
          rintro e w5 ⟨v, fv, rfl, ⟨hown5, Bf, rfl, hBf, hFa⟩, hb5⟩
          obtain ⟨va, vc, rfl, _⟩ := slice_form hown5
          obtain ⟨p0, p1, p2, p3, p4⟩ := hFa.cells
          have hbf : Below w.heap.size w w5 := hbw.trans (hb5.mono hzw)
          clear hown5 hFa
          go_wp2_with (go_at_call 11; refine (num_any _ _).mono ?_; rintro e w' ⟨rfl, rfl⟩)
          go_ret
          exact ⟨rfl, hbf⟩
      · have q6 : decide ((16384 : Int) < (k : Int)) = false := decide_eq_false (by omega)
        have q7 : (k : Int) ≤ 16384 := by omega
        obtain ⟨h1, h2⟩ := S1.out (by omega)
        have hl1 : (scanF T).1.length = k := by have := congrArg List.length h2; rw [List.length_map, List.length_map, wsTo_len] at this; exact this
        have H2 : Hid ((scanF T).1.map (fun t => t.text.data.toList) = (wsTo S Z 0 k).map (·.1)) := h2
        obtain ⟨l, hl⟩ : ∃ l, l = (scanF T).1 := ⟨_, rfl⟩
        rw [← hl] at SC H2 hl1
        rw [h1, hl1] at SC
        clear h1 h2 hl S1 S2
        have hlast : (k < wn ∧ decide ((n : Int) < 60000) = false) ∨ wn ≤ k := by
          by_cases hkn : k < wn
          · exact .inl ⟨hkn, decide_eq_false (by omega)⟩
          · exact .inr (by omega)
        clear hgo
        rcases hlast with ⟨k1', k2⟩ | k1'
        case' inl => have k1 : (k : Int) < (wn : Int) := by omega
        case' inr => have k1 : (wn : Int) ≤ (k : Int) := by omega
        all_goals
          go_wp2_with fail
          refine Calls.mono SC.out ?_
          rintro e w5 ⟨v, fv, rfl, ⟨hown5, rfl⟩, hb5⟩
          obtain ⟨va, vc, rfl, _⟩ := slice_form hown5
          have hbf : Below w.heap.size w w5 := hbw.trans (hb5.mono hzw)
          have Hown5 : Hid (w5.ownsRow wr.heap.size 37 4 (.slice va k vc) k (rowOf l)) := hown5
          clear hown5 SC hcv
          go_wp2
          go_loopw [11] (fun iv wx => ∃ i : Nat, i ≤ k ∧ iv = .int .i64 i ∧ Below w5.heap.size w5 wx) (fun iv _ => k - (intOf iv).toNat)
          case atStart => exact ⟨0, Nat.zero_le _, rfl, Below.refl _ _⟩
          case round =>
            obtain ⟨i, hik, rfl, hbx⟩ := hrel
            have hbfx : Below w.heap.size w wr := hbf.trans (hbx.mono hbf.size)
            by_cases hlt : i < k
            · obtain ⟨t, ht⟩ : ∃ t, l[i]? = some t := ⟨l[i]'(by rw [hl1]; exact hlt), List.getElem?_eq_getElem _⟩
              have hte := text_at H2.out hlt ht
              obtain ⟨g, c1, hv, _, hgl⟩ := Hown5.out.form (by omega)
              cases hv
              obtain ⟨y0, _, _, _⟩ := row_get l i t ht
              rw [hte] at y0
              have p0 := owns_cells (owns_below Hown5.out hbx) _ _ y0
              obtain ⟨wb, wo, hwa, hwc, hws⟩ := Hss.out i (by omega)
              cases hwa
              have c0 : wr.cell? ⟨wb, wo + i, none⟩ = some (.string (S i)) := (hbfx.cell (p := ⟨wb, wo + i, none⟩) (World.block_lt_of_cell? _ _ hwc)).trans hwc
              have i0' : (0 : Int) ≤ (i : Int) := by omega
              have i1' : (i : Int) < (k : Int) := by omega
              have i2' : (i : Int) < (wn : Int) := by omega
              have hgw : g < wr.heap.size := World.block_lt_of_cell? _ _ p0
              obtain ⟨WS, hWS⟩ : ∃ WS, WS = wordS (S i) := ⟨_, rfl⟩
              have WD : Hid (∀ wx : World, Calls Tryd.prog 18 #[.string (S i)] wx fun e w' => e = .returned (.string WS) ∧ Below wx.heap.size wx w') := fun wx => by rw [hWS]; exact word_any (S i) wx hws
              rw [← hWS] at p0
              clear hWS hte y0 ht hwc hws
              go_wp2_with fail
              go_region_with (go_at_call 18; refine (WD.out _).mono ?_; rintro e w6 ⟨rfl, hb6⟩; have q0 : w6.cell? ⟨g, i * 4, none⟩ = some (.string WS) := (hb6.cell (p := ⟨g, i * 4, none⟩) hgw).trans p0)
              all_goals
                have hb6' : Below wr.heap.size wr w6 := ⟨hb6.os, hb6.tape, hb6.output, hb6.size, hb6.block⟩
                have hb7 : Below w5.heap.size w5 w6 := hbx.trans (hb6'.mono hbx.size)
                clear hb6 p0 c0 q0
                (try clear hwn); (try clear q6); (try clear q7); (try clear k2); (try clear k1); (try clear hn6); (try clear hgn)
              all_goals go_wp2_with fail
              all_goals
                refine ⟨⟨i + 1, hlt, by simp, hb7⟩, ?_⟩
                have hms := ms_lt k i hlt
                clear hb7 hb6'
                simp [intOf]
                omega
            · go_wp2
              go_ret
              exact ⟨rfl, hbfx⟩

set_option maxRecDepth 100000 in
set_option maxHeartbeats 8000000 in
theorem spread_some (wa : Option Addr) (wn wc gb go gn gc : Nat) (S : Nat → ByteArray) (Z : Nat → Int) (w : World) (m : Int) (hwn : (wn : Int) ≤ 4611686018427387904) (hgn : (gn : Int) ≤ 4611686018427387904) (hg0 : 0 < gn)
    (hzs : ∀ i, i < gn → w.cell? ⟨gb, go + i, none⟩ = some (.int .i64 (Z i)))
    (hss : ∀ i, i < wn → ∃ b off, wa = some ⟨b, off, none⟩ ∧ w.cell? ⟨b, off + i, none⟩ = some (.string (S i)) ∧ (S i).size ≤ 9223372036854775807)
    (hKB : KB w) (hm : w.cell? ⟨1, 0, none⟩ = some (.int .i64 m)) :
    Calls Tryd.prog 7 #[.slice wa wn wc, .slice (some ⟨gb, go, none⟩) gn gc] w fun e w' => e = .returned (.bool true) ∧ Below w.heap.size w w' := by
  have hw1 : 1 < w.heap.size := World.block_lt_of_cell? _ _ hm
  have AL := alive_any w m hKB hm
  replace AL := show Hid _ from AL
  obtain ⟨i0, hi0, hz0, hz1, hz3⟩ := info_parts info5
  have Hss := show Hid _ from hss
  have Hzs := show Hid _ from hzs
  clear hzs
  clear hss
  go_enter Tryd.func7, Tryd.ntmps7
  go_wp2_with fail
  refine Calls.mono AL.out ?_
  rintro e w1 ⟨rfl, hb1⟩
  have hzz := hb1.size
  clear AL
  have hzs1 : Hid (∀ i, i < gn → w1.cell? ⟨gb, go + i, none⟩ = some (.int .i64 (Z i))) := fun i hi => (hb1.cell (p := ⟨gb, go + i, none⟩) (World.block_lt_of_cell? _ _ (Hzs.out i hi))).trans (Hzs.out i hi)
  have hgbl : gb < w1.heap.size := World.block_lt_of_cell? _ _ (hzs1.out 0 hg0)
  have g1 : (0 : Int) < (gn : Int) := by omega
  have hgc1 := hzs1.out 0 hg0
  rw [Nat.add_zero] at hgc1
  go_wp2_with fail
  refine Calls.mono (between_any _ _) ?_
  rintro e w2 ⟨rfl, hb2⟩
  have hz2 := hb2.size
  have hGs : (gapStr (gapN (Z 0))).size = (preL Z gn).length := by unfold preL; rw [if_pos hg0]; rfl
  have hpl := pre_len Z gn
  obtain ⟨v2, w3, hap, howa, hgr3, _⟩ := Lib.run_append_own_string (P := Tryd.prog) w2 w1.heap.size 23 9 23 5 i0 Tryd.underlying23 Tryd.underlying9 hi0 hz0 hz1 hz3 (.slice none 0 0) 0 [] (World.ownsRow_nil _ _ _ _) (gapStr (gapN (Z 0))) (by unfold maxLen; omega) (by omega) hz2
  obtain ⟨a0, c0, rfl, _⟩ := slice_form howa
  have Hown0 : Hid (w3.ownsRow w1.heap.size 5 1 (.slice a0 (preL Z gn).length c0) (preL Z gn).length ((preL Z gn).map byteV)) := by
    rw [Nat.zero_add, hGs, List.nil_append] at howa
    have e : Lib.strCells (gapStr (gapN (Z 0))) = (preL Z gn).map byteV := by
      unfold preL; rw [if_pos hg0]; exact strCells_byteV _
    rw [e] at howa
    exact howa
  have hbel0 : Below w1.heap.size w1 w3 := (hb2.grown hgr3 hz2 (fun k h => by simp [Value.ownBlock] at h))
  rw [Nat.zero_add, hGs] at hap
  have Hap : Hid _ := hap
  clear howa hap hgr3
  obtain ⟨N0, hN0⟩ : ∃ N0, N0 = (preL Z gn).length := ⟨_, rfl⟩
  rw [← hN0] at Hown0 Hap hpl
  have HN0 : Hid (N0 = (preL Z gn).length) := hN0
  clear hN0 hGs
  go_wp2_with (at_builtin; refine wpList_append_run2 rfl _ _ 23 9 rfl _ _ _ _ rfl rfl Hap.out ?_)
  clear Hap hb2 hz2 hgc1
  go_loopw [5, 6, 7] (fun bv pv iv wr => ∃ (k n cp : Nat) (a : Option Addr), k ≤ wn ∧ iv = .int .i64 k ∧ pv = .int .i64 k ∧ bv = .slice a n cp ∧ n ≤ 60100 ∧ Hid (n = (textL S Z gn k).length) ∧ Hid (wr.ownsRow w1.heap.size 5 1 (.slice a n cp) n ((textL S Z gn k).map byteV)) ∧ Below w1.heap.size w1 wr) (fun _ _ iv _ => wn - (intOf iv).toNat)
  case atStart => exact ⟨0, _, _, _, Nat.zero_le _, rfl, rfl, rfl, by omega, (by rw [textL_zero]; exact HN0), (by rw [textL_zero]; exact Hown0), hbel0⟩
  case round =>
    clear Hown0 HN0 hbel0 hpl
    obtain ⟨k, n, cp, a, hk, rfl, rfl, rfl, hn6, hlen, hown, hbel⟩ := hrel
    have hzr := hbel.size
    by_cases hgo : k < wn ∧ n < 60000
    · obtain ⟨hkn, hn60⟩ := hgo
      obtain ⟨wb, wo, hwa, hwc, hws⟩ := Hss.out k hkn
      cases hwa
      have c0 : wr.cell? ⟨wb, wo + k, none⟩ = some (.string (S k)) := by
        have hlt := World.block_lt_of_cell? _ _ hwc
        exact ((hbel.cell (p := ⟨wb, wo + k, none⟩) (by simp at hlt ⊢; omega)).trans (hb1.cell (p := ⟨wb, wo + k, none⟩) hlt)).trans hwc
      have k0 : (0 : Int) ≤ (k : Int) := by omega
      have k1 : (k : Int) < (wn : Int) := by omega
      have k2 : (n : Int) < 60000 := by omega
      go_wp2_with fail
      refine Calls.mono (word_any (S k) wr hws) ?_
      rintro e w4 ⟨rfl, hb4⟩
      have hz4 := hb4.size
      obtain ⟨hWp, hW40⟩ := wordB_plain (S k).data.toList
      have hWs : (wordS (S k)).size = (wordB (S k).data.toList).length := rfl
      obtain ⟨v5, w5, hap5, own5, hgr5, _⟩ := Lib.run_append_own_string (P := Tryd.prog) w4 w1.heap.size 23 9 23 5 i0 Tryd.underlying23 Tryd.underlying9 hi0 hz0 hz1 hz3 (.slice a n cp) n ((textL S Z gn k).map byteV) (owns_below hown.out hb4) (wordS (S k)) (by unfold maxLen; omega) (by omega) (by omega)
      obtain ⟨a5, c5, rfl, hgo5⟩ := slice_form own5
      obtain ⟨_, _, _, hgo4⟩ := slice_form hown.out
      have bel5 : Below w1.heap.size w1 w5 := (hbel.trans (hb4.mono hzr)).grown hgr5 (by omega) hgo4
      have e5 : Lib.strCells (wordS (S k)) = (wordB (S k).data.toList).map byteV := strCells_byteV _
      rw [e5, ← List.map_append] at own5
      have Hap5 : Hid _ := hap5
      obtain ⟨n5, hn5⟩ : ∃ n5, n5 = n + (wordS (S k)).size := ⟨_, rfl⟩
      rw [← hn5] at own5 Hap5
      have hz5 := bel5.size
      have Own5 : Hid (w5.ownsRow w1.heap.size 5 1 (.slice a5 n5 c5) n5 ((textL S Z gn k ++ wordB (S k).data.toList).map byteV)) := own5
      have hn5b : n5 ≤ 60040 := by omega
      have Hn5 : Hid (n5 = n + (wordB (S k).data.toList).length) := by show _ = _; omega
      clear hap5 own5 hgr5 hgo5 hgo4 e5 hn5 hWs hWp hW40 c0
      obtain ⟨r, hr⟩ : ∃ r, r = k % gn := ⟨_, rfl⟩
      have hmod : r < gn := by rw [hr]; exact Nat.mod_lt k hg0
      have c1 : w5.cell? ⟨gb, go + r, none⟩ = some (.int .i64 (Z r)) := (bel5.cell (p := ⟨gb, go + r, none⟩) hgbl).trans (hzs1.out _ hmod)
      have g3 : (r : Int) < (gn : Int) := by omega
      have g4 : (0 : Int) ≤ (r : Int) := by omega
      have g5 : (k : Int) % (gn : Int) = (r : Int) := by rw [hr]; omega
      have gz : ((gn : Int) == 0) = false := by simp only [beq_eq_false_iff_ne]; omega
      have t1 : (k : Int).tmod (gn : Int) = (r : Int) := by rw [Int.tmod_eq_emod_of_nonneg (by omega)]; exact g5
      have t2 : IntKind.i64.wrap (r : Int) = (r : Int) := IntWalk.i64_in _ (by omega)
      have Hga : Hid (gapAt Z gn k = gapN (Z r)) := by show _ = _; unfold gapAt; rw [if_pos hg0, hr]
      obtain ⟨zk, hzk⟩ : ∃ zk, zk = Z r := ⟨_, rfl⟩
      rw [← hzk] at c1 Hga
      clear hzk hr
      go_wp2_with (at_builtin; refine wpList_append_run2 rfl _ _ 23 9 rfl _ _ _ _ rfl rfl Hap5.out ?_)
      refine Calls.mono (between_any zk w5) ?_
      rintro e w6 ⟨rfl, hb6⟩
      have hz6 := hb6.size
      obtain ⟨_, hgl⟩ := gap_kinds (gapN zk)
      have hGs : (gapStr (gapN zk)).size = (gapL (gapN zk)).length := rfl
      obtain ⟨v7, w7, hap7, own7, hgr7, _⟩ := Lib.run_append_own_string (P := Tryd.prog) w6 w1.heap.size 23 9 23 5 i0 Tryd.underlying23 Tryd.underlying9 hi0 hz0 hz1 hz3 (.slice a5 n5 c5) n5 ((textL S Z gn k ++ wordB (S k).data.toList).map byteV) (owns_below Own5.out hb6) (gapStr (gapN zk)) (by unfold maxLen; omega) (by omega) (by omega)
      obtain ⟨a7, c7, rfl, _⟩ := slice_form own7
      obtain ⟨_, _, _, hgo6⟩ := slice_form Own5.out
      have bel7 : Below w1.heap.size w1 w7 := (bel5.trans (hb6.mono hz5)).grown hgr7 (by omega) hgo6
      have e7 : Lib.strCells (gapStr (gapN zk)) = (gapL (gapN zk)).map byteV := strCells_byteV _
      have Hap7 : Hid _ := hap7
      obtain ⟨n7, hn7⟩ : ∃ n7, n7 = n5 + (gapStr (gapN zk)).size := ⟨_, rfl⟩
      rw [← hn7] at own7 Hap7
      rw [e7, ← List.map_append, ← Hga.out, ← textL_succ] at own7
      have Own7 : Hid (w7.ownsRow w1.heap.size 5 1 (.slice a7 n7 c7) n7 ((textL S Z gn (k + 1)).map byteV)) := own7
      have hn7b : n7 ≤ 60100 := by omega
      have Hn7 : Hid (n7 = (textL S Z gn (k + 1)).length) := by
        have h := Own7.out.1
        rw [List.length_map, Nat.mul_one] at h
        exact h.symm
      clear hap7 own7 hgr7 hgo6 e7 hn7 hGs
      go_wp2_with (at_builtin; refine wpList_append_run2 rfl _ _ 23 9 rfl _ _ _ _ rfl rfl Hap7.out ?_)
      go_roundw
      case rel => exact ⟨k + 1, n7, c7, a7, by omega, by go_num, by go_num, (by first | rfl | trivial), hn7b, Hn7, Own7, bel7⟩
      case measure => simp [intOf]; omega
    · have hT : (⟨(textL S Z gn k).toArray⟩ : ByteArray).size = n := by rw [size_arr]; exact hlen.out.symm
      have hcv : (convert 23 9 (.slice a n cp)).run Tryd.prog wr = .ok (.string ⟨(textL S Z gn k).toArray⟩) wr := convert_row hown.out
      obtain ⟨T, hTd⟩ : ∃ T : ByteArray, T = ⟨(textL S Z gn k).toArray⟩ := ⟨_, rfl⟩
      rw [← hTd] at hT hcv
      have hTl : T.data.toList = (match (some (gapN (Z 0))) with | none => [] | some k => gapL k) ++ layL (wsTo S Z gn k) := by rw [hTd]; show textL S Z gn k = _; unfold textL preL; rw [if_pos hg0]
      obtain ⟨s1, s2⟩ := spread_scan T ((some (gapN (Z 0)))) (wsTo S Z gn k) hTl (by omega) (wsTo_plain S Z gn k)
      rw [wsTo_len] at s1 s2
      have hbw : Below w.heap.size w wr := hb1.trans (hbel.mono hzz)
      have hzw := hbw.size
      have SC := scan_any T wr m (by omega) (kb_below hKB hbw hw1) (max_below hm hbw hw1)
      unfold ScanPost ScanOut at SC
      replace SC := show Hid _ from SC
      have S1 := show Hid _ from s1
      have S2 := show Hid _ from s2
      clear s1 s2 hTl hTd hT hlen hown
      have CUT : ∀ X : Prop, X → X := fun _ x => x
      clear CUT
      by_cases hk6 : 16384 < k
      · have q6 : (16384 : Int) < (k : Int) := by omega
        obtain ⟨ft, h1, h2⟩ := S2.out hk6
        rw [h1, h2] at SC
        by_cases hkn : k < wn
        · have k1 : (k : Int) < (wn : Int) := by omega
          have k2 : decide ((n : Int) < 60000) = false := decide_eq_false (by omega)
          clear hgo S1 S2 h1 h2 hk6 hkn
          go_wp2_with fail
          refine Calls.mono SC.out ?_
          rintro e w5 ⟨v, fv, rfl, ⟨hown5, Bf, rfl, hBf, hFa⟩, hb5⟩
          obtain ⟨va, vc, rfl, _⟩ := slice_form hown5
          obtain ⟨p0, p1, p2, p3, p4⟩ := hFa.cells
          have hbf : Below w.heap.size w w5 := hbw.trans (hb5.mono hzw)
          clear hown5 hFa
          go_wp2_with (go_at_call 11; refine (num_any _ _).mono ?_; rintro e w' ⟨rfl, rfl⟩)
          go_ret
          exact ⟨rfl, hbf⟩
        · have k1 : (wn : Int) ≤ (k : Int) := by omega
          have k1' : wn ≤ k := by omega
          clear hgo S1 S2 h1 h2 hk6 hkn
          go_wp2_with fail
          refine Calls.mono SC.out ?_
          rintro e w5 ⟨v, fv, rfl, ⟨hown5, Bf, rfl, hBf, hFa⟩, hb5⟩
          obtain ⟨va, vc, rfl, _⟩ := slice_form hown5
          obtain ⟨p0, p1, p2, p3, p4⟩ := hFa.cells
          have hbf : Below w.heap.size w w5 := hbw.trans (hb5.mono hzw)
          clear hown5 hFa
          go_wp2_with (go_at_call 11; refine (num_any _ _).mono ?_; rintro e w' ⟨rfl, rfl⟩)
          go_ret
          exact ⟨rfl, hbf⟩
      · have q6 : decide ((16384 : Int) < (k : Int)) = false := decide_eq_false (by omega)
        have q7 : (k : Int) ≤ 16384 := by omega
        obtain ⟨h1, h2⟩ := S1.out (by omega)
        have hl1 : (scanF T).1.length = k := by have := congrArg List.length h2; rw [List.length_map, List.length_map, wsTo_len] at this; exact this
        have H2 : Hid ((scanF T).1.map (fun t => t.text.data.toList) = (wsTo S Z gn k).map (·.1)) := h2
        obtain ⟨l, hl⟩ : ∃ l, l = (scanF T).1 := ⟨_, rfl⟩
        rw [← hl] at SC H2 hl1
        rw [h1, hl1] at SC
        clear h1 h2 hl S1 S2
        have hlast : (k < wn ∧ decide ((n : Int) < 60000) = false) ∨ wn ≤ k := by
          by_cases hkn : k < wn
          · exact .inl ⟨hkn, decide_eq_false (by omega)⟩
          · exact .inr (by omega)
        clear hgo
        rcases hlast with ⟨k1', k2⟩ | k1'
        case' inl => have k1 : (k : Int) < (wn : Int) := by omega
        case' inr => have k1 : (wn : Int) ≤ (k : Int) := by omega
        all_goals
          go_wp2_with fail
          refine Calls.mono SC.out ?_
          rintro e w5 ⟨v, fv, rfl, ⟨hown5, rfl⟩, hb5⟩
          obtain ⟨va, vc, rfl, _⟩ := slice_form hown5
          have hbf : Below w.heap.size w w5 := hbw.trans (hb5.mono hzw)
          have Hown5 : Hid (w5.ownsRow wr.heap.size 37 4 (.slice va k vc) k (rowOf l)) := hown5
          clear hown5 SC hcv
          go_wp2
          go_loopw [11] (fun iv wx => ∃ i : Nat, i ≤ k ∧ iv = .int .i64 i ∧ Below w5.heap.size w5 wx) (fun iv _ => k - (intOf iv).toNat)
          case atStart => exact ⟨0, Nat.zero_le _, rfl, Below.refl _ _⟩
          case round =>
            obtain ⟨i, hik, rfl, hbx⟩ := hrel
            have hbfx : Below w.heap.size w wr := hbf.trans (hbx.mono hbf.size)
            by_cases hlt : i < k
            · obtain ⟨t, ht⟩ : ∃ t, l[i]? = some t := ⟨l[i]'(by rw [hl1]; exact hlt), List.getElem?_eq_getElem _⟩
              have hte := text_at H2.out hlt ht
              obtain ⟨g, c1, hv, _, hgl⟩ := Hown5.out.form (by omega)
              cases hv
              obtain ⟨y0, _, _, _⟩ := row_get l i t ht
              rw [hte] at y0
              have p0 := owns_cells (owns_below Hown5.out hbx) _ _ y0
              obtain ⟨wb, wo, hwa, hwc, hws⟩ := Hss.out i (by omega)
              cases hwa
              have c0 : wr.cell? ⟨wb, wo + i, none⟩ = some (.string (S i)) := (hbfx.cell (p := ⟨wb, wo + i, none⟩) (World.block_lt_of_cell? _ _ hwc)).trans hwc
              have i0' : (0 : Int) ≤ (i : Int) := by omega
              have i1' : (i : Int) < (k : Int) := by omega
              have i2' : (i : Int) < (wn : Int) := by omega
              have hgw : g < wr.heap.size := World.block_lt_of_cell? _ _ p0
              obtain ⟨WS, hWS⟩ : ∃ WS, WS = wordS (S i) := ⟨_, rfl⟩
              have WD : Hid (∀ wx : World, Calls Tryd.prog 18 #[.string (S i)] wx fun e w' => e = .returned (.string WS) ∧ Below wx.heap.size wx w') := fun wx => by rw [hWS]; exact word_any (S i) wx hws
              rw [← hWS] at p0
              clear hWS hte y0 ht hwc hws
              go_wp2_with fail
              go_region_with (go_at_call 18; refine (WD.out _).mono ?_; rintro e w6 ⟨rfl, hb6⟩; have q0 : w6.cell? ⟨g, i * 4, none⟩ = some (.string WS) := (hb6.cell (p := ⟨g, i * 4, none⟩) hgw).trans p0)
              all_goals
                have hb6' : Below wr.heap.size wr w6 := ⟨hb6.os, hb6.tape, hb6.output, hb6.size, hb6.block⟩
                have hb7 : Below w5.heap.size w5 w6 := hbx.trans (hb6'.mono hbx.size)
                clear hb6 p0 c0 q0
                (try clear hwn); (try clear q6); (try clear q7); (try clear k2); (try clear k1); (try clear hn6); (try clear hgn)
              all_goals go_wp2_with fail
              all_goals
                refine ⟨⟨i + 1, hlt, by simp, hb7⟩, ?_⟩
                have hms := ms_lt k i hlt
                clear hb7 hb6'
                simp [intOf]
                omega
            · go_wp2
              go_ret
              exact ⟨rfl, hbfx⟩
end Go.Proofs.YtekbddpdcjbinaaDoor
