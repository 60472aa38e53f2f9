/- What the document's own scan answers. -/
import Derived.Test.YtipfhfeaalbmcabDoorKRefWords
import Derived.Test.YtipfhfeaalbmcabDoorKTok

namespace Go.Proofs.YtipfhfeaalbmcabDoor.K
open Go.RowKit

theorem isOpen_data (t : ByteArray) : isOpen t = (t.data.toList == [36, 40]) := by unfold isOpen; rw [Lib.toList_data]
theorem owns_below {W W' : World} {base e size : Nat} {v : Value} {n : Nat} {xs : List Value} (h : W.ownsRow base e size v n xs) (hb : Below W.heap.size W W') : W'.ownsRow base e size v n xs := owns_block h fun g hg _ => hb.block g hg
theorem row_get (l : List Tok) : ∀ (i : Nat) (t : Tok), l[i]? = some t → (rowOf l)[i * 4]? = some (.string t.text) ∧ (rowOf l)[i * 4 + 1]? = some (.int .i64 t.off) ∧ (rowOf l)[i * 4 + 2]? = some (.int .i64 t.line) ∧ (rowOf l)[i * 4 + 3]? = some (.int .i64 t.col) := by
  induction l with
  | nil => intro i t h; simp at h
  | cons a l ih =>
    intro i t h
    cases i with
    | zero =>
      simp only [List.getElem?_cons_zero, Option.some.injEq] at h
      subst h
      simp [rowOf, tokCells]
    | succ i =>
      have := ih i t (by simpa using h)
      have e : ∀ j, (rowOf (a :: l))[(i + 1) * 4 + j]? = (rowOf l)[i * 4 + j]? := fun j => by
        rw [show (i + 1) * 4 + j = i * 4 + j + 1 + 1 + 1 + 1 by omega]
        simp [rowOf, tokCells]
      refine ⟨?_, ?_, ?_, ?_⟩
      · rw [show (i + 1) * 4 = (i + 1) * 4 + 0 by omega, e 0]; exact this.1
      · rw [e 1]; exact this.2.1
      · rw [e 2]; exact this.2.2.1
      · rw [e 3]; exact this.2.2.2
theorem owns_cells {W : World} {base : Nat} {g n cap : Nat} {xs : List Value} (h : W.ownsRow base 36 4 (.slice (some ⟨g, 0, none⟩) n cap) n xs) (i : Nat) (u : Value) (hi : xs[i]? = some u) : W.cell? ⟨g, i, none⟩ = some u := by
  rcases h.2 with ⟨e, _⟩ | ⟨g', cap', cur, hv, hg, hh, hn, hc, hsz, ht⟩
  · cases e
  · simp only [Value.slice.injEq, Option.some.injEq, Addr.mk.injEq] at hv
    obtain ⟨⟨rfl, _⟩, _, rfl⟩ := hv
    have hlt : i < n * 4 := by have := h.1; have := (List.getElem?_eq_some_iff.1 hi).1; omega
    have : cur[i]? = some u := by
      rw [← ht, List.getElem?_take, if_pos hlt] at hi
      simpa using hi
    simp [World.cell?, hh, this]
theorem chain_size {s : ByteArray} {p : Nat} {es : List (Tok × Int)} (h : Chain s p es) : ∀ t c, (t, c) ∈ es → t.text.size ≤ s.size := by
  induction h with
  | done _ => intro t c h; cases h
  | word _ hs _ ih =>
    intro t c h
    rcases List.mem_cons.1 h with h | h
    · cases h
      have := hs.le
      rw [hs.text, ByteArray.size_extract]; omega
    · exact ih t c h
  | fault _ hf =>
    intro t c h
    have h' := List.mem_singleton.1 h
    cases h'
    rw [hf.text]; exact Nat.zero_le _
theorem word_size {s : ByteArray} {l : List Tok} {es : List (Tok × Int)} (h : l.map (fun t => (t, (0 : Int))) ++ es = events s) {i : Nat} {t : Tok} (ht : l[i]? = some t) : t.text.size ≤ s.size := by
  refine chain_size (events_chain s) t 0 ?_
  rw [← h]
  exact List.mem_append_left _ (List.mem_map.2 ⟨t, List.mem_of_getElem? ht, rfl⟩)
theorem take_one {l : List Tok} {i : Nat} {t : Tok} (ht : l[i]? = some t) : l.take (i + 1) = l.take i ++ [t] := by
  have h := (List.getElem?_eq_some_iff.1 ht)
  rw [List.take_add_one, ht]; rfl
theorem inCmt_if (told : List Tok) (o : Bool) (bg : Tok) (h : o = true → isOpen bg.text = true) : inCmt ⟨told, if o then bg else zeroTok⟩ = o := by
  cases o with
  | false => rw [inCmt_data]; rfl
  | true =>
    have := h rfl
    rw [isOpen_data] at this
    rw [inCmt_data]
    show (!bg.text.data.toList.isEmpty) = true
    rw [beq_iff_eq.1 this]; rfl
theorem scan_stop {s : ByteArray} {l : List Tok} {es : List (Tok × Int)} (hev : l.map (fun t => (t, (0 : Int))) ++ es = events s) (i : Nat) (r : Rd) (f : Tok × Int) (h : runF rd0 ((l.take i).map (fun t => (t, (0 : Int)))) = (r, some f)) : scanF s = (r.told, some f) := by
  have := runF_ends rd0 (l.take i) (l.drop i) r f h es
  rw [List.take_append_drop, hev] at this
  unfold scanF; rw [this]
theorem scan_whole {s : ByteArray} {l : List Tok} (hev : l.map (fun t => (t, (0 : Int))) ++ [] = events s) (r : Rd) (h : runF rd0 (l.map (fun t => (t, (0 : Int)))) = (r, none)) : scanF s = (r.told, if inCmt r then some (r.opn, 12) else none) := by
  rw [List.append_nil] at hev
  unfold scanF; rw [← hev, h]
theorem scan_fault {s : ByteArray} {l : List Tok} {t : Tok} {c : Int} (hc : c ≠ 0) (hev : l.map (fun t => (t, (0 : Int))) ++ [(t, c)] = events s) (r : Rd) (h : runF rd0 (l.map (fun t => (t, (0 : Int)))) = (r, none)) : scanF s = (r.told, some (t, c)) := by
  unfold scanF
  rw [← hev, runF_words, h]
  simp only [runF, if_neg hc]
theorem owns_base {W : World} {base base' e size : Nat} {v : Value} {n : Nat} {xs : List Value} (h : W.ownsRow base e size v n xs) (hb : base' ≤ base) : W.ownsRow base' e size v n xs := by
  refine ⟨h.1, ?_⟩
  rcases h.2 with h0 | ⟨g, cap, cur, hv, hg, hr⟩
  · exact .inl h0
  · exact .inr ⟨g, cap, cur, hv, Nat.le_trans hb hg, hr⟩
/-- The answer of a scan that ends with a fault. -/
theorem out_fault {s : ByteArray} {N : Nat} {v : Value} {B : Nat} {W : World} {told : List Tok} {t : Tok} {c : Int} {base : Nat} (hs : scanF s = (told, some (t, c))) (ho : W.ownsRow base 36 4 v told.length (rowOf told)) (hb : N ≤ base) (hB : N ≤ B) (hF : FaultAt W B t c) : ScanOut s N v (.pointer (some ⟨B, 0, none⟩)) W := by
  unfold ScanOut
  rw [hs]
  exact ⟨owns_base ho hb, B, rfl, hB, hF⟩
theorem out_none {s : ByteArray} {N : Nat} {v : Value} {W : World} {told : List Tok} {base : Nat} (hs : scanF s = (told, none)) (ho : W.ownsRow base 36 4 v told.length (rowOf told)) (hb : N ≤ base) : ScanOut s N v (.pointer none) W := by
  unfold ScanOut
  rw [hs]
  exact ⟨owns_base ho hb, rfl⟩

theorem takeF_shut {r : Rd} {t : Tok} (h : inCmt r = true) (h1 : isShut t.text = true) : takeF r t = (0, { r with opn := zeroTok }) := by
  unfold takeF takeC; rw [if_pos h, if_pos h1]
theorem takeF_mark {r : Rd} {t : Tok} (h : inCmt r = true) (h1 : ¬ isShut t.text = true) (h2 : hasMark t.text = true) : takeF r t = (11, r) := by
  unfold takeF takeC; rw [if_pos h, if_neg h1, if_pos h2]
theorem takeF_in {r : Rd} {t : Tok} (h : inCmt r = true) (h1 : ¬ isShut t.text = true) (h2 : ¬ hasMark t.text = true) : takeF r t = (0, r) := by
  unfold takeF takeC; rw [if_pos h, if_neg h1, if_neg h2]
theorem takeF_open {r : Rd} {t : Tok} (h : ¬ inCmt r = true) (h1 : isOpen t.text = true) : takeF r t = (0, { r with opn := t }) := by
  unfold takeF; rw [if_neg h, if_pos h1]
theorem takeF_out {r : Rd} {t : Tok} (h : ¬ inCmt r = true) (h1 : ¬ isOpen t.text = true) (h2 : isShut t.text = true) : takeF r t = (11, r) := by
  unfold takeF; rw [if_neg h, if_neg h1, if_pos h2]
theorem takeF_full {r : Rd} {t : Tok} (h : ¬ inCmt r = true) (h1 : ¬ isOpen t.text = true) (h2 : ¬ isShut t.text = true) (h3 : r.told.length = 16384) : takeF r t = (13, r) := by
  unfold takeF; rw [if_neg h, if_neg h1, if_neg h2, if_pos h3]
theorem takeF_tell {r : Rd} {t : Tok} (h : ¬ inCmt r = true) (h1 : ¬ isOpen t.text = true) (h2 : ¬ isShut t.text = true) (h3 : ¬ r.told.length = 16384) : takeF r t = (0, { r with told := r.told ++ [t] }) := by
  unfold takeF; rw [if_neg h, if_neg h1, if_neg h2, if_neg h3]

set_option maxRecDepth 100000 in
set_option maxHeartbeats 8000000 in
theorem refScan_any (s : ByteArray) (w : World) (hs : s.size ≤ 140737488355328) : Calls Tryd.prog 8 #[.string s] w (ScanPost s w) := by
  have ST := stop_any s w hs
  replace ST := show Hid _ from ST
  obtain ⟨i0, hi0, hz0, hz1, hz3⟩ := info_parts info37
  go_enter Tryd.func8, Tryd.ntmps8
  go_wp2_with fail
  refine Calls.mono ST.out ?_
  rintro e w0 ⟨rfl, n, c, rfl, hst⟩
  obtain ⟨hn1, hn2⟩ := stop_le hst
  have WD := refWords_any s w0 hs n c hst
  replace WD := show Hid _ from WD
  have Hst : Hid (stopAt s n c) := hst
  clear ST hst
  go_wp2_with fail
  refine Calls.mono WD.out ?_
  rintro e w1 ⟨v, l, rfl, hown, hl6, hev, hb1⟩
  obtain ⟨va, vc, rfl, _⟩ := slice_form hown
  have Hev : Hid (l.map (fun t => (t, (0 : Int))) ++ evAt s n = events s) := hev
  obtain ⟨L, hL⟩ : ∃ L, L = l.length := ⟨_, rfl⟩
  rw [← hL] at hown hl6 ⊢
  have HL : Hid (L = l.length) := hL
  have Hown : Hid (w1.ownsRow (w0.heap.size + 1) 36 4 (.slice va L vc) L (rowOf l)) := hown
  have hz1' := hb1.size
  clear hown hev hL WD
  go_wp2
  go_loopw [7, 9, 10] (fun tv ov iv wr => ∃ (i : Nat) (told : List Tok) (a : Option Addr) (cp : Nat) (o : Bool) (bg : Tok), i ≤ L ∧ iv = .int .i64 i ∧ tv = .slice a told.length cp ∧ ov = .bool o ∧ Hid (wr.ownsRow (w1.heap.size + 1) 36 4 (.slice a told.length cp) told.length (rowOf told)) ∧ Hid (wr.heap[w1.heap.size]? = some (.cells #[.string bg.text, .int .i64 bg.off, .int .i64 bg.line, .int .i64 bg.col] 36 (0, 0))) ∧ told.length ≤ 16384 ∧ Hid (runF rd0 ((l.take i).map (fun t => (t, (0 : Int)))) = (⟨told, if o then bg else zeroTok⟩, none)) ∧ Hid (o = true → isOpen bg.text = true) ∧ Below w1.heap.size w1 wr) (fun _ _ iv _ => L - (intOf iv).toNat)
  case atStart => exact ⟨0, [], none, 0, false, zeroTok, Nat.zero_le _, rfl, rfl, rfl, World.ownsRow_nil _ _ _ _, heap_new w1 _, Nat.zero_le _, rfl, fun h => (by cases h), (Below.refl _ _).alloc (Nat.le_refl _) _⟩
  case round =>
    obtain ⟨i, told, a, cp, o, bg, hi, rfl, rfl, rfl, htold, hbg, ht6, hrun, hop, hbel⟩ := hrel
    have hbw : Below w0.heap.size w0 wr := hb1.trans (hbel.mono hz1')
    have hzr := hbel.size
    have hBg : w1.heap.size < wr.heap.size := (Array.getElem?_eq_some_iff.1 hbg.out).1
    by_cases hlt : i < L
    · obtain ⟨t, ht⟩ : ∃ t, l[i]? = some t := ⟨l[i]'(by rw [← HL.out]; exact hlt), List.getElem?_eq_getElem _⟩
      have hownr := owns_below Hown.out hbel
      obtain ⟨g, c1, hv, _, hgl⟩ := Hown.out.form (by omega)
      cases hv
      obtain ⟨y0, y1, y2, y3⟩ := row_get l i t ht
      have p0 := owns_cells hownr _ _ y0
      have p1 := owns_cells hownr _ _ y1
      have p2 := owns_cells hownr _ _ y2
      have p3 := owns_cells hownr _ _ y3
      have k0 : (0 : Int) ≤ (i : Int) := by omega
      have k1 : (i : Int) < (L : Int) := by omega
      have hsz := word_size Hev.out ht
      have Hsn : Hid (runF rd0 ((l.take (i + 1)).map (fun t => (t, (0 : Int)))) = if (takeF ⟨told, if o then bg else zeroTok⟩ t).1 = 0 then ((takeF ⟨told, if o then bg else zeroTok⟩ t).2, none) else ((takeF ⟨told, if o then bg else zeroTok⟩ t).2, some (t, (takeF ⟨told, if o then bg else zeroTok⟩ t).1))) := by
        show _ = _
        rw [take_one ht]; exact runF_snoc rd0 (l.take i) t _ hrun.out
      have hin := inCmt_if told o bg hop.out
      clear y0 y1 y2 y3 hownr ht
      cases o with
      | true =>
        have hin' : inCmt ⟨told, bg⟩ = true := hin
        by_cases hsh : isShut t.text = true
        · have Hr : Hid (runF rd0 ((l.take (i + 1)).map (fun t => (t, (0 : Int)))) = (⟨told, zeroTok⟩, none)) := by
            have h := Hsn.out
            simp only [if_true, takeF_shut hin' hsh] at h
            exact h
          unfold isShut at hsh
          clear Hsn hin hin'
          go_wp2
          go_roundw
          case rel => exact ⟨i + 1, told, a, cp, false, bg, by omega, by go_num, rfl, rfl, htold, hbg, ht6, Hr, fun h => (by cases h), hbel⟩
          case measure => simp [intOf]; omega
        · have hsh' : isShut t.text = false := by simpa using hsh
          by_cases hmk : hasMark t.text = true
          · have Hs : Hid (scanF s = (told, some (t, 11))) := by
              have h := Hsn.out
              simp only [if_true, takeF_mark hin' hsh hmk, show ¬ (11 : Int) = 0 by omega, if_false] at h
              exact scan_stop Hev.out (i + 1) _ _ h
            have HM : Hid (hasMark t.text = true) := hmk
            unfold isShut at hsh'
            clear Hsn hin hin' hsh hmk
            have RF : Hid (Calls Tryd.prog 23 #[.agg #[.string t.text, .int .i64 t.off, .int .i64 t.line, .int .i64 t.col], .int .i64 11] wr fun e w' => e = .returned (.pointer (some ⟨wr.heap.size + 1, 0, none⟩)) ∧ FaultAt w' (wr.heap.size + 1) t 11 ∧ Below wr.heap.size wr w') := refFault_any t 11 wr
            go_wp2_with (first | (go_at_call 22; refine (within_any _ _ (by omega)).mono ?_; rintro e wr ⟨rfl, rfl⟩; rw [HM.out]))
            refine Calls.mono RF.out ?_
            rintro e w4 ⟨rfl, hF, hb4⟩
            go_wp2
            refine bodyPost_ret (v := .tuple #[.slice a told.length cp, .pointer (some ⟨wr.heap.size + 1, 0, none⟩)]) (by simp [results, Tryd.results8, go_sem]) rfl ⟨_, _, rfl, ?_, hbw.trans (hb4.mono hbw.size)⟩
            exact out_fault Hs.out (owns_below htold.out hb4) (by omega) (by have := hbw.size; omega) hF
          · have Hr : Hid (runF rd0 ((l.take (i + 1)).map (fun t => (t, (0 : Int)))) = (⟨told, bg⟩, none)) := by
              have h := Hsn.out
              simp only [if_true, takeF_in hin' hsh hmk] at h
              exact h
            have HM : Hid (hasMark t.text = false) := (Bool.not_eq_true _).mp hmk
            unfold isShut at hsh'
            clear Hsn hin hin' hsh hmk
            go_wp2_with (first | (go_at_call 22; refine (within_any _ _ (by omega)).mono ?_; rintro e wr ⟨rfl, rfl⟩; rw [HM.out]))
            go_roundw
            case rel => exact ⟨i + 1, told, a, cp, true, bg, by omega, by go_num, (by first | rfl | trivial), (by first | rfl | trivial), htold, hbg, ht6, Hr, (fun _ => hop.out trivial), hbel⟩
            case measure => simp [intOf]; omega
      | false =>
        have hin' : ¬ inCmt ⟨told, zeroTok⟩ = true := by
          intro h
          have := hin.symm.trans h
          cases this
        by_cases hopn : isOpen t.text = true
        · have Hr : Hid (runF rd0 ((l.take (i + 1)).map (fun t => (t, (0 : Int)))) = (⟨told, t⟩, none)) := by
            have h := Hsn.out
            simp only [Bool.false_eq_true, if_false, takeF_open hin' hopn, if_true] at h
            exact h
          have Hopn : Hid (isOpen t.text = true) := hopn
          unfold isOpen at hopn
          have q0 : wr.cell? ⟨w1.heap.size, 0, none⟩ = some (.string bg.text) := by simp [World.cell?, hbg.out]
          have q1 : wr.cell? ⟨w1.heap.size, 1, none⟩ = some (.int .i64 bg.off) := by simp [World.cell?, hbg.out]
          have q2 : wr.cell? ⟨w1.heap.size, 2, none⟩ = some (.int .i64 bg.line) := by simp [World.cell?, hbg.out]
          have q3 : wr.cell? ⟨w1.heap.size, 3, none⟩ = some (.int .i64 bg.col) := by simp [World.cell?, hbg.out]
          have z0 : wr.frozen? ⟨w1.heap.size, 0, none⟩ = false := by simp [World.frozen?, hbg.out]
          have z1 : wr.frozen? ⟨w1.heap.size, 1, none⟩ = false := by simp [World.frozen?, hbg.out]
          have z2 : wr.frozen? ⟨w1.heap.size, 2, none⟩ = false := by simp [World.frozen?, hbg.out]
          have z3 : wr.frozen? ⟨w1.heap.size, 3, none⟩ = false := by simp [World.frozen?, hbg.out]
          clear Hsn hin hin'
          go_wp2
          go_roundw
          case rel =>
            refine ⟨i + 1, told, a, cp, true, t, by omega, by go_num, rfl, rfl, ?_, ?_, ht6, Hr, fun _ => Hopn.out, ?_⟩
            · refine owns_block htold.out (fun g hg hbg2 => ?_)
              rw [Below.heap_setCell _ _ _ _ (by show _ ≠ w1.heap.size; omega), Below.heap_setCell _ _ _ _ (by show _ ≠ w1.heap.size; omega), Below.heap_setCell _ _ _ _ (by show _ ≠ w1.heap.size; omega), Below.heap_setCell _ _ _ _ (by show _ ≠ w1.heap.size; omega)]
            · show _ = _
              rw [heap_set_same (heap_set_same (heap_set_same (heap_set_same hbg.out)))]; rfl
            · exact (((hbel.setCell (Nat.le_refl _) _).setCell (Nat.le_refl _) _).setCell (Nat.le_refl _) _).setCell (Nat.le_refl _) _
          case measure => simp [intOf]; omega
        · have hopn' : isOpen t.text = false := by simpa using hopn
          unfold isOpen at hopn'
          by_cases hsh : isShut t.text = true
          · have Hs : Hid (scanF s = (told, some (t, 11))) := by
              have h := Hsn.out
              simp only [Bool.false_eq_true, if_false, takeF_out hin' hopn hsh, show ¬ (11 : Int) = 0 by omega] at h
              exact scan_stop Hev.out (i + 1) _ _ h
            unfold isShut at hsh
            clear Hsn hin hin' hopn
            have RF : Hid (Calls Tryd.prog 23 #[.agg #[.string t.text, .int .i64 t.off, .int .i64 t.line, .int .i64 t.col], .int .i64 11] wr fun e w' => e = .returned (.pointer (some ⟨wr.heap.size + 1, 0, none⟩)) ∧ FaultAt w' (wr.heap.size + 1) t 11 ∧ Below wr.heap.size wr w') := refFault_any t 11 wr
            go_wp2_with fail
            refine Calls.mono RF.out ?_
            rintro e w4 ⟨rfl, hF, hb4⟩
            go_wp2
            refine bodyPost_ret (v := .tuple #[.slice a told.length cp, .pointer (some ⟨wr.heap.size + 1, 0, none⟩)]) (by simp [results, Tryd.results8, go_sem]) rfl ⟨_, _, rfl, ?_, hbw.trans (hb4.mono hbw.size)⟩
            exact out_fault Hs.out (owns_below htold.out hb4) (by omega) (by have := hbw.size; omega) hF
          · have hsh' : isShut t.text = false := by simpa using hsh
            unfold isShut at hsh'
            by_cases hfl : told.length = 16384
            · have Hs : Hid (scanF s = (told, some (t, 13))) := by
                have h := Hsn.out
                simp only [Bool.false_eq_true, if_false, takeF_full hin' hopn hsh hfl, show ¬ (13 : Int) = 0 by omega] at h
                exact scan_stop Hev.out (i + 1) _ _ h
              have l6 : ((told.length : Int) == 16384) = true := by simp; omega
              clear Hsn hin hin' hopn hsh hfl
              have RF : Hid (Calls Tryd.prog 23 #[.agg #[.string t.text, .int .i64 t.off, .int .i64 t.line, .int .i64 t.col], .int .i64 13] wr fun e w' => e = .returned (.pointer (some ⟨wr.heap.size + 1, 0, none⟩)) ∧ FaultAt w' (wr.heap.size + 1) t 13 ∧ Below wr.heap.size wr w') := refFault_any t 13 wr
              go_wp2_with fail
              refine Calls.mono RF.out ?_
              rintro e w4 ⟨rfl, hF, hb4⟩
              go_wp2
              refine bodyPost_ret (v := .tuple #[.slice a told.length cp, .pointer (some ⟨wr.heap.size + 1, 0, none⟩)]) (by simp [results, Tryd.results8, go_sem]) rfl ⟨_, _, rfl, ?_, hbw.trans (hb4.mono hbw.size)⟩
              exact out_fault Hs.out (owns_below htold.out hb4) (by omega) (by have := hbw.size; omega) hF
            · have Hr : Hid (runF rd0 ((l.take (i + 1)).map (fun t => (t, (0 : Int)))) = (⟨told ++ [t], zeroTok⟩, none)) := by
                have h := Hsn.out
                simp only [Bool.false_eq_true, if_false, takeF_tell hin' hopn hsh hfl, if_true] at h
                exact h
              have l6 : ((told.length : Int) == 16384) = false := by simp only [beq_eq_false_iff_ne]; omega
              have l7 : told.length + 1 ≤ 16384 := by omega
              obtain ⟨_, _, _, hgo⟩ := slice_form htold.out
              clear Hsn hin hin' hopn hsh hfl
              go_wp2_with (at_builtin; refine wpList_append_lies _ rfl _ _ _ rfl (w1.heap.size + 1) 36 i0 _ 4 40 Tryd.underlying29 hi0 hz0 hz1 hz3 rfl (by omega) _ told.length (rowOf told) (by rfl) (by exact (htold.out.alloc _)) ⟨wr.heap.size, 0, none⟩ 1 1 (tokCells t) (by rfl) (by rfl) (World.news_of_block (cs := #[.string t.text, .int .i64 t.off, .int .i64 t.line, .int .i64 t.col]) (t := 36) (fr := (0, 0)) (heap_alloc_new wr _)) (by simp [tokCells, Value.oneCell']) (by omega) (by unfold maxLen; omega) (by omega) (by simp; omega) (wr.heap.size + 1) (by simp) ?_; intro g2 cap2 w6 hown6 hgrow6 hat6 hlt6)
              go_roundw
              case rel =>
                have e : (told ++ [t]).length = told.length + 1 := by simp
                refine ⟨i + 1, told ++ [t], some ⟨g2, 0, none⟩, cap2, false, bg, by omega, by go_num, by rw [e], rfl, ?_, ?_, by rw [e]; omega, Hr, fun h => (by cases h), ?_⟩
                · show World.ownsRow _ _ _ _ _ _ _
                  rw [e, rowOf_snoc]; exact hown6
                · exact (hgrow6.block w1.heap.size (by simp; omega) (fun h => by have := hgo _ h.symm; omega)).trans ((Below.heap_alloc wr _ _ hBg).trans hbg.out)
                · exact (hbel.alloc (by omega) _).grown hgrow6 (by simp; omega) (fun k h => by have := hgo _ h; omega)
              case measure => simp [intOf]; omega
    · have hiL : i = L := by omega
      have Hr : Hid (runF rd0 (l.map (fun t => (t, (0 : Int)))) = (⟨told, if o then bg else zeroTok⟩, none)) := by
        have h := hrun.out
        rw [hiL, HL.out, List.take_length] at h
        exact h
      have hin := inCmt_if told o bg hop.out
      clear hrun hiL
      rcases Hst.out.2 with ⟨rfl, rfl⟩ | ⟨hns, hc, hc0⟩
      · have he := Hev.out
        rw [evAt_end] at he
        have hsc := scan_whole he _ Hr.out
        rw [hin] at hsc
        cases o with
        | true =>
          have Hs : Hid (scanF s = (told, some (bg, 12))) := hsc
          have q0 : wr.cell? ⟨w1.heap.size, 0, none⟩ = some (.string bg.text) := by simp [World.cell?, hbg.out]
          have q1 : wr.cell? ⟨w1.heap.size, 1, none⟩ = some (.int .i64 bg.off) := by simp [World.cell?, hbg.out]
          have q2 : wr.cell? ⟨w1.heap.size, 2, none⟩ = some (.int .i64 bg.line) := by simp [World.cell?, hbg.out]
          have q3 : wr.cell? ⟨w1.heap.size, 3, none⟩ = some (.int .i64 bg.col) := by simp [World.cell?, hbg.out]
          clear hsc hin he
          have RF : Hid (Calls Tryd.prog 23 #[.agg #[.string bg.text, .int .i64 bg.off, .int .i64 bg.line, .int .i64 bg.col], .int .i64 12] wr fun e w' => e = .returned (.pointer (some ⟨wr.heap.size + 1, 0, none⟩)) ∧ FaultAt w' (wr.heap.size + 1) bg 12 ∧ Below wr.heap.size wr w') := refFault_any bg 12 wr
          go_wp2_with fail
          refine Calls.mono RF.out ?_
          rintro e w4 ⟨rfl, hF, hb4⟩
          go_wp2
          refine bodyPost_ret (v := .tuple #[.slice a told.length cp, .pointer (some ⟨wr.heap.size + 1, 0, none⟩)]) (by simp [results, Tryd.results8, go_sem]) rfl ⟨_, _, rfl, ?_, hbw.trans (hb4.mono hbw.size)⟩
          exact out_fault Hs.out (owns_below htold.out hb4) (by omega) (by have := hbw.size; omega) hF
        | false =>
          have Hs : Hid (scanF s = (told, none)) := hsc
          clear hsc hin he
          go_wp2
          refine bodyPost_ret (v := .tuple #[.slice a told.length cp, .pointer none]) (by simp [results, Tryd.results8, go_sem]) rfl ⟨_, _, rfl, ?_, hbw⟩
          exact out_none Hs.out htold.out (by omega)
      · have he := Hev.out
        rw [evAt_fault s n hns (by rw [← hc]; exact hc0), ← hc] at he
        have Hs : Hid (scanF s = (told, some (faultTokAt s n, c))) := scan_fault hc0 he _ Hr.out
        have c0 : (c == 0) = false := by simp only [beq_eq_false_iff_ne]; exact hc0
        have PL : Hid _ := refPlace_in s n wr hs (by omega)
        clear hc hc0 he hin
        go_wp2_with fail
        refine Calls.mono PL.out ?_
        rintro e w4 ⟨rfl, hb4⟩
        unfold posV
        go_wp2
        go_region
        all_goals (try go_wp2)
        have hF : FaultAt (((w4.alloc (Obj.cells #[.int .i64 n, .int .i64 (lineL (s.data.toList.take n)), .int .i64 (colL (s.data.toList.take n))] 34)).alloc (Obj.cells #[.int .i64 n, .int .i64 (lineL (s.data.toList.take n)), .int .i64 (colL (s.data.toList.take n)), .string ⟨#[]⟩, .int .i64 c] 45)).drew) (w4.heap.size + 1) (faultTokAt s n) c := heap_alloc2_new w4 _ _
        have hb5 := ((hb4.alloc hb4.size (Obj.cells #[.int .i64 n, .int .i64 (lineL (s.data.toList.take n)), .int .i64 (colL (s.data.toList.take n))] 34)).alloc (by have := hb4.size; simp; omega) (Obj.cells #[.int .i64 n, .int .i64 (lineL (s.data.toList.take n)), .int .i64 (colL (s.data.toList.take n)), .string ⟨#[]⟩, .int .i64 c] 45)).drew
        all_goals
          refine bodyPost_ret (v := .tuple #[.slice a told.length cp, .pointer (some ⟨w4.heap.size + 1, 0, none⟩)]) (by simp [results, Tryd.results8, go_sem]) rfl ⟨_, _, rfl, ?_, hbw.trans (hb5.mono hbw.size)⟩
          exact out_fault Hs.out (owns_below htold.out hb5) (by omega) (by have := hbw.size; have := hb4.size; omega) hF
end Go.Proofs.YtipfhfeaalbmcabDoor.K
