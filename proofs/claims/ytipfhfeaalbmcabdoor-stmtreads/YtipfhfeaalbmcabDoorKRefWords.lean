/- What the document's own cut of a text into words answers. -/
import Derived.Test.YtipfhfeaalbmcabDoorKRefA
import Derived.Test.YtipfhfeaalbmcabDoorKScanB
namespace Go.Proofs.YtipfhfeaalbmcabDoor.K
open Go.RowKit

theorem code_kind {k : Nat} {c : UInt8} (h : codeAt k c = 0) : 1 ≤ kindF c.toNat := by
  have hr := kindF_range (c.toNat : Int) (by omega)
  unfold codeAt at h
  split at h
  · cases h
  · split at h
    · cases h
    · omega
theorem stop_le {s : ByteArray} {n : Nat} {c : Int} (h : stopAt s n c) : n ≤ s.size ∧ n ≤ 65536 := by
  have h1 : n ≤ s.size := by
    rcases h.2 with ⟨rfl, _⟩ | ⟨hl, _⟩
    · exact Nat.le_refl _
    · omega
  refine ⟨h1, ?_⟩
  by_cases e : n ≤ 65536
  · exact e
  · have := h.1 65536 (by omega) (by omega)
    unfold codeAt at this; rw [if_pos rfl] at this; cases this

set_option maxRecDepth 100000 in
set_option maxHeartbeats 8000000 in
theorem refWords_any (s : ByteArray) (w : World) (hs : s.size ≤ 140737488355328) (n : Nat) (c : Int) (hst : stopAt s n c) :
    Calls Tryd.prog 21 #[.string s, .int .i64 n] w fun e w' => ∃ (v : Value) (out : List Tok), e = .returned v ∧ w'.ownsRow (w.heap.size + 1) 36 4 v out.length (rowOf out) ∧ out.length ≤ 65536 ∧ out.map (fun t => (t, (0 : Int))) ++ evAt s n = events s ∧ Below w.heap.size w w' := by
  obtain ⟨hn1, hn2⟩ := stop_le hst
  have Hst : Hid (stopAt s n c) := hst
  obtain ⟨i0, hi0, hz0, hz1, hz3⟩ := info_parts info37
  clear hst
  go_enter Tryd.func21, Tryd.ntmps21
  go_wp2
  go_loopw [5, 7] (fun ov iv wr => ∃ (i : Nat) (out : List Tok) (a : Option Addr) (cp po : Nat), i ≤ n ∧ iv = .int .i64 i ∧ ov = .slice a out.length cp ∧ Hid (wr.ownsRow (w.heap.size + 1) 36 4 (.slice a out.length cp) out.length (rowOf out)) ∧ Hid (wr.heap[w.heap.size]? = some (.cells #[.int .i64 po, .int .i64 (lineL (s.data.toList.take po)), .int .i64 (colL (s.data.toList.take po))] 34 (0, 0))) ∧ po ≤ i ∧ out.length ≤ i ∧ Hid (out.map (fun t => (t, (0 : Int))) ++ evAt s i = events s) ∧ Below w.heap.size w wr) (fun _ iv _ => n - (intOf iv).toNat)
  case atStart => exact ⟨0, [], none, 0, 0, Nat.zero_le _, rfl, rfl, World.ownsRow_nil _ _ _ _, heap_new w _, Nat.le_refl _, Nat.le_refl _, rfl, (Below.refl _ _).alloc (Nat.le_refl _) _⟩
  case round =>
    obtain ⟨i, out, a, cp, po, hi, rfl, rfl, hown, hP, hpo, hout, hev, hbel⟩ := hrel
    by_cases hlt : i < n
    · have his : i < s.size := by omega
      have k0 : (0 : Int) ≤ (i : Int) := by omega
      have k1 : (i : Int) < (s.size : Int) := by omega
      have hc := Hst.out.1 i his hlt
      by_cases hb : kindF (s[i]'his).toNat = 1
      · have Hb : Hid (kindF (s[i]'his).toNat = 1) := hb
        have Hev : Hid (out.map (fun t => (t, (0 : Int))) ++ evAt s (i + 1) = events s) := by
          have h := hev.out
          rw [evAt_blank s i his hc hb] at h
          exact h
        clear hb hc
        go_wp2_with (first | (go_at_call 40; refine (blank_true _ _ (by with_reducible exact Hb.out)).mono ?_; rintro e w' ⟨rfl, rfl⟩))
        go_roundw
        case rel => exact ⟨i + 1, out, a, cp, po, by omega, by go_num, rfl, hown, hP, by omega, by omega, Hev, hbel⟩
        case measure => simp [intOf]; omega
      · have Hb : Hid (kindF (s[i]'his).toNat ≠ 1) := hb
        have hw2 : 2 ≤ kindF (s[i]'his).toNat := by have := code_kind hc; omega
        have Hw2 : Hid (2 ≤ kindF (s[i]'his).toNat) := hw2
        obtain ⟨w3, hw3⟩ : ∃ w3, w3 = wr := ⟨_, rfl⟩
        subst hw3
        clear hb hc hw2
        go_wp2_with (first | (go_at_call 40; refine (blank_false _ _ (by with_reducible exact Hb.out)).mono ?_; rintro e w3 ⟨rfl, rfl⟩))
        go_loopw [8] (fun jv wx => ∃ j : Nat, i ≤ j ∧ j ≤ n ∧ jv = .int .i64 j ∧ wx = w3 ∧ Hid (∀ k (h : k < s.size), i ≤ k → k < j → 2 ≤ kindF s[k].toNat)) (fun jv _ => n - (intOf jv).toNat)
        case atStart => exact ⟨i, Nat.le_refl _, by omega, rfl, rfl, fun k _ h1 h2 => by omega⟩
        case round =>
          obtain ⟨j, hij, hj, rfl, hwx, hall⟩ := hrel
          subst hwx
          have HW : Hid (∀ k (h : k < s.size), i ≤ k → k < j → codeAt k s[k] = 0 ∧ kindF s[k].toNat ≠ 1) := fun k h h1 h2 => ⟨Hst.out.1 k h (by omega), by have := hall.out k h h1 h2; omega⟩
          by_cases hjn : j < n
          · have hjs : j < s.size := by omega
            have j0 : (0 : Int) ≤ (j : Int) := by omega
            have j1 : (j : Int) < (s.size : Int) := by omega
            have j2 : (j : Int) < (n : Int) := by omega
            by_cases hjw : 2 ≤ kindF (s[j]'hjs).toNat
            · have Hj : Hid (2 ≤ kindF (s[j]'hjs).toNat) := hjw
              have Hall : Hid (∀ k (h : k < s.size), i ≤ k → k < j + 1 → 2 ≤ kindF s[k].toNat) := by
                intro k h h1 h2
                by_cases e : k = j
                · subst e; exact hjw
                · exact hall.out k h h1 (by omega)
              clear hjw
              go_wp2_with (first | (go_at_call 41; refine (inWord_true _ _ (by with_reducible exact Hj.out)).mono ?_; rintro e w' ⟨rfl, rfl⟩))
              go_roundw
              case rel => exact ⟨j + 1, by omega, by omega, by go_num, (by first | rfl | trivial), Hall⟩
              case measure => simp [intOf]; omega
            · have Hj : Hid (kindF (s[j]'hjs).toNat < 2) := by show _ < _; omega
              have hne : i < j := by
                rcases Nat.lt_or_ge i j with h | h
                · exact h
                · have e : j = i := by omega
                  subst e; exact absurd Hw2.out hjw
              have Hev : Hid (evAt s i = (tokAt s i j, 0) :: evAt s j) := by
                have hc := Hst.out.1 j hjs hjn
                exact evAt_word s i j hne (by omega) HW.out (.inr ⟨hjs, hc, by have := code_kind hc; omega⟩)
              have x0 : (0 : Int) ≤ (i : Int) := by omega
              have x1 : (i : Int) ≤ (j : Int) := by omega
              have x2 : (j : Int) ≤ (s.size : Int) := by omega
              clear hjw
              have P0 : wr.cell? ⟨w.heap.size, 0, none⟩ = some (.int .i64 po) := by simp [World.cell?, hP.out]
              have P1 : wr.cell? ⟨w.heap.size, 1, none⟩ = some (.int .i64 (lineL (s.data.toList.take po))) := by simp [World.cell?, hP.out]
              have P2 : wr.cell? ⟨w.heap.size, 2, none⟩ = some (.int .i64 (colL (s.data.toList.take po))) := by simp [World.cell?, hP.out]
              have FO : Hid (Calls Tryd.prog 30 #[.string s, .agg #[.int .i64 po, .int .i64 (lineL (s.data.toList.take po)), .int .i64 (colL (s.data.toList.take po))], .int .i64 i] wr fun e w' => e = .returned (posV s i) ∧ Below wr.heap.size wr w') := forth_any s po i wr hs hpo (by omega)
              go_wp2_with (first | (go_at_call 41; refine (inWord_false _ _ (by with_reducible exact Hj.out)).mono ?_; rintro e wr ⟨rfl, rfl⟩))
              refine Calls.mono FO.out ?_
              rintro e w4 ⟨rfl, hb4⟩
              unfold posV
              have hP4 : w4.heap[w.heap.size]? = some (.cells #[.int .i64 po, .int .i64 (lineL (s.data.toList.take po)), .int .i64 (colL (s.data.toList.take po))] 34 (0, 0)) := (hb4.block _ (Array.getElem?_eq_some_iff.1 hP.out).1).trans hP.out
              have q0 : w4.cell? ⟨w.heap.size, 0, none⟩ = some (.int .i64 po) := by simp [World.cell?, hP4]
              have q1 : w4.cell? ⟨w.heap.size, 1, none⟩ = some (.int .i64 (lineL (s.data.toList.take po))) := by simp [World.cell?, hP4]
              have q2 : w4.cell? ⟨w.heap.size, 2, none⟩ = some (.int .i64 (colL (s.data.toList.take po))) := by simp [World.cell?, hP4]
              have z0 : w4.frozen? ⟨w.heap.size, 0, none⟩ = false := by simp [World.frozen?, hP4]
              have z1 : w4.frozen? ⟨w.heap.size, 1, none⟩ = false := by simp [World.frozen?, hP4]
              have z2 : w4.frozen? ⟨w.heap.size, 2, none⟩ = false := by simp [World.frozen?, hP4]
              have HP4 : Hid _ := hP4
              have own4 : Hid (w4.ownsRow (w.heap.size + 1) 36 4 (.slice a out.length cp) out.length (rowOf out)) := owns_block hown.out (fun g hg _ => hb4.block g hg)
              have bel4 : Below w.heap.size w w4 := hbel.trans (hb4.mono hbel.size)
              have hz4 := hb4.size
              clear hP4 FO P0 P1 P2
              go_wp2_with fail
              generalize hw5 : ((w4.setCell ⟨w.heap.size, 0, none⟩ (.int .i64 i)).setCell ⟨w.heap.size, 1, none⟩ (.int .i64 (lineL (s.data.toList.take i)))).setCell ⟨w.heap.size, 2, none⟩ (.int .i64 (colL (s.data.toList.take i))) = w5
              have hP5 : w5.heap[w.heap.size]? = some (.cells #[.int .i64 i, .int .i64 (lineL (s.data.toList.take i)), .int .i64 (colL (s.data.toList.take i))] 34 (0, 0)) := by
                rw [← hw5, heap_set_same (heap_set_same (heap_set_same HP4.out))]; rfl
              have bel5 : Below w.heap.size w w5 := by
                rw [← hw5]
                exact ((bel4.setCell (Nat.le_refl _) _).setCell (Nat.le_refl _) _).setCell (Nat.le_refl _) _
              have own5 : w5.ownsRow (w.heap.size + 1) 36 4 (.slice a out.length cp) out.length (rowOf out) := by
                rw [← hw5]
                refine owns_block own4.out (fun g hg hbg => ?_)
                rw [Below.heap_setCell _ _ _ _ (by show _ ≠ w.heap.size; omega), Below.heap_setCell _ _ _ _ (by show _ ≠ w.heap.size; omega), Below.heap_setCell _ _ _ _ (by show _ ≠ w.heap.size; omega)]
              have hz5 : w.heap.size < w5.heap.size := (Array.getElem?_eq_some_iff.1 hP5).1
              have r0 : w5.cell? ⟨w.heap.size, 0, none⟩ = some (.int .i64 i) := by simp [World.cell?, hP5]
              have r1 : w5.cell? ⟨w.heap.size, 1, none⟩ = some (.int .i64 (lineL (s.data.toList.take i))) := by simp [World.cell?, hP5]
              have r2 : w5.cell? ⟨w.heap.size, 2, none⟩ = some (.int .i64 (colL (s.data.toList.take i))) := by simp [World.cell?, hP5]
              have HP5 : Hid _ := hP5
              have Own5 : Hid (w5.ownsRow (w.heap.size + 1) 36 4 (.slice a out.length cp) out.length (rowOf out)) := own5
              clear hw5 q0 q1 q2 z0 z1 z2 hP5 own5
              go_region_law (refine step_append_lies _ (by rfl) _ _ _ (by rfl) (w.heap.size + 1) 36 i0 _ 4 40 Tryd.underlying29 hi0 hz0 hz1 hz3 rfl (by omega) _ out.length (rowOf out) (by rfl) (by exact (Own5.out.drew.alloc _)) ⟨w5.heap.size, 0, none⟩ 1 1 (tokCells (tokAt s i j)) (by rfl) (by rfl) (World.news_of_block (cs := #[.string (s.extract i j), .int .i64 i, .int .i64 (lineL (s.data.toList.take i)), .int .i64 (colL (s.data.toList.take i))]) (t := 36) (fr := (0, 0)) (heap_alloc_new w5.drew _)) (by simp [tokCells, tokAt, Value.oneCell']) (by omega) (by unfold maxLen; omega) (by omega) (by simp; omega) (w5.heap.size + 1) (by simp) ?_; intro g2 cap2 w6 hown6 hgrow6 hat6 hlt6)
              all_goals go_wp2
              all_goals go_roundw
              case rel =>
                have e : (out ++ [tokAt s i j]).length = out.length + 1 := by simp
                have hgo : ∀ g, (Value.slice a out.length cp).ownBlock = some g → w.heap.size + 1 ≤ g := by
                  obtain ⟨_, _, _, h⟩ := slice_form Own5.out
                  exact h
                refine ⟨j, out ++ [tokAt s i j], some ⟨g2, 0, none⟩, cap2, i, hj, rfl, by rw [e], ?_, ?_, by omega, by rw [e]; omega, ?_, ?_⟩
                · show World.ownsRow _ _ _ _ _ _ _
                  rw [e, rowOf_snoc]; exact hown6
                · exact (hgrow6.block w.heap.size (by simp; omega) (fun h => by have := hgo _ h.symm; omega)).trans ((Below.heap_alloc w5.drew _ _ hz5).trans HP5.out)
                · show _ = _
                  rw [List.map_append, List.append_assoc, List.map_cons, List.map_nil, List.singleton_append, ← Hev.out]; exact hev.out
                · exact (bel5.drew.alloc (by have := bel5.size; simp; omega) _).grown hgrow6 (by have := bel5.size; simp; omega) (fun k h => by have := hgo _ h; omega)
              case measure => simp [intOf]; omega
          · have hje : j = n := by omega
            by_cases hns : n = s.size
            · have hne : i < j := by omega
              have Hev : Hid (evAt s i = (tokAt s i j, 0) :: evAt s j) := evAt_word s i j hne (by omega) HW.out (.inl (by omega))
              have x0 : (0 : Int) ≤ (i : Int) := by omega
              have x1 : (i : Int) ≤ (j : Int) := by omega
              have x2 : (j : Int) ≤ (s.size : Int) := by omega
              have j2 : decide ((j : Int) < (n : Int)) = false := decide_eq_false (by omega)
              have j3 : ((n : Int) == (s.size : Int)) = true := by simp; omega
              clear hns hje
              have P0 : wr.cell? ⟨w.heap.size, 0, none⟩ = some (.int .i64 po) := by simp [World.cell?, hP.out]
              have P1 : wr.cell? ⟨w.heap.size, 1, none⟩ = some (.int .i64 (lineL (s.data.toList.take po))) := by simp [World.cell?, hP.out]
              have P2 : wr.cell? ⟨w.heap.size, 2, none⟩ = some (.int .i64 (colL (s.data.toList.take po))) := by simp [World.cell?, hP.out]
              have FO : Hid (Calls Tryd.prog 30 #[.string s, .agg #[.int .i64 po, .int .i64 (lineL (s.data.toList.take po)), .int .i64 (colL (s.data.toList.take po))], .int .i64 i] wr fun e w' => e = .returned (posV s i) ∧ Below wr.heap.size wr w') := forth_any s po i wr hs hpo (by omega)
              go_wp2_with fail
              refine Calls.mono FO.out ?_
              rintro e w4 ⟨rfl, hb4⟩
              unfold posV
              have hP4 : w4.heap[w.heap.size]? = some (.cells #[.int .i64 po, .int .i64 (lineL (s.data.toList.take po)), .int .i64 (colL (s.data.toList.take po))] 34 (0, 0)) := (hb4.block _ (Array.getElem?_eq_some_iff.1 hP.out).1).trans hP.out
              have q0 : w4.cell? ⟨w.heap.size, 0, none⟩ = some (.int .i64 po) := by simp [World.cell?, hP4]
              have q1 : w4.cell? ⟨w.heap.size, 1, none⟩ = some (.int .i64 (lineL (s.data.toList.take po))) := by simp [World.cell?, hP4]
              have q2 : w4.cell? ⟨w.heap.size, 2, none⟩ = some (.int .i64 (colL (s.data.toList.take po))) := by simp [World.cell?, hP4]
              have z0 : w4.frozen? ⟨w.heap.size, 0, none⟩ = false := by simp [World.frozen?, hP4]
              have z1 : w4.frozen? ⟨w.heap.size, 1, none⟩ = false := by simp [World.frozen?, hP4]
              have z2 : w4.frozen? ⟨w.heap.size, 2, none⟩ = false := by simp [World.frozen?, hP4]
              have HP4 : Hid _ := hP4
              have own4 : Hid (w4.ownsRow (w.heap.size + 1) 36 4 (.slice a out.length cp) out.length (rowOf out)) := owns_block hown.out (fun g hg _ => hb4.block g hg)
              have bel4 : Below w.heap.size w w4 := hbel.trans (hb4.mono hbel.size)
              have hz4 := hb4.size
              clear hP4 FO P0 P1 P2
              go_wp2_with fail
              generalize hw5 : ((w4.setCell ⟨w.heap.size, 0, none⟩ (.int .i64 i)).setCell ⟨w.heap.size, 1, none⟩ (.int .i64 (lineL (s.data.toList.take i)))).setCell ⟨w.heap.size, 2, none⟩ (.int .i64 (colL (s.data.toList.take i))) = w5
              have hP5 : w5.heap[w.heap.size]? = some (.cells #[.int .i64 i, .int .i64 (lineL (s.data.toList.take i)), .int .i64 (colL (s.data.toList.take i))] 34 (0, 0)) := by
                rw [← hw5, heap_set_same (heap_set_same (heap_set_same HP4.out))]; rfl
              have bel5 : Below w.heap.size w w5 := by
                rw [← hw5]
                exact ((bel4.setCell (Nat.le_refl _) _).setCell (Nat.le_refl _) _).setCell (Nat.le_refl _) _
              have own5 : w5.ownsRow (w.heap.size + 1) 36 4 (.slice a out.length cp) out.length (rowOf out) := by
                rw [← hw5]
                refine owns_block own4.out (fun g hg hbg => ?_)
                rw [Below.heap_setCell _ _ _ _ (by show _ ≠ w.heap.size; omega), Below.heap_setCell _ _ _ _ (by show _ ≠ w.heap.size; omega), Below.heap_setCell _ _ _ _ (by show _ ≠ w.heap.size; omega)]
              have hz5 : w.heap.size < w5.heap.size := (Array.getElem?_eq_some_iff.1 hP5).1
              have r0 : w5.cell? ⟨w.heap.size, 0, none⟩ = some (.int .i64 i) := by simp [World.cell?, hP5]
              have r1 : w5.cell? ⟨w.heap.size, 1, none⟩ = some (.int .i64 (lineL (s.data.toList.take i))) := by simp [World.cell?, hP5]
              have r2 : w5.cell? ⟨w.heap.size, 2, none⟩ = some (.int .i64 (colL (s.data.toList.take i))) := by simp [World.cell?, hP5]
              have HP5 : Hid _ := hP5
              have Own5 : Hid (w5.ownsRow (w.heap.size + 1) 36 4 (.slice a out.length cp) out.length (rowOf out)) := own5
              clear hw5 q0 q1 q2 z0 z1 z2 hP5 own5
              go_region_law (refine step_append_lies _ (by rfl) _ _ _ (by rfl) (w.heap.size + 1) 36 i0 _ 4 40 Tryd.underlying29 hi0 hz0 hz1 hz3 rfl (by omega) _ out.length (rowOf out) (by rfl) (by exact (Own5.out.drew.alloc _)) ⟨w5.heap.size, 0, none⟩ 1 1 (tokCells (tokAt s i j)) (by rfl) (by rfl) (World.news_of_block (cs := #[.string (s.extract i j), .int .i64 i, .int .i64 (lineL (s.data.toList.take i)), .int .i64 (colL (s.data.toList.take i))]) (t := 36) (fr := (0, 0)) (heap_alloc_new w5.drew _)) (by simp [tokCells, tokAt, Value.oneCell']) (by omega) (by unfold maxLen; omega) (by omega) (by simp; omega) (w5.heap.size + 1) (by simp) ?_; intro g2 cap2 w6 hown6 hgrow6 hat6 hlt6)
              all_goals go_wp2
              all_goals go_roundw
              case rel =>
                have e : (out ++ [tokAt s i j]).length = out.length + 1 := by simp
                have hgo : ∀ g, (Value.slice a out.length cp).ownBlock = some g → w.heap.size + 1 ≤ g := by
                  obtain ⟨_, _, _, h⟩ := slice_form Own5.out
                  exact h
                refine ⟨j, out ++ [tokAt s i j], some ⟨g2, 0, none⟩, cap2, i, hj, rfl, by rw [e], ?_, ?_, by omega, by rw [e]; omega, ?_, ?_⟩
                · show World.ownsRow _ _ _ _ _ _ _
                  rw [e, rowOf_snoc]; exact hown6
                · exact (hgrow6.block w.heap.size (by simp; omega) (fun h => by have := hgo _ h.symm; omega)).trans ((Below.heap_alloc w5.drew _ _ hz5).trans HP5.out)
                · show _ = _
                  rw [List.map_append, List.append_assoc, List.map_cons, List.map_nil, List.singleton_append, ← Hev.out]; exact hev.out
                · exact (bel5.drew.alloc (by have := bel5.size; simp; omega) _).grown hgrow6 (by have := bel5.size; simp; omega) (fun k h => by have := hgo _ h; omega)
              case measure => simp [intOf]; omega
            · have Hev : Hid (evAt s i = evAt s j) := by
                rcases Hst.out.2 with ⟨e, _⟩ | ⟨hl, e1, e2⟩
                · exact absurd e hns
                · subst hje; exact evAt_broken s i j hij hl HW.out (by rw [← e1]; exact e2)
              have j2 : decide ((j : Int) < (n : Int)) = false := decide_eq_false (by omega)
              have j3 : ((n : Int) == (s.size : Int)) = false := by simp only [beq_eq_false_iff_ne]; omega
              have Hev2 : Hid (out.map (fun t => (t, (0 : Int))) ++ evAt s j = events s) := by
                have h := hev.out; rw [Hev.out] at h; exact h
              clear hns hje
              go_wp2_with fail
              go_roundw
              case rel => exact ⟨j, out, a, cp, po, hj, rfl, rfl, hown, hP, by omega, by omega, Hev2, hbel⟩
              case measure => simp [intOf]; omega
    · have hin : i = n := by omega
      go_wp2
      go_ret
      exact ⟨_, out, rfl, hown.out, by omega, by rw [← hin]; exact hev.out, hbel⟩
end Go.Proofs.YtipfhfeaalbmcabDoor.K
