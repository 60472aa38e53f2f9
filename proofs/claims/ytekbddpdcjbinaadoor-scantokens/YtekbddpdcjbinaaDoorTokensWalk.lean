/- The walk of the law that every word that is told stands where it says. -/
import Derived.Test.YtekbddpdcjbinaaDoorFirstWalk
import Derived.Test.YtekbddpdcjbinaaDoorBytes
import Derived.Test.YtekbddpdcjbinaaDoorPlaced
namespace Go.Proofs.YtekbddpdcjbinaaDoor
open Go.RowKit

/-- Where the word ahead of the number k begins. -/
def offTo (l : List Tok) (k : Nat) : Nat := if k = 0 then 0 else (l.getD (k - 1) zeroTok).off.toNat
theorem offTo_le {s : ByteArray} {l : List Tok} {q : Nat} (h : ToldTo s q l) {k : Nat} {t : Tok} (ht : l[k]? = some t) : ∃ n m, Stands s t n m ∧ isOpen t.text = false ∧ isShut t.text = false ∧ offTo l k ≤ n ∧ offTo l (k + 1) = n ∧
    (0 < k → ∃ t' n', l[k - 1]? = some t' ∧ t'.off = (n' : Nat) ∧ n' + t'.text.size < n) := by
  obtain ⟨n, m, h1, h2, h3, h4⟩ := h.at k t ht
  have hget : ∀ j t', l[j]? = some t' → l.getD j zeroTok = t' := fun j t' h => by rw [List.getD_eq_getElem?_getD, h]; rfl
  refine ⟨n, m, h1, h2, h3, ?_, ?_, ?_⟩
  · unfold offTo
    split
    · omega
    · rename_i h0
      obtain ⟨t', ht'⟩ : ∃ t', l[k - 1]? = some t' := ⟨l[k - 1]'(by have := (List.getElem?_eq_some_iff.1 ht).1; omega), List.getElem?_eq_getElem _⟩
      obtain ⟨n', m', a, b⟩ := h4 t' (by omega) ht'
      have := a.lt
      rw [hget _ _ ht', a.off]; omega
  · unfold offTo
    rw [if_neg (by omega), Nat.add_sub_cancel, hget _ _ ht, h1.off]; omega
  · intro h0
    obtain ⟨t', ht'⟩ : ∃ t', l[k - 1]? = some t' := ⟨l[k - 1]'(by have := (List.getElem?_eq_some_iff.1 ht).1; omega), List.getElem?_eq_getElem _⟩
    obtain ⟨n', m', a, b⟩ := h4 t' h0 ht'
    have := a.lt
    have := a.le
    exact ⟨t', n', ht', a.off, by rw [a.text, ByteArray.size_extract]; omega⟩

theorem good_false (c : UInt8) (w : World) (h : kindF c.toNat < 2) : Calls Tryd.prog 15 #[.int .u8 c.toNat] w fun e w' => e = .returned (.bool false) ∧ w' = w := by
  have := good_byte c w; rwa [decide_eq_false (by omega)] at this
theorem part_false (c : UInt8) (w : World) (h : ¬ kindF c.toNat = 1) : Calls Tryd.prog 16 #[.int .u8 c.toNat] w fun e w' => e = .returned (.bool false) ∧ w' = w := by
  have := part_any c w; rwa [decide_eq_false h] at this
theorem good_true (c : UInt8) (w : World) (h : 2 ≤ kindF c.toNat) : Calls Tryd.prog 15 #[.int .u8 c.toNat] w fun e w' => e = .returned (.bool true) ∧ w' = w := by
  have := good_byte c w; rwa [decide_eq_true h] at this
theorem part_true (c : UInt8) (w : World) (h : kindF c.toNat = 1) : Calls Tryd.prog 16 #[.int .u8 c.toNat] w fun e w' => e = .returned (.bool true) ∧ w' = w := by
  have := part_any c w; rwa [decide_eq_true h] at this

set_option maxRecDepth 100000 in
set_option maxHeartbeats 8000000 in
theorem tokens_walk (s : ByteArray) (w : World) (m : Int) (hs : s.size ≤ 140737488355328) (hKB : KB w) (hm : w.cell? ⟨1, 0, none⟩ = some (.int .i64 m)) :
    Calls Tryd.prog 6 #[.string s] w fun e w' => e = .returned (.bool true) ∧ Below w.heap.size w w' := by
  have hw1 : 1 < w.heap.size := World.block_lt_of_cell? _ _ hm
  have AL := alive_any w m hKB hm
  replace AL := show Hid _ from AL
  obtain ⟨⟨Q, hT⟩, hN, hFl⟩ := scan_stands s
  go_enter Tryd.func6, Tryd.ntmps6
  go_wp2_with fail
  refine Calls.mono AL.out ?_
  rintro e w1 ⟨rfl, hb1⟩
  have hz1 := hb1.size
  have SC := scan_any s w1 m (by omega) (kb_below hKB hb1 hw1) (max_below hm hb1 hw1)
  replace SC := show Hid _ from SC
  go_wp2_with fail
  refine Calls.mono SC.out ?_
  rintro e w2 ⟨v, fv, rfl, hout, hb2⟩
  obtain ⟨hown, hfv⟩ := hout
  have hbw : Below w.heap.size w w2 := hb1.trans (hb2.mono hz1)
  have hz2 := hbw.size
  obtain ⟨va, vc, rfl, _⟩ := slice_form hown
  have Hfv : Hid _ := hfv
  have HN : Hid ((scanF s).2 = none → s.size ≤ 65536) := hN
  have HFl : Hid (∀ t c, (scanF s).2 = some (t, c) → FaultOf s (scanF s).1 t c) := hFl
  obtain ⟨l, hl⟩ : ∃ l, l = (scanF s).1 := ⟨_, rfl⟩
  rw [← hl] at hown hT ⊢
  have HT : Hid (ToldTo s Q l) := hT
  obtain ⟨L, hL⟩ : ∃ L, L = l.length := ⟨_, rfl⟩
  rw [← hL] at hown ⊢
  have HL : Hid (L = l.length) := hL
  have hL6 : L ≤ 16384 := by rw [hL, hl]; exact scanF_len s
  have Hl : Hid (l = (scanF s).1) := hl
  have Hown : Hid (w2.ownsRow w1.heap.size 37 4 (.slice va L vc) L (rowOf l)) := hown
  clear hown hfv hN hFl hT hL hl SC AL
  go_wp2
  obtain ⟨P, hP⟩ : ∃ P, P = w2.heap.size := ⟨_, rfl⟩
  have HP : Hid (P = w2.heap.size) := hP
  rw [← hP]
  clear hP
  go_loopw [7] (fun i wr => ∃ (k : Nat), k ≤ L ∧ i = .int .i64 k ∧ Hid (wr.heap[P]? = some (.cells #[.int .i64 (offTo l k), .int .i64 (lineL (s.data.toList.take (offTo l k))), .int .i64 (colL (s.data.toList.take (offTo l k)))] 30 (0, 0))) ∧ Below w2.heap.size w2 wr) (fun i _ => L - (intOf i).toNat)
  case atStart =>
    refine ⟨0, Nat.zero_le _, rfl, ?_, (Below.refl _ _).alloc (Nat.le_refl _) _⟩
    rw [HP.out]; exact heap_new w2 _
  case round =>
    obtain ⟨k, hk, rfl, hPc, hbel⟩ := hrel
    have hownr := owns_below Hown.out hbel
    have hzr := hbel.size
    by_cases hlt : k < L
    · obtain ⟨t, ht⟩ : ∃ t, l[k]? = some t := ⟨l[k]'(by rw [← HL.out]; exact hlt), List.getElem?_eq_getElem _⟩
      obtain ⟨n, e, hst, ho, hsh, hle, hnx, hprev⟩ := offTo_le HT.out ht
      obtain ⟨y0, y1, y2, y3⟩ := row_get l k t ht
      obtain ⟨g, c1, hv, _, _⟩ := hownr.form (by omega)
      cases hv
      have p0 := owns_cells hownr _ _ y0
      have p1 := owns_cells hownr _ _ y1
      have p2 := owns_cells hownr _ _ y2
      have p3 := owns_cells hownr _ _ y3
      rw [hst.off] at p1
      rw [hst.line] at p2
      rw [hst.col] at p3
      have hPlt : P < wr.heap.size := (Array.getElem?_eq_some_iff.1 hPc.out).1
      obtain ⟨T, hTT⟩ : ∃ T, T = t.text := ⟨_, rfl⟩
      rw [← hTT] at p0 ho hsh
      have hTs : T.size = e - n := by rw [hTT, hst.text, ByteArray.size_extract]; have := hst.le; omega
      have hTe : s.extract n (n + T.size) = T := by rw [hTs, show n + (e - n) = e by have := hst.lt; omega, hTT, hst.text]
      have hne := hst.lt
      have hes := hst.le
      have c0 : (wr.alloc (.cells #[.string T, .int .i64 n, .int .i64 (lineL (s.data.toList.take n)), .int .i64 (colL (s.data.toList.take n))] 37)).cell? ⟨P, 0, none⟩ = some (.int .i64 (offTo l k)) := by
        rw [World.cell?_alloc_past _ _ _ (by simpa using hPlt)]; simp [World.cell?, hPc.out]
      have c1 : (wr.alloc (.cells #[.string T, .int .i64 n, .int .i64 (lineL (s.data.toList.take n)), .int .i64 (colL (s.data.toList.take n))] 37)).cell? ⟨P, 1, none⟩ = some (.int .i64 (lineL (s.data.toList.take (offTo l k)))) := by
        rw [World.cell?_alloc_past _ _ _ (by simpa using hPlt)]; simp [World.cell?, hPc.out]
      have c2 : (wr.alloc (.cells #[.string T, .int .i64 n, .int .i64 (lineL (s.data.toList.take n)), .int .i64 (colL (s.data.toList.take n))] 37)).cell? ⟨P, 2, none⟩ = some (.int .i64 (colL (s.data.toList.take (offTo l k)))) := by
        rw [World.cell?_alloc_past _ _ _ (by simpa using hPlt)]; simp [World.cell?, hPc.out]
      have k0 : (0 : Int) ≤ (k : Int) := by omega
      have k1 : (k : Int) < (L : Int) := by omega
      have Hst : Hid (Stands s t n e) := hst
      have HTT : Hid (T = t.text) := hTT
      have HTs : Hid (T.size = e - n) := hTs
      have hT1 : (1 : Int) ≤ (T.size : Int) := by omega
      have hT2 : (n : Int) + (T.size : Int) ≤ (s.size : Int) := by omega
      have n0 : (0 : Int) ≤ (n : Int) := by omega
      have hT0 : ((T.size : Int) == 0) = false := by simp only [beq_eq_false_iff_ne]; omega
      have hT3 : decide ((s.size : Int) < (n : Int) + (T.size : Int)) = false := by simp; omega
      have hT4 : (n : Int) ≤ (n : Int) + (T.size : Int) := by omega
      have hT5 : (0 : Int) ≤ (n : Int) + (T.size : Int) := by omega
      have hT6 : ((n : Int) + (T.size : Int)).toNat = n + T.size := by omega
      unfold isOpen at ho
      unfold isShut at hsh
      clear hTs y0 y1 y2 y3 ht hownr hst hTT
      go_wp2_with fail
      refine Calls.mono (placed_any s (offTo l k) n _ (by omega) hle (by omega)) ?_
      rintro e w4 ⟨rfl, hb4⟩
      unfold posV
      have hz4 := hb4.size
      have hB4 : w4.heap[wr.heap.size]? = some (.cells #[.string T, .int .i64 n, .int .i64 (lineL (s.data.toList.take n)), .int .i64 (colL (s.data.toList.take n))] 37 (0, 0)) := (hb4.block _ (by simp)).trans (heap_alloc_new _ _)
      have hP4 : w4.heap[P]? = some (.cells #[.int .i64 (offTo l k), .int .i64 (lineL (s.data.toList.take (offTo l k))), .int .i64 (colL (s.data.toList.take (offTo l k)))] 30 (0, 0)) := by
        rw [hb4.block P (by simp; omega), heap_alloc_old _ _ hPlt]; exact hPc.out
      have q0 : w4.cell? ⟨P, 0, none⟩ = some (.int .i64 (offTo l k)) := by simp [World.cell?, hP4]
      have q1 : w4.cell? ⟨P, 1, none⟩ = some (.int .i64 (lineL (s.data.toList.take (offTo l k)))) := by simp [World.cell?, hP4]
      have q2 : w4.cell? ⟨P, 2, none⟩ = some (.int .i64 (colL (s.data.toList.take (offTo l k)))) := by simp [World.cell?, hP4]
      have z0 : w4.frozen? ⟨P, 0, none⟩ = false := by simp [World.frozen?, hP4]
      have z1 : w4.frozen? ⟨P, 1, none⟩ = false := by simp [World.frozen?, hP4]
      have z2 : w4.frozen? ⟨P, 2, none⟩ = false := by simp [World.frozen?, hP4]
      have b0 : w4.cell? ⟨wr.heap.size, 0, none⟩ = some (.string T) := by simp [World.cell?, hB4]
      have b1 : w4.cell? ⟨wr.heap.size, 1, none⟩ = some (.int .i64 n) := by simp [World.cell?, hB4]
      have HB4 : Hid _ := hB4
      have HP4 : Hid _ := hP4
      clear hB4 hP4 c0 c1 c2
      go_wp2_with fail
      generalize hw5 : ((w4.setCell ⟨P, 0, none⟩ (.int .i64 n)).setCell ⟨P, 1, none⟩ (.int .i64 (lineL (s.data.toList.take n)))).setCell ⟨P, 2, none⟩ (.int .i64 (colL (s.data.toList.take n))) = w5
      have hP5 : Hid (w5.heap[P]? = some (.cells #[.int .i64 n, .int .i64 (lineL (s.data.toList.take n)), .int .i64 (colL (s.data.toList.take n))] 30 (0, 0))) := by
        show _ = _
        rw [← hw5, heap_set_same (heap_set_same (heap_set_same HP4.out))]; rfl
      have hbel4 : Below w2.heap.size w2 w4 := (hbel.alloc hbel.size _).trans (hb4.mono (by simp; omega))
      have hPw : w2.heap.size ≤ P := by rw [HP.out]; exact Nat.le_refl _
      have hbel5 : Below w2.heap.size w2 w5 := by
        rw [← hw5]
        exact ((hbel4.setCell hPw _).setCell hPw _).setCell hPw _
      have hB5 : w5.heap[wr.heap.size]? = some (.cells #[.string T, .int .i64 n, .int .i64 (lineL (s.data.toList.take n)), .int .i64 (colL (s.data.toList.take n))] 37 (0, 0)) := by
        rw [← hw5, Below.heap_setCell _ _ _ _ (by show _ ≠ P; omega), Below.heap_setCell _ _ _ _ (by show _ ≠ P; omega), Below.heap_setCell _ _ _ _ (by show _ ≠ P; omega)]; exact HB4.out
      have b0 : w5.cell? ⟨wr.heap.size, 0, none⟩ = some (.string T) := by simp [World.cell?, hB5]
      have b1 : w5.cell? ⟨wr.heap.size, 1, none⟩ = some (.int .i64 n) := by simp [World.cell?, hB5]
      clear hw5 hB5 q0 q1 q2 z0 z1 z2
      go_quiet (fail)
      go_wp2_with fail
      go_loopw [10] (fun i wx => ∃ j : Nat, j ≤ T.size ∧ i = .int .i64 j ∧ wx = w5.drewN nq) (fun i _ => T.size - (intOf i).toNat)
      case atStart => exact ⟨0, Nat.zero_le _, rfl, rfl⟩
      case round =>
        obtain ⟨j, hj, rfl, rfl⟩ := hrel
        by_cases hjl : j < T.size
        · have j0 : (0 : Int) ≤ (j : Int) := by omega
          have j1 : (j : Int) < (T.size : Int) := by omega
          have hG : Hid (2 ≤ kindF (T[j]'hjl).toNat) := by
            have hs1 := Hst.out.word (n + j) (by omega) (by have := HTs.out; omega) (by omega)
            have hb : T[j]'hjl = s[n + j]'(by omega) := by
              have h1 := HTT.out; rw [Hst.out.text] at h1; subst h1
              simp [ByteArray.getElem_extract]
            show 2 ≤ kindF _
            rw [hb]; exact hs1
          go_wp2_with fail
          refine Calls.mono (good_true _ _ hG.out) ?_
          rintro e w' ⟨rfl, rfl⟩
          go_wp2
          go_roundw
          case rel => exact ⟨j + 1, by omega, by go_num, by first | rfl | trivial⟩
          case measure => simp [intOf]; omega
        · go_wp2_with fail
          have hown5 := owns_below Hown.out hbel5
          have FA : (decide ((0 : Int) < (n : Int)) = false ∧ (0 < n) = False) ∨ (0 < n ∧ IntKind.i64.wrap ((n : Int) - 1) = ((n - 1 : Nat) : Int) ∧ ((n - 1 : Nat) : Int) < (s.size : Int) ∧ Hid (∀ h : n - 1 < s.size, kindF (s[n - 1]'h).toNat = 1)) := by
            by_cases hn0 : 0 < n
            · exact .inr ⟨hn0, by rw [IntWalk.i64_in _ (by omega)]; omega, by omega, Hst.out.ahead hn0⟩
            · exact .inl ⟨decide_eq_false (by omega), eq_false hn0⟩
          have FB : decide ((n : Int) + (T.size : Int) < (s.size : Int)) = false ∨ ((n : Int) + (T.size : Int) < (s.size : Int) ∧ Hid (∀ h : n + T.size < s.size, kindF (s[n + T.size]'h).toNat = 1)) := by
            by_cases he : n + T.size < s.size
            · refine .inr ⟨by omega, ?_⟩
              have h := Hst.out.behind
              rw [show e = n + T.size by have := HTs.out; omega] at h
              exact h
            · exact .inl (decide_eq_false (by omega))
          have FC : (decide ((0 : Int) < (k : Int)) = false ∧ (0 < k) = False) ∨ ∃ (T' : ByteArray) (n' : Nat), 0 < k ∧ IntKind.i64.wrap ((k : Int) - 1) = ((k - 1 : Nat) : Int) ∧ ((k - 1 : Nat) : Int) < (L : Int) ∧ w5.cell? ⟨g, (k - 1) * 4, none⟩ = some (.string T') ∧ w5.cell? ⟨g, (k - 1) * 4 + 1, none⟩ = some (.int .i64 (n' : Int)) ∧ (n' : Int) + (T'.size : Int) ≤ (s.size : Int) ∧ decide ((n : Int) ≤ (n' : Int) + (T'.size : Int)) = false := by
            by_cases hk0 : 0 < k
            · obtain ⟨t', n', ht', ho', hlt'⟩ := hprev hk0
              obtain ⟨y0, y1, _, _⟩ := row_get l (k - 1) t' ht'
              rw [ho'] at y1
              exact .inr ⟨t'.text, n', hk0, by rw [IntWalk.i64_in _ (by omega)]; omega, by omega, owns_cells hown5 _ _ y0, owns_cells hown5 _ _ y1, by omega, decide_eq_false (by omega)⟩
            · exact .inl ⟨decide_eq_false (by omega), eq_false hk0⟩
          clear hown5 hprev hne hes hle
          rcases FA with ⟨m0, m1⟩ | ⟨m0, m1, m2, hA⟩ <;> rcases FB with e0 | ⟨e0, hBh⟩ <;> rcases FC with ⟨r0, r1⟩ | ⟨T', n', r0, r1, r2, r3, r4, r5, r6⟩
          all_goals
            go_quiet (first | (refine (part_true _ _ ?_).mono fun _ _ ⟨he, hw⟩ => ⟨he, _, hw⟩; with_reducible first | exact hA.out _ | exact hBh.out _))
            go_wp2
            go_roundw
            case rel => exact ⟨k + 1, by omega, by go_num, (by rw [hnx]; exact hP5.out), below_draws hbel5 _⟩
            case measure => simp [intOf]; omega
    · have hbw3 : Below w.heap.size w wr := hbw.trans (hbel.mono hz2)
      clear hownr hPc
      cases hF : (scanF s).2 with
      | none =>
        have hfv' : fv = .pointer none := by have h := Hfv.out; rw [hF] at h; exact h
        subst hfv'
        have e6 : (s.size : Int) ≤ 65536 := by have := HN.out hF; omega
        clear Hfv HN HFl hF
        go_wp2
        go_ret
        exact ⟨rfl, hbw3⟩
      | some f =>
        obtain ⟨t, c⟩ := f
        have h := Hfv.out
        rw [hF] at h
        obtain ⟨Bf, rfl, hBf, hFa⟩ := h
        have hFar := hFa.below hbel
        have hBr : Bf < wr.heap.size := (Array.getElem?_eq_some_iff.1 hFar).1
        obtain ⟨p0, p1, p2, p3, p4⟩ := hFar.cells
        have hFO := HFl.out t c hF
        rw [← Hl.out] at hFO
        have HhF : Hid ((scanF s).2 = some (t, c)) := hF
        clear Hfv HN HFl hF hFa
        rcases hFO with ⟨n, hn⟩ | ⟨n, e, hst, hc⟩
        · have hns := hn.lt
          rw [hn.off] at p0
          rw [hn.line] at p1
          rw [hn.col] at p2
          rw [hn.text] at p3
          have PL := placed_any s 0 n wr (by omega) (Nat.zero_le _) (by omega)
          replace PL : Hid (Calls Tryd.prog 14 #[.string s, .agg #[.int .i64 n, .int .i64 (lineL (s.data.toList.take n)), .int .i64 (colL (s.data.toList.take n))], .agg #[.int .i64 0, .int .i64 1, .int .i64 1]] wr fun e w' => e = .returned (.tuple #[posV s n, .bool true]) ∧ Below wr.heap.size wr w') := PL
          have Hn : Hid (FaultBy s t c n) := hn
          clear hn
          go_wp2_with fail
          refine Calls.mono PL.out ?_
          rintro e w4 ⟨rfl, hb4⟩
          have hF4 := hFar.below hb4
          obtain ⟨p0, p1, p2, p3, p4⟩ := hF4.cells
          rw [Hn.out.off] at p0
          rw [Hn.out.text] at p3
          have hbw4 : Below w.heap.size w w4 := hbw3.trans (hb4.mono hbw3.size)
          have n1 : (n : Int) < (s.size : Int) := by omega
          have n0 : (0 : Int) ≤ (n : Int) := by omega
          clear hF4 hFar PL
          rcases Hn.out.code with ⟨rfl, hn6⟩ | ⟨rfl, hn6, hk0⟩
          · have n6 : ((n : Int) == 65536) = true := by simp; omega
            have s6 : (65536 : Int) < (s.size : Int) := by omega
            by_cases hg : 2 ≤ kindF (s[n]'hns).toNat
            · have Hg : Hid (2 ≤ kindF (s[n]'hns).toNat) := hg
              clear hg hn6 Hn
              go_wp2_with (first | (go_at_call 15; refine (good_true _ _ (by with_reducible exact Hg.out)).mono ?_; rintro e w' ⟨rfl, rfl⟩) | (go_at_call 11; refine (num_any _ _).mono ?_; rintro e w' ⟨rfl, rfl⟩))
              go_ret
              exact ⟨rfl, hbw4⟩
            · have Hg : Hid (kindF (s[n]'hns).toNat < 2) := by show _ < _; omega
              by_cases hp : kindF (s[n]'hns).toNat = 1
              · have Hp : Hid (kindF (s[n]'hns).toNat = 1) := hp
                clear hg hp hn6 Hn
                go_wp2_with (first | (go_at_call 15; refine (good_false _ _ (by with_reducible exact Hg.out)).mono ?_; rintro e w' ⟨rfl, rfl⟩) | (go_at_call 16; refine (part_true _ _ (by with_reducible exact Hp.out)).mono ?_; rintro e w' ⟨rfl, rfl⟩) | (go_at_call 11; refine (num_any _ _).mono ?_; rintro e w' ⟨rfl, rfl⟩))
                go_ret
                exact ⟨rfl, hbw4⟩
              · have Hp : Hid (¬ kindF (s[n]'hns).toNat = 1) := hp
                clear hg hp hn6 Hn
                go_wp2_with (first | (go_at_call 15; refine (good_false _ _ (by with_reducible exact Hg.out)).mono ?_; rintro e w' ⟨rfl, rfl⟩) | (go_at_call 16; refine (part_false _ _ (by with_reducible exact Hp.out)).mono ?_; rintro e w' ⟨rfl, rfl⟩) | (go_at_call 11; refine (num_any _ _).mono ?_; rintro e w' ⟨rfl, rfl⟩))
                go_ret
                exact ⟨rfl, hbw4⟩
          · have n6 : (n : Int) < 65536 := by omega
            have hk := hk0 hns
            have Hg : Hid (kindF (s[n]'hns).toNat < 2) := by rw [hk]; show _ < _; omega
            have Hp : Hid (¬ kindF (s[n]'hns).toNat = 1) := by rw [hk]; show ¬ _; omega
            clear hk hk0 hn6 Hn
            go_wp2_with (first | (go_at_call 15; refine (good_false _ _ (by with_reducible exact Hg.out)).mono ?_; rintro e w' ⟨rfl, rfl⟩) | (go_at_call 16; refine (part_false _ _ (by with_reducible exact Hp.out)).mono ?_; rintro e w' ⟨rfl, rfl⟩) | (go_at_call 11; refine (num_any _ _).mono ?_; rintro e w' ⟨rfl, rfl⟩))
            go_ret
            exact ⟨rfl, hbw4⟩
        · have hns := hst.lt
          have hes := hst.le
          rw [hst.off] at p0
          rw [hst.line] at p1
          rw [hst.col] at p2
          have PL := placed_any s 0 n wr (by omega) (Nat.zero_le _) (by omega)
          replace PL : Hid (Calls Tryd.prog 14 #[.string s, .agg #[.int .i64 n, .int .i64 (lineL (s.data.toList.take n)), .int .i64 (colL (s.data.toList.take n))], .agg #[.int .i64 0, .int .i64 1, .int .i64 1]] wr fun e w' => e = .returned (.tuple #[posV s n, .bool true]) ∧ Below wr.heap.size wr w') := PL
          have Hst : Hid (Stands s t n e) := hst
          obtain ⟨T, hTT⟩ : ∃ T, T = t.text := ⟨_, rfl⟩
          have hTs : T.size = e - n := by rw [hTT, hst.text, ByteArray.size_extract]; omega
          have hTe : s.extract n (n + T.size) = T := by rw [hTs, show n + (e - n) = e by omega, hTT, hst.text]
          have HTT : Hid (T = t.text) := hTT
          rw [← hTT] at p3 hc
          have HTs : Hid (T.size = e - n) := hTs
          have hT1 : (1 : Int) ≤ (T.size : Int) := by omega
          have hT2 : (n : Int) + (T.size : Int) ≤ (s.size : Int) := by omega
          have n0 : (0 : Int) ≤ (n : Int) := by omega
          have hT4 : (n : Int) ≤ (n : Int) + (T.size : Int) := by omega
          have hT5 : (0 : Int) ≤ (n : Int) + (T.size : Int) := by omega
          have hT6 : ((n : Int) + (T.size : Int)).toNat = n + T.size := by omega
          have hem : T.toList.isEmpty = false := by
            rw [Lib.toList_data]
            cases hd : T.data.toList with
            | nil => have : T.data.toList.length = T.size := rfl; rw [hd] at this; simp at this; omega
            | cons _ _ => rfl
          clear hst hTT hTs
          go_wp2_with fail
          refine Calls.mono PL.out ?_
          rintro e w4 ⟨rfl, hb4⟩
          have hF4 := hFar.below hb4
          obtain ⟨p0, p1, p2, p3, p4⟩ := hF4.cells
          rw [Hst.out.off] at p0
          rw [← HTT.out] at p3
          have hbw4 : Below w.heap.size w w4 := hbw3.trans (hb4.mono hbw3.size)
          clear hF4 hFar PL
          rcases hc with rfl | ⟨rfl, ho⟩ | ⟨rfl, hl6⟩
          · go_wp2_with (first | (go_at_call 11; refine (num_any _ _).mono ?_; rintro e w' ⟨rfl, rfl⟩))
            go_quiet (fail)
            go_wp2
            go_quiet (first | exact (num_any _ _).mono fun _ _ ⟨he, hw⟩ => ⟨he, _, hw⟩)
            go_wp2
            go_ret
            exact ⟨rfl, below_draws (below_draws hbw4 _) _⟩
          · unfold isOpen at ho
            go_wp2_with (first | (go_at_call 11; refine (num_any _ _).mono ?_; rintro e w' ⟨rfl, rfl⟩))
            go_quiet (fail)
            go_wp2
            go_quiet (first | exact (num_any _ _).mono fun _ _ ⟨he, hw⟩ => ⟨he, _, hw⟩)
            go_wp2
            go_ret
            exact ⟨rfl, below_draws (below_draws hbw4 _) _⟩
          · have l6 : ((L : Int) == 16384) = true := by have := HL.out; simp; omega
            go_wp2_with (first | (go_at_call 11; refine (num_any _ _).mono ?_; rintro e w' ⟨rfl, rfl⟩))
            go_quiet (fail)
            go_wp2
            go_quiet (first | exact (num_any _ _).mono fun _ _ ⟨he, hw⟩ => ⟨he, _, hw⟩)
            go_wp2
            go_ret
            exact ⟨rfl, below_draws (below_draws hbw4 _) _⟩
end Go.Proofs.YtekbddpdcjbinaaDoor
