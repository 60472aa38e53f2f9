/- The document's Norm. -/
import Derived.Test.YtjaccgkeldabfaaGreatCand
namespace Go.Proofs.YtjaccgkeldabfaaGreat
open Go.RowKit

/-- Norm along its outer loop: what is told so far. -/
def NormRel (w : World) (l : List Pr) (v : Value) (wx : World) : Prop := ∃ (q : Nat) (av : Option Addr) (cap : Nat) (out : List Pr), v = .slice av q cap ∧ out.length = q ∧ wx.ownsRow w.heap.size 33 2 (.slice av q cap) q (rowP out) ∧ Part l out ∧ Below w.heap.size w wx
/-- Norm along its inner loop: the least one so far. -/
def LeastRel (l out : List Pr) (n B5 : Nat) (wA : World) (fd i : Value) (wx : World) : Prop := ∃ (j : Nat) (fb : Bool) (m0 m1 : Int), j ≤ n ∧ i = .int .i64 j ∧ fd = .bool fb ∧ wx.heap[B5]? = some (.cells #[.int .i64 m0, .int .i64 m1] 33 (0, 0)) ∧ Turn B5 wA wx ∧ Cand (l.take j) out fb (m0, m1)
set_option maxRecDepth 100000 in
set_option maxHeartbeats 16000000 in
theorem rnorm_any (w : World) (a : Option Addr) (c : Nat) (l : List Pr) (n : Nat) (hl : l.length = n) (hn : n ≤ 1099511627776) (hA : PairsAt w a l) :
    Calls Tryz.prog 50 #[.slice a n c] w fun e w' => NormIs w w' e l := by
  have HA : Hid (PairsAt w a l) := hA
  have HL : Hid (l.length = n) := hl
  obtain ⟨i0, hi0, hz0, hz1, hz3⟩ := info_parts info24
  clear hA hl
  go_enter Tryz.func50, Tryz.ntmps50
  go_wp2_with fail
  go_loopw [3] (fun v wx => NormRel w l v wx) (fun v _ => n - sliceLen v)
  case atStart => exact ⟨0, none, 0, [], rfl, rfl, World.ownsRow_nil _ _ _ _, part_nil l, Below.refl _ _⟩
  case round =>
    obtain ⟨q, av, cap, out, rfl, hq, hR, hP, hBw⟩ := hrel
    have HQ : Hid (out.length = q) := hq
    have HR : Hid (wr.ownsRow w.heap.size 33 2 (.slice av q cap) q (rowP out)) := hR
    have HP : Hid (Part l out) := hP
    have HBw : Hid (Below w.heap.size w wr) := hBw
    have hqn : q ≤ n := by rw [← hq, ← HL.out]; exact part_len hP
    obtain ⟨wA, hwA⟩ : ∃ wA, wA = wr.alloc (.cells #[.int .i64 0, .int .i64 0] 33) := ⟨_, rfl⟩
    have HBA : Hid (Below wr.heap.size wr wA) := by rw [hwA]; exact below_alloc _ _
    have HKA : Hid (wA.heap[wr.heap.size]? = some (.cells #[.int .i64 0, .int .i64 0] 33 (0, 0))) := by rw [hwA]; exact World.alloc_heap_new wr _
    have HSA : Hid (wr.heap.size < wA.heap.size) := by rw [hwA]; show _ < _; simp
    clear hq hR hP hBw
    go_wp2_with fail
    rw [← hwA]
    clear hwA
    obtain ⟨B5, hB5⟩ : ∃ B5, wr.heap.size = B5 := ⟨_, rfl⟩
    have HBwA : Hid (Below w.heap.size w wA) := HBw.out.trans (HBA.out.mono HBw.out.size)
    have HRA : Hid (wA.ownsRow w.heap.size 33 2 (.slice av q cap) q (rowP out)) := owns_under HR.out HBA.out
    have HPA : Hid (∀ (i : Nat) (p : Pr), out[i]? = some p → ∃ g og, av = some ⟨g, og, none⟩ ∧ g < B5 ∧ wA.cell? ⟨g, og + i * 2, none⟩ = some (.int .i64 p.1) ∧ wA.cell? ⟨g, og + i * 2 + 1, none⟩ = some (.int .i64 p.2)) := fun i p hi => by
      obtain ⟨g, og, e, h0, h1⟩ := own_pairs HR.out i p hi
      have hlt := World.block_lt_of_cell? _ _ h0
      exact ⟨g, og, e, by rw [← hB5]; exact hlt, (HBA.out.cell (p := ⟨g, og + i * 2, none⟩) hlt).trans h0, (HBA.out.cell (p := ⟨g, og + i * 2 + 1, none⟩) hlt).trans h1⟩
    have HOB : Hid (∀ (g : Nat), (Value.slice av q cap).ownBlock = some g → g < B5) := fun g e => by rw [← hB5]; exact own_low HR.out g e
    have HWB : Hid (w.heap.size ≤ B5) := by rw [← hB5]; exact HBw.out.size
    rw [hB5] at HKA HSA
    rw [hB5]
    clear hB5 HBA HR HBw
    go_loopw [4, 6] (fun fd i wx => LeastRel l out n B5 wA fd i wx) (fun _ i _ => n - (intOf i).toNat)
    case atStart => exact ⟨0, false, 0, 0, Nat.zero_le _, rfl, rfl, HKA.out, Turn.refl _ _, by rw [List.take_zero]; exact cand_nil _ _⟩
    case round =>
      obtain ⟨j, fb, m0, m1, hj, rfl, rfl, hK5, hT5, hC⟩ := hrel
      have HK5 : Hid (wr.heap[B5]? = some (.cells #[.int .i64 m0, .int .i64 m1] 33 (0, 0))) := hK5
      have HT5 : Hid (Turn B5 wA wr) := hT5
      have HC : Hid (Cand (l.take j) out fb (m0, m1)) := hC
      clear hK5 hT5 hC
      by_cases hlt : j < n
      · have n1 : (j : Int) < (n : Int) := by omega
        obtain ⟨⟨x0, y0⟩, hx⟩ : ∃ x, l[j]? = some x := ⟨l[j]'(by rw [HL.out]; exact hlt), List.getElem?_eq_getElem _⟩
        obtain ⟨b1, o1, rfl, c1, d1⟩ := HA.out j _ hx
        have hltw := World.block_lt_of_cell? _ _ c1
        have hne : b1 ≠ B5 := fun e => by
          have h1 : b1 < w.heap.size := hltw
          have h2 : w.heap.size ≤ B5 := HWB.out
          omega
        have hblk : wr.heap[b1]? = w.heap[b1]? := (HT5.out.block b1 (Nat.lt_of_lt_of_le hltw HBwA.out.size) hne).trans (HBwA.out.block b1 hltw)
        have c2 : wr.cell? ⟨b1, o1 + j * 2, none⟩ = some (.int .i64 x0) := (World.cell?_of_block (a := ⟨b1, o1 + j * 2, none⟩) hblk).trans c1
        have d2 : wr.cell? ⟨b1, o1 + j * 2 + 1, none⟩ = some (.int .i64 y0) := (World.cell?_of_block (a := ⟨b1, o1 + j * 2 + 1, none⟩) hblk).trans d1
        have HTS : Hid (l.take (j + 1) = l.take j ++ [(x0, y0)]) := take_snoc hx
        have C26 : Hid _ := rturned_any (x0, y0) wr
        have HLE : Hid _ := turn_le (x0, y0)
        obtain ⟨tp, htp⟩ : ∃ tp, turnP (x0, y0) = tp := ⟨_, rfl⟩
        obtain ⟨t0, t1⟩ := tp
        have HTP : Hid (turnP (x0, y0) = (t0, t1)) := htp
        rw [htp] at C26 HLE
        clear c1 d1 hx hltw hne hblk htp
        unfold encP at C26
        dsimp only at C26 HLE
        go_wp2_with fail
        refine Calls.mono C26.out ?_
        rintro e w2 ⟨rfl, hb2⟩
        obtain ⟨w3, hw3⟩ : ∃ w3, w3 = w2.alloc (.cells #[.int .i64 t0, .int .i64 t1] 33) := ⟨_, rfl⟩
        have hb3 : Below wr.heap.size wr w3 := by rw [hw3]; exact hb2.trans ((below_alloc _ _).mono hb2.size)
        have HK3 : Hid (w3.heap[B5]? = some (.cells #[.int .i64 m0, .int .i64 m1] 33 (0, 0))) := (hb3.block B5 (Array.getElem?_eq_some_iff.1 HK5.out).1).trans HK5.out
        have HT3 : Hid (Turn B5 wA w3) := HT5.out.trans (Turn.of_below hb3)
        have c70 : w3.cell? ⟨w2.heap.size, 0, none⟩ = some (.int .i64 t0) := by rw [hw3]; exact World.cell?_alloc_new w2 _ _ 0
        have c71 : w3.cell? ⟨w2.heap.size, 1, none⟩ = some (.int .i64 t1) := by rw [hw3]; exact World.cell?_alloc_new w2 _ _ 1
        clear C26 hb2 hb3 HK5 HT5 c2 d2
        go_wp2_with fail
        rw [← hw3]
        clear hw3
        generalize w2.heap.size = B7 at *
        have HKk : Hid (∀ k, (w3.drewN k).heap[B5]? = some (.cells #[.int .i64 m0, .int .i64 m1] 33 (0, 0))) := fun k => HK3.out
        have HTk : Hid (∀ k, Turn B5 wA (w3.drewN k)) := fun k => ⟨HT3.out.os, HT3.out.tape, HT3.out.output, HT3.out.size, HT3.out.block⟩
        have HCk : Hid (∀ k, (w3.drewN k).cell? ⟨B7, 0, none⟩ = some (.int .i64 t0) ∧ (w3.drewN k).cell? ⟨B7, 1, none⟩ = some (.int .i64 t1)) := fun k => ⟨c70, c71⟩
        by_cases h0 : t0 = t1
        · have f0 : (t0 == t1) = true := by rw [beq_iff_eq]; exact h0
          have HC2 : Hid (Cand (l.take (j + 1)) out fb (m0, m1)) := by rw [HTS.out]; exact cand_skip HC.out (by rw [HTP.out]; intro h; exact absurd h.1 (by show ¬ t0 < t1; omega))
          clear h0 HC
          go_quiet (fail)
          go_wp2
          go_roundw
          case rel => exact ⟨j + 1, fb, m0, m1, by omega, by go_num, rfl, HKk.out _, HTk.out _, HC2.out⟩
          case measure => simp [intOf]; omega
        · have f0 : (t0 == t1) = false := by rw [beq_eq_false_iff_ne]; exact h0
          have HLT : Hid ((turnP (x0, y0)).1 < (turnP (x0, y0)).2) := by rw [HTP.out]; have := HLE.out; show t0 < t1; omega
          clear h0 HLE
          by_cases hq0 : q = 0
          · have hq1 : ¬ 0 < q := by omega
            have HAB : Hid (above out (turnP (x0, y0))) := by
              have h := HQ.out
              rw [hq0] at h
              rw [List.eq_nil_of_length_eq_zero h]
              intro z hz
              simp at hz
            clear hq0
            go_quiet (fail)
            rename_i nq
            have HK9 : Hid _ := HKk.out nq
            have HT9 : Hid _ := HTk.out nq
            have HC9 : Hid _ := HCk.out nq
            clear HKk HTk HCk HK3 HT3 c70 c71
            generalize w3.drewN nq = W5 at *
            obtain ⟨k70, k71⟩ := HC9.out
            have KB : Hid (W5.heap[B5]? = some (.cells #[.int .i64 m0, .int .i64 m1] 33 (0, 0))) := HK9.out
            have KT : Hid (Turn B5 wA W5) := HT9.out
            have HSET : Hid _ := set2 (.int .i64 t0) (.int .i64 t1) KB.out
            have k50 : W5.cell? ⟨B5, 0, none⟩ = some (.int .i64 m0) := by simp [World.cell?, KB.out]
            have k51 : W5.cell? ⟨B5, 1, none⟩ = some (.int .i64 m1) := by simp [World.cell?, KB.out]
            have k5f : W5.frozen? ⟨B5, 0, none⟩ = false := by simp [World.frozen?, KB.out]
            have k5h : (W5.setCell ⟨B5, 0, none⟩ (.int .i64 t0)).frozen? ⟨B5, 1, none⟩ = false := set_frozen _ KB.out
            cases fb with
            | false =>
              have HC2 : Hid (Cand (l.take (j + 1)) out true (t0, t1)) := by rw [HTS.out, ← HTP.out]; exact cand_take HC.out HLT.out HAB.out (.inl rfl)
              clear HC
              go_wp2
              go_roundw
              case rel => exact ⟨j + 1, true, t0, t1, by omega, by go_num, rfl, HSET.out.1, KT.out.trans HSET.out.2, HC2.out⟩
              case measure => simp [intOf]; omega
            | true =>
              rcases hr2 : decide (ltP (t0, t1) (m0, m1))
              · have CB2 : Hid _ := rbelow_any (t0, t1) (m0, m1) false hr2 W5
                have HC2 : Hid (Cand (l.take (j + 1)) out true (m0, m1)) := by rw [HTS.out]; exact cand_keep HC.out (by rw [HTP.out]; exact of_decide_eq_false hr2)
                clear HC hr2
                unfold encP at CB2
                go_wp2_with fail
                refine Calls.mono CB2.out ?_
                rintro e w6 ⟨rfl, hb6⟩
                have KB6 : Hid (w6.heap[B5]? = some (.cells #[.int .i64 m0, .int .i64 m1] 33 (0, 0))) := (hb6.block B5 (Array.getElem?_eq_some_iff.1 KB.out).1).trans KB.out
                have KT6 : Hid (Turn B5 wA w6) := KT.out.trans (Turn.of_below hb6)
                have l70 : w6.cell? ⟨B7, 0, none⟩ = some (.int .i64 t0) := (hb6.cell (p := ⟨B7, 0, none⟩) (World.block_lt_of_cell? _ _ k70)).trans k70
                have l71 : w6.cell? ⟨B7, 1, none⟩ = some (.int .i64 t1) := (hb6.cell (p := ⟨B7, 1, none⟩) (World.block_lt_of_cell? _ _ k71)).trans k71
                have HSET6 : Hid _ := set2 (.int .i64 t0) (.int .i64 t1) KB6.out
                have l50 : w6.cell? ⟨B5, 0, none⟩ = some (.int .i64 m0) := by simp [World.cell?, KB6.out]
                have l51 : w6.cell? ⟨B5, 1, none⟩ = some (.int .i64 m1) := by simp [World.cell?, KB6.out]
                have l5f : w6.frozen? ⟨B5, 0, none⟩ = false := by simp [World.frozen?, KB6.out]
                have l5h : (w6.setCell ⟨B5, 0, none⟩ (.int .i64 t0)).frozen? ⟨B5, 1, none⟩ = false := set_frozen _ KB6.out
                clear CB2 hb6 k70 k71 k50 k51 k5f k5h HSET KB KT
                go_wp2
                go_roundw
                case rel => exact ⟨j + 1, true, m0, m1, by omega, by go_num, rfl, KB6.out, KT6.out, HC2.out⟩
                case measure => simp [intOf]; omega
              · have CB2 : Hid _ := rbelow_any (t0, t1) (m0, m1) true hr2 W5
                have HC2 : Hid (Cand (l.take (j + 1)) out true (t0, t1)) := by rw [HTS.out, ← HTP.out]; exact cand_take HC.out HLT.out HAB.out (.inr (by rw [HTP.out]; exact of_decide_eq_true hr2))
                clear HC hr2
                unfold encP at CB2
                go_wp2_with fail
                refine Calls.mono CB2.out ?_
                rintro e w6 ⟨rfl, hb6⟩
                have KB6 : Hid (w6.heap[B5]? = some (.cells #[.int .i64 m0, .int .i64 m1] 33 (0, 0))) := (hb6.block B5 (Array.getElem?_eq_some_iff.1 KB.out).1).trans KB.out
                have KT6 : Hid (Turn B5 wA w6) := KT.out.trans (Turn.of_below hb6)
                have l70 : w6.cell? ⟨B7, 0, none⟩ = some (.int .i64 t0) := (hb6.cell (p := ⟨B7, 0, none⟩) (World.block_lt_of_cell? _ _ k70)).trans k70
                have l71 : w6.cell? ⟨B7, 1, none⟩ = some (.int .i64 t1) := (hb6.cell (p := ⟨B7, 1, none⟩) (World.block_lt_of_cell? _ _ k71)).trans k71
                have HSET6 : Hid _ := set2 (.int .i64 t0) (.int .i64 t1) KB6.out
                have l50 : w6.cell? ⟨B5, 0, none⟩ = some (.int .i64 m0) := by simp [World.cell?, KB6.out]
                have l51 : w6.cell? ⟨B5, 1, none⟩ = some (.int .i64 m1) := by simp [World.cell?, KB6.out]
                have l5f : w6.frozen? ⟨B5, 0, none⟩ = false := by simp [World.frozen?, KB6.out]
                have l5h : (w6.setCell ⟨B5, 0, none⟩ (.int .i64 t0)).frozen? ⟨B5, 1, none⟩ = false := set_frozen _ KB6.out
                clear CB2 hb6 k70 k71 k50 k51 k5f k5h HSET KB KT
                go_wp2
                go_roundw
                case rel => exact ⟨j + 1, true, t0, t1, by omega, by go_num, rfl, HSET6.out.1, KT6.out.trans HSET6.out.2, HC2.out⟩
                case measure => simp [intOf]; omega
          · have hq1 : 0 < q := by omega
            have f9 : IntKind.i64.wrap ((q : Int) - 1) = ((q - 1 : Nat) : Int) := by rw [IntWalk.i64_in _ (by omega)]; omega
            have n9 : ((q - 1 : Nat) : Int) < (q : Int) := by omega
            obtain ⟨⟨z0, z1⟩, hz⟩ : ∃ z, out[q - 1]? = some z := ⟨out[q - 1]'(by rw [HQ.out]; omega), List.getElem?_eq_getElem _⟩
            obtain ⟨g, og, rfl, hgB, e0, e1⟩ := HPA.out (q - 1) _ hz
            have HLA : Hid (above out (turnP (x0, y0)) ↔ ltP (z0, z1) (t0, t1)) := by
              show _ ↔ _
              rw [above_last HP.out.up, HTP.out]
              have hlast : out.getLast? = some (z0, z1) := by rw [List.getLast?_eq_getElem?, HQ.out]; exact hz
              constructor
              · intro h; exact h _ hlast
              · intro h z' hz'; rw [hlast] at hz'; cases hz'; exact h
            have hgA : g < wA.heap.size := Nat.lt_trans hgB HSA.out
            have hg3 : w3.drew.heap[g]? = wA.heap[g]? := HT3.out.block g hgA (by omega)
            have S8 : Hid (w3.drew.cell? ⟨B7, 0, none⟩ = some (.int .i64 t0) ∧ w3.drew.cell? ⟨B7, 1, none⟩ = some (.int .i64 t1) ∧ w3.drew.cell? ⟨g, og + (q - 1) * 2, none⟩ = some (.int .i64 z0) ∧ w3.drew.cell? ⟨g, og + (q - 1) * 2 + 1, none⟩ = some (.int .i64 z1)) :=
              ⟨c70, c71, (World.cell?_of_block (a := ⟨g, og + (q - 1) * 2, none⟩) hg3).trans e0, (World.cell?_of_block (a := ⟨g, og + (q - 1) * 2 + 1, none⟩) hg3).trans e1⟩
            have hg3' : g < w3.drew.heap.size := Nat.lt_of_lt_of_le hgA HT3.out.size
            have hB7 : B7 < w3.drew.heap.size := World.block_lt_of_cell? _ _ c70
            have SH : Hid (∀ w5, Below w3.drew.heap.size w3.drew w5 → w5.cell? ⟨B7, 0, none⟩ = some (.int .i64 t0) ∧ w5.cell? ⟨B7, 1, none⟩ = some (.int .i64 t1) ∧ w5.cell? ⟨g, og + (q - 1) * 2, none⟩ = some (.int .i64 z0) ∧ w5.cell? ⟨g, og + (q - 1) * 2 + 1, none⟩ = some (.int .i64 z1)) := fun w5 h5 =>
              ⟨(h5.cell (p := ⟨B7, 0, none⟩) hB7).trans S8.out.1, (h5.cell (p := ⟨B7, 1, none⟩) hB7).trans S8.out.2.1, (h5.cell (p := ⟨g, og + (q - 1) * 2, none⟩) hg3').trans S8.out.2.2.1, (h5.cell (p := ⟨g, og + (q - 1) * 2 + 1, none⟩) hg3').trans S8.out.2.2.2⟩
            have HU : Hid (∀ w5, Below w3.drew.heap.size w3.drew w5 → w5.heap[B5]? = some (.cells #[.int .i64 m0, .int .i64 m1] 33 (0, 0)) ∧ Turn B5 wA w5) := fun w5 h5 =>
              ⟨(h5.block B5 (Array.getElem?_eq_some_iff.1 HK3.out).1).trans HK3.out, (HTk.out 1).trans (Turn.of_below h5)⟩
            rcases hr8 : decide (ltP (z0, z1) (t0, t1))
            · have CB : Hid _ := rbelow_any (z0, z1) (t0, t1) false hr8 w3.drew
              have HC2 : Hid (Cand (l.take (j + 1)) out fb (m0, m1)) := by rw [HTS.out]; exact cand_skip HC.out (fun h => of_decide_eq_false hr8 (HLA.out.1 h.2))
              unfold encP at CB
              clear hr8 HC HLA e0 e1 hg3 hg3' hgA hB7 hz hq0
              refine wp_region_held_drew (S := fun w' => w'.cell? ⟨B7, 0, none⟩ = some (.int .i64 t0) ∧ w'.cell? ⟨B7, 1, none⟩ = some (.int .i64 t1) ∧ w'.cell? ⟨g, og + (q - 1) * 2, none⟩ = some (.int .i64 z0) ∧ w'.cell? ⟨g, og + (q - 1) * 2 + 1, none⟩ = some (.int .i64 z1)) (by kernel_rfl) ?_ (fun hHeld => ?_)
              · exact S8.out
              refine wpAnyH_take (i := 0) (oi := { dst := some 19, op := Op.fieldAddr 33 (Operand.tmp 7) 0, type := 0, pos := "ref.go:37", after := #[], guard := none }) (v := ?_) rfl (by kernel_rfl) (by kernel_rfl) (by kernel_rfl) (fun _ _ _ h => h) (Or.inl ⟨by rfl, ?_⟩) hHeld ?_
              rotate_left
              · (intro w hSw; (try dsimp only at hSw); go_simp; try with_reducible rfl)
              try simp only [Act.put, List.setIfInBounds_toArray, List.set_cons_zero, List.set_cons_succ]
              refine wpAnyH_take (i := 1) (oi := { dst := some 20, op := Op.load 3 (Operand.tmp 19), type := 3, pos := "ref.go:37", after := #[{ on := 0, ground := Ground.data }], guard := none }) (v := ?_) rfl (by kernel_rfl) (by kernel_rfl) (by kernel_rfl) (fun _ _ _ h => h) (Or.inl ⟨by rfl, ?_⟩) hHeld ?_
              rotate_left
              · (intro w hSw; (try dsimp only at hSw); go_simp; try with_reducible rfl)
              try simp only [Act.put, List.setIfInBounds_toArray, List.set_cons_zero, List.set_cons_succ]
              refine wpAnyH_take (i := 2) (oi := { dst := some 21, op := Op.fieldAddr 33 (Operand.tmp 7) 1, type := 0, pos := "ref.go:37", after := #[], guard := none }) (v := ?_) rfl (by kernel_rfl) (by kernel_rfl) (by kernel_rfl) (fun _ _ _ h => h) (Or.inl ⟨by rfl, ?_⟩) hHeld ?_
              rotate_left
              · (intro w hSw; (try dsimp only at hSw); go_simp; try with_reducible rfl)
              try simp only [Act.put, List.setIfInBounds_toArray, List.set_cons_zero, List.set_cons_succ]
              refine wpAnyH_take (i := 3) (oi := { dst := some 22, op := Op.load 3 (Operand.tmp 21), type := 3, pos := "ref.go:37", after := #[{ on := 2, ground := Ground.data }], guard := none }) (v := ?_) rfl (by kernel_rfl) (by kernel_rfl) (by kernel_rfl) (fun _ _ _ h => h) (Or.inl ⟨by rfl, ?_⟩) hHeld ?_
              rotate_left
              · (intro w hSw; (try dsimp only at hSw); go_simp; try with_reducible rfl)
              try simp only [Act.put, List.setIfInBounds_toArray, List.set_cons_zero, List.set_cons_succ]
              refine wpAnyH_take (i := 4) (oi := { dst := some 23, op := Op.binOp BinOp.eql 3 (Operand.tmp 20) (Operand.tmp 22) 3, type := 4, pos := "ref.go:37", after := #[{ on := 1, ground := Ground.data }, { on := 3, ground := Ground.data }], guard := none }) (v := ?_) rfl (by kernel_rfl) (by kernel_rfl) (by kernel_rfl) (fun _ _ _ h => h) (Or.inl ⟨by rfl, ?_⟩) hHeld ?_
              rotate_left
              · (intro w hSw; (try dsimp only at hSw); go_simp; try with_reducible rfl)
              try simp only [Act.put, List.setIfInBounds_toArray, List.set_cons_zero, List.set_cons_succ]
              refine wpAnyH_take (i := 5) (oi := { dst := some 24, op := Op.move (Operand.tmp 23), type := 4, pos := "ref.go:37", after := #[{ on := 4, ground := Ground.data }], guard := none }) (v := ?_) rfl (by kernel_rfl) (by kernel_rfl) (by kernel_rfl) (fun _ _ _ h => h) (Or.inl ⟨by rfl, ?_⟩) hHeld ?_
              rotate_left
              · (intro w hSw; (try dsimp only at hSw); go_simp; try with_reducible rfl)
              try simp only [Act.put, List.setIfInBounds_toArray, List.set_cons_zero, List.set_cons_succ]
              refine wpAnyH_take (i := 6) (oi := { dst := some 25, op := Op.move (Operand.tmp 3), type := 22, pos := "ref.go:37", after := #[{ on := 5, ground := Ground.guard }], guard := some (5, false) }) (v := ?_) rfl (by kernel_rfl) (by kernel_rfl) (by kernel_rfl) (fun _ _ _ h => h) (Or.inl ⟨by rfl, ?_⟩) hHeld ?_
              rotate_left
              · (intro w hSw; (try dsimp only at hSw); go_simp; try with_reducible rfl)
              try simp only [Act.put, List.setIfInBounds_toArray, List.set_cons_zero, List.set_cons_succ]
              refine wpAnyH_take (i := 7) (oi := { dst := some 26, op := Op.call { callee := Callee.builtin Builtin.len, args := #[Operand.tmp 25], argTypes := #[22] }, type := 3, pos := "ref.go:37", after := #[{ on := 6, ground := Ground.data }, { on := 5, ground := Ground.guard }], guard := some (5, false) }) (v := ?_) rfl (by kernel_rfl) (by kernel_rfl) (by kernel_rfl) (fun _ _ _ h => h) (Or.inl ⟨by rfl, ?_⟩) hHeld ?_
              rotate_left
              · (intro w hSw; (try dsimp only at hSw); go_simp; try with_reducible rfl)
              try simp only [Act.put, List.setIfInBounds_toArray, List.set_cons_zero, List.set_cons_succ]
              refine wpAnyH_take (i := 8) (oi := { dst := some 27, op := Op.binOp BinOp.gtr 3 (Operand.tmp 26) (Operand.const (Value.int IntKind.i64 0)) 3, type := 4, pos := "ref.go:37", after := #[{ on := 7, ground := Ground.data }, { on := 5, ground := Ground.guard }], guard := some (5, false) }) (v := ?_) rfl (by kernel_rfl) (by kernel_rfl) (by kernel_rfl) (fun _ _ _ h => h) (Or.inl ⟨by rfl, ?_⟩) hHeld ?_
              rotate_left
              · (intro w hSw; (try dsimp only at hSw); go_simp; try with_reducible rfl)
              try simp only [Act.put, List.setIfInBounds_toArray, List.set_cons_zero, List.set_cons_succ]
              refine wpAnyH_take (i := 9) (oi := { dst := some 28, op := Op.move (Operand.tmp 27), type := 4, pos := "ref.go:37", after := #[{ on := 8, ground := Ground.data }, { on := 5, ground := Ground.chain }, { on := 5, ground := Ground.guard }], guard := some (5, false) }) (v := ?_) rfl (by kernel_rfl) (by kernel_rfl) (by kernel_rfl) (fun _ _ _ h => h) (Or.inl ⟨by rfl, ?_⟩) hHeld ?_
              rotate_left
              · (intro w hSw; (try dsimp only at hSw); go_simp; try with_reducible rfl)
              try simp only [Act.put, List.setIfInBounds_toArray, List.set_cons_zero, List.set_cons_succ]
              refine wpAnyH_take (i := 10) (oi := { dst := some 29, op := Op.move (Operand.tmp 3), type := 22, pos := "ref.go:37", after := #[{ on := 9, ground := Ground.guard }], guard := some (9, true) }) (v := ?_) rfl (by kernel_rfl) (by kernel_rfl) (by kernel_rfl) (fun _ _ _ h => h) (Or.inl ⟨by rfl, ?_⟩) hHeld ?_
              rotate_left
              · (intro w hSw; (try dsimp only at hSw); go_simp; try with_reducible rfl)
              try simp only [Act.put, List.setIfInBounds_toArray, List.set_cons_zero, List.set_cons_succ]
              refine wpAnyH_take (i := 11) (oi := { dst := some 30, op := Op.move (Operand.tmp 3), type := 22, pos := "ref.go:37", after := #[{ on := 9, ground := Ground.guard }], guard := some (9, true) }) (v := ?_) rfl (by kernel_rfl) (by kernel_rfl) (by kernel_rfl) (fun _ _ _ h => h) (Or.inl ⟨by rfl, ?_⟩) hHeld ?_
              rotate_left
              · (intro w hSw; (try dsimp only at hSw); go_simp; try with_reducible rfl)
              try simp only [Act.put, List.setIfInBounds_toArray, List.set_cons_zero, List.set_cons_succ]
              refine wpAnyH_take (i := 12) (oi := { dst := some 31, op := Op.call { callee := Callee.builtin Builtin.len, args := #[Operand.tmp 30], argTypes := #[22] }, type := 3, pos := "ref.go:37", after := #[{ on := 11, ground := Ground.data }, { on := 9, ground := Ground.guard }], guard := some (9, true) }) (v := ?_) rfl (by kernel_rfl) (by kernel_rfl) (by kernel_rfl) (fun _ _ _ h => h) (Or.inl ⟨by rfl, ?_⟩) hHeld ?_
              rotate_left
              · (intro w hSw; (try dsimp only at hSw); go_simp; try with_reducible rfl)
              try simp only [Act.put, List.setIfInBounds_toArray, List.set_cons_zero, List.set_cons_succ]
              refine wpAnyH_take (i := 13) (oi := { dst := some 32, op := Op.binOp BinOp.sub 3 (Operand.tmp 31) (Operand.const (Value.int IntKind.i64 1)) 3, type := 3, pos := "ref.go:37", after := #[{ on := 12, ground := Ground.data }, { on := 9, ground := Ground.guard }], guard := some (9, true) }) (v := ?_) rfl (by kernel_rfl) (by kernel_rfl) (by kernel_rfl) (fun _ _ _ h => h) (Or.inl ⟨by rfl, ?_⟩) hHeld ?_
              rotate_left
              · (intro w hSw; (try dsimp only at hSw); go_simp; try with_reducible rfl)
              try simp only [Act.put, List.setIfInBounds_toArray, List.set_cons_zero, List.set_cons_succ]
              refine wpAnyH_take (i := 14) (oi := { dst := some 33, op := Op.indexAddr 22 (Operand.tmp 29) (Operand.tmp 32), type := 0, pos := "ref.go:37", after := #[{ on := 10, ground := Ground.data }, { on := 13, ground := Ground.data }, { on := 9, ground := Ground.guard }], guard := some (9, true) }) (v := ?_) rfl (by kernel_rfl) (by kernel_rfl) (by kernel_rfl) (fun _ _ _ h => h) (Or.inl ⟨by rfl, ?_⟩) hHeld ?_
              rotate_left
              · (intro w hSw; (try dsimp only at hSw); go_simp; try with_reducible rfl)
              try simp only [Act.put, List.setIfInBounds_toArray, List.set_cons_zero, List.set_cons_succ]
              refine wpAnyH_take (i := 15) (oi := { dst := some 34, op := Op.load 33 (Operand.tmp 33), type := 33, pos := "ref.go:37", after := #[{ on := 14, ground := Ground.data }, { on := 9, ground := Ground.guard }], guard := some (9, true) }) (v := ?_) rfl (by kernel_rfl) (by kernel_rfl) (by kernel_rfl) (fun _ _ _ h => h) (Or.inl ⟨by rfl, ?_⟩) hHeld ?_
              rotate_left
              · (intro w hSw; (try dsimp only at hSw); go_simp; try with_reducible rfl)
              try simp only [Act.put, List.setIfInBounds_toArray, List.set_cons_zero, List.set_cons_succ]
              refine wpAnyH_take (i := 16) (oi := { dst := some 35, op := Op.load 33 (Operand.tmp 7), type := 33, pos := "ref.go:37", after := #[{ on := 9, ground := Ground.guard }], guard := some (9, true) }) (v := ?_) rfl (by kernel_rfl) (by kernel_rfl) (by kernel_rfl) (fun _ _ _ h => h) (Or.inl ⟨by rfl, ?_⟩) hHeld ?_
              rotate_left
              · (intro w hSw; (try dsimp only at hSw); go_simp; try with_reducible rfl)
              try simp only [Act.put, List.setIfInBounds_toArray, List.set_cons_zero, List.set_cons_succ]
              refine wpAnyH_ready (rs := [17]) (by kernel_rfl) (by simp) ?_
              refine AllReadyH.cons (o := { dst := some 36, op := Op.call { callee := Callee.value (Operand.func 73), args := #[Operand.tmp 34, Operand.tmp 35], argTypes := #[33, 33] }, type := 4, pos := "ref.go:37", after := #[{ on := 15, ground := Ground.data }, { on := 16, ground := Ground.data }, { on := 9, ground := Ground.chain }, { on := 9, ground := Ground.guard }], guard := some (9, true) }) rfl (fun K hK => ?_) AllReadyH.nil
              go_simp
              go_at_call 73
              refine Calls.mono CB.out ?_
              rintro e w5 ⟨rfl, hb5⟩
              have SH5 : Hid _ := SH.out w5 hb5
              have HU5 : Hid _ := HU.out w5 hb5
              clear CB hb5 SH HU
              try go_wp2_with fail
              refine hK.out _ _ ?_ (fun hHeld_17 => ?_)
              · exact SH5.out
              clear hK K
              try simp only [Act.put, List.setIfInBounds_toArray, List.set_cons_zero, List.set_cons_succ]
              refine wpAnyH_take (i := 18) (oi := { dst := some 37, op := Op.unOp UnOp.not 4 (Operand.tmp 36), type := 4, pos := "ref.go:37", after := #[{ on := 17, ground := Ground.data }, { on := 9, ground := Ground.guard }], guard := some (9, true) }) (v := ?_) rfl (by kernel_rfl) (by kernel_rfl) (by kernel_rfl) (fun _ _ _ h => h) (Or.inl ⟨by rfl, ?_⟩) hHeld_17 ?_
              rotate_left
              · (intro w hSw; (try dsimp only at hSw); go_simp; try with_reducible rfl)
              try simp only [Act.put, List.setIfInBounds_toArray, List.set_cons_zero, List.set_cons_succ]
              refine wpAnyH_take (i := 19) (oi := { dst := some 38, op := Op.pick (Operand.tmp 28) (Operand.tmp 37) (Operand.const (Value.bool false)), type := 4, pos := "ref.go:37", after := #[{ on := 9, ground := Ground.data }, { on := 18, ground := Ground.data }, { on := 5, ground := Ground.guard }], guard := some (5, false) }) (v := ?_) rfl (by kernel_rfl) (by kernel_rfl) (by kernel_rfl) (fun _ _ _ h => h) (Or.inl ⟨by rfl, ?_⟩) hHeld_17 ?_
              rotate_left
              · (intro w hSw; (try dsimp only at hSw); go_simp; try with_reducible rfl)
              try simp only [Act.put, List.setIfInBounds_toArray, List.set_cons_zero, List.set_cons_succ]
              refine wpAnyH_take (i := 20) (oi := { dst := some 39, op := Op.pick (Operand.tmp 24) (Operand.const (Value.bool true)) (Operand.tmp 38), type := 4, pos := "ref.go:37", after := #[{ on := 5, ground := Ground.data }, { on := 19, ground := Ground.data }], guard := none }) (v := ?_) rfl (by kernel_rfl) (by kernel_rfl) (by kernel_rfl) (fun _ _ _ h => h) (Or.inl ⟨by rfl, ?_⟩) hHeld_17 ?_
              rotate_left
              · (intro w hSw; (try dsimp only at hSw); go_simp; try with_reducible rfl)
              try simp only [Act.put, List.setIfInBounds_toArray, List.set_cons_zero, List.set_cons_succ]
              refine wpAnyH_done (by kernel_rfl) ?_ _
              skip
              go_wp2
              go_roundw
              case rel => exact ⟨j + 1, fb, m0, m1, by omega, by go_num, rfl, HU5.out.1, HU5.out.2, HC2.out⟩
              case measure => simp [intOf]; omega
            · have CB : Hid _ := rbelow_any (z0, z1) (t0, t1) true hr8 w3.drew
              have HAB : Hid (above out (turnP (x0, y0))) := HLA.out.2 (of_decide_eq_true hr8)
              unfold encP at CB
              clear hr8 HLA e0 e1 hg3 hg3' hgA hB7 hz hq0
              refine wp_region_held_drew (S := fun w' => w'.cell? ⟨B7, 0, none⟩ = some (.int .i64 t0) ∧ w'.cell? ⟨B7, 1, none⟩ = some (.int .i64 t1) ∧ w'.cell? ⟨g, og + (q - 1) * 2, none⟩ = some (.int .i64 z0) ∧ w'.cell? ⟨g, og + (q - 1) * 2 + 1, none⟩ = some (.int .i64 z1)) (by kernel_rfl) ?_ (fun hHeld => ?_)
              · exact S8.out
              refine wpAnyH_take (i := 0) (oi := { dst := some 19, op := Op.fieldAddr 33 (Operand.tmp 7) 0, type := 0, pos := "ref.go:37", after := #[], guard := none }) (v := ?_) rfl (by kernel_rfl) (by kernel_rfl) (by kernel_rfl) (fun _ _ _ h => h) (Or.inl ⟨by rfl, ?_⟩) hHeld ?_
              rotate_left
              · (intro w hSw; (try dsimp only at hSw); go_simp; try with_reducible rfl)
              try simp only [Act.put, List.setIfInBounds_toArray, List.set_cons_zero, List.set_cons_succ]
              refine wpAnyH_take (i := 1) (oi := { dst := some 20, op := Op.load 3 (Operand.tmp 19), type := 3, pos := "ref.go:37", after := #[{ on := 0, ground := Ground.data }], guard := none }) (v := ?_) rfl (by kernel_rfl) (by kernel_rfl) (by kernel_rfl) (fun _ _ _ h => h) (Or.inl ⟨by rfl, ?_⟩) hHeld ?_
              rotate_left
              · (intro w hSw; (try dsimp only at hSw); go_simp; try with_reducible rfl)
              try simp only [Act.put, List.setIfInBounds_toArray, List.set_cons_zero, List.set_cons_succ]
              refine wpAnyH_take (i := 2) (oi := { dst := some 21, op := Op.fieldAddr 33 (Operand.tmp 7) 1, type := 0, pos := "ref.go:37", after := #[], guard := none }) (v := ?_) rfl (by kernel_rfl) (by kernel_rfl) (by kernel_rfl) (fun _ _ _ h => h) (Or.inl ⟨by rfl, ?_⟩) hHeld ?_
              rotate_left
              · (intro w hSw; (try dsimp only at hSw); go_simp; try with_reducible rfl)
              try simp only [Act.put, List.setIfInBounds_toArray, List.set_cons_zero, List.set_cons_succ]
              refine wpAnyH_take (i := 3) (oi := { dst := some 22, op := Op.load 3 (Operand.tmp 21), type := 3, pos := "ref.go:37", after := #[{ on := 2, ground := Ground.data }], guard := none }) (v := ?_) rfl (by kernel_rfl) (by kernel_rfl) (by kernel_rfl) (fun _ _ _ h => h) (Or.inl ⟨by rfl, ?_⟩) hHeld ?_
              rotate_left
              · (intro w hSw; (try dsimp only at hSw); go_simp; try with_reducible rfl)
              try simp only [Act.put, List.setIfInBounds_toArray, List.set_cons_zero, List.set_cons_succ]
              refine wpAnyH_take (i := 4) (oi := { dst := some 23, op := Op.binOp BinOp.eql 3 (Operand.tmp 20) (Operand.tmp 22) 3, type := 4, pos := "ref.go:37", after := #[{ on := 1, ground := Ground.data }, { on := 3, ground := Ground.data }], guard := none }) (v := ?_) rfl (by kernel_rfl) (by kernel_rfl) (by kernel_rfl) (fun _ _ _ h => h) (Or.inl ⟨by rfl, ?_⟩) hHeld ?_
              rotate_left
              · (intro w hSw; (try dsimp only at hSw); go_simp; try with_reducible rfl)
              try simp only [Act.put, List.setIfInBounds_toArray, List.set_cons_zero, List.set_cons_succ]
              refine wpAnyH_take (i := 5) (oi := { dst := some 24, op := Op.move (Operand.tmp 23), type := 4, pos := "ref.go:37", after := #[{ on := 4, ground := Ground.data }], guard := none }) (v := ?_) rfl (by kernel_rfl) (by kernel_rfl) (by kernel_rfl) (fun _ _ _ h => h) (Or.inl ⟨by rfl, ?_⟩) hHeld ?_
              rotate_left
              · (intro w hSw; (try dsimp only at hSw); go_simp; try with_reducible rfl)
              try simp only [Act.put, List.setIfInBounds_toArray, List.set_cons_zero, List.set_cons_succ]
              refine wpAnyH_take (i := 6) (oi := { dst := some 25, op := Op.move (Operand.tmp 3), type := 22, pos := "ref.go:37", after := #[{ on := 5, ground := Ground.guard }], guard := some (5, false) }) (v := ?_) rfl (by kernel_rfl) (by kernel_rfl) (by kernel_rfl) (fun _ _ _ h => h) (Or.inl ⟨by rfl, ?_⟩) hHeld ?_
              rotate_left
              · (intro w hSw; (try dsimp only at hSw); go_simp; try with_reducible rfl)
              try simp only [Act.put, List.setIfInBounds_toArray, List.set_cons_zero, List.set_cons_succ]
              refine wpAnyH_take (i := 7) (oi := { dst := some 26, op := Op.call { callee := Callee.builtin Builtin.len, args := #[Operand.tmp 25], argTypes := #[22] }, type := 3, pos := "ref.go:37", after := #[{ on := 6, ground := Ground.data }, { on := 5, ground := Ground.guard }], guard := some (5, false) }) (v := ?_) rfl (by kernel_rfl) (by kernel_rfl) (by kernel_rfl) (fun _ _ _ h => h) (Or.inl ⟨by rfl, ?_⟩) hHeld ?_
              rotate_left
              · (intro w hSw; (try dsimp only at hSw); go_simp; try with_reducible rfl)
              try simp only [Act.put, List.setIfInBounds_toArray, List.set_cons_zero, List.set_cons_succ]
              refine wpAnyH_take (i := 8) (oi := { dst := some 27, op := Op.binOp BinOp.gtr 3 (Operand.tmp 26) (Operand.const (Value.int IntKind.i64 0)) 3, type := 4, pos := "ref.go:37", after := #[{ on := 7, ground := Ground.data }, { on := 5, ground := Ground.guard }], guard := some (5, false) }) (v := ?_) rfl (by kernel_rfl) (by kernel_rfl) (by kernel_rfl) (fun _ _ _ h => h) (Or.inl ⟨by rfl, ?_⟩) hHeld ?_
              rotate_left
              · (intro w hSw; (try dsimp only at hSw); go_simp; try with_reducible rfl)
              try simp only [Act.put, List.setIfInBounds_toArray, List.set_cons_zero, List.set_cons_succ]
              refine wpAnyH_take (i := 9) (oi := { dst := some 28, op := Op.move (Operand.tmp 27), type := 4, pos := "ref.go:37", after := #[{ on := 8, ground := Ground.data }, { on := 5, ground := Ground.chain }, { on := 5, ground := Ground.guard }], guard := some (5, false) }) (v := ?_) rfl (by kernel_rfl) (by kernel_rfl) (by kernel_rfl) (fun _ _ _ h => h) (Or.inl ⟨by rfl, ?_⟩) hHeld ?_
              rotate_left
              · (intro w hSw; (try dsimp only at hSw); go_simp; try with_reducible rfl)
              try simp only [Act.put, List.setIfInBounds_toArray, List.set_cons_zero, List.set_cons_succ]
              refine wpAnyH_take (i := 10) (oi := { dst := some 29, op := Op.move (Operand.tmp 3), type := 22, pos := "ref.go:37", after := #[{ on := 9, ground := Ground.guard }], guard := some (9, true) }) (v := ?_) rfl (by kernel_rfl) (by kernel_rfl) (by kernel_rfl) (fun _ _ _ h => h) (Or.inl ⟨by rfl, ?_⟩) hHeld ?_
              rotate_left
              · (intro w hSw; (try dsimp only at hSw); go_simp; try with_reducible rfl)
              try simp only [Act.put, List.setIfInBounds_toArray, List.set_cons_zero, List.set_cons_succ]
              refine wpAnyH_take (i := 11) (oi := { dst := some 30, op := Op.move (Operand.tmp 3), type := 22, pos := "ref.go:37", after := #[{ on := 9, ground := Ground.guard }], guard := some (9, true) }) (v := ?_) rfl (by kernel_rfl) (by kernel_rfl) (by kernel_rfl) (fun _ _ _ h => h) (Or.inl ⟨by rfl, ?_⟩) hHeld ?_
              rotate_left
              · (intro w hSw; (try dsimp only at hSw); go_simp; try with_reducible rfl)
              try simp only [Act.put, List.setIfInBounds_toArray, List.set_cons_zero, List.set_cons_succ]
              refine wpAnyH_take (i := 12) (oi := { dst := some 31, op := Op.call { callee := Callee.builtin Builtin.len, args := #[Operand.tmp 30], argTypes := #[22] }, type := 3, pos := "ref.go:37", after := #[{ on := 11, ground := Ground.data }, { on := 9, ground := Ground.guard }], guard := some (9, true) }) (v := ?_) rfl (by kernel_rfl) (by kernel_rfl) (by kernel_rfl) (fun _ _ _ h => h) (Or.inl ⟨by rfl, ?_⟩) hHeld ?_
              rotate_left
              · (intro w hSw; (try dsimp only at hSw); go_simp; try with_reducible rfl)
              try simp only [Act.put, List.setIfInBounds_toArray, List.set_cons_zero, List.set_cons_succ]
              refine wpAnyH_take (i := 13) (oi := { dst := some 32, op := Op.binOp BinOp.sub 3 (Operand.tmp 31) (Operand.const (Value.int IntKind.i64 1)) 3, type := 3, pos := "ref.go:37", after := #[{ on := 12, ground := Ground.data }, { on := 9, ground := Ground.guard }], guard := some (9, true) }) (v := ?_) rfl (by kernel_rfl) (by kernel_rfl) (by kernel_rfl) (fun _ _ _ h => h) (Or.inl ⟨by rfl, ?_⟩) hHeld ?_
              rotate_left
              · (intro w hSw; (try dsimp only at hSw); go_simp; try with_reducible rfl)
              try simp only [Act.put, List.setIfInBounds_toArray, List.set_cons_zero, List.set_cons_succ]
              refine wpAnyH_take (i := 14) (oi := { dst := some 33, op := Op.indexAddr 22 (Operand.tmp 29) (Operand.tmp 32), type := 0, pos := "ref.go:37", after := #[{ on := 10, ground := Ground.data }, { on := 13, ground := Ground.data }, { on := 9, ground := Ground.guard }], guard := some (9, true) }) (v := ?_) rfl (by kernel_rfl) (by kernel_rfl) (by kernel_rfl) (fun _ _ _ h => h) (Or.inl ⟨by rfl, ?_⟩) hHeld ?_
              rotate_left
              · (intro w hSw; (try dsimp only at hSw); go_simp; try with_reducible rfl)
              try simp only [Act.put, List.setIfInBounds_toArray, List.set_cons_zero, List.set_cons_succ]
              refine wpAnyH_take (i := 15) (oi := { dst := some 34, op := Op.load 33 (Operand.tmp 33), type := 33, pos := "ref.go:37", after := #[{ on := 14, ground := Ground.data }, { on := 9, ground := Ground.guard }], guard := some (9, true) }) (v := ?_) rfl (by kernel_rfl) (by kernel_rfl) (by kernel_rfl) (fun _ _ _ h => h) (Or.inl ⟨by rfl, ?_⟩) hHeld ?_
              rotate_left
              · (intro w hSw; (try dsimp only at hSw); go_simp; try with_reducible rfl)
              try simp only [Act.put, List.setIfInBounds_toArray, List.set_cons_zero, List.set_cons_succ]
              refine wpAnyH_take (i := 16) (oi := { dst := some 35, op := Op.load 33 (Operand.tmp 7), type := 33, pos := "ref.go:37", after := #[{ on := 9, ground := Ground.guard }], guard := some (9, true) }) (v := ?_) rfl (by kernel_rfl) (by kernel_rfl) (by kernel_rfl) (fun _ _ _ h => h) (Or.inl ⟨by rfl, ?_⟩) hHeld ?_
              rotate_left
              · (intro w hSw; (try dsimp only at hSw); go_simp; try with_reducible rfl)
              try simp only [Act.put, List.setIfInBounds_toArray, List.set_cons_zero, List.set_cons_succ]
              refine wpAnyH_ready (rs := [17]) (by kernel_rfl) (by simp) ?_
              refine AllReadyH.cons (o := { dst := some 36, op := Op.call { callee := Callee.value (Operand.func 73), args := #[Operand.tmp 34, Operand.tmp 35], argTypes := #[33, 33] }, type := 4, pos := "ref.go:37", after := #[{ on := 15, ground := Ground.data }, { on := 16, ground := Ground.data }, { on := 9, ground := Ground.chain }, { on := 9, ground := Ground.guard }], guard := some (9, true) }) rfl (fun K hK => ?_) AllReadyH.nil
              go_simp
              go_at_call 73
              refine Calls.mono CB.out ?_
              rintro e w5 ⟨rfl, hb5⟩
              have SH5 : Hid _ := SH.out w5 hb5
              have HU5 : Hid _ := HU.out w5 hb5
              clear CB hb5 SH HU
              try go_wp2_with fail
              refine hK.out _ _ ?_ (fun hHeld_17 => ?_)
              · exact SH5.out
              clear hK K
              try simp only [Act.put, List.setIfInBounds_toArray, List.set_cons_zero, List.set_cons_succ]
              refine wpAnyH_take (i := 18) (oi := { dst := some 37, op := Op.unOp UnOp.not 4 (Operand.tmp 36), type := 4, pos := "ref.go:37", after := #[{ on := 17, ground := Ground.data }, { on := 9, ground := Ground.guard }], guard := some (9, true) }) (v := ?_) rfl (by kernel_rfl) (by kernel_rfl) (by kernel_rfl) (fun _ _ _ h => h) (Or.inl ⟨by rfl, ?_⟩) hHeld_17 ?_
              rotate_left
              · (intro w hSw; (try dsimp only at hSw); go_simp; try with_reducible rfl)
              try simp only [Act.put, List.setIfInBounds_toArray, List.set_cons_zero, List.set_cons_succ]
              refine wpAnyH_take (i := 19) (oi := { dst := some 38, op := Op.pick (Operand.tmp 28) (Operand.tmp 37) (Operand.const (Value.bool false)), type := 4, pos := "ref.go:37", after := #[{ on := 9, ground := Ground.data }, { on := 18, ground := Ground.data }, { on := 5, ground := Ground.guard }], guard := some (5, false) }) (v := ?_) rfl (by kernel_rfl) (by kernel_rfl) (by kernel_rfl) (fun _ _ _ h => h) (Or.inl ⟨by rfl, ?_⟩) hHeld_17 ?_
              rotate_left
              · (intro w hSw; (try dsimp only at hSw); go_simp; try with_reducible rfl)
              try simp only [Act.put, List.setIfInBounds_toArray, List.set_cons_zero, List.set_cons_succ]
              refine wpAnyH_take (i := 20) (oi := { dst := some 39, op := Op.pick (Operand.tmp 24) (Operand.const (Value.bool true)) (Operand.tmp 38), type := 4, pos := "ref.go:37", after := #[{ on := 5, ground := Ground.data }, { on := 19, ground := Ground.data }], guard := none }) (v := ?_) rfl (by kernel_rfl) (by kernel_rfl) (by kernel_rfl) (fun _ _ _ h => h) (Or.inl ⟨by rfl, ?_⟩) hHeld_17 ?_
              rotate_left
              · (intro w hSw; (try dsimp only at hSw); go_simp; try with_reducible rfl)
              try simp only [Act.put, List.setIfInBounds_toArray, List.set_cons_zero, List.set_cons_succ]
              refine wpAnyH_done (by kernel_rfl) ?_ _
              skip
              obtain ⟨k70, k71⟩ := (⟨SH5.out.1, SH5.out.2.1⟩ : _ ∧ _)
              have KB : Hid (w5.heap[B5]? = some (.cells #[.int .i64 m0, .int .i64 m1] 33 (0, 0))) := HU5.out.1
              have KT : Hid (Turn B5 wA w5) := HU5.out.2
              have HSET : Hid _ := set2 (.int .i64 t0) (.int .i64 t1) KB.out
              have k50 : w5.cell? ⟨B5, 0, none⟩ = some (.int .i64 m0) := by simp [World.cell?, KB.out]
              have k51 : w5.cell? ⟨B5, 1, none⟩ = some (.int .i64 m1) := by simp [World.cell?, KB.out]
              have k5f : w5.frozen? ⟨B5, 0, none⟩ = false := by simp [World.frozen?, KB.out]
              have k5h : (w5.setCell ⟨B5, 0, none⟩ (.int .i64 t0)).frozen? ⟨B5, 1, none⟩ = false := set_frozen _ KB.out
              cases fb with
              | false =>
                have HC2 : Hid (Cand (l.take (j + 1)) out true (t0, t1)) := by rw [HTS.out, ← HTP.out]; exact cand_take HC.out HLT.out HAB.out (.inl rfl)
                clear HC
                go_wp2
                go_roundw
                case rel => exact ⟨j + 1, true, t0, t1, by omega, by go_num, rfl, HSET.out.1, KT.out.trans HSET.out.2, HC2.out⟩
                case measure => simp [intOf]; omega
              | true =>
                rcases hr2 : decide (ltP (t0, t1) (m0, m1))
                · have CB2 : Hid _ := rbelow_any (t0, t1) (m0, m1) false hr2 w5
                  have HC2 : Hid (Cand (l.take (j + 1)) out true (m0, m1)) := by rw [HTS.out]; exact cand_keep HC.out (by rw [HTP.out]; exact of_decide_eq_false hr2)
                  clear HC hr2
                  unfold encP at CB2
                  go_wp2_with fail
                  refine Calls.mono CB2.out ?_
                  rintro e w6 ⟨rfl, hb6⟩
                  have KB6 : Hid (w6.heap[B5]? = some (.cells #[.int .i64 m0, .int .i64 m1] 33 (0, 0))) := (hb6.block B5 (Array.getElem?_eq_some_iff.1 KB.out).1).trans KB.out
                  have KT6 : Hid (Turn B5 wA w6) := KT.out.trans (Turn.of_below hb6)
                  have l70 : w6.cell? ⟨B7, 0, none⟩ = some (.int .i64 t0) := (hb6.cell (p := ⟨B7, 0, none⟩) (World.block_lt_of_cell? _ _ k70)).trans k70
                  have l71 : w6.cell? ⟨B7, 1, none⟩ = some (.int .i64 t1) := (hb6.cell (p := ⟨B7, 1, none⟩) (World.block_lt_of_cell? _ _ k71)).trans k71
                  have HSET6 : Hid _ := set2 (.int .i64 t0) (.int .i64 t1) KB6.out
                  have l50 : w6.cell? ⟨B5, 0, none⟩ = some (.int .i64 m0) := by simp [World.cell?, KB6.out]
                  have l51 : w6.cell? ⟨B5, 1, none⟩ = some (.int .i64 m1) := by simp [World.cell?, KB6.out]
                  have l5f : w6.frozen? ⟨B5, 0, none⟩ = false := by simp [World.frozen?, KB6.out]
                  have l5h : (w6.setCell ⟨B5, 0, none⟩ (.int .i64 t0)).frozen? ⟨B5, 1, none⟩ = false := set_frozen _ KB6.out
                  clear CB2 hb6 k70 k71 k50 k51 k5f k5h HSET KB KT
                  go_wp2
                  go_roundw
                  case rel => exact ⟨j + 1, true, m0, m1, by omega, by go_num, rfl, KB6.out, KT6.out, HC2.out⟩
                  case measure => simp [intOf]; omega
                · have CB2 : Hid _ := rbelow_any (t0, t1) (m0, m1) true hr2 w5
                  have HC2 : Hid (Cand (l.take (j + 1)) out true (t0, t1)) := by rw [HTS.out, ← HTP.out]; exact cand_take HC.out HLT.out HAB.out (.inr (by rw [HTP.out]; exact of_decide_eq_true hr2))
                  clear HC hr2
                  unfold encP at CB2
                  go_wp2_with fail
                  refine Calls.mono CB2.out ?_
                  rintro e w6 ⟨rfl, hb6⟩
                  have KB6 : Hid (w6.heap[B5]? = some (.cells #[.int .i64 m0, .int .i64 m1] 33 (0, 0))) := (hb6.block B5 (Array.getElem?_eq_some_iff.1 KB.out).1).trans KB.out
                  have KT6 : Hid (Turn B5 wA w6) := KT.out.trans (Turn.of_below hb6)
                  have l70 : w6.cell? ⟨B7, 0, none⟩ = some (.int .i64 t0) := (hb6.cell (p := ⟨B7, 0, none⟩) (World.block_lt_of_cell? _ _ k70)).trans k70
                  have l71 : w6.cell? ⟨B7, 1, none⟩ = some (.int .i64 t1) := (hb6.cell (p := ⟨B7, 1, none⟩) (World.block_lt_of_cell? _ _ k71)).trans k71
                  have HSET6 : Hid _ := set2 (.int .i64 t0) (.int .i64 t1) KB6.out
                  have l50 : w6.cell? ⟨B5, 0, none⟩ = some (.int .i64 m0) := by simp [World.cell?, KB6.out]
                  have l51 : w6.cell? ⟨B5, 1, none⟩ = some (.int .i64 m1) := by simp [World.cell?, KB6.out]
                  have l5f : w6.frozen? ⟨B5, 0, none⟩ = false := by simp [World.frozen?, KB6.out]
                  have l5h : (w6.setCell ⟨B5, 0, none⟩ (.int .i64 t0)).frozen? ⟨B5, 1, none⟩ = false := set_frozen _ KB6.out
                  clear CB2 hb6 k70 k71 k50 k51 k5f k5h HSET KB KT
                  go_wp2
                  go_roundw
                  case rel => exact ⟨j + 1, true, t0, t1, by omega, by go_num, rfl, HSET6.out.1, KT6.out.trans HSET6.out.2, HC2.out⟩
                  case measure => simp [intOf]; omega
      · have n1 : ¬ (j : Int) < (n : Int) := by omega
        have HC2 : Hid (Cand l out fb (m0, m1)) := by have h := HC.out; rw [List.take_of_length_le (by rw [HL.out]; omega)] at h; exact h
        have HBx : Hid (Below w.heap.size w wr) := HBwA.out.trans (HT5.out.below HBwA.out.size HWB.out)
        have HRx : Hid (wr.ownsRow w.heap.size 33 2 (.slice av q cap) q (rowP out)) := owns_turn HRA.out HOB.out HT5.out
        have k50 : wr.cell? ⟨B5, 0, none⟩ = some (.int .i64 m0) := by simp [World.cell?, HK5.out]
        have k51 : wr.cell? ⟨B5, 1, none⟩ = some (.int .i64 m1) := by simp [World.cell?, HK5.out]
        clear HC HT5 HK5
        cases fb with
        | false =>
          have HE : Hid (∃ m, IsNorm l m ∧ wr.ownsRow w.heap.size 33 2 (.slice av q cap) m.length (rowP m) ∧ Below w.heap.size w wr) := ⟨out, cand_done HP.out HC2.out, by rw [HQ.out]; exact HRx.out, HBx.out⟩
          clear HRx HBx
          go_wp2
          go_ret
          obtain ⟨m, h1, h2, h3⟩ := HE.out
          exact ⟨_, m, rfl, h1, h2, h3⟩
        | true =>
          have HP2 : Hid (Part l (out ++ [(m0, m1)])) := cand_more HP.out HC2.out
          have hq2 : q + 1 ≤ n := by
            have h := part_len HP2.out
            rw [List.length_append, HQ.out, HL.out] at h
            exact h
          have HQ2 : Hid ((out ++ [(m0, m1)]).length = q + 1) := by show _ = _; rw [List.length_append, HQ.out]; rfl
          go_wp2_with (at_builtin; refine wpList_append_more (w := wr.alloc (.cells #[.int .i64 m0, .int .i64 m1] 33)) rfl _ _ _ rfl w.heap.size 33 i0 _ 2 16 Tryz.underlying22 hi0 hz0 hz1 hz3 rfl (by omega) _ q (rowP out) (by rfl) (by exact HRx.out.alloc _) (some ⟨wr.heap.size, 0, none⟩) 1 1 [.int .i64 m0, .int .i64 m1] (by rfl) (by rfl) (fun j' u hu => ⟨_, rfl, World.news_of_block (cs := #[.int .i64 m0, .int .i64 m1]) (t := 33) (fr := (0, 0)) (World.alloc_heap_new wr _) j' u hu⟩) (by simp [Value.oneCell']) (by unfold maxLen; omega) (by omega) (by exact Nat.le_trans HBx.out.size (below_alloc _ _).size) ?_; intro a4 c4 w4 ho4 hb4; have HO4 : Hid (w4.ownsRow w.heap.size 33 2 (.slice a4 (q + 1) c4) (q + 1) (rowP (out ++ [(m0, m1)]))) := (by rw [rowP_snoc]; exact ho4); have HB4 : Hid (Below w.heap.size w w4) := (HBx.out.alloc HBx.out.size _).trans hb4; clear ho4 hb4)
          go_wp2
          go_roundw
          case rel => exact ⟨q + 1, _, _, out ++ [(m0, m1)], rfl, HQ2.out, HO4.out, HP2.out, HB4.out⟩
          case measure => show n - (q + 1) < n - q; omega
end Go.Proofs.YtjaccgkeldabfaaGreat
