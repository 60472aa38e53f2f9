/- The law on any script of calls (SymPlays), walked. -/
import Derived.Test.YtdnkgjjboonmnabDoorAlike
namespace Go.Proofs.YtdnkgjjboonmnabDoor.R
open Go.RowKit
open Go.Proofs.YtdnkgjjboonmnabDoor.E

/-- A script that came in: element i holds a kind, a string and a number. -/
def ScriptIs (w : World) (a0 : Option Addr) (len : Nat) (K : Nat → Int) (S : Nat → ByteArray) (M : Nat → Int) : Prop :=
  ∀ i, i < len → ∃ b off, a0 = some ⟨b, off, none⟩ ∧ w.cell? ⟨b, off + i * 3, none⟩ = some (.int .i64 (K i)) ∧ w.cell? ⟨b, off + i * 3 + 1, none⟩ = some (.string (S i)) ∧ w.cell? ⟨b, off + i * 3 + 2, none⟩ = some (.int .i64 (M i)) ∧ (S i).size ≤ maxLen
theorem ScriptIs.at {w wr : World} {a0 : Option Addr} {len : Nat} {K : Nat → Int} {S : Nat → ByteArray} {M : Nat → Int} (h : ScriptIs w a0 len K S M) (hb : Below w.heap.size w wr) {i : Nat} (hi : i < len) :
    ∃ b off, a0 = some ⟨b, off, none⟩ ∧ wr.cell? ⟨b, off + i * 3, none⟩ = some (.int .i64 (K i)) ∧ wr.cell? ⟨b, off + i * 3 + 1, none⟩ = some (.string (S i)) ∧ wr.cell? ⟨b, off + i * 3 + 2, none⟩ = some (.int .i64 (M i)) ∧ (S i).size ≤ maxLen := by
  obtain ⟨b, off, e, h0, h1, h2, hs⟩ := h i hi
  have hlt : b < w.heap.size := World.block_lt_of_cell? _ _ h0
  exact ⟨b, off, e, (hb.cell (p := ⟨b, off + i * 3, none⟩) hlt).trans h0, (hb.cell (p := ⟨b, off + i * 3 + 1, none⟩) hlt).trans h1, (hb.cell (p := ⟨b, off + i * 3 + 2, none⟩) hlt).trans h2, hs⟩
theorem inv_tab0 : Inv tab0 [] := ⟨rfl, fun n p hp => by simp [tab0] at hp, fun n i hl => by have := hl.1; simp at this, fun n i hl => by have := hl.1; simp at this, fun l hl => by simp [tab0] at hl⟩
set_option maxHeartbeats 1000000 in
theorem rnew_any (w : World) : Calls Tryd.prog 5 #[] w fun e w' => e = .returned (.pointer (some ⟨w.heap.size, 0, none⟩)) ∧ RAt w' [w.heap.size] w.heap.size [] [] [] ∧ Below w.heap.size w w' := by
  go_enter Tryd.func5, Tryd.ntmps5
  go_wp2
  go_ret
  refine ⟨rfl, ⟨.slice none 0 0, .slice none 0 0, .slice none 0 0, ⟨heap_alloc_new w _, World.ownsRow_nil _ _ _ _, World.ownsRow_nil _ _ _ _⟩, World.ownsRow_nil _ _ _ _, rfl⟩, (Below.refl _ _).alloc (Nat.le_refl _) _⟩

/-- Two pairs of tables of a law that began in the world w. -/
structure Two (w wr : World) (B1 C1 B2 C2 k : Nat) (T U : Tab) (xs ys : List Nat) : Prop where
  one : Twin wr xs B1 C1 k T
  two : Twin wr ys B2 C2 k U
  apart : ∀ b ∈ xs, b ∉ ys
  low1 : ∀ b ∈ xs, w.heap.size ≤ b
  low2 : ∀ b ∈ ys, w.heap.size ≤ b
  below : Below w.heap.size w wr
  kb : KB w
theorem Two.kbr {w wr : World} {B1 C1 B2 C2 k : Nat} {T U : Tab} {xs ys : List Nat} (h : Two w wr B1 C1 B2 C2 k T U xs ys) : KB wr := h.kb.below h.below h.kb.pos
theorem Two.up {w wr : World} {B1 C1 B2 C2 k k' : Nat} {T U : Tab} {xs ys : List Nat} (h : Two w wr B1 C1 B2 C2 k T U xs ys) (hk : k ≤ k') : Two w wr B1 C1 B2 C2 k' T U xs ys := ⟨h.one.up hk, h.two.up hk, h.apart, h.low1, h.low2, h.below, h.kb⟩
theorem Two.under {w wr w' : World} {B1 C1 B2 C2 k : Nat} {T U : Tab} {xs ys : List Nat} (h : Two w wr B1 C1 B2 C2 k T U xs ys) (hb : Below wr.heap.size wr w') : Two w w' B1 C1 B2 C2 k T U xs ys :=
  ⟨h.one.under hb, h.two.under hb, h.apart, h.low1, h.low2, h.below.trans (hb.mono h.below.size), h.kb⟩
theorem Two.first {w wr w' : World} {B1 C1 B2 C2 k k' : Nat} {T U T' : Tab} {xs ys xs' : List Nat} (h : Two w wr B1 C1 B2 C2 k T U xs ys) (hk : k ≤ k') (ht : Twin w' xs' B1 C1 k' T') (hG : Goes xs wr xs' w') : Two w w' B1 C1 B2 C2 k' T' U xs' ys := by
  have hlo := hG.below h.below.size h.low1
  refine ⟨ht, (h.two.kept fun b hb => hG.turned.block b (h.two.low b hb) fun hb' => h.apart b hb' hb).up hk, fun b hb hb' => ?_, hlo.2, h.low2, h.below.trans hlo.1, h.kb⟩
  rcases hG.blocks b hb with h1 | h1
  · exact h.apart b h1 hb'
  · have := h.two.low b hb'; omega
theorem Two.swap {w wr : World} {B1 C1 B2 C2 k : Nat} {T U : Tab} {xs ys : List Nat} (h : Two w wr B1 C1 B2 C2 k T U xs ys) : Two w wr B2 C2 B1 C1 k U T ys xs := ⟨h.two, h.one, fun b hb hb' => h.apart b hb' hb, h.low2, h.low1, h.below, h.kb⟩
theorem Two.zero {w wr : World} {B1 C1 B2 C2 k : Nat} {T U : Tab} {xs ys : List Nat} (h : Two w wr B1 C1 B2 C2 k T U xs ys) : 0 ∉ xs := fun h0 => by
  have := h.low1 0 h0
  have := h.kb.pos
  omega

set_option maxRecDepth 100000 in
set_option maxHeartbeats 16000000 in
theorem plays_walk (w : World) (a0 : Option Addr) (len c0 : Nat) (K : Nat → Int) (S : Nat → ByteArray) (M : Nat → Int) (hlen : len ≤ 4398046510976) (hD : ScriptIs w a0 len K S M) (hKB : KB w) :
    Calls Tryd.prog 3 #[.slice a0 len c0] w fun e w' => e = .returned (.bool true) ∧ Below w.heap.size w w' := by
  have N1 : Hid _ := new_any w
  have HKB : Hid (KB w) := hKB
  have HD : Hid (ScriptIs w a0 len K S M) := hD
  clear hKB hD
  go_enter Tryd.func3, Tryd.ntmps3
  go_wp2_with fail
  refine Calls.mono N1.out ?_
  rintro e w1 ⟨rfl, ⟨bs1, hT1, hlow1⟩, hb1⟩
  generalize w.heap.size + 3 = B1 at *
  have HT1 : Hid (TabAt w1 bs1 B1 0 tab0) := hT1
  have HL1 : Hid (∀ b ∈ bs1, w.heap.size ≤ b) := hlow1
  have HB1 : Hid (Below w.heap.size w w1) := hb1
  have N2 : Hid _ := rnew_any w1
  clear N1 hT1 hlow1 hb1
  go_wp2_with fail
  refine Calls.mono N2.out ?_
  rintro e w2 ⟨rfl, hR2, hb2⟩
  have HX2 : Hid (Twin w2 (bs1 ++ [w1.heap.size]) B1 w1.heap.size 0 tab0) := ⟨bs1, _, [], rfl, HT1.out.below hb2, hR2, inv_tab0, ok_tab0, good_tab0, Nat.le_refl _, fun b hb hb' => by
    have := HT1.out.low b hb
    simp at hb'
    omega⟩
  have HL2 : Hid (∀ b ∈ bs1 ++ [w1.heap.size], w.heap.size ≤ b) := fun b hb => by
    rcases List.mem_append.1 hb with hb | hb
    · exact HL1.out b hb
    · simp at hb; rw [hb]; exact HB1.out.size
  have HB2 : Hid (Below w.heap.size w w2) := HB1.out.trans (hb2.mono HB1.out.size)
  have N3 : Hid _ := new_any w2
  clear N2 hR2 hb2 HT1 HL1 HB1
  generalize bs1 ++ [w1.heap.size] = xs at *
  generalize w1.heap.size = C1 at *
  clear w1 bs1
  go_wp2_with fail
  refine Calls.mono N3.out ?_
  rintro e w3 ⟨rfl, ⟨bs3, hT3, hlow3⟩, hb3⟩
  generalize w2.heap.size + 3 = B2 at *
  have HT3 : Hid (TabAt w3 bs3 B2 0 tab0) := hT3
  have HL3 : Hid (∀ b ∈ bs3, w2.heap.size ≤ b) := hlow3
  have HB3 : Hid (Below w2.heap.size w2 w3) := hb3
  have N4 : Hid _ := rnew_any w3
  clear N3 hT3 hlow3 hb3
  go_wp2_with fail
  refine Calls.mono N4.out ?_
  rintro e w4 ⟨rfl, hR4, hb4⟩
  have HX : Hid (∃ T U xs ys, Two w w4 B1 C1 B2 w3.heap.size 0 T U xs ys) := by
    have hb24 : Below w2.heap.size w2 w4 := HB3.out.trans (hb4.mono HB3.out.size)
    refine ⟨tab0, tab0, xs, bs3 ++ [w3.heap.size], HX2.out.under hb24, ⟨bs3, _, [], rfl, HT3.out.below hb4, hR4, inv_tab0, ok_tab0, good_tab0, Nat.le_refl _, fun b hb hb' => ?_⟩, fun b hb hb' => ?_, HL2.out, fun b hb => ?_, HB2.out.trans (hb24.mono HB2.out.size), HKB.out⟩
    · have := HT3.out.low b hb
      simp at hb'
      omega
    · have h1 := HX2.out.low b hb
      rcases List.mem_append.1 hb' with hb' | hb'
      · have := HL3.out b hb'; omega
      · simp at hb'; have := HB3.out.size; omega
    · have h2 := HB2.out.size
      rcases List.mem_append.1 hb with hb | hb
      · have := HL3.out b hb; omega
      · simp at hb; have := HB3.out.size; omega
  clear N4 hR4 hb4 HT3 HL3 HB3 HX2 HL2 HB2
  generalize w3.heap.size = C2 at *
  clear w3 w2
  go_wp2_with fail
  go_loopw [7] (fun i wx => ∃ j : Nat, j ≤ len ∧ i = .int .i64 j ∧ Hid (∃ T U xs ys, Two w wx B1 C1 B2 C2 (2 * j + 2 * (j / 2)) T U xs ys)) (fun i _ => len - (intOf i).toNat)
  case atStart => exact ⟨0, Nat.zero_le _, rfl, HX.out⟩
  case round =>
    clear HX
    obtain ⟨j, hj, rfl, HH⟩ := hrel
    obtain ⟨T, U, xs, ys, hH⟩ := HH.out
    clear HH
    have HT : Hid (Two w wr B1 C1 B2 C2 (2 * j + 2 * (j / 2)) T U xs ys) := hH
    by_cases hlt : j < len
    · have n1 : (j : Int) < (len : Int) := by omega
      obtain ⟨b, off, rfl, d0, d1, d2, hs⟩ := HD.out.at hH.below hlt
      have CA : Hid _ := alike_any wr xs B1 C1 (2 * j + 2 * (j / 2)) T (K j) (S j) (M j) hs (by omega) hH.kbr hH.zero hH.one
      clear hH
      go_wp2_with fail
      refine Calls.mono CA.out ?_
      rintro e w5 ⟨rfl, xs', T', ht', hG'⟩
      have HT5 : Hid (Two w w5 B1 C1 B2 C2 (2 * j + 2 * (j / 2) + 2) T' U xs' ys) := HT.out.first (by omega) ht' hG'
      clear CA ht' hG' HT d0 d1 d2 hs
      obtain ⟨b', off', e', f0, f1, f2, hs2⟩ := HD.out.at HT5.out.below (i := j / 2) (by omega)
      cases e'
      have CB : Hid _ := alike_any w5 ys B2 C2 (2 * j + 2 * (j / 2) + 2) U (K (j / 2)) (S (j / 2)) (M (j / 2)) hs2 (by omega) HT5.out.kbr HT5.out.swap.zero HT5.out.two
      by_cases hodd : j % 2 = 1
      · have g1 : ((j : Int) % 2 == 1) = true := by rw [beq_iff_eq]; omega
        go_wp2_with fail
        refine Calls.mono CB.out ?_
        rintro e w6 ⟨rfl, ys', U', hu', hG'⟩
        have HN : Hid (∃ T U xs ys, Two w w6 B1 C1 B2 C2 (2 * (j + 1) + 2 * ((j + 1) / 2)) T U xs ys) := ⟨_, _, _, _, ((HT5.out.swap.first (by omega) hu' hG').swap).up (by omega)⟩
        clear CB f0 f1 f2 HT5 hu' hG'
        go_wp2
        exact ⟨⟨j + 1, by omega, by go_num, HN.out⟩, by simp [intOf]; omega⟩
      · have g1 : ((j : Int) % 2 == 1) = false := by rw [beq_eq_false_iff_ne]; omega
        have HN : Hid (∃ T U xs ys, Two w w5 B1 C1 B2 C2 (2 * (j + 1) + 2 * ((j + 1) / 2)) T U xs ys) := ⟨_, _, _, _, HT5.out.up (by omega)⟩
        clear CB f0 f1 f2 HT5
        go_wp2
        exact ⟨⟨j + 1, by omega, by go_num, HN.out⟩, by simp [intOf]; omega⟩
    · have n1 : ¬ (j : Int) < (len : Int) := by omega
      obtain ⟨k, hk⟩ : ∃ k, 2 * j + 2 * (j / 2) = k := ⟨_, rfl⟩
      rw [hk] at HT
      have hk2 : k ≤ 17592186043900 := by omega
      clear hH hk HD
      obtain ⟨bt, rt, At, hxs, ht1, ht2, ht3, ht4, ht5, ht6, ht7⟩ := HT.out.one
      obtain ⟨bu, ru, Au, hys, hu1, hu2, hu3, hu4, hu5, hu6, hu7⟩ := HT.out.two
      obtain ⟨vs, va, vt, hR, hL, _⟩ := ht2
      obtain ⟨vs2, va2, vt2, hR2, hL2, _⟩ := hu2
      have TT : Hid (∀ wx, Below wr.heap.size wr wx → TabAt wx bt B1 k T) := fun wx hb => ht1.below hb
      have TU : Hid (∀ wx, Below wr.heap.size wr wx → TabAt wx bu B2 k U) := fun wx hb => hu1.below hb
      have RTt : Hid (∀ wx, Below wr.heap.size wr wx → RT wx C1 T.syms At vs va vt ∧ LabRow wx vt T.labels) := fun wx hb2 =>
        ⟨⟨(hb2.block C1 (Array.getElem?_eq_some_iff.1 hR.block).1).trans hR.block, owns_under hR.syms hb2, owns_under hR.acts hb2⟩, owns_under hL hb2⟩
      have RTu : Hid (∀ wx, Below wr.heap.size wr wx → RT wx C2 U.syms Au vs2 va2 vt2 ∧ LabRow wx vt2 U.labels) := fun wx hb2 =>
        ⟨⟨(hb2.block C2 (Array.getElem?_eq_some_iff.1 hR2.block).1).trans hR2.block, owns_under hR2.syms hb2, owns_under hR2.acts hb2⟩, owns_under hL2 hb2⟩
      have HIt : Hid (Inv T At ∧ T.Ok k ∧ T.Good) := ⟨ht3, ht4, ht5⟩
      have h5 := ht4.syms
      have h6 := ht4.labels
      have h7 := hu4.syms
      have h8 := hu4.labels
      have HBw : Hid (Below w.heap.size w wr) := HT.out.below
      have D1 : Hid _ := count_any wr bu B2 k U (TU.out wr (Below.refl _ _))
      have D2 : Hid _ := rcount_any wr C2 U.syms Au vs2 va2 vt2 (RTu.out wr (Below.refl _ _)).1
      have D3 : Hid _ := Go.Proofs.YtdnkgjjboonmnabDoor.depth_any wr bu B2 k U (TU.out wr (Below.refl _ _))
      have D4 := R.depth_any wr C2 U.syms Au vs2 va2 vt2 (by omega) (RTu.out wr (Below.refl _ _)).1
      rw [hu3.dep] at D4
      replace D4 := show Hid _ from D4
      have D5 : Hid _ := labels_any wr bu B2 k U (by omega) (TU.out wr (Below.refl _ _))
      clear hxs hys ht1 ht3 ht4 ht5 ht7 hu1 hu3 hu4 hu5 hu7 hR hL hR2 hL2 HT
      go_wp2_with fail
      refine Calls.mono D1.out ?_
      rintro e w7 ⟨rfl, hw7⟩
      subst w7
      clear D1
      go_wp2_with fail
      refine Calls.mono D2.out ?_
      rintro e w7 ⟨rfl, hw7⟩
      subst w7
      clear D2
      go_wp2_with fail
      refine Calls.mono D3.out ?_
      rintro e w7 ⟨rfl, hw7⟩
      subst w7
      clear D3
      go_wp2_with fail
      refine Calls.mono D4.out ?_
      rintro e w7 ⟨rfl, hw7⟩
      subst w7
      clear D4
      go_wp2_with fail
      refine Calls.mono D5.out ?_
      rintro e w7 ⟨v, rfl, ho7, hb7⟩
      obtain ⟨a7, c7, rfl, hr7⟩ := own_row ho7
      have HW7 : Hid (WordsAt w7 a7 U.labels) := row_words hr7
      have HB7 : Hid (Below wr.heap.size wr w7) := hb7
      have D6 : Hid _ := rlabels_any w7 C2 U.syms Au vs2 va2 vt2 U.labels h8 (RTu.out w7 hb7).1 (RTu.out w7 hb7).2
      clear D5 ho7 hr7 hb7
      go_wp2_with fail
      refine Calls.mono D6.out ?_
      rintro e w8 ⟨a8, c8, rfl, hw8, hb8⟩
      have HB8 : Hid (Below wr.heap.size wr w8) := HB7.out.trans (hb8.mono HB7.out.size)
      have D7 : Hid _ := same_words w8 a7 a8 c7 c8 U.labels U.labels.length rfl (by omega) (HW7.out.under hb8) hw8
      clear D6 hw8 hb8 HW7 HB7
      go_wp2_with fail
      refine Calls.mono D7.out ?_
      rintro e w9 ⟨rfl, k9, hw9⟩
      have HB9 : Hid (Below wr.heap.size wr w9) := by
        rw [hw9]
        exact ⟨HB8.out.os, HB8.out.tape, HB8.out.output, HB8.out.size, HB8.out.block⟩
      have D8 : Hid _ := new_any w9
      clear D7 hw9 HB8
      go_wp2_with fail
      refine Calls.mono D8.out ?_
      rintro e w10 ⟨rfl, ⟨bs10, hT10, _⟩, hb10⟩
      generalize w9.heap.size + 3 = B10 at *
      have HB10 : Hid (Below wr.heap.size wr w10) := HB9.out.trans (hb10.mono HB9.out.size)
      have D9 := count_any w10 bs10 B10 0 tab0 hT10
      replace D9 : Calls Tryd.prog 7 #[.pointer (some ⟨B10, 0, none⟩)] w10 fun e w' => e = .returned (.int .i64 0) ∧ w' = w10 := D9
      replace D9 := show Hid _ from D9
      clear D8 hT10 hb10 HB9
      go_wp2_with fail
      refine Calls.mono D9.out ?_
      rintro e w11 ⟨rfl, hw11⟩
      subst w11
      clear D9
      go_wp2_with fail
      go_loopw [8] (fun i wx => ∃ z : Nat, z ≤ T.syms.length + 2 ∧ i = .int .i64 ((z : Int) - 1) ∧ Hid (Below wr.heap.size wr wx)) (fun i _ => (T.syms.length + 1 - intOf i).toNat)
      case atStart => exact ⟨0, by omega, rfl, HB10.out⟩
      case round =>
        clear HB10
        rename World => wq
        obtain ⟨z, hz, rfl, HBq⟩ := hrel
        obtain ⟨n, hn⟩ : ∃ n : Int, (z : Int) - 1 = n := ⟨_, rfl⟩
        have HN : Hid ((z : Int) - 1 = n) := hn
        rw [hn]
        have E1 : Hid _ := rcount_any wq C1 T.syms At vs va vt (RTt.out wq HBq.out).1
        by_cases hz2 : z ≤ T.syms.length + 1
        · have n2 : n ≤ (T.syms.length : Int) := by omega
          have n3 : -1 ≤ n := by omega
          have E2 : Hid _ := name_of wq bt B1 k T n (by omega) (TT.out wq HBq.out)
          have X3 : Hid (∀ wx, Below wr.heap.size wr wx → Calls Tryd.prog 15 #[.pointer (some ⟨C1, 0, none⟩), .int .i64 n] wx fun e w' => e = .returned (.string (nameOf (symAt T n))) ∧ w' = wx) := fun wx hx => by
            have h := rNameOf_any wx C1 T.syms At vs va vt n (by omega) (RTt.out wx hx).1
            rw [name_same] at h
            exact h
          have X4 : Hid (∀ wx, Below wr.heap.size wr wx → Calls Tryd.prog 16 #[.pointer (some ⟨B1, 0, none⟩), .int .i64 n] wx fun e w' => e = .returned (.bool (varOf (symAt T n))) ∧ Below wx.heap.size wx w') := fun wx hx => isVar_of wx bt B1 k T n (by omega) (TT.out wx hx)
          have X5 : Hid (∀ wx, Below wr.heap.size wr wx → Calls Tryd.prog 17 #[.pointer (some ⟨C1, 0, none⟩), .int .i64 n] wx fun e w' => e = .returned (.bool (varOf (symAt T n))) ∧ w' = wx) := fun wx hx => by
            have h := risVar_any wx C1 T.syms At vs va vt n (by omega) (RTt.out wx hx).1
            rw [var_same] at h
            exact h
          have X6 : Hid (∀ wx, Below wr.heap.size wr wx → Calls Tryd.prog 18 #[.pointer (some ⟨B1, 0, none⟩), .int .i64 n] wx fun e w' => e = .returned (.bool (activeOf T n)) ∧ Below wx.heap.size wx w') := fun wx hx => active_of wx bt B1 k T n (by omega) HIt.out.2.1.sizes (TT.out wx hx)
          have X7 : Hid (∀ wx, Below wr.heap.size wr wx → Calls Tryd.prog 19 #[.pointer (some ⟨C1, 0, none⟩), .int .i64 n] wx fun e w' => e = .returned (.bool (activeOf T n)) ∧ w' = wx) := fun wx hx => by
            have h := ractive_any wx C1 T.syms At vs va vt n (by omega) (by omega) (RTt.out wx hx).1
            rw [inv_active HIt.out.1 HIt.out.2.2 HIt.out.2.1.nodup] at h
            exact h
          generalize nameOf (symAt T n) = nm at E2 X3
          generalize varOf (symAt T n) = vb at X4 X5
          generalize activeOf T n = ab at X6 X7
          have hst : (nm.toList != nm.toList) = false := by simp
          clear hn
          go_wp2_with fail
          refine Calls.mono E1.out ?_
          rintro e w12 ⟨rfl, hw⟩
          subst w12
          clear E1
          go_wp2_with fail
          refine Calls.mono E2.out ?_
          rintro e w12 ⟨rfl, hb⟩
          have HB12 : Hid (Below wr.heap.size wr w12) := HBq.out.trans (hb.mono HBq.out.size)
          have E3 : Hid _ := X3.out w12 HB12.out
          clear E2 hb X3
          go_wp2_with fail
          refine Calls.mono E3.out ?_
          rintro e w13 ⟨rfl, hw⟩
          subst w13
          have E4 : Hid _ := X4.out w12 HB12.out
          clear E3 X4
          go_wp2_with fail
          refine Calls.mono E4.out ?_
          rintro e w13 ⟨rfl, hb⟩
          have HB13 : Hid (Below wr.heap.size wr w13) := HB12.out.trans (hb.mono HB12.out.size)
          have E5 : Hid _ := X5.out w13 HB13.out
          clear E4 hb X5
          go_wp2_with fail
          refine Calls.mono E5.out ?_
          rintro e w14 ⟨rfl, hw⟩
          subst w14
          have E6 : Hid _ := X6.out w13 HB13.out
          clear E5 X6
          go_wp2_with fail
          refine Calls.mono E6.out ?_
          rintro e w14 ⟨rfl, hb⟩
          have HB14 : Hid (Below wr.heap.size wr w14) := HB13.out.trans (hb.mono HB13.out.size)
          have E7 : Hid _ := X7.out w14 HB14.out
          clear E6 hb X7
          go_wp2_with fail
          refine Calls.mono E7.out ?_
          rintro e w15 ⟨rfl, hw⟩
          subst w15
          clear E7
          go_wp2
          exact ⟨⟨z + 1, by omega, by rw [show ((z + 1 : Nat) : Int) - 1 = n + 1 by rw [← HN.out]; omega], HB14.out⟩, by simp [intOf]; omega⟩
        · have n2 : ¬ n ≤ (T.syms.length : Int) := by omega
          have n3 : n ≤ (T.syms.length : Int) + 1 := by omega
          have E2 : Hid _ := count_any wq bt B1 k T (TT.out wq HBq.out)
          have E3 : Hid _ := Go.Proofs.YtdnkgjjboonmnabDoor.depth_any wq bt B1 k T (TT.out wq HBq.out)
          have E4 := R.depth_any wq C1 T.syms At vs va vt (by omega) (RTt.out wq HBq.out).1
          rw [HIt.out.1.dep] at E4
          replace E4 := show Hid _ from E4
          have E5 : Hid _ := labels_any wq bt B1 k T (by omega) (TT.out wq HBq.out)
          have E1b : Hid _ := E1.out
          clear hn
          go_wp2_with fail
          refine Calls.mono E1.out ?_
          rintro e w12 ⟨rfl, hw⟩
          subst w12
          clear E1
          go_wp2_with fail
          refine Calls.mono E2.out ?_
          rintro e w12 ⟨rfl, hw⟩
          subst w12
          clear E2
          go_wp2_with fail
          refine Calls.mono E1b.out ?_
          rintro e w12 ⟨rfl, hw⟩
          subst w12
          clear E1b
          go_wp2_with fail
          refine Calls.mono E3.out ?_
          rintro e w12 ⟨rfl, hw⟩
          subst w12
          clear E3
          go_wp2_with fail
          refine Calls.mono E4.out ?_
          rintro e w12 ⟨rfl, hw⟩
          subst w12
          clear E4
          go_wp2_with fail
          refine Calls.mono E5.out ?_
          rintro e w12 ⟨v, rfl, ho, hb⟩
          obtain ⟨a12, c12, rfl, hr12⟩ := own_row ho
          have HW12 : Hid (WordsAt w12 a12 T.labels) := row_words hr12
          have HB12 : Hid (Below wr.heap.size wr w12) := HBq.out.trans (hb.mono HBq.out.size)
          have E6 : Hid _ := rlabels_any w12 C1 T.syms At vs va vt T.labels h6 (RTt.out w12 HB12.out).1 (RTt.out w12 HB12.out).2
          clear E5 ho hr12 hb
          go_wp2_with fail
          refine Calls.mono E6.out ?_
          rintro e w13 ⟨a13, c13, rfl, hw13, hb13⟩
          have HB13 : Hid (Below wr.heap.size wr w13) := HB12.out.trans (hb13.mono HB12.out.size)
          have E7 : Hid _ := same_words w13 a12 a13 c12 c13 T.labels T.labels.length rfl (by omega) (HW12.out.under hb13) hw13
          clear E6 hw13 hb13 HW12 HB12
          go_wp2_with fail
          refine Calls.mono E7.out ?_
          rintro e w14 ⟨rfl, k14, hw14⟩
          have HB14 : Hid (Below w.heap.size w w14) := by
            rw [hw14]
            exact HBw.out.trans ((show Below wr.heap.size wr (w13.drewN k14) from ⟨HB13.out.os, HB13.out.tape, HB13.out.output, HB13.out.size, HB13.out.block⟩).mono HBw.out.size)
          clear E7 hw14 HB13
          go_wp2
          go_ret
          exact ⟨rfl, HB14.out⟩
end Go.Proofs.YtdnkgjjboonmnabDoor.R
