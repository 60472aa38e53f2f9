/- The walk of the law on the limits of bytes and of words. -/
import Derived.Test.YtekbddpdcjbinaaDoorLimits
import Derived.Test.YtekbddpdcjbinaaDoorFirstWalk
import Derived.Laws.IdiomStrings
namespace Go.Proofs.YtekbddpdcjbinaaDoor
open Go.RowKit

def byteV (c : UInt8) : Value := .int .u8 c.toNat
theorem info5 : (Tryd.prog.info? 5).map (fun i => (i.zero, i.size, i.bytes)) = some (some (.int .u8 0), 1, 1) := by kernel_rfl

/-- A slice of bytes made into a string. -/
theorem convert_row {W : World} {base n : Nat} {v : Value} {l : List UInt8} (h : W.ownsRow base 5 1 v n (l.map byteV)) : (convert 23 9 v).run Tryd.prog W = .ok (.string ⟨l.toArray⟩) W := by
  have hl : l.length = n := by have := h.1; simpa using this
  rcases h.2 with ⟨rfl, rfl⟩ | ⟨g, cap, cur, rfl, hg, hh, hn, hc, hsz, ht⟩
  · rw [List.length_eq_zero_iff.1 hl, run_convert_bytes_string W 23 9 5 none 0 0 Tryd.underlying23 Tryd.underlying5 Tryd.underlying9]; rfl
  · have := run_convert_bytes_back (P := Tryd.prog) W 23 9 5 ⟨g, 0, none⟩ cap l Tryd.underlying23 Tryd.underlying5 Tryd.underlying9 (fun j hj => by
      have e : (l.map byteV)[j]? = some (byteV l[j]) := by simp [hj]
      rw [← ht, List.getElem?_take, if_pos (by omega)] at e
      have e' : cur[j]? = some (byteV l[j]) := by simpa using e
      rw [Addr.add_lit, Nat.zero_add]
      simp [World.cell?, hh, e', byteV])
    rw [hl] at this
    exact this

set_option maxRecDepth 100000 in
set_option maxHeartbeats 4000000 in
theorem limits_out (n front : Int) (w : World) (m : Int) (hKB : KB w) (hm : w.cell? ⟨1, 0, none⟩ = some (.int .i64 m)) (h : n < 0 ∨ 20000 < n ∨ front < 0 ∨ 70000 < front) :
    Calls Tryd.prog 3 #[.int .i64 n, .int .i64 front] w fun e w' => e = .returned (.bool true) ∧ Below w.heap.size w w' := by
  have AL := alive_any w m hKB hm
  replace AL := show Hid _ from AL
  by_cases h1 : n < 0
  · clear h
    go_enter Tryd.func3, Tryd.ntmps3
    go_wp2_with (go_at_call 9; refine Calls.mono AL.out ?_; rintro e w1 ⟨rfl, hb1⟩)
    go_ret
    exact ⟨rfl, hb1⟩
  · have h1' : 0 ≤ n := by omega
    by_cases h2 : 20000 < n
    · clear h h1
      go_enter Tryd.func3, Tryd.ntmps3
      go_wp2_with (go_at_call 9; refine Calls.mono AL.out ?_; rintro e w1 ⟨rfl, hb1⟩)
      go_ret
      exact ⟨rfl, hb1⟩
    · have h2' : n ≤ 20000 := by omega
      by_cases h3 : front < 0
      · clear h h1 h2
        go_enter Tryd.func3, Tryd.ntmps3
        go_wp2_with (go_at_call 9; refine Calls.mono AL.out ?_; rintro e w1 ⟨rfl, hb1⟩)
        go_ret
        exact ⟨rfl, hb1⟩
      · have h3' : 0 ≤ front := by omega
        have h4 : 70000 < front := by omega
        clear h h1 h2 h3
        go_enter Tryd.func3, Tryd.ntmps3
        go_wp2_with (go_at_call 9; refine Calls.mono AL.out ?_; rintro e w1 ⟨rfl, hb1⟩)
        go_ret
        exact ⟨rfl, hb1⟩

theorem limitL_succ (b k : Nat) : (limitL b (k + 1)).map byteV = (limitL b k).map byteV ++ [.int .u8 97, .int .u8 32] := by
  unfold limitL; rw [letters_snoc]; simp [byteV]
theorem limitS_size (b a : Nat) : (limitS b a).size = b + 2 * a := by
  show (limitL b a).length = _
  unfold limitL; rw [List.length_append, letters_len, List.length_replicate]

theorem tdiv_neg_le (b : Nat) (h : 65536 < b) : ((65536 : Int) - (b : Int)).tdiv 2 ≤ 0 := by
  obtain ⟨c, rfl⟩ : ∃ c, b = 65536 + c := ⟨b - 65536, by omega⟩
  rw [show (65536 : Int) - ((65536 + c : Nat) : Int) = -(c : Int) by omega, Int.neg_tdiv]
  have : (0 : Int) ≤ (c : Int).tdiv 2 := Int.tdiv_nonneg (by omega) (by omega)
  omega

set_option maxRecDepth 100000 in
set_option maxHeartbeats 8000000 in
theorem limits_in (a b : Nat) (w : World) (m : Int) (hKB : KB w) (hm : w.cell? ⟨1, 0, none⟩ = some (.int .i64 m)) (ha : a ≤ 20000) (hb : b ≤ 70000) :
    Calls Tryd.prog 3 #[.int .i64 a, .int .i64 b] w fun e w' => e = .returned (.bool true) ∧ Below w.heap.size w w' := by
  have hw1 : 1 < w.heap.size := World.block_lt_of_cell? _ _ hm
  have AL := alive_any w m hKB hm
  replace AL := show Hid _ from AL
  have a0 : (0 : Int) ≤ (a : Int) := by omega
  have a1 : (a : Int) ≤ 20000 := by omega
  have b0 : (0 : Int) ≤ (b : Int) := by omega
  have b1 : (b : Int) ≤ 70000 := by omega
  have t1 : decide ((a : Int) < 0) = false := by simp
  have t2 : decide ((20000 : Int) < (a : Int)) = false := by simp; omega
  have t3 : decide ((b : Int) < 0) = false := by simp
  have t4 : decide ((70000 : Int) < (b : Int)) = false := by simp; omega
  obtain ⟨i0, hi0, hz0, hz1, hz3⟩ := info_parts info5
  obtain ⟨M, hMs, hmk⟩ : ∃ M : Array Value, M.size = b + 2 * a ∧ ∀ wx : World, (Instr.makeSlice 23 (.int .i64 (b : Int)) (.int .i64 ((b : Int) + 2 * (a : Int)))).run Tryd.prog wx = .ok (.slice (some ⟨wx.heap.size, 0, none⟩) b (b + 2 * a)) (wx.alloc (.cells M 5)) := by
    refine ⟨madeCells (Value.int .u8 0).cells ((b + 2 * a) * i0.size), by rw [size_madeCells, hz1]; omega, fun wx => ?_⟩
    have := run_make (P := Tryd.prog) wx 23 5 i0 (.int .u8 0) Tryd.underlying23 hi0 hz0 .i64 .i64 (b : Int) ((b : Int) + 2 * (a : Int)) (by omega) (by omega) (by rw [hz3]; omega) (by omega)
    rw [show ((b : Int) + 2 * (a : Int)).toNat = b + 2 * a by omega, Int.toNat_natCast] at this
    exact this
  have HM : Hid (M.size = b + 2 * a) := hMs
  clear hMs
  go_enter Tryd.func3, Tryd.ntmps3
  go_wp2_with (go_at_call 9; refine Calls.mono AL.out ?_; rintro e w1 ⟨rfl, hb1⟩)
  clear hmk
  obtain ⟨g, hg⟩ : ∃ g, g = w1.heap.size := ⟨_, rfl⟩
  have Hg : Hid (g = w1.heap.size) := hg
  rw [← hg]
  clear hg
  go_loopw [6] (fun i wr => ∃ (k : Nat) (cur : Array Value), k ≤ b ∧ i = .int .i64 k ∧ Hid (wr.heap[g]? = some (.cells cur 5 (0, 0))) ∧ Hid (cur.size = b + 2 * a) ∧ Hid (∀ j, j < k → cur[j]? = some (.int .u8 32)) ∧ Below w1.heap.size w1 wr) (fun i _ => b - (intOf i).toNat)
  case atStart =>
    refine ⟨0, M, by omega, rfl, ?_, HM, fun j hj => by omega, (Below.refl _ _).alloc (Nat.le_refl _) _⟩
    rw [Hg.out]; exact heap_new w1 _
  case round =>
    obtain ⟨k, cur, hk, rfl, hh, hsz, hall, hbel⟩ := hrel
    by_cases hlt : k < b
    · obtain ⟨u, hu⟩ : ∃ u, cur[k]? = some u := ⟨cur[k]'(by rw [hsz.out]; omega), Array.getElem?_eq_getElem _⟩
      have hc : wr.cell? ⟨g, k, none⟩ = some u := by simp [World.cell?, hh.out, hu]
      have hf : wr.frozen? ⟨g, k, none⟩ = false := by simp [World.frozen?, hh.out]
      have k0 : (0 : Int) ≤ (k : Int) := by omega
      have k1 : (k : Int) < (b : Int) := by omega
      clear hu
      go_wp2
      go_roundw
      case rel =>
        refine ⟨k + 1, cur.setIfInBounds k (.int .u8 32), by omega, by go_num, heap_set_same hh.out, (by show _ = _; rw [Array.size_setIfInBounds]; exact hsz.out), fun j hj => ?_, hbel.setCell (by show _ ≤ g; rw [Hg.out]; exact Nat.le_refl _) _⟩
        have hs := hsz.out
        by_cases e : j = k
        · subst e; rw [Array.getElem?_setIfInBounds_self_of_lt (by omega)]
        · rw [Array.getElem?_setIfInBounds_ne (by omega)]; exact hall.out j (by omega)
      case measure => simp [intOf]; omega
    · have hkb : k = b := by omega
      have hown : wr.ownsRow w1.heap.size 5 1 (.slice (some ⟨g, 0, none⟩) b (b + 2 * a)) b ((limitL b 0).map byteV) := by
        refine ⟨by simp [limitL, letters], .inr ⟨g, b + 2 * a, cur, rfl, by rw [Hg.out]; exact Nat.le_refl _, hh.out, by omega, by unfold maxLen; omega, by rw [hsz.out]; omega, ?_⟩⟩
        have hs := hsz.out
        apply List.ext_getElem?
        intro j
        rw [List.getElem?_take]
        by_cases hj : j < b
        · rw [if_pos (by omega), Array.getElem?_toList, hall.out j (by omega)]
          simp [limitL, letters, hj, byteV]
        · rw [if_neg (by omega), List.getElem?_eq_none (by simp [limitL, letters]; omega)]
      have Hown : Hid _ := hown
      clear hown hkb hall hsz hh
      go_wp2
      go_loopw [5, 7] (fun bv i wx => ∃ (k2 : Nat) (av : Option Addr) (cv : Nat), k2 ≤ a ∧ i = .int .i64 k2 ∧ bv = .slice av (b + 2 * k2) cv ∧ Hid (wx.ownsRow w1.heap.size 5 1 (.slice av (b + 2 * k2) cv) (b + 2 * k2) ((limitL b k2).map byteV)) ∧ Below w1.heap.size w1 wx) (fun _ i _ => a - (intOf i).toNat)
      case atStart => exact ⟨0, _, _, by omega, rfl, rfl, Hown, hbel⟩
      case round =>
        clear Hown hbel
        obtain ⟨k2, av, cv, hk2, rfl, rfl, hown, hbel⟩ := hrel
        obtain ⟨_, _, _, hbg⟩ := slice_form hown.out
        by_cases hlt2 : k2 < a
        · go_wp2_with (at_builtin; refine wpList_append_lies _ rfl _ _ _ rfl w1.heap.size 5 i0 _ 1 1 Tryd.underlying23 hi0 hz0 hz1 hz3 rfl (by omega) _ (b + 2 * k2) ((limitL b k2).map byteV) (by rfl) (by exact (hown.out.alloc _)) ⟨wr.heap.size, 0, none⟩ 2 2 [.int .u8 97, .int .u8 32] (by rfl) (by rfl) (World.news_of_block (cs := #[.int .u8 97, .int .u8 32]) (t := 5) (fr := (0, 0)) (heap_alloc_new _ _)) (by simp [Value.oneCell']) (by omega) (by unfold maxLen; omega) (by omega) (by have := hbel.size; simp; omega) (wr.heap.size + 1) (by simp) ?_; intro g2 cap2 w2 hown2 hgrow hat hlt3)
          go_roundw
          case rel =>
            have e : b + 2 * (k2 + 1) = b + 2 * k2 + 2 := by omega
            refine ⟨k2 + 1, some ⟨g2, 0, none⟩, cap2, by omega, by go_num, by rw [e], ?_, (hbel.alloc hbel.size _).grown hgrow (by have := hbel.size; simp; omega) hbg⟩
            show World.ownsRow _ _ _ _ _ _ _
            rw [e, limitL_succ]; exact hown2
          case measure => simp [intOf]; omega
        · have hka : k2 = a := by omega
          subst hka
          have hbw : Below w.heap.size w wr := hb1.trans (hbel.mono hb1.size)
          have hz2 := hbw.size
          have hcv : (convert 23 9 (.slice av (b + 2 * k2) cv)).run Tryd.prog wr = .ok (.string (limitS b k2)) wr := convert_row hown.out
          have hSs := limitS_size b k2
          obtain ⟨i1, i2, i3⟩ := limit_scan b k2
          have SC := scan_any (limitS b k2) wr m (by rw [hSs]; omega) (kb_below hKB hbw hw1) (max_below hm hbw hw1)
          unfold ScanPost ScanOut at SC
          obtain ⟨S, hS⟩ : ∃ S, S = limitS b k2 := ⟨_, rfl⟩
          rw [← hS] at hcv i1 i2 i3 SC
          replace SC := show Hid _ from SC
          clear hSs hS hown hbg AL HM Hg
          by_cases hb6 : b ≤ 65536
          · have q0 : (0 : Int) ≤ 65536 - (b : Int) := by omega
            by_cases haf : (65536 - b) / 2 < k2
            · have q1 : ((65536 : Int) - (b : Int)) / 2 < (k2 : Int) := by omega
              by_cases hbig : 16384 < (65536 - b) / 2
              · have q2 : (16384 : Int) < ((65536 : Int) - (b : Int)) / 2 := by omega
                obtain ⟨j1, j2⟩ := i1 (by omega)
                rw [j1, j2] at SC
                clear i1 i2 i3 j1 j2 haf hbig
                go_wp2_with fail
                refine Calls.mono SC.out ?_
                rintro e w5 ⟨v, fv, rfl, ⟨hown5, Bf, rfl, hBf, hFa⟩, hb5⟩
                obtain ⟨va, vc, rfl, _⟩ := slice_form hown5
                obtain ⟨p0, p1, p2, p3, p4⟩ := hFa.cells
                unfold aTok at p0 p1 p2 p3
                dsimp only at p0 p1 p2 p3
                have hbf : Below w.heap.size w w5 := hbw.trans (hb5.mono hz2)
                clear hown5 hFa
                go_wp2_with (go_at_call 11; refine (num_any _ _).mono ?_; rintro e w' ⟨rfl, rfl⟩)
                go_ret
                exact ⟨rfl, hbf⟩
              · have q2 : decide ((16384 : Int) < ((65536 : Int) - (b : Int)) / 2) = false := by simp; omega
                obtain ⟨q, hq⟩ : ∃ q, q = (65536 - b) / 2 := ⟨_, rfl⟩
                obtain ⟨j1, j2⟩ := i2 (by omega) (by omega)
                rw [show min k2 ((65536 - b) / 2) = q by omega] at j1
                rw [j1, j2] at SC
                have q3 : ((q : Int) == ((65536 : Int) - (b : Int)) / 2) = true := by simp; omega
                have q4 : (65536 : Int) < (b : Int) + 2 * (k2 : Int) := by omega
                clear i1 i2 i3 j1 j2 haf hbig hq
                go_wp2_with fail
                refine Calls.mono SC.out ?_
                rintro e w5 ⟨v, fv, rfl, ⟨hown5, Bf, rfl, hBf, hFa⟩, hb5⟩
                obtain ⟨va, vc, rfl, _⟩ := slice_form hown5
                obtain ⟨p0, p1, p2, p3, p4⟩ := hFa.cells
                unfold faultTok at p0 p1 p2 p3
                dsimp only at p0 p1 p2 p3
                have hbf : Below w.heap.size w w5 := hbw.trans (hb5.mono hz2)
                clear hown5 hFa
                go_wp2_with (go_at_call 11; refine (num_any _ _).mono ?_; rintro e w' ⟨rfl, rfl⟩)
                go_ret
                exact ⟨rfl, hbf⟩
            · have q1 : decide (((65536 : Int) - (b : Int)) / 2 < (k2 : Int)) = false := by simp; omega
              by_cases hbig : 16384 < k2
              · have q2 : (16384 : Int) < (k2 : Int) := by omega
                obtain ⟨j1, j2⟩ := i1 (by omega)
                rw [j1, j2] at SC
                clear i1 i2 i3 j1 j2 haf hbig
                go_wp2_with fail
                refine Calls.mono SC.out ?_
                rintro e w5 ⟨v, fv, rfl, ⟨hown5, Bf, rfl, hBf, hFa⟩, hb5⟩
                obtain ⟨va, vc, rfl, _⟩ := slice_form hown5
                obtain ⟨p0, p1, p2, p3, p4⟩ := hFa.cells
                unfold aTok at p0 p1 p2 p3
                dsimp only at p0 p1 p2 p3
                have hbf : Below w.heap.size w w5 := hbw.trans (hb5.mono hz2)
                clear hown5 hFa
                go_wp2_with (go_at_call 11; refine (num_any _ _).mono ?_; rintro e w' ⟨rfl, rfl⟩)
                go_ret
                exact ⟨rfl, hbf⟩
              · have q2 : decide ((16384 : Int) < (k2 : Int)) = false := by simp; omega
                obtain ⟨j1, j2⟩ := i3 (by omega) (by omega)
                rw [show min k2 ((65536 - b) / 2) = k2 by omega] at j1
                rw [j1, j2] at SC
                have q4 : decide ((65536 : Int) < (b : Int) + 2 * (k2 : Int)) = false := by simp; omega
                clear i1 i2 i3 j1 j2 haf hbig
                go_wp2_with fail
                refine Calls.mono SC.out ?_
                rintro e w5 ⟨v, fv, rfl, ⟨hown5, rfl⟩, hb5⟩
                obtain ⟨va, vc, rfl, _⟩ := slice_form hown5
                have hbf : Below w.heap.size w w5 := hbw.trans (hb5.mono hz2)
                clear hown5
                go_wp2
                go_ret
                exact ⟨rfl, hbf⟩
          · have q0 : (65536 : Int) < (b : Int) := by omega
            obtain ⟨j1, j2⟩ := i2 (by omega) (by omega)
            rw [show min k2 ((65536 - b) / 2) = 0 by omega] at j1
            rw [j1, j2] at SC
            have q4 : (65536 : Int) < (b : Int) + 2 * (k2 : Int) := by omega
            clear i1 i2 i3 j1 j2
            by_cases hT : ((65536 : Int) - (b : Int)).tdiv 2 < 0
            · by_cases hk0 : 0 < k2
              · have q1 : (0 : Int) < (k2 : Int) := by omega
                clear hk0
                go_wp2_with fail
                refine Calls.mono SC.out ?_
                rintro e w5 ⟨v, fv, rfl, ⟨hown5, Bf, rfl, hBf, hFa⟩, hb5⟩
                obtain ⟨va, vc, rfl, _⟩ := slice_form hown5
                obtain ⟨p0, p1, p2, p3, p4⟩ := hFa.cells
                unfold faultTok at p0 p1 p2 p3
                dsimp only at p0 p1 p2 p3
                have hbf : Below w.heap.size w w5 := hbw.trans (hb5.mono hz2)
                clear hown5 hFa
                go_wp2_with (go_at_call 11; refine (num_any _ _).mono ?_; rintro e w' ⟨rfl, rfl⟩)
                go_ret
                exact ⟨rfl, hbf⟩
              · have q1 : decide ((0 : Int) < (k2 : Int)) = false := by simp; omega
                have q2 : decide ((16384 : Int) < (k2 : Int)) = false := by simp; omega
                have q3 : ((0 : Int) == (k2 : Int)) = true := by simp; omega
                clear hk0
                go_wp2_with fail
                refine Calls.mono SC.out ?_
                rintro e w5 ⟨v, fv, rfl, ⟨hown5, Bf, rfl, hBf, hFa⟩, hb5⟩
                obtain ⟨va, vc, rfl, _⟩ := slice_form hown5
                obtain ⟨p0, p1, p2, p3, p4⟩ := hFa.cells
                unfold faultTok at p0 p1 p2 p3
                dsimp only at p0 p1 p2 p3
                have hbf : Below w.heap.size w w5 := hbw.trans (hb5.mono hz2)
                clear hown5 hFa
                go_wp2_with (go_at_call 11; refine (num_any _ _).mono ?_; rintro e w' ⟨rfl, rfl⟩)
                all_goals (go_ret; exact ⟨rfl, hbf⟩)
            · have hTle : ((65536 : Int) - (b : Int)).tdiv 2 ≤ 0 := tdiv_neg_le b (by omega)
              have q1 : decide (((65536 : Int) - (b : Int)).tdiv 2 < 0) = false := by simp only [decide_eq_false_iff_not]; exact hT
              by_cases hk0 : 0 < k2
              · have q2 : ((65536 : Int) - (b : Int)).tdiv 2 < (k2 : Int) := by omega
                have q3 : decide ((16384 : Int) < ((65536 : Int) - (b : Int)).tdiv 2) = false := by simp only [decide_eq_false_iff_not]; omega
                have q5 : ((0 : Int) == ((65536 : Int) - (b : Int)).tdiv 2) = true := by simp only [beq_iff_eq]; omega
                clear hk0 hT hTle
                go_wp2_with fail
                refine Calls.mono SC.out ?_
                rintro e w5 ⟨v, fv, rfl, ⟨hown5, Bf, rfl, hBf, hFa⟩, hb5⟩
                obtain ⟨va, vc, rfl, _⟩ := slice_form hown5
                obtain ⟨p0, p1, p2, p3, p4⟩ := hFa.cells
                unfold faultTok at p0 p1 p2 p3
                dsimp only at p0 p1 p2 p3
                have hbf : Below w.heap.size w w5 := hbw.trans (hb5.mono hz2)
                clear hown5 hFa
                go_wp2_with (go_at_call 11; refine (num_any _ _).mono ?_; rintro e w' ⟨rfl, rfl⟩)
                go_ret
                exact ⟨rfl, hbf⟩
              · have q2 : decide (((65536 : Int) - (b : Int)).tdiv 2 < (k2 : Int)) = false := by simp only [decide_eq_false_iff_not]; omega
                have q3 : decide ((16384 : Int) < (k2 : Int)) = false := by simp; omega
                have q5 : ((0 : Int) == (k2 : Int)) = true := by simp; omega
                clear hk0 hT hTle
                go_wp2_with fail
                refine Calls.mono SC.out ?_
                rintro e w5 ⟨v, fv, rfl, ⟨hown5, Bf, rfl, hBf, hFa⟩, hb5⟩
                obtain ⟨va, vc, rfl, _⟩ := slice_form hown5
                obtain ⟨p0, p1, p2, p3, p4⟩ := hFa.cells
                unfold faultTok at p0 p1 p2 p3
                dsimp only at p0 p1 p2 p3
                have hbf : Below w.heap.size w w5 := hbw.trans (hb5.mono hz2)
                clear hown5 hFa
                go_wp2_with (go_at_call 11; refine (num_any _ _).mono ?_; rintro e w' ⟨rfl, rfl⟩)
                go_ret
                exact ⟨rfl, hbf⟩
end Go.Proofs.YtekbddpdcjbinaaDoor
