/- The walk of the law on what stands behind the first fault. -/
import Derived.Test.YtekbddpdcjbinaaDoorSame
namespace Go.Proofs.YtekbddpdcjbinaaDoor
open Go.RowKit

theorem kb_below {w w' : World} (h : KB w) (hb : Below w.heap.size w w') (h1 : 1 < w.heap.size) : KB w' := h.keep (hb.block 0 (by omega))
theorem max_below {w w' : World} {m : Int} (h : w.cell? ⟨1, 0, none⟩ = some (.int .i64 m)) (hb : Below w.heap.size w w') (h1 : 1 < w.heap.size) : w'.cell? ⟨1, 0, none⟩ = some (.int .i64 m) := (hb.cell (p := ⟨1, 0, none⟩) h1).trans h

theorem below_draws {B : Nat} {a w : World} (h : Below B a w) (n : Nat) : Below B a (w.drewN n) := ⟨h.os, h.tape, h.output, h.size, h.block⟩
theorem runF_len (es : List (Tok × Int)) : ∀ r : Rd, r.told.length ≤ 16384 → (runF r es).1.told.length ≤ 16384 := by
  induction es with
  | nil => intro r h; exact h
  | cons x es ih =>
    obtain ⟨t, c⟩ := x
    intro r h
    simp only [runF]
    split
    · split
      · exact ih _ (takeF_len r t h)
      · exact takeF_len r t h
    · exact h
theorem scanF_len (s : ByteArray) : (scanF s).1.length ≤ 16384 := by
  have := runF_len (events s) rd0 (by decide)
  unfold scanF
  cases hr : runF rd0 (events s) with
  | mk r g =>
    rw [hr] at this
    cases g with
    | none => exact this
    | some f => exact this
theorem owns_below {W W' : World} {base e size : Nat} {v : Value} {n : Nat} {xs : List Value} (h : W.ownsRow base e size v n xs) (hb : Below W.heap.size W W') : W'.ownsRow base e size v n xs := owns_block h fun g hg _ => hb.block g hg
theorem FaultAt.below {W W' : World} {B : Nat} {t : Tok} {c : Int} (h : FaultAt W B t c) (hb : Below W.heap.size W W') : FaultAt W' B t c := (hb.block B (Array.getElem?_eq_some_iff.1 h).1).trans h

set_option maxRecDepth 100000 in
set_option maxHeartbeats 4000000 in
theorem first_walk (s u : ByteArray) (w : World) (m : Int) (hs : s.size ≤ 140737488355328) (hu : u.size ≤ 140737488355328) (hKB : KB w) (hm : w.cell? ⟨1, 0, none⟩ = some (.int .i64 m)) :
    Calls Tryd.prog 5 #[.string s, .string u] w fun e w' => e = .returned (.bool true) ∧ Below w.heap.size w w' := by
  have hw1 : 1 < w.heap.size := World.block_lt_of_cell? _ _ hm
  have AL := alive_any w m hKB hm
  replace AL := show Hid _ from AL
  go_enter Tryd.func5, Tryd.ntmps5
  go_wp2_with fail
  refine Calls.mono AL.out ?_
  rintro e w1 ⟨rfl, hb1⟩
  have hz1 := hb1.size
  have SC := scan_any s w1 m (by omega) (kb_below hKB hb1 hw1) (max_below hm hb1 hw1)
  replace SC := show Hid _ from SC
  go_wp2_with fail
  refine Calls.mono SC.out ?_
  rintro e w2 ⟨v, fv, rfl, hout, hb2⟩
  obtain ⟨hown, hfv⟩ := hout
  have hbw : Below w.heap.size w w2 := hb1.trans (hb2.mono hz1)
  have hz2 := hbw.size
  obtain ⟨va, vc, hv, _⟩ := slice_form hown
  cases hF : (scanF s).2 with
  | none =>
    rw [hF] at hfv
    subst hfv
    subst hv
    clear hown AL SC hF
    go_wp2
    go_ret
    exact ⟨rfl, hbw⟩
  | some f =>
    rw [hF] at hfv
    obtain ⟨Bf, rfl, hBf, hFa⟩ := hfv
    obtain ⟨⟨T, o1, o2, o3⟩, c⟩ := f
    obtain ⟨p0, p1, p2, p3, p4⟩ := hFa.cells
    dsimp only at p0 p1 p2 p3 p4
    subst hv
    by_cases hc12 : c = 12
    · subst hc12
      clear hown AL SC hF hFa
      go_wp2_with (go_at_call 11; refine (num_any _ _).mono ?_; rintro e w' ⟨rfl, rfl⟩)
      go_ret
      exact ⟨rfl, hbw⟩
    · have hcc : (c == 12) = false := by simpa using hc12
      rcases first_pure s u _ hF hc12 with ⟨hT, k, ho, hk, hsc⟩ | ⟨st, kk, ho, hst, hkk, hT, hsc⟩
      · dsimp only at hT ho
        subst hT ho
        have hk1 : (k : Int) + 1 ≤ (s.size : Int) := by omega
        have hk2 : (k : Int) < (s.size : Int) := by omega
        have hk0 : (0 : Int) ≤ (k : Int) := by omega
        have Hsc : Hid (scanF (s.extract 0 (k + 1) ++ u) = scanF s) := hsc
        have Hown : Hid (w2.ownsRow w1.heap.size 37 4 (.slice va (scanF s).1.length vc) (scanF s).1.length (rowOf (scanF s).1)) := hown
        clear hsc AL SC hown
        go_wp2_with (go_at_call 11; refine (num_any _ _).mono ?_; rintro e w' ⟨rfl, rfl⟩)
        go_quiet (fail)
        go_wp2_with fail
        rw [show (min (s.size : Int) ((k : Int) + max 1 0)).toNat = k + 1 from by omega]
        have hbq : Below w.heap.size w (w'.drewN nq) := below_draws hbw nq
        have SC2 := scan_any (s.extract 0 (k + 1) ++ u) (w'.drewN nq) m (by rw [ByteArray.size_append, ByteArray.size_extract]; omega) (kb_below hKB hbq hw1) (max_below hm hbq hw1)
        refine Calls.mono SC2 ?_
        rintro e w3 ⟨v3, fv3, rfl, hout3, hb3⟩
        unfold ScanOut at hout3
        rw [Hsc.out, hF] at hout3
        obtain ⟨hown3, B3, rfl, hB3, hFa3⟩ := hout3
        obtain ⟨va3, vc3, rfl, _⟩ := slice_form hown3
        have hbn : Below w'.heap.size w' w3 := ⟨hb3.os, hb3.tape, hb3.output, hb3.size, hb3.block⟩
        have hbw3 : Below w.heap.size w w3 := hbw.trans (hbn.mono hz2)
        have ST := sameTokens_eq (scanF s).1 _ _ _ _ w3 (owns_below Hown.out hbn) hown3 (scanF_len s)
        have SF := fun n => sameFault_eq _ _ Bf B3 (w3.drewN n) (show FaultAt (w3.drewN n) Bf _ _ from (show FaultAt w3 Bf _ _ from hFa.below hbn)) (show FaultAt (w3.drewN n) B3 _ _ from hFa3)
        obtain ⟨L, hL⟩ : ∃ L, L = (scanF s).1.length := ⟨_, rfl⟩
        rw [← hL] at ST ⊢
        replace ST := show Hid _ from ST
        replace SF := show Hid _ from SF
        clear hown3 hFa3 hFa Hown hL hF Hsc hb3 hbn
        go_wp2_with fail
        refine Calls.mono ST.out ?_
        rintro e w4 ⟨rfl, n4, hw4⟩
        subst hw4
        go_wp2_with fail
        refine Calls.mono (SF.out n4) ?_
        rintro e w5 ⟨rfl, n5, hw5⟩
        subst hw5
        go_wp2
        go_ret
        exact ⟨rfl, below_draws hbw3 _⟩
      · dsimp only at hT ho
        have hTs : T.size = kk - st := by rw [hT, ByteArray.size_extract]; omega
        subst ho
        have hT1 : (1 : Int) ≤ (T.size : Int) := by omega
        have hT2 : (st : Int) + (T.size : Int) ≤ (s.size : Int) := by omega
        have hTk : Hid (kk = st + T.size) := by show _ = _; omega
        have hne : T.toList.isEmpty = false := by
          rw [Lib.toList_data]
          cases hd : T.data.toList with
          | nil => have : T.data.toList.length = T.size := rfl; rw [hd] at this; simp at this; omega
          | cons _ _ => rfl
        have Hsc : Hid (kk < 65536 → scanF ((s.extract 0 kk ++ ⟨#[32]⟩) ++ u) = scanF s) := hsc
        have Hown : Hid (w2.ownsRow w1.heap.size 37 4 (.slice va (scanF s).1.length vc) (scanF s).1.length (rowOf (scanF s).1)) := hown
        have hst0 : (0 : Int) ≤ (st : Int) := by omega
        clear hsc AL SC hown hTs hT hst hkk
        go_wp2_with (go_at_call 11; refine (num_any _ _).mono ?_; rintro e w' ⟨rfl, rfl⟩)
        go_quiet (fail)
        rw [show (min (s.size : Int) ((st : Int) + max 1 (T.size : Int))).toNat = st + T.size from by omega]
        have hHs : (s.extract 0 (st + T.size)).size = st + T.size := by rw [ByteArray.size_extract]; omega
        have Hsc2 : Hid (st + T.size < 65536 → scanF ((s.extract 0 (st + T.size) ++ ⟨#[32]⟩) ++ u) = scanF s) := by
          have e := hTk.out
          rw [← e]; exact Hsc.out
        obtain ⟨H, hH⟩ : ∃ H, H = s.extract 0 (st + T.size) := ⟨_, rfl⟩
        rw [← hH] at hHs Hsc2 ⊢
        clear hH Hsc hTk
        by_cases hbig : 65536 ≤ st + T.size
        · have hb6 : (65536 : Int) ≤ (H.size : Int) := by omega
          clear hHs Hsc2 hbig
          go_wp2
          go_ret
          exact ⟨rfl, below_draws hbw nq⟩
        · have hb6 : decide ((65536 : Int) ≤ (H.size : Int)) = false := by simp; omega
          have hb7 : (H.size : Int) ≤ 70000 := by omega
          have Hsc : Hid (scanF ((H ++ ⟨#[32]⟩) ++ u) = scanF s) := Hsc2.out (by omega)
          have hH1 : Hid (H.size ≤ 65536) := by show _ ≤ _; omega
          clear hHs Hsc2 hbig
          go_wp2_with fail
          have hbq : Below w.heap.size w (w'.drewN nq) := below_draws hbw nq
          have SC2 := scan_any ((H ++ ⟨#[32]⟩) ++ u) (w'.drewN nq) m (by rw [ByteArray.size_append, ByteArray.size_append]; have : (⟨#[32]⟩ : ByteArray).size = 1 := rfl; have h6 := hH1.out; omega) (kb_below hKB hbq hw1) (max_below hm hbq hw1)
          refine Calls.mono SC2 ?_
          rintro e w3 ⟨v3, fv3, rfl, hout3, hb3⟩
          unfold ScanOut at hout3
          rw [Hsc.out, hF] at hout3
          obtain ⟨hown3, B3, rfl, hB3, hFa3⟩ := hout3
          obtain ⟨va3, vc3, rfl, _⟩ := slice_form hown3
          have hbn : Below w'.heap.size w' w3 := ⟨hb3.os, hb3.tape, hb3.output, hb3.size, hb3.block⟩
          have hbw3 : Below w.heap.size w w3 := hbw.trans (hbn.mono hz2)
          have ST := sameTokens_eq (scanF s).1 _ _ _ _ w3 (owns_below Hown.out hbn) hown3 (scanF_len s)
          have SF := fun n => sameFault_eq _ _ Bf B3 (w3.drewN n) (show FaultAt (w3.drewN n) Bf _ _ from (show FaultAt w3 Bf _ _ from hFa.below hbn)) (show FaultAt (w3.drewN n) B3 _ _ from hFa3)
          obtain ⟨L, hL⟩ : ∃ L, L = (scanF s).1.length := ⟨_, rfl⟩
          rw [← hL] at ST ⊢
          replace ST := show Hid _ from ST
          replace SF := show Hid _ from SF
          clear hown3 hFa3 hFa Hown hL hF Hsc hb3 hbn
          go_wp2_with fail
          refine Calls.mono ST.out ?_
          rintro e w4 ⟨rfl, n4, hw4⟩
          subst hw4
          go_wp2_with fail
          refine Calls.mono (SF.out n4) ?_
          rintro e w5 ⟨rfl, n5, hw5⟩
          subst hw5
          go_wp2
          go_ret
          exact ⟨rfl, below_draws hbw3 _⟩
end Go.Proofs.YtekbddpdcjbinaaDoor
