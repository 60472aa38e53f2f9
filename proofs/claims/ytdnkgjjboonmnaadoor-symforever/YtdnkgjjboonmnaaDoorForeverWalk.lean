/- The walk of SymForever. -/
import Derived.Test.YtdnkgjjboonmnaaDoorSymMine
import Derived.Deep.RegionHeld3
namespace Go.Proofs.YtdnkgjjboonmnaaDoor
open Go.RowKit

def nameVals (l : List (ByteArray × Bool)) : List Value := l.map (fun p => .string p.1)
def kindVals (l : List (ByteArray × Bool)) : List Value := l.map (fun p => .bool p.2)
theorem bne_self (a : ByteArray) : (a.toList != a.toList) = false := by simp
theorem numOf_ne {l : List (ByteArray × Bool)} {s : ByteArray} {n : Nat} {p : ByteArray × Bool} (h : numOf l s = none) (hp : l[n]? = some p) : (p.1.toList == s.toList) = false := by
  rw [same_bytes, decide_eq_false_iff_not]
  intro e
  unfold numOf at h
  rw [List.findIdx?_eq_none_iff] at h
  have := h p (List.mem_of_getElem? hp)
  simp [e] at this

set_option maxRecDepth 100000 in
set_option maxHeartbeats 32000000 in
theorem forever_walk (w : World) (a0 : Option Addr) (len cap : Nat) (K : Nat → Int) (S : Nat → ByteArray) (M : Nat → Int) (hlen : len ≤ 4398046510976) (hscr : ScriptIs w a0 len K S M) (hKB : KB w) :
    Calls Tryd.prog 3 #[.slice a0 len cap] w fun e w' => e = .returned (.bool true) ∧ Below w.heap.size w w' := by
  have BG : Hid _ := begun_any w hKB
  have HK : Hid (KB w) := hKB
  have HS : Hid (ScriptIs w a0 len K S M) := hscr
  obtain ⟨i9, hi9, hz9, hs9, hb9⟩ := info_parts info9
  obtain ⟨i4, hi4, hz4, hs4, hb4⟩ := info_parts info4
  clear hKB hscr
  go_enter Tryd.func3, Tryd.ntmps3
  go_wp2_with fail
  refine Calls.mono BG.out ?_
  rintro e w1 ⟨B, rfl, hb1, bs1, ht1, hl1⟩
  have ST1 : Hid (Stand w w1 B 4 tab2 bs1) := Stand.start HK.out hb1 ht1 hl1
  have R1 : Hid (Mine w (w1.alloc (.cells #[.string c0, .string v0] 9)) bs1 9 1 (.slice (some ⟨w1.heap.size, 0, none⟩) 2 2) 2 [.string c0, .string v0]) := mine_new ST1.out #[.string c0, .string v0] 9 (by decide)
  have ST2 : Hid (Stand w (w1.alloc (.cells #[.string c0, .string v0] 9)) B 4 tab2 bs1) := ST1.out.under (below_new _)
  have K2 : Hid (Mine w ((w1.alloc (.cells #[.string c0, .string v0] 9)).alloc (.cells #[.bool false, .bool true] 4)) bs1 4 1 (.slice (some ⟨w1.heap.size + 1, 0, none⟩) 2 2) 2 [.bool false, .bool true]) := by
    have h := mine_new ST2.out #[.bool false, .bool true] 4 (by decide)
    rw [show (w1.alloc (.cells #[.string c0, .string v0] 9)).heap.size = w1.heap.size + 1 by simp] at h
    exact h
  have R2 : Hid (Mine w ((w1.alloc (.cells #[.string c0, .string v0] 9)).alloc (.cells #[.bool false, .bool true] 4)) bs1 9 1 (.slice (some ⟨w1.heap.size, 0, none⟩) 2 2) 2 [.string c0, .string v0]) := R1.out.under (below_new _)
  have ST3 : Hid (Stand w ((w1.alloc (.cells #[.string c0, .string v0] 9)).alloc (.cells #[.bool false, .bool true] 4)) B 4 tab2 bs1) := ST2.out.under (below_new _)
  clear BG hb1 ht1 hl1 ST1 ST2 R1
  go_wp2_with fail
  go_loopw [5, 6, 7] (fun vn vk i wx => ∃ (j n : Nat) (an ak : Option Addr) (cn ck : Nat), j ≤ len ∧ n ≤ 512 ∧ i = .int .i64 j ∧ vn = .slice an n cn ∧ vk = .slice ak n ck ∧ Hid (∃ T bs, Stand w wx B (4 + 2 * j) T bs ∧ T.syms.length = n ∧ Mine w wx bs 9 1 (.slice an n cn) n (nameVals T.syms) ∧ Mine w wx bs 4 1 (.slice ak n ck) n (kindVals T.syms) ∧ ∀ g, (Value.slice an n cn).ownBlock = some g → (Value.slice ak n ck).ownBlock ≠ some g)) (fun _ _ i _ => len - (intOf i).toNat)
  case atStart => exact ⟨0, 2, _, _, _, _, Nat.zero_le _, by omega, rfl, rfl, rfl, ⟨_, _, ST3.out, rfl, R2.out, K2.out, fun g e e' => by cases e; simp [Value.ownBlock] at e'⟩⟩
  case round =>
    clear ST3 R2 K2
    obtain ⟨j, n, an, ak, cn, ck, hj, hn, rfl, rfl, rfl, hrel⟩ := hrel
    obtain ⟨T, bs, hst, hln, hR, hK, hA⟩ := hrel.out
    obtain ⟨k0, hk0⟩ : ∃ k0, k0 = 4 + 2 * j := ⟨_, rfl⟩
    rw [← hk0] at hst
    have Hk0 : Hid (k0 = 4 + 2 * j) := hk0
    have hkb : k0 ≤ 8796093021958 := by omega
    have ST : Hid (Stand w wr B k0 T bs) := hst
    have R : Hid (Mine w wr bs 9 1 (.slice an n cn) n (nameVals T.syms)) := hR
    have Q : Hid (Mine w wr bs 4 1 (.slice ak n ck) n (kindVals T.syms)) := hK
    have AP : Hid (∀ g, (Value.slice an n cn).ownBlock = some g → (Value.slice ak n ck).ownBlock ≠ some g) := hA
    have HN : Hid (T.syms.length = n) := hln
    clear hst hln hR hK hA hk0 hrel
    by_cases hlt : j < len
    · obtain ⟨b, off, rfl, q0, q1, q2, hs⟩ := HS.out.at ST.out.below hlt
      have n4 : (j : Int) < (len : Int) := by omega
      obtain ⟨kd, hkd⟩ : ∃ kd, kd = K j := ⟨_, rfl⟩
      obtain ⟨sd, hsd⟩ : ∃ sd, sd = S j := ⟨_, rfl⟩
      obtain ⟨md, hmd⟩ : ∃ md, md = M j := ⟨_, rfl⟩
      rw [← hkd] at q0
      rw [← hsd] at q1 hs
      rw [← hmd] at q2
      clear hkd hsd hmd
      have CN := count_any wr bs B k0 T ST.out.tab
      rw [HN.out] at CN
      replace CN := show Hid _ from CN
      have STa : Hid (Stand w (wr.alloc (.cells #[.int .i64 kd, .string sd, .int .i64 md] 30)) B k0 T bs) := ST.out.under (below_new _)
      have Ra : Hid (Mine w (wr.alloc (.cells #[.int .i64 kd, .string sd, .int .i64 md] 30)) bs 9 1 (.slice an n cn) n (nameVals T.syms)) := R.out.under (below_new _)
      have Qa : Hid (Mine w (wr.alloc (.cells #[.int .i64 kd, .string sd, .int .i64 md] 30)) bs 4 1 (.slice ak n ck) n (kindVals T.syms)) := Q.out.under (below_new _)
      have e4 : Hid (k0 + 2 = 4 + 2 * (j + 1)) := by show _ = _; rw [Hk0.out]; omega
      have box : Hid (∀ (bs' : List Nat) (w' : World), Goes bs (wr.alloc (.cells #[.int .i64 kd, .string sd, .int .i64 md] 30)) bs' w' → w'.cell? ⟨wr.heap.size, 0, none⟩ = some (.int .i64 kd) ∧ w'.cell? ⟨wr.heap.size, 1, none⟩ = some (.string sd)) := by
        intro bs' w' hG
        have hni : wr.heap.size ∉ bs := fun hm => by have := ST.out.tab.low _ hm; omega
        have hh := heap_alloc_new wr (.cells #[.int .i64 kd, .string sd, .int .i64 md] 30)
        have h2 := hG.turned.block wr.heap.size (by simp) hni
        simp only [World.cell?]
        rw [h2, hh]
        exact ⟨rfl, rfl⟩
      by_cases hk3 : kd = 3
      · subst hk3
        have CO : Hid _ := const_any _ bs B k0 T sd STa.out.ok (by omega) hs STa.out.kbr STa.out.tab
        go_wp2_with fail
        refine Calls.mono CN.out ?_
        rintro e wz ⟨rfl, hwz⟩
        subst wz
        go_wp2_with fail
        refine Calls.mono CO.out ?_
        rintro e w3 ⟨he, hn3⟩
        obtain ⟨bs3, hs3, hG3⟩ := STa.out.consts hn3
        have R3 : Hid (Mine w w3 bs3 9 1 (.slice an n cn) n (nameVals T.syms)) := Ra.out.goes hG3
        have Q3 : Hid (Mine w w3 bs3 4 1 (.slice ak n ck) n (kindVals T.syms)) := Qa.out.goes hG3
        obtain ⟨a0', a1'⟩ := box.out bs3 w3 hG3
        subst he
        clear hn3 hG3 CO CN
        rcases const_cases T sd with ⟨er, her, hc⟩ | ⟨hsc, hmade, hno, hlen5, hc⟩
        · rw [hc] at hs3 ⊢
          have ST3 : Hid (Stand w w3 B (k0 + 2) T bs3) := hs3
          have her' : ¬ (er : Int) = 0 := by omega
          have CN3 := count_any w3 bs3 B (k0 + 2) T ST3.out.tab
          rw [HN.out] at CN3
          replace CN3 := show Hid _ from CN3
          clear hs3 hc a0' a1'
          go_wp2_with fail
          refine Calls.mono CN3.out ?_
          rintro e wz2 ⟨rfl, hwz⟩
          subst wz2
          go_wp2_with fail
          refine Calls.mono CN3.out ?_
          rintro e wz3 ⟨rfl, hwz⟩
          subst wz3
          go_wp2
          go_roundw
          case rel => exact ⟨j + 1, n, _, _, _, _, by omega, hn, by go_num, rfl, rfl, T, bs3, by rw [← e4.out]; exact ST3.out, HN.out, R3.out, Q3.out, AP.out⟩
          case measure => simp [intOf]; omega
        · rw [hc] at hs3 ⊢
          clear hsc hmade
          have HN5 : n < 512 := by rw [← HN.out]; exact hlen5
          obtain ⟨T5, hT5⟩ : ∃ T5, T5 = actT (addT T sd false) T.syms.length := ⟨_, rfl⟩
          rw [← hT5] at hs3
          have hsy : Hid (T5.syms = T.syms ++ [(sd, false)]) := by show _ = _; rw [hT5]; rfl
          have hln5 : Hid (T5.syms.length = n + 1) := by show _ = _; rw [hsy.out, List.length_append, HN.out]; rfl
          have hnv : Hid (nameVals T5.syms = nameVals T.syms ++ [.string sd]) := by show _ = _; rw [hsy.out]; unfold nameVals; rw [List.map_append]; rfl
          have hkv : Hid (kindVals T5.syms = kindVals T.syms ++ [.bool false]) := by show _ = _; rw [hsy.out]; unfold kindVals; rw [List.map_append]; rfl
          have ST3 : Hid (Stand w w3 B (k0 + 2) T5 bs3) := hs3
          have Hno : Hid (numOf T.syms sd = none) := hno
          rw [HN.out]
          have hblk : Hid (∀ g, (Value.slice an n cn).ownBlock = some g → g < wr.heap.size) := fun g e => own_low R.out.own g e
          have hblk2 : Hid (∀ g, (Value.slice ak n ck).ownBlock = some g → g < wr.heap.size) := fun g e => own_low Q.out.own g e
          have hws3 : wr.heap.size < w3.heap.size := World.block_lt_of_cell? _ _ a1'
          clear hs3 hc hno hT5 hlen5
          go_wp2_with fail
          go_loopw [16] (fun i wx => ∃ k m : Nat, k ≤ n ∧ i = .int .i64 k ∧ wx = w3.drewN m) (fun i _ => n - (intOf i).toNat)
          case atStart => exact ⟨0, 0, Nat.zero_le _, rfl, rfl⟩
          case round =>
            obtain ⟨k, m, hk, rfl, rfl⟩ := hrel
            by_cases hlt5 : k < n
            · obtain ⟨p, hp⟩ : ∃ p, T.syms[k]? = some p := ⟨T.syms[k]'(by rw [HN.out]; exact hlt5), List.getElem?_eq_getElem _⟩
              have n5 : (k : Int) < (n : Int) := by omega
              obtain ⟨g, cp, hv⟩ := own_form R3.out.own (by omega)
              cases hv
              have ck' : w3.cell? ⟨g, k, none⟩ = some (.string p.1) := own_cell R3.out.own k _ (by unfold nameVals; rw [List.getElem?_map, hp]; rfl)
              have hne := numOf_ne Hno.out hp
              generalize p.1 = pn at ck' hne
              clear hp
              go_wp2_with fail
              go_quiet (fail)
              go_wp2
              go_roundw
              case rel => exact ⟨k + 1, _, by omega, by go_num, rfl⟩
              case measure => simp [intOf]; omega
            · have n5 : ¬ (k : Int) < (n : Int) := by omega
              have ST4 : Hid (Stand w (w3.drewN m) B (k0 + 2) T5 bs3) := ST3.out.under (below_draw _ _)
              have R4 : Hid (Mine w (w3.drewN m) bs3 9 1 (.slice an n cn) n (nameVals T.syms)) := R3.out.under (below_draw _ _)
              have Q4 : Hid (Mine w (w3.drewN m) bs3 4 1 (.slice ak n ck) n (kindVals T.syms)) := Q3.out.under (below_draw _ _)
              have a04 : (w3.drewN m).cell? ⟨wr.heap.size, 0, none⟩ = some (.int .i64 3) := a0'
              have a14 : (w3.drewN m).cell? ⟨wr.heap.size, 1, none⟩ = some (.string sd) := a1'
              have hws4 : wr.heap.size < (w3.drewN m).heap.size := hws3
              clear ST3 R3 Q3 a0' a1' hws3
              generalize w3.drewN m = w4 at *
              have Rb : Hid (Mine w (w4.alloc (.cells #[.string sd] 9)) bs3 9 1 (.slice an n cn) n (nameVals T.syms)) := R4.out.under (below_new _)
              have Qb : Hid (Mine w (w4.alloc (.cells #[.string sd] 9)) bs3 4 1 (.slice ak n ck) n (kindVals T.syms)) := Q4.out.under (below_new _)
              have STb : Hid (Stand w (w4.alloc (.cells #[.string sd] 9)) B (k0 + 2) T5 bs3) := ST4.out.under (below_new _)
              have fst : Hid (∀ (g2 cap2 : Nat) (w5 : World), w5.ownsRow w.heap.size 9 1 (.slice (some ⟨g2, 0, none⟩) (n + 1) cap2) (n + 1) (nameVals T.syms ++ [.string sd]) → (w4.alloc (.cells #[.string sd] 9)).grownBy w5 (Value.slice an n cn).ownBlock → ((Value.slice an n cn).ownBlock = some g2 ∨ g2 = w4.heap.size + 1) →
                  Stand w (w5.alloc (.cells #[.bool false] 4)) B (k0 + 2) T5 bs3 ∧ Mine w (w5.alloc (.cells #[.bool false] 4)) bs3 9 1 (.slice (some ⟨g2, 0, none⟩) (n + 1) cap2) (n + 1) (nameVals T5.syms) ∧ Mine w (w5.alloc (.cells #[.bool false] 4)) bs3 4 1 (.slice ak n ck) n (kindVals T.syms) ∧ w5.cell? ⟨wr.heap.size, 0, none⟩ = some (.int .i64 3) ∧ (∀ g, (Value.slice ak n ck).ownBlock = some g → g ≠ g2) ∧ g2 < w5.heap.size) := by
                intro g2 cap2 w5 hown5 hgrow hat
                have s5 : Stand w w5 B (k0 + 2) T5 bs3 := STb.out.grown Rb.out hgrow
                have r5 : Mine w w5 bs3 9 1 (.slice (some ⟨g2, 0, none⟩) (n + 1) cap2) (n + 1) (nameVals T.syms ++ [.string sd]) := Mine.grown STb.out Rb.out hown5 hat (by simp)
                have t5 : Mine w w5 bs3 4 1 (.slice ak n ck) n (kindVals T.syms) := Qb.out.beside hgrow (fun g e e' => AP.out g e' e)
                refine ⟨s5.under (below_new _), by rw [hnv.out]; exact r5.under (below_new _), t5.under (below_new _), ?_, fun g e => ?_, own_low r5.own g2 rfl⟩
                · have h1 := hgrow.block wr.heap.size (by simp; omega) (fun e => by have := hblk.out _ e.symm; omega)
                  rw [World.cell?_of_block (w := w4) (a := ⟨wr.heap.size, 0, none⟩) (h1.trans (Below.heap_alloc w4 _ _ hws4)), a04]
                · have := hblk2.out g e
                  rcases hat with h1 | h1
                  · exact fun e' => AP.out g (e' ▸ h1) e
                  · omega
              go_wp2_with (first
                | (at_builtin; refine wpList_append_lies _ rfl _ _ _ rfl w.heap.size 9 i9 _ 1 16 Tryd.underlying26 hi9 hz9 hs9 hb9 rfl (by omega) _ n (nameVals T.syms) (by rfl) (by exact Rb.out.own) ⟨w4.heap.size, 0, none⟩ 1 1 [.string sd] (by rfl) (by rfl) (World.news_of_block (cs := #[.string sd]) (t := 9) (fr := (0, 0)) (heap_alloc_new w4 _)) (by simp [Value.oneCell']) (by omega) (by unfold maxLen; omega) (by omega) (by exact STb.out.below.size) (w4.heap.size + 1) (by simp) ?_; intro g2 cap2 w5 hown5 hgrow hat hlt2; obtain ⟨s5, r5, t5, a05, ap5, g2lt⟩ := fst.out g2 cap2 w5 hown5 hgrow hat; have S5 : Hid (Stand w (w5.alloc (.cells #[.bool false] 4)) B (k0 + 2) T5 bs3) := s5; have R5 : Hid (Mine w (w5.alloc (.cells #[.bool false] 4)) bs3 9 1 (.slice (some ⟨g2, 0, none⟩) (n + 1) cap2) (n + 1) (nameVals T5.syms)) := r5; have Q5 : Hid (Mine w (w5.alloc (.cells #[.bool false] 4)) bs3 4 1 (.slice ak n ck) n (kindVals T.syms)) := t5; have AP5 : Hid (∀ g, (Value.slice ak n ck).ownBlock = some g → g ≠ g2) := ap5; clear s5 r5 t5 ap5 hown5 hgrow hat)
                | (at_builtin; refine wpList_append_lies _ rfl _ _ _ rfl w.heap.size 4 i4 _ 1 1 Tryd.underlying27 hi4 hz4 hs4 hb4 rfl (by omega) _ n (kindVals T.syms) (by rfl) (by exact Q5.out.own) ⟨w5.heap.size, 0, none⟩ 1 1 [.bool false] (by rfl) (by rfl) (World.news_of_block (cs := #[.bool false]) (t := 4) (fr := (0, 0)) (heap_alloc_new w5 _)) (by simp [Value.oneCell']) (by omega) (by unfold maxLen; omega) (by omega) (by exact S5.out.below.size) (w5.heap.size + 1) (by simp) ?_; intro g3 cap3 w6 hown6 hgrow hat hlt3; have S6 : Hid (Stand w w6 B (k0 + 2) T5 bs3) := S5.out.grown Q5.out hgrow; have Q6 : Hid (Mine w w6 bs3 4 1 (.slice (some ⟨g3, 0, none⟩) (n + 1) cap3) (n + 1) (kindVals T.syms ++ [.bool false])) := Mine.grown S5.out Q5.out hown6 hat (by simp); have R6 : Hid (Mine w w6 bs3 9 1 (.slice (some ⟨g2, 0, none⟩) (n + 1) cap2) (n + 1) (nameVals T5.syms)) := R5.out.beside hgrow (fun g e e' => by cases e; exact AP5.out _ e' rfl); have AP6 : Hid (g2 ≠ g3) := (fun e => by rcases hat with h1 | h1; exact AP5.out _ (e ▸ h1) rfl; omega); clear hown6 hgrow hat))
              have CN6 := count_any w6 bs3 B (k0 + 2) T5 S6.out.tab
              rw [hln5.out] at CN6
              replace CN6 := show Hid _ from CN6
              go_wp2_with fail
              refine Calls.mono CN6.out ?_
              rintro e wz6 ⟨rfl, hwz⟩
              subst wz6
              go_wp2
              go_roundw
              case rel => exact ⟨j + 1, n + 1, _, _, _, _, by omega, by omega, by go_num, rfl, rfl, T5, bs3, by rw [← e4.out]; exact S6.out, hln5.out, R6.out, by rw [hkv.out]; exact Q6.out, fun g e e' => by cases e; exact AP6.out (Option.some.inj e').symm⟩
              case measure => simp [intOf]; omega
      by_cases hk4 : kd = 4
      · subst hk4
        have CO : Hid _ := var_any _ bs B k0 T sd STa.out.ok (by omega) hs STa.out.kbr STa.out.tab
        go_wp2_with fail
        refine Calls.mono CN.out ?_
        rintro e wz ⟨rfl, hwz⟩
        subst wz
        go_wp2_with fail
        refine Calls.mono CO.out ?_
        rintro e w3 ⟨he, hn3⟩
        obtain ⟨bs3, hs3, hG3⟩ := STa.out.vars hn3
        have R3 : Hid (Mine w w3 bs3 9 1 (.slice an n cn) n (nameVals T.syms)) := Ra.out.goes hG3
        have Q3 : Hid (Mine w w3 bs3 4 1 (.slice ak n ck) n (kindVals T.syms)) := Qa.out.goes hG3
        obtain ⟨a0', a1'⟩ := box.out bs3 w3 hG3
        subst he
        clear hn3 hG3 CO CN
        rcases var_cases T sd with ⟨er, her, hc⟩ | ⟨hmade, hno, hlen5, hc⟩ | ⟨m, vb, hm, hnact, hc⟩
        · rw [hc] at hs3 ⊢
          have ST3 : Hid (Stand w w3 B (k0 + 2) T bs3) := hs3
          have her' : ¬ (er : Int) = 0 := by omega
          have CN3 := count_any w3 bs3 B (k0 + 2) T ST3.out.tab
          rw [HN.out] at CN3
          replace CN3 := show Hid _ from CN3
          clear hs3 hc a0' a1'
          go_wp2_with fail
          refine Calls.mono CN3.out ?_
          rintro e wz2 ⟨rfl, hwz⟩
          subst wz2
          go_wp2_with fail
          refine Calls.mono CN3.out ?_
          rintro e wz3 ⟨rfl, hwz⟩
          subst wz3
          go_wp2
          go_roundw
          case rel => exact ⟨j + 1, n, _, _, _, _, by omega, hn, by go_num, rfl, rfl, T, bs3, by rw [← e4.out]; exact ST3.out, HN.out, R3.out, Q3.out, AP.out⟩
          case measure => simp [intOf]; omega
        · rw [hc] at hs3 ⊢
          clear hmade
          have HN5 : n < 512 := by rw [← HN.out]; exact hlen5
          obtain ⟨T5, hT5⟩ : ∃ T5, T5 = actT (addT T sd true) T.syms.length := ⟨_, rfl⟩
          rw [← hT5] at hs3
          have hsy : Hid (T5.syms = T.syms ++ [(sd, true)]) := by show _ = _; rw [hT5]; rfl
          have hln5 : Hid (T5.syms.length = n + 1) := by show _ = _; rw [hsy.out, List.length_append, HN.out]; rfl
          have hnv : Hid (nameVals T5.syms = nameVals T.syms ++ [.string sd]) := by show _ = _; rw [hsy.out]; unfold nameVals; rw [List.map_append]; rfl
          have hkv : Hid (kindVals T5.syms = kindVals T.syms ++ [.bool true]) := by show _ = _; rw [hsy.out]; unfold kindVals; rw [List.map_append]; rfl
          have ST3 : Hid (Stand w w3 B (k0 + 2) T5 bs3) := hs3
          have Hno : Hid (numOf T.syms sd = none) := hno
          rw [HN.out]
          have hblk : Hid (∀ g, (Value.slice an n cn).ownBlock = some g → g < wr.heap.size) := fun g e => own_low R.out.own g e
          have hblk2 : Hid (∀ g, (Value.slice ak n ck).ownBlock = some g → g < wr.heap.size) := fun g e => own_low Q.out.own g e
          have hws3 : wr.heap.size < w3.heap.size := World.block_lt_of_cell? _ _ a1'
          clear hs3 hc hno hT5 hlen5
          go_wp2_with fail
          go_loopw [16] (fun i wx => ∃ k m : Nat, k ≤ n ∧ i = .int .i64 k ∧ wx = w3.drewN m) (fun i _ => n - (intOf i).toNat)
          case atStart => exact ⟨0, 0, Nat.zero_le _, rfl, rfl⟩
          case round =>
            obtain ⟨k, m, hk, rfl, rfl⟩ := hrel
            by_cases hlt5 : k < n
            · obtain ⟨p, hp⟩ : ∃ p, T.syms[k]? = some p := ⟨T.syms[k]'(by rw [HN.out]; exact hlt5), List.getElem?_eq_getElem _⟩
              have n5 : (k : Int) < (n : Int) := by omega
              obtain ⟨g, cp, hv⟩ := own_form R3.out.own (by omega)
              cases hv
              have ck' : w3.cell? ⟨g, k, none⟩ = some (.string p.1) := own_cell R3.out.own k _ (by unfold nameVals; rw [List.getElem?_map, hp]; rfl)
              have hne := numOf_ne Hno.out hp
              generalize p.1 = pn at ck' hne
              clear hp
              go_wp2_with fail
              go_quiet (fail)
              go_wp2
              go_roundw
              case rel => exact ⟨k + 1, _, by omega, by go_num, rfl⟩
              case measure => simp [intOf]; omega
            · have n5 : ¬ (k : Int) < (n : Int) := by omega
              have ST4 : Hid (Stand w (w3.drewN m) B (k0 + 2) T5 bs3) := ST3.out.under (below_draw _ _)
              have R4 : Hid (Mine w (w3.drewN m) bs3 9 1 (.slice an n cn) n (nameVals T.syms)) := R3.out.under (below_draw _ _)
              have Q4 : Hid (Mine w (w3.drewN m) bs3 4 1 (.slice ak n ck) n (kindVals T.syms)) := Q3.out.under (below_draw _ _)
              have a04 : (w3.drewN m).cell? ⟨wr.heap.size, 0, none⟩ = some (.int .i64 4) := a0'
              have a14 : (w3.drewN m).cell? ⟨wr.heap.size, 1, none⟩ = some (.string sd) := a1'
              have hws4 : wr.heap.size < (w3.drewN m).heap.size := hws3
              clear ST3 R3 Q3 a0' a1' hws3
              generalize w3.drewN m = w4 at *
              have Rb : Hid (Mine w (w4.alloc (.cells #[.string sd] 9)) bs3 9 1 (.slice an n cn) n (nameVals T.syms)) := R4.out.under (below_new _)
              have Qb : Hid (Mine w (w4.alloc (.cells #[.string sd] 9)) bs3 4 1 (.slice ak n ck) n (kindVals T.syms)) := Q4.out.under (below_new _)
              have STb : Hid (Stand w (w4.alloc (.cells #[.string sd] 9)) B (k0 + 2) T5 bs3) := ST4.out.under (below_new _)
              have fst : Hid (∀ (g2 cap2 : Nat) (w5 : World), w5.ownsRow w.heap.size 9 1 (.slice (some ⟨g2, 0, none⟩) (n + 1) cap2) (n + 1) (nameVals T.syms ++ [.string sd]) → (w4.alloc (.cells #[.string sd] 9)).grownBy w5 (Value.slice an n cn).ownBlock → ((Value.slice an n cn).ownBlock = some g2 ∨ g2 = w4.heap.size + 1) →
                  Stand w (w5.alloc (.cells #[.bool true] 4)) B (k0 + 2) T5 bs3 ∧ Mine w (w5.alloc (.cells #[.bool true] 4)) bs3 9 1 (.slice (some ⟨g2, 0, none⟩) (n + 1) cap2) (n + 1) (nameVals T5.syms) ∧ Mine w (w5.alloc (.cells #[.bool true] 4)) bs3 4 1 (.slice ak n ck) n (kindVals T.syms) ∧ w5.cell? ⟨wr.heap.size, 0, none⟩ = some (.int .i64 4) ∧ (∀ g, (Value.slice ak n ck).ownBlock = some g → g ≠ g2) ∧ g2 < w5.heap.size) := by
                intro g2 cap2 w5 hown5 hgrow hat
                have s5 : Stand w w5 B (k0 + 2) T5 bs3 := STb.out.grown Rb.out hgrow
                have r5 : Mine w w5 bs3 9 1 (.slice (some ⟨g2, 0, none⟩) (n + 1) cap2) (n + 1) (nameVals T.syms ++ [.string sd]) := Mine.grown STb.out Rb.out hown5 hat (by simp)
                have t5 : Mine w w5 bs3 4 1 (.slice ak n ck) n (kindVals T.syms) := Qb.out.beside hgrow (fun g e e' => AP.out g e' e)
                refine ⟨s5.under (below_new _), by rw [hnv.out]; exact r5.under (below_new _), t5.under (below_new _), ?_, fun g e => ?_, own_low r5.own g2 rfl⟩
                · have h1 := hgrow.block wr.heap.size (by simp; omega) (fun e => by have := hblk.out _ e.symm; omega)
                  rw [World.cell?_of_block (w := w4) (a := ⟨wr.heap.size, 0, none⟩) (h1.trans (Below.heap_alloc w4 _ _ hws4)), a04]
                · have := hblk2.out g e
                  rcases hat with h1 | h1
                  · exact fun e' => AP.out g (e' ▸ h1) e
                  · omega
              go_wp2_with (first
                | (at_builtin; refine wpList_append_lies _ rfl _ _ _ rfl w.heap.size 9 i9 _ 1 16 Tryd.underlying26 hi9 hz9 hs9 hb9 rfl (by omega) _ n (nameVals T.syms) (by rfl) (by exact Rb.out.own) ⟨w4.heap.size, 0, none⟩ 1 1 [.string sd] (by rfl) (by rfl) (World.news_of_block (cs := #[.string sd]) (t := 9) (fr := (0, 0)) (heap_alloc_new w4 _)) (by simp [Value.oneCell']) (by omega) (by unfold maxLen; omega) (by omega) (by exact STb.out.below.size) (w4.heap.size + 1) (by simp) ?_; intro g2 cap2 w5 hown5 hgrow hat hlt2; obtain ⟨s5, r5, t5, a05, ap5, g2lt⟩ := fst.out g2 cap2 w5 hown5 hgrow hat; have S5 : Hid (Stand w (w5.alloc (.cells #[.bool true] 4)) B (k0 + 2) T5 bs3) := s5; have R5 : Hid (Mine w (w5.alloc (.cells #[.bool true] 4)) bs3 9 1 (.slice (some ⟨g2, 0, none⟩) (n + 1) cap2) (n + 1) (nameVals T5.syms)) := r5; have Q5 : Hid (Mine w (w5.alloc (.cells #[.bool true] 4)) bs3 4 1 (.slice ak n ck) n (kindVals T.syms)) := t5; have AP5 : Hid (∀ g, (Value.slice ak n ck).ownBlock = some g → g ≠ g2) := ap5; clear s5 r5 t5 ap5 hown5 hgrow hat)
                | (at_builtin; refine wpList_append_lies _ rfl _ _ _ rfl w.heap.size 4 i4 _ 1 1 Tryd.underlying27 hi4 hz4 hs4 hb4 rfl (by omega) _ n (kindVals T.syms) (by rfl) (by exact Q5.out.own) ⟨w5.heap.size, 0, none⟩ 1 1 [.bool true] (by rfl) (by rfl) (World.news_of_block (cs := #[.bool true]) (t := 4) (fr := (0, 0)) (heap_alloc_new w5 _)) (by simp [Value.oneCell']) (by omega) (by unfold maxLen; omega) (by omega) (by exact S5.out.below.size) (w5.heap.size + 1) (by simp) ?_; intro g3 cap3 w6 hown6 hgrow hat hlt3; have S6 : Hid (Stand w w6 B (k0 + 2) T5 bs3) := S5.out.grown Q5.out hgrow; have Q6 : Hid (Mine w w6 bs3 4 1 (.slice (some ⟨g3, 0, none⟩) (n + 1) cap3) (n + 1) (kindVals T.syms ++ [.bool true])) := Mine.grown S5.out Q5.out hown6 hat (by simp); have R6 : Hid (Mine w w6 bs3 9 1 (.slice (some ⟨g2, 0, none⟩) (n + 1) cap2) (n + 1) (nameVals T5.syms)) := R5.out.beside hgrow (fun g e e' => by cases e; exact AP5.out _ e' rfl); have AP6 : Hid (g2 ≠ g3) := (fun e => by rcases hat with h1 | h1; exact AP5.out _ (e ▸ h1) rfl; omega); clear hown6 hgrow hat))
              have CN6 := count_any w6 bs3 B (k0 + 2) T5 S6.out.tab
              rw [hln5.out] at CN6
              replace CN6 := show Hid _ from CN6
              go_wp2_with fail
              refine Calls.mono CN6.out ?_
              rintro e wz6 ⟨rfl, hwz⟩
              subst wz6
              go_wp2
              go_roundw
              case rel => exact ⟨j + 1, n + 1, _, _, _, _, by omega, by omega, by go_num, rfl, rfl, T5, bs3, by rw [← e4.out]; exact S6.out, hln5.out, R6.out, by rw [hkv.out]; exact Q6.out, fun g e e' => by cases e; exact AP6.out (Option.some.inj e').symm⟩
              case measure => simp [intOf]; omega
        · rw [hc] at hs3 ⊢
          have hvb : vb = true := by
            cases vb with
            | true => rfl
            | false => exact absurd (ST.out.good m _ hm rfl).1 hnact
          subst hvb
          have hmn : m < n := by rw [← HN.out]; exact (List.getElem?_eq_some_iff.1 hm).1
          have ST3 : Hid (Stand w w3 B (k0 + 2) (actT T m) bs3) := hs3
          have CN3 := count_any w3 bs3 B (k0 + 2) (actT T m) ST3.out.tab
          rw [show (actT T m).syms.length = n from HN.out] at CN3
          replace CN3 := show Hid _ from CN3
          obtain ⟨gn, cpn, hv⟩ := own_form R3.out.own (by omega)
          cases hv
          obtain ⟨gk, cpk, hv⟩ := own_form Q3.out.own (by omega)
          cases hv
          have cm : w3.cell? ⟨gn, m, none⟩ = some (.string sd) := own_cell R3.out.own m _ (by unfold nameVals; rw [List.getElem?_map, hm]; rfl)
          have km : w3.cell? ⟨gk, m, none⟩ = some (.bool true) := own_cell Q3.out.own m _ (by unfold kindVals; rw [List.getElem?_map, hm]; rfl)
          have hbn := bne_self sd
          have m1 : ¬ (m : Int) = (n : Int) := by omega
          have m2 : decide ((m : Int) < 0) = false := by rw [decide_eq_false_iff_not]; omega
          have m3 : decide ((n : Int) < (m : Int)) = false := by rw [decide_eq_false_iff_not]; omega
          have m4 : (n < m) = False := by simp; omega
          have m5 : (m : Int) < (n : Int) := by omega
          clear hc hs3 hm hnact
          go_wp2_with fail
          go_quiet (fail)
          have ST4 : Hid (Stand w (w3.drewN nq) B (k0 + 2) (actT T m) bs3) := ST3.out.under (below_draw _ _)
          have R4 : Hid (Mine w (w3.drewN nq) bs3 9 1 (.slice (some ⟨gn, 0, none⟩) n cn) n (nameVals T.syms)) := R3.out.under (below_draw _ _)
          have Q4 : Hid (Mine w (w3.drewN nq) bs3 4 1 (.slice (some ⟨gk, 0, none⟩) n ck) n (kindVals T.syms)) := Q3.out.under (below_draw _ _)
          have CN4 := count_any (w3.drewN nq) bs3 B (k0 + 2) (actT T m) ST4.out.tab
          rw [show (actT T m).syms.length = n from HN.out] at CN4
          replace CN4 := show Hid _ from CN4
          go_wp2_with fail
          refine Calls.mono CN4.out ?_
          rintro e wz3 ⟨rfl, hwz⟩
          subst wz3
          go_wp2
          go_roundw
          case rel => exact ⟨j + 1, n, _, _, _, _, by omega, hn, by go_num, rfl, rfl, actT T m, bs3, by rw [← e4.out]; exact ST4.out, HN.out, R4.out, Q4.out, AP.out⟩
          case measure => simp [intOf]; omega
      · have D : Hid _ := does_any _ bs B k0 T kd sd md STa.out.ok (by omega) hs STa.out.kbr STa.out.tab
        have hsy : Hid ((doT T kd sd).syms = T.syms) := syms_do kd sd hk3 hk4
        have k3b : (kd == 3) = false := by simpa using hk3
        have k4b : (kd == 4) = false := by simpa using hk4
        go_wp2_with fail
        refine Calls.mono CN.out ?_
        rintro e wz ⟨rfl, hwz⟩
        subst wz
        go_wp2_with fail
        refine Calls.mono D.out ?_
        rintro e w5 ⟨rfl, hn5⟩
        obtain ⟨bs5, hs5, hG5⟩ := STa.out.doing hn5
        have ST5 : Hid (Stand w w5 B (k0 + 2) (doT T kd sd) bs5) := hs5
        have R5 : Hid (Mine w w5 bs5 9 1 (.slice an n cn) n (nameVals T.syms)) := Ra.out.goes hG5
        have Q5 : Hid (Mine w w5 bs5 4 1 (.slice ak n ck) n (kindVals T.syms)) := Qa.out.goes hG5
        have CN5 := count_any w5 bs5 B (k0 + 2) (doT T kd sd) ST5.out.tab
        rw [hsy.out, HN.out] at CN5
        replace CN5 := show Hid _ from CN5
        clear hn5 hs5 hG5 D CN
        go_wp2_with fail
        refine Calls.mono CN5.out ?_
        rintro e wz2 ⟨rfl, hwz⟩
        subst wz2
        go_wp2
        go_roundw
        case rel => exact ⟨j + 1, n, _, _, _, _, by omega, hn, by go_num, rfl, rfl, _, bs5, by rw [← e4.out]; exact ST5.out, by rw [hsy.out]; exact HN.out, by rw [hsy.out]; exact R5.out, by rw [hsy.out]; exact Q5.out, AP.out⟩
        case measure => simp [intOf]; omega
    · have n4 : ¬ (j : Int) < (len : Int) := by omega
      have hL46 : T.syms.length ≤ 4611686018427387904 := by rw [HN.out]; omega
      go_wp2_with fail
      go_loopw [17] (fun i wx => ∃ k : Nat, k ≤ n ∧ i = .int .i64 k ∧ Hid (Stand w wx B k0 T bs ∧ Mine w wx bs 9 1 (.slice an n cn) n (nameVals T.syms) ∧ Mine w wx bs 4 1 (.slice ak n ck) n (kindVals T.syms))) (fun i _ => n - (intOf i).toNat)
      case atStart => exact ⟨0, Nat.zero_le _, rfl, ST.out, R.out, Q.out⟩
      case round =>
        clear ST R Q
        obtain ⟨k, hk, rfl, hrel⟩ := hrel
        have ST : Hid (Stand w wr B k0 T bs) := hrel.out.1
        have R : Hid (Mine w wr bs 9 1 (.slice an n cn) n (nameVals T.syms)) := hrel.out.2.1
        have Q : Hid (Mine w wr bs 4 1 (.slice ak n ck) n (kindVals T.syms)) := hrel.out.2.2
        clear hrel
        by_cases hlt5 : k < n
        · obtain ⟨p, hp⟩ : ∃ p, T.syms[k]? = some p := ⟨T.syms[k]'(by rw [HN.out]; exact hlt5), List.getElem?_eq_getElem _⟩
          have n5 : (k : Int) < (n : Int) := by omega
          obtain ⟨gn, cpn, hv⟩ := own_form R.out.own (by omega)
          cases hv
          obtain ⟨gk, cpk, hv⟩ := own_form Q.out.own (by omega)
          cases hv
          have cm : wr.cell? ⟨gn, k, none⟩ = some (.string p.1) := own_cell R.out.own k _ (by unfold nameVals; rw [List.getElem?_map, hp]; rfl)
          have km : wr.cell? ⟨gk, k, none⟩ = some (.bool p.2) := own_cell Q.out.own k _ (by unfold kindVals; rw [List.getElem?_map, hp]; rfl)
          have NM := fun (wx : World) (h : TabAt wx bs B k0 T) => name_of wx bs B k0 T k hL46 h
          have IV := fun (wx : World) (h : TabAt wx bs B k0 T) => isVar_of wx bs B k0 T k hL46 h
          rw [show nameOf (symAt T (k : Int)) = p.1 by rw [sym_at hp]; rfl] at NM
          rw [show varOf (symAt T (k : Int)) = p.2 by rw [sym_at hp]; rfl] at IV
          have hgn : gn < wr.heap.size := own_low R.out.own gn rfl
          have hgk : gk < wr.heap.size := own_low Q.out.own gk rfl
          obtain ⟨pn, pv⟩ := p
          dsimp only at NM IV cm km
          have hbn := bne_self pn
          replace NM := show Hid _ from NM
          replace IV := show Hid _ from IV
          clear hp HS HK hi9 hz9 hs9 hb9 hi4 hz4 hs4 hb4 AP Hk0 hL46 hkb hlen n4
          have NMs : ∀ wx : World, Hid (Below wr.heap.size wr wx) → Calls Tryd.prog 14 #[.pointer (some ⟨B, 0, none⟩), .int .i64 k] wx fun e w' => e = .returned (.string pn) ∧ w'.cell? ⟨gn, k, none⟩ = some (.string pn) ∧ w'.cell? ⟨gk, k, none⟩ = some (.bool pv) ∧ Hid (Below wr.heap.size wr w') := fun wx hx =>
            (NM.out wx (ST.out.under hx.out).tab).mono fun e w' ⟨he, hb⟩ => by
              have hb' : Below wr.heap.size wr w' := hx.out.trans (hb.mono hx.out.size)
              exact ⟨he, (hb'.cell (p := ⟨gn, k, none⟩) hgn).trans cm, (hb'.cell (p := ⟨gk, k, none⟩) hgk).trans km, hb'⟩
          have IVs : ∀ wx : World, Hid (Below wr.heap.size wr wx) → Calls Tryd.prog 15 #[.pointer (some ⟨B, 0, none⟩), .int .i64 k] wx fun e w' => e = .returned (.bool pv) ∧ w'.cell? ⟨gn, k, none⟩ = some (.string pn) ∧ w'.cell? ⟨gk, k, none⟩ = some (.bool pv) ∧ Hid (Below wr.heap.size wr w') := fun wx hx =>
            (IV.out wx (ST.out.under hx.out).tab).mono fun e w' ⟨he, hb⟩ => by
              have hb' : Below wr.heap.size wr w' := hx.out.trans (hb.mono hx.out.size)
              exact ⟨he, (hb'.cell (p := ⟨gn, k, none⟩) hgn).trans cm, (hb'.cell (p := ⟨gk, k, none⟩) hgk).trans km, hb'⟩
          replace NMs := show Hid _ from NMs
          replace IVs := show Hid _ from IVs
          have HbD : Hid (Below wr.heap.size wr wr.drew) := ⟨rfl, rfl, rfl, Nat.le_refl _, fun _ _ => rfl⟩
          clear NM IV
          cases pv with
          | false =>
            go_wp2_with fail
            go_region_held3 (fun w' => w'.cell? ⟨gn, k, none⟩ = some (.string pn) ∧ w'.cell? ⟨gk, k, none⟩ = some (.bool false) ∧ Hid (Below wr.heap.size wr w')) (refine ⟨?_, ?_, ?_⟩ <;> first | assumption | exact cm | exact km)
              (first
                | (go_at_call 14; refine (NMs.out _ ?_).mono ?_; (first | assumption | exact (by assumption : _ ∧ _ ∧ Hid (Below wr.heap.size wr _)).2.2); rintro e w6 ⟨rfl, d1, d2, d3⟩)
                | (go_at_call 15; refine (IVs.out _ ?_).mono ?_; (first | assumption | exact (by assumption : _ ∧ _ ∧ Hid (Below wr.heap.size wr _)).2.2); rintro e w7 ⟨rfl, f1, f2, f3⟩))
            all_goals go_wp2
            all_goals go_roundw
            case rel => exact ⟨k + 1, by omega, by go_num, ST.out.under f3.out, R.out.under f3.out, Q.out.under f3.out⟩
            case measure => simp [intOf]; omega
          | true =>
            go_wp2_with fail
            go_region_held3 (fun w' => w'.cell? ⟨gn, k, none⟩ = some (.string pn) ∧ w'.cell? ⟨gk, k, none⟩ = some (.bool true) ∧ Hid (Below wr.heap.size wr w')) (refine ⟨?_, ?_, ?_⟩ <;> first | assumption | exact cm | exact km)
              (first
                | (go_at_call 14; refine (NMs.out _ ?_).mono ?_; (first | assumption | exact (by assumption : _ ∧ _ ∧ Hid (Below wr.heap.size wr _)).2.2); rintro e w6 ⟨rfl, d1, d2, d3⟩)
                | (go_at_call 15; refine (IVs.out _ ?_).mono ?_; (first | assumption | exact (by assumption : _ ∧ _ ∧ Hid (Below wr.heap.size wr _)).2.2); rintro e w7 ⟨rfl, f1, f2, f3⟩))
            all_goals go_wp2
            all_goals go_roundw
            case rel => exact ⟨k + 1, by omega, by go_num, ST.out.under f3.out, R.out.under f3.out, Q.out.under f3.out⟩
            case measure => simp [intOf]; omega
        · have n5 : ¬ (k : Int) < (n : Int) := by omega
          have s1 : symAt T (-1) = none := by unfold symAt; rw [if_neg (by omega)]
          have s2 : symAt T (n : Int) = none := sym_none (by rw [HN.out]; exact Nat.le_refl _)
          have N1 := fun (wx : World) (h : TabAt wx bs B k0 T) => name_of wx bs B k0 T (-1) hL46 h
          have N2 := fun (wx : World) (h : TabAt wx bs B k0 T) => name_of wx bs B k0 T n hL46 h
          have V1 := fun (wx : World) (h : TabAt wx bs B k0 T) => isVar_of wx bs B k0 T (-1) hL46 h
          have V2 := fun (wx : World) (h : TabAt wx bs B k0 T) => isVar_of wx bs B k0 T n hL46 h
          have A1 := fun (wx : World) (h : TabAt wx bs B k0 T) => active_of wx bs B k0 T (-1) hL46 ST.out.ok.sizes h
          have A2 := fun (wx : World) (h : TabAt wx bs B k0 T) => active_of wx bs B k0 T n hL46 ST.out.ok.sizes h
          have x1 : activeOf T (-1) = false := by unfold activeOf; rw [s1]
          have x2 : activeOf T (n : Int) = false := by unfold activeOf; rw [s2]
          have y1 : nameOf (none : Option (ByteArray × Bool)) = ⟨#[]⟩ := rfl
          have y2 : varOf (none : Option (ByteArray × Bool)) = false := rfl
          rw [s1, y1] at N1
          rw [s1, y2] at V1
          rw [s2, y1] at N2
          rw [s2, y2] at V2
          rw [x1] at A1
          rw [x2] at A2
          replace N1 := show Hid _ from N1
          replace N2 := show Hid _ from N2
          replace V1 := show Hid _ from V1
          replace V2 := show Hid _ from V2
          replace A1 := show Hid _ from A1
          replace A2 := show Hid _ from A2
          clear s1 s2 x1 x2 y1 y2
          go_wp2_with fail
          refine Calls.mono (N1.out _ ST.out.tab) ?_
          rintro e w1 ⟨rfl, hb1⟩
          have S1 : Hid (Stand w w1 B k0 T bs) := ST.out.under hb1
          clear hb1
          go_wp2_with fail
          refine Calls.mono (N2.out _ S1.out.tab) ?_
          rintro e w2 ⟨rfl, hb1⟩
          have S2 : Hid (Stand w w2 B k0 T bs) := S1.out.under hb1
          clear hb1
          go_wp2_with fail
          refine Calls.mono (V1.out _ S2.out.tab) ?_
          rintro e w3 ⟨rfl, hb1⟩
          have S3 : Hid (Stand w w3 B k0 T bs) := S2.out.under hb1
          clear hb1
          go_wp2_with fail
          refine Calls.mono (V2.out _ S3.out.tab) ?_
          rintro e w4 ⟨rfl, hb1⟩
          have S4 : Hid (Stand w w4 B k0 T bs) := S3.out.under hb1
          clear hb1
          go_wp2_with fail
          refine Calls.mono (A1.out _ S4.out.tab) ?_
          rintro e w5 ⟨rfl, hb1⟩
          have S5 : Hid (Stand w w5 B k0 T bs) := S4.out.under hb1
          clear hb1
          go_wp2_with fail
          refine Calls.mono (A2.out _ S5.out.tab) ?_
          rintro e w6 ⟨rfl, hb1⟩
          have S6 : Hid (Stand w w6 B k0 T bs) := S5.out.under hb1
          clear hb1
          go_wp2
          go_ret
          exact ⟨rfl, S6.out.below⟩
end Go.Proofs.YtdnkgjjboonmnaaDoor
