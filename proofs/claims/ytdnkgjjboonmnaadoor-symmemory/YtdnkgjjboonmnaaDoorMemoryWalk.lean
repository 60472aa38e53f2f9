/- The walk of SymMemory. -/
import Derived.Test.YtdnkgjjboonmnaaDoorSymOn
import Derived.Deep.RegionHeld3
namespace Go.Proofs.YtdnkgjjboonmnaaDoor
open Go.RowKit

def lF : ByteArray := ⟨#[102, 105, 114, 115, 116]⟩
def lS : ByteArray := ⟨#[115, 101, 99, 111, 110, 100]⟩
def tabF : Tab := labT tab2 lF
def tabS : Tab := labT tabF lS
theorem label_F : labelR tab2 lF = (0, tabF) := by kernel_rfl
theorem label_S : labelR tabF lS = (0, tabS) := by kernel_rfl
theorem info26 : (Tryd.prog.info? 26).map (fun i => (i.zero, i.size, i.bytes)) = some (some (.slice none 0 0), 1, 24) := by kernel_rfl
theorem info9s : (Tryd.prog.info? 9).map (fun i => (i.zero, i.size, i.bytes)) = some (some (.string ⟨#[]⟩), 1, 16) := by kernel_rfl

theorem labels_do (T : Tab) (kind : Int) (s : ByteArray) : ∃ l, (doT T kind s).labels = T.labels ++ l := by
  unfold doT
  split
  · exact ⟨[], by unfold openR; split <;> simp⟩
  · split
    · exact ⟨[], by rw [List.append_nil]; unfold closeR; split <;> rfl⟩
    · split
      · refine ⟨[], ?_⟩
        rw [List.append_nil]
        rcases const_cases T s with ⟨e, _, h⟩ | ⟨_, _, _, _, h⟩ <;> rw [h] <;> rfl
      · split
        · refine ⟨[], ?_⟩
          rw [List.append_nil]
          rcases var_cases T s with ⟨e, _, h⟩ | ⟨_, _, _, h⟩ | ⟨n, b, _, _, h⟩ <;> rw [h] <;> rfl
        · split
          · exact mark_labels T s
          · exact ⟨[], by simp⟩
theorem rep_two (n : Nat) (x : Value) : List.replicate (n + 2) x = List.replicate n x ++ [x, x] := by rw [show [x, x] = List.replicate 2 x from rfl, List.replicate_append_replicate]
theorem size_alloc (w : World) (o : Obj) : (w.alloc o).heap.size = w.heap.size + 1 := by simp

set_option maxRecDepth 100000 in
set_option maxHeartbeats 32000000 in
theorem memory_walk (w : World) (a0 : Option Addr) (len cap : Nat) (K : Nat → Int) (S : Nat → ByteArray) (M : Nat → Int) (hlen : len ≤ 4398046510976) (hscr : ScriptIs w a0 len K S M) (hKB : KB w) :
    Calls Tryd.prog 7 #[.slice a0 len cap] w fun e w' => e = .returned (.bool true) ∧ Below w.heap.size w w' := by
  have BG : Hid _ := begun_any w hKB
  have HK : Hid (KB w) := hKB
  have HS : Hid (ScriptIs w a0 len K S M) := hscr
  obtain ⟨i9, hi9, hz90, hz91, hz93⟩ := info_parts info9s
  obtain ⟨i26, hi26, hz260, hz261, hz263⟩ := info_parts info26
  clear hKB hscr
  go_enter Tryd.func7, Tryd.ntmps7
  go_wp2_with fail
  refine Calls.mono BG.out ?_
  rintro e w1 ⟨B, rfl, hb1, bs1, ht1, hl1⟩
  have ST1 : Hid (Stand w w1 B 4 tab2 bs1) := Stand.start HK.out hb1 ht1 hl1
  have LB := label_any w1 bs1 B 4 tab2 lF (by omega) (by decide) ST1.out.kbr ST1.out.tab
  rw [label_F] at LB
  replace LB := show Hid _ from LB
  clear BG hb1 ht1 hl1
  go_wp2_with fail
  refine Calls.mono LB.out ?_
  rintro e w2 ⟨rfl, hn2⟩
  have hcs := ST1.out.labels (s := lF) (by rw [label_F]; exact hn2)
  rw [label_F] at hcs
  obtain ⟨bs2, hs2, _⟩ := hcs
  have ST2 : Hid (Stand w w2 B 6 tabF bs2) := hs2
  have LC := label_any w2 bs2 B 6 tabF lS (by omega) (by decide) ST2.out.kbr ST2.out.tab
  rw [label_S] at LC
  replace LC := show Hid _ from LC
  clear hs2 hn2 LB ST1
  go_wp2_with fail
  refine Calls.mono LC.out ?_
  rintro e w3 ⟨rfl, hn3⟩
  have hcs := ST2.out.labels (s := lS) (by rw [label_S]; exact hn3)
  rw [label_S] at hcs
  obtain ⟨bs3, hs3, _⟩ := hcs
  have ST3 : Hid (Stand w w3 B 8 tabS bs3) := hs3
  clear hs3 hn3 LC ST2
  go_wp2_with fail
  go_loopw [5, 6, 7, 8, 9, 10, 11, 12, 13] (fun v5 v6 i _ _ _ _ _ _ wx => ∃ (j c : Nat) (aL : Option Addr) (cL : Nat) (aM : Option Addr) (cM : Nat), j ≤ len ∧ c = min j 30 ∧ v5 = .slice aL c cL ∧ v6 = .slice aM c cM ∧ i = .int .i64 j ∧ Hid (∃ T bs sv rest, Stand w wx B (8 + 2 * j) T bs ∧ T.labels = lF :: lS :: rest ∧ sv.length = c ∧ Mine w wx bs 26 1 (.slice aL c cL) c (sv.map (·.1)) ∧ Mine w wx bs 26 1 (.slice aM c cM) c (sv.map (·.2.1)) ∧ (∀ g, (Value.slice aM c cM).ownBlock = some g → (Value.slice aL c cL).ownBlock ≠ some g) ∧ Each w wx bs sv)) (fun _ _ i _ _ _ _ _ _ _ => len - (intOf i).toNat)
  case atStart => exact ⟨0, 0, none, 0, none, 0, Nat.zero_le _, rfl, rfl, rfl, rfl, ⟨tabS, bs3, [], [], ST3.out, rfl, rfl, ⟨World.ownsRow_nil _ _ _ _, fun g e => (by cases e)⟩, ⟨World.ownsRow_nil _ _ _ _, fun g e => (by cases e)⟩, fun g e => (by cases e), ⟨fun k s hs => (by simp at hs), fun k s hs => (by simp at hs)⟩⟩⟩
  case round =>
    clear ST3
    obtain ⟨j, c, aL, cL, aM, cM, hj, hc, rfl, rfl, rfl, hrel⟩ := hrel
    obtain ⟨W0, hW0⟩ : ∃ W0, W0 = wr := ⟨_, rfl⟩
    subst hW0
    obtain ⟨T, bs, sv, rest, hst, hlab, hsv, hL, hM, hap, hE⟩ := hrel.out
    obtain ⟨k0, hk0⟩ : ∃ k0, k0 = 8 + 2 * j := ⟨_, rfl⟩
    rw [← hk0] at hst
    have Hk0 : Hid (k0 = 8 + 2 * j) := hk0
    have hkb : k0 ≤ 8796093021960 := by omega
    obtain ⟨n, hn⟩ : ∃ n, n = T.labels.length := ⟨_, rfl⟩
    have hn2 : 2 ≤ n := by rw [hn, hlab]; simp
    have hn3 : n ≤ 1024 := by rw [hn]; exact hst.ok.labels
    have HN : Hid (T.labels.length = n) := hn.symm
    have HLab : Hid (T.labels = lF :: lS :: rest) := hlab
    have Hsv : Hid (sv.length = c) := hsv
    have ST : Hid (Stand w W0 B k0 T bs) := hst
    have L : Hid (Mine w W0 bs 26 1 (.slice aL c cL) c (sv.map (·.1))) := hL
    have MM : Hid (Mine w W0 bs 26 1 (.slice aM c cM) c (sv.map (·.2.1))) := hM
    have AP : Hid (∀ g, (Value.slice aM c cM).ownBlock = some g → (Value.slice aL c cL).ownBlock ≠ some g) := hap
    have E : Hid (Each w W0 bs sv) := hE
    have Hc : Hid (c = min j 30) := hc
    have LL : Hid _ := labels_any W0 bs B k0 T (by rw [HN.out]; omega) ST.out.tab
    clear hst hlab hsv hL hM hap hE hk0 hrel hn hc
    by_cases hlt : j < len
    · have n4 : (j : Int) < (len : Int) := by omega
      go_wp2_with fail
      refine Calls.mono LL.out ?_
      rintro e w6 ⟨v6, rfl, hv6, hb6⟩
      rw [HN.out] at hv6
      obtain ⟨g, cp, rfl, hg0, hg1⟩ := hv6.form (by omega)
      have HL6 : Hid (w6.ownsRow W0.heap.size 9 1 (.slice (some ⟨g, 0, none⟩) n cp) n (T.labels.map Value.string)) := hv6
      have HB6 : Hid (Below W0.heap.size W0 w6) := hb6
      have hln : (T.labels.map Value.string).length = n := by rw [List.length_map, HN.out]
      clear hv6 hb6 LL
      go_wp2_with (at_builtin; refine wpList_append_lies w6 rfl _ _ _ rfl w6.heap.size 9 i9 _ 1 16 Tryd.underlying26 hi9 hz90 hz91 hz93 rfl (by omega) _ 0 [] (by rfl) (by exact World.ownsRow_nil _ _ _ _) ⟨g, 0, none⟩ n cp (T.labels.map Value.string) (by rfl) (by rw [hln, Nat.mul_one]) (by intro q u hu; rw [Addr.add_lit, Nat.zero_add]; exact row_cells HL6.out q u hu) (by simp [Value.oneCell']) (by omega) (by unfold maxLen; omega) (by omega) (Nat.le_refl _) w6.heap.size rfl ?_; intro g7 cap7 w7 hown7 hgrow7 hat7 hlt7; rw [Nat.zero_add, List.nil_append] at hown7; have HK7 : Hid (w7.ownsRow w6.heap.size 9 1 (.slice (some ⟨g7, 0, none⟩) n cap7) n (T.labels.map Value.string)) := hown7; have HB67 : Hid (Below w6.heap.size w6 w7) := grown_below hgrow7 (Nat.le_refl _) (fun _ e => by cases e); clear hown7 hgrow7 hat7 hlt7)
      have NU : Hid _ := numbered_any w7 j (by omega)
      have hB7 : Below W0.heap.size W0 w7 := HB6.out.trans (HB67.out.mono HB6.out.size)
      have HL7 : w7.ownsRow W0.heap.size 9 1 (.slice (some ⟨g, 0, none⟩) n cp) n (T.labels.map Value.string) := owns_same HL6.out fun b e => by cases e; exact HB67.out.block g hg1
      have hgg : g < g7 := by
        have := owns_new HK7.out g7 rfl
        omega
      go_wp2_with fail
      refine Calls.mono NU.out ?_
      rintro e w8 ⟨rfl, hb8⟩
      have HB8 : Hid (Below W0.heap.size W0 w8) := hB7.trans (hb8.mono hB7.size)
      have HL8 : Hid (w8.ownsRow W0.heap.size 9 1 (.slice (some ⟨g, 0, none⟩) n cp) n (T.labels.map Value.string)) := owns_same HL7 fun b e => by cases e; exact hb8.block g (own_low HL7 g rfl)
      have HK8 : Hid (w8.ownsRow w6.heap.size 9 1 (.slice (some ⟨g7, 0, none⟩) n cap7) n (T.labels.map Value.string)) := owns_same HK7.out fun b e => by cases e; exact hb8.block g7 (own_low HK7.out g7 rfl)
      clear hB7 HL7 hb8 NU HK7 HB67 HL6 HB6
      obtain ⟨ms, hms⟩ : ∃ ms, ms = numB j := ⟨_, rfl⟩
      rw [← hms]
      have Hms : Hid (ms = numB j) := hms
      clear hms
      go_wp2_with fail
      go_loopw [11] (fun i wx => ∃ q : Nat, q ≤ n ∧ i = .int .i64 q ∧ Hid (wx.ownsRow W0.heap.size 9 1 (.slice (some ⟨g, 0, none⟩) n cp) n (marks (.string ms) (T.labels.map Value.string) q)) ∧ Hid (wx.ownsRow w6.heap.size 9 1 (.slice (some ⟨g7, 0, none⟩) n cap7) n (T.labels.map Value.string)) ∧ Hid (Below W0.heap.size W0 wx)) (fun i _ => n - (intOf i).toNat)
      case atStart => exact ⟨0, Nat.zero_le _, rfl, by show World.ownsRow _ _ _ _ _ _ _; rw [marks_zero]; exact HL8.out, HK8.out, HB8.out⟩
      case round =>
        clear HL8 HK8 HB8
        obtain ⟨q, hq, rfl, hl, hk, hb⟩ := hrel
        by_cases hqn : q < n
        · have q1 : (q : Int) < (n : Int) := by omega
          have hln' : (marks (.string ms) (T.labels.map Value.string) q).length = n := by have := hl.out.1; omega
          obtain ⟨u, hu⟩ : ∃ u, (marks (.string ms) (T.labels.map Value.string) q)[q]? = some u := ⟨_, List.getElem?_eq_getElem (by rw [hln']; exact hqn)⟩
          have c1 : wr.cell? ⟨g, q, none⟩ = some u := row_cells hl.out q u hu
          have z1 : wr.frozen? ⟨g, q, none⟩ = false := row_free hl.out q
          have Hl2 : Hid ((wr.setCell ⟨g, q, none⟩ (.string ms)).ownsRow W0.heap.size 9 1 (.slice (some ⟨g, 0, none⟩) n cp) n (marks (.string ms) (T.labels.map Value.string) (q + 1))) := by
            have := owns_set hl.out q (.string ms)
            rw [marks_succ _ _ _ (by omega)] at this
            exact this
          have Hk2 : Hid ((wr.setCell ⟨g, q, none⟩ (.string ms)).ownsRow w6.heap.size 9 1 (.slice (some ⟨g7, 0, none⟩) n cap7) n (T.labels.map Value.string)) := owns_same hk.out fun b e => by cases e; exact Below.heap_setCell _ _ _ _ (by simp; omega)
          have Hb2 : Hid (Below W0.heap.size W0 (wr.setCell ⟨g, q, none⟩ (.string ms))) := hb.out.setCell hg0 _
          clear hu hln'
          go_wp2
          go_roundw
          case rel => exact ⟨q + 1, by omega, by go_num, Hl2.out, Hk2.out, Hb2.out⟩
          case measure => simp [intOf]; omega
        · have q1 : ¬ (q : Int) < (n : Int) := by omega
          have hqe : n = q := by omega
          subst hqe
          have HL9 : Hid (wr.ownsRow W0.heap.size 9 1 (.slice (some ⟨g, 0, none⟩) n cp) n (List.replicate n (.string ms))) := by
            have := hl.out
            rw [marks_all _ _ _ hln] at this
            exact this
          obtain ⟨w9, hw9⟩ : ∃ w9, w9 = wr := ⟨_, rfl⟩
          subst hw9
          clear hl q1
          have hs0 : w.heap.size ≤ W0.heap.size := ST.out.below.size
          have hs9 : W0.heap.size ≤ w9.heap.size := hb.out.size
          have hgb : g ∉ bs := fun hm => by have := ST.out.tab.low _ hm; omega
          by_cases h30 : j < 30
          case' pos =>
            have j1 : (j : Int) < 30 := by omega
            have hcj : Hid (c = j) := by show _ = _; rw [Hc.out]; omega
            have hc30 : c < 30 := by rw [hcj.out]; exact h30
            have STa : Hid (Stand w (w9.alloc (.cells #[.slice (some ⟨g, 0, none⟩) n cp] 26)) B k0 T bs) := (ST.out.under hb.out).under (below_new _)
            have La : Hid (Mine w (w9.alloc (.cells #[.slice (some ⟨g, 0, none⟩) n cp] 26)) bs 26 1 (.slice aL c cL) c (sv.map (·.1))) := (L.out.under hb.out).under (below_new _)
            have Ma : Hid (Mine w (w9.alloc (.cells #[.slice (some ⟨g, 0, none⟩) n cp] 26)) bs 26 1 (.slice aM c cM) c (sv.map (·.2.1))) := (MM.out.under hb.out).under (below_new _)
            have Ea : Hid (Each w (w9.alloc (.cells #[.slice (some ⟨g, 0, none⟩) n cp] 26)) bs sv) := (E.out.under hb.out).under (below_new _)
            have HLa : Hid ((w9.alloc (.cells #[.slice (some ⟨g, 0, none⟩) n cp] 26)).ownsRow W0.heap.size 9 1 (.slice (some ⟨g, 0, none⟩) n cp) n (List.replicate n (.string ms))) := HL9.out.alloc _
            have HKa : Hid ((w9.alloc (.cells #[.slice (some ⟨g, 0, none⟩) n cp] 26)).ownsRow w6.heap.size 9 1 (.slice (some ⟨g7, 0, none⟩) n cap7) n (T.labels.map Value.string)) := hk.out.alloc _
            have hM9 : ∀ b, (Value.slice aM c cM).ownBlock = some b → b < W0.heap.size := own_low MM.out.own
            replace hM9 := show Hid _ from hM9
            clear HL9 hk
            go_wp2_with (first
              | (at_builtin
                 refine wpList_append_lies (w9.alloc (.cells #[.slice (some ⟨g, 0, none⟩) n cp] 26)) rfl _ _ _ rfl w.heap.size 26 i26 _ 1 24 Tryd.underlying48 hi26 hz260 hz261 hz263 rfl (by omega) _ c (sv.map (·.1)) (by rfl) (by exact La.out.own) ⟨w9.heap.size, 0, none⟩ 1 1 [.slice (some ⟨g, 0, none⟩) n cp] (by rfl) (by rfl) (World.news_of_block (cs := #[.slice (some ⟨g, 0, none⟩) n cp]) (t := 26) (fr := (0, 0)) (heap_alloc_new w9 _)) (by simp [Value.oneCell']) (by omega) (by unfold maxLen; omega) (by omega) (by simp; omega) (w9.heap.size + 1) (by simp) ?_
                 intro g2 cap2 w10 hown2 hgrow2 hat2 hlt2
                 have ST10 : Hid (Stand w (w10.alloc (.cells #[.string ms, .string ms] 9)) B k0 T bs) := (STa.out.grown La.out hgrow2).under (below_new _)
                 have L10 : Hid (Mine w (w10.alloc (.cells #[.string ms, .string ms] 9)) bs 26 1 (.slice (some ⟨g2, 0, none⟩) (c + 1) cap2) (c + 1) (sv.map (·.1) ++ [.slice (some ⟨g, 0, none⟩) n cp])) := (La.out.grown STa.out hown2 hat2 (by simp)).under (below_new _)
                 have M10 : Hid (Mine w (w10.alloc (.cells #[.string ms, .string ms] 9)) bs 26 1 (.slice aM c cM) c (sv.map (·.2.1))) := (Ma.out.beside hgrow2 AP.out).under (below_new _)
                 have E10 : Hid (Each w (w10.alloc (.cells #[.string ms, .string ms] 9)) bs sv) := (Ea.out.beside La.out.own hgrow2).under (below_new _)
                 have HL10 : Hid ((w10.alloc (.cells #[.string ms, .string ms] 9)).ownsRow W0.heap.size 9 1 (.slice (some ⟨g, 0, none⟩) n cp) n (List.replicate n (.string ms))) := (owns_same HLa.out fun b e => by cases e; exact hgrow2.block g (own_low HLa.out g rfl) fun e => kinds_apart La.out.own HLa.out (by decide) g rfl e.symm).alloc _
                 have HK10 : Hid ((w10.alloc (.cells #[.string ms, .string ms] 9)).ownsRow w6.heap.size 9 1 (.slice (some ⟨g7, 0, none⟩) n cap7) n (T.labels.map Value.string)) := (owns_same HKa.out fun b e => by cases e; exact hgrow2.block g7 (own_low HKa.out g7 rfl) fun e => kinds_apart La.out.own HKa.out (by decide) g7 rfl e.symm).alloc _
                 have AP10 : Hid (∀ b, (Value.slice aM c cM).ownBlock = some b → b ≠ g2) := fun b e e2 => by
                   subst e2
                   rcases hat2 with h2 | h2
                   · exact AP.out b e h2
                   · have := hM9.out b e; omega
                 have hs10 : w9.heap.size + 1 ≤ w10.heap.size := by have := hgrow2.size; simpa using this
                 clear STa La Ma Ea HLa HKa hown2 hgrow2 hat2 hlt2
                 obtain ⟨g3, cap3, w11, hr3, ho3, hold3, hgr3, hat3⟩ := run_append_stays (P := Tryd.prog) (w10.alloc (.cells #[.string ms, .string ms] 9)) 26 26 W0.heap.size 9 i9 _ 16 Tryd.underlying26 hi9 hz90 hz91 hz93 rfl g n cp (List.replicate n (.string ms)) HL10.out ⟨w10.heap.size, 0, none⟩ 2 2 [.string ms, .string ms] rfl (World.news_of_block (cs := #[.string ms, .string ms]) (t := 9) (fr := (0, 0)) (heap_alloc_new w10 _)) (by simp [Value.oneCell']) (by omega) (by unfold maxLen; omega) (by omega) (by simp; omega)
                 have l10 : Mine w (w10.alloc (.cells #[.string ms, .string ms] 9)) bs 9 1 (.slice (some ⟨g, 0, none⟩) n cp) n (List.replicate n (.string ms)) := ⟨owns_down HL10.out hs0, fun b e => by cases e; exact hgb⟩
                 have STb : Hid (Stand w (w11.alloc (.cells #[.slice (some ⟨g3, 0, none⟩) (n + 2) cap3] 26)) B k0 T bs) := (ST10.out.grown l10 hgr3).under (below_new _)
                 have Lb : Hid (Mine w (w11.alloc (.cells #[.slice (some ⟨g3, 0, none⟩) (n + 2) cap3] 26)) bs 26 1 (.slice (some ⟨g2, 0, none⟩) (c + 1) cap2) (c + 1) (sv.map (·.1) ++ [.slice (some ⟨g, 0, none⟩) n cp])) := (L10.out.beside (v := .slice (some ⟨g, 0, none⟩) n cp) hgr3 (kinds_apart HL10.out L10.out.own (by decide))).under (below_new _)
                 have Mb : Hid (Mine w (w11.alloc (.cells #[.slice (some ⟨g3, 0, none⟩) (n + 2) cap3] 26)) bs 26 1 (.slice aM c cM) c (sv.map (·.2.1))) := (M10.out.beside (v := .slice (some ⟨g, 0, none⟩) n cp) hgr3 (kinds_apart HL10.out M10.out.own (by decide))).under (below_new _)
                 have Eb : Hid (Each w (w11.alloc (.cells #[.slice (some ⟨g3, 0, none⟩) (n + 2) cap3] 26)) bs (sv ++ [(.slice (some ⟨g, 0, none⟩) n cp, .slice (some ⟨g3, 0, none⟩) (n + 2) cap3, n)])) := by
                   refine Each.under (Each.snoc (E10.out.past E.out (u := .slice (some ⟨g, 0, none⟩) n cp) (fun b e => by cases e; exact hg0) hgr3) _ _ n c Hsv.out ?_ ?_) (below_new _)
                   · rw [hcj.out, ← Hms.out]
                     exact ⟨owns_down hold3 hs0, fun b e => by cases e; exact hgb⟩
                   · rw [hcj.out, ← Hms.out]
                     refine ⟨owns_down (by rw [rep_two]; exact ho3) hs0, fun b e hm => ?_⟩
                     obtain rfl : g3 = b := by simpa [Value.ownBlock] using e
                     have := ST.out.tab.low _ hm
                     rcases hat3 with h2 | h2
                     · omega
                     · rw [size_alloc] at h2; omega
                 have HKb : Hid ((w11.alloc (.cells #[.slice (some ⟨g3, 0, none⟩) (n + 2) cap3] 26)).ownsRow w6.heap.size 9 1 (.slice (some ⟨g7, 0, none⟩) n cap7) n (T.labels.map Value.string)) := (owns_same HK10.out fun b e => by cases e; exact hgr3.block g7 (own_low HK10.out g7 rfl) (by simp; omega)).alloc _
                 have hs11 : w10.heap.size + 1 ≤ w11.heap.size := by have := hgr3.size; simpa using this
                 have hg2 : Hid (g2 < w10.heap.size + 1) := by have := own_low L10.out.own g2 rfl; rw [size_alloc] at this; exact this
                 clear ST10 L10 M10 E10 HL10 HK10 ho3 hold3 hgr3 hat3 l10)
              | (at_builtin
                 refine wpList_append_run rfl _ _ _ rfl _ _ _ _ (by rfl) (by rfl) hr3 ?_
                 clear hr3)
              | (at_builtin
                 refine wpList_append_lies (w11.alloc (.cells #[.slice (some ⟨g3, 0, none⟩) (n + 2) cap3] 26)) rfl _ _ _ rfl w.heap.size 26 i26 _ 1 24 Tryd.underlying48 hi26 hz260 hz261 hz263 rfl (by omega) _ c (sv.map (·.2.1)) (by rfl) (by exact Mb.out.own) ⟨w11.heap.size, 0, none⟩ 1 1 [.slice (some ⟨g3, 0, none⟩) (n + 2) cap3] (by rfl) (by rfl) (World.news_of_block (cs := #[.slice (some ⟨g3, 0, none⟩) (n + 2) cap3]) (t := 26) (fr := (0, 0)) (heap_alloc_new w11 _)) (by simp [Value.oneCell']) (by omega) (by unfold maxLen; omega) (by omega) (by simp; omega) (w11.heap.size + 1) (by simp) ?_
                 intro g4 cap4 w12 hown4 hgrow4 hat4 hlt4))
            have STt : Hid (Stand w w12 B k0 T bs) := STb.out.grown Mb.out hgrow4
            have Mt0 : Mine w w12 bs 26 1 (.slice (some ⟨g4, 0, none⟩) (c + 1) cap4) (c + 1) (sv.map (·.2.1) ++ [.slice (some ⟨g3, 0, none⟩) (n + 2) cap3]) := Mb.out.grown STb.out hown4 hat4 (by simp)
            have Lt0 := Lb.out.beside hgrow4 (fun b e e2 => AP10.out b e2 (by simpa [Value.ownBlock] using e.symm))
            have Et : Hid (Each w w12 bs (sv ++ [(.slice (some ⟨g, 0, none⟩) n cp, .slice (some ⟨g3, 0, none⟩) (n + 2) cap3, n)])) := Eb.out.beside Mb.out.own hgrow4
            have HKt : Hid (w12.ownsRow 0 9 1 (.slice (some ⟨g7, 0, none⟩) n cap7) n (T.labels.map Value.string)) := owns_zero (owns_same HKb.out fun b e => by cases e; exact hgrow4.block g7 (own_low HKb.out g7 rfl) fun e => kinds_apart Mb.out.own HKb.out (by decide) g7 rfl e.symm)
            have APt : Hid (∀ b, (Value.slice (some ⟨g4, 0, none⟩) (c + 1) cap4).ownBlock = some b → (Value.slice (some ⟨g2, 0, none⟩) (c + 1) cap2).ownBlock ≠ some b) := fun b e e2 => by
              obtain rfl : g4 = b := by simpa [Value.ownBlock] using e
              have e3 : g2 = g4 := by simpa [Value.ownBlock] using e2
              rcases hat4 with h2 | h2
              · exact AP10.out g4 h2 e3.symm
              · have := hg2.out; omega
            have hct : Hid (c + 1 = min (j + 1) 30) := by show _ = _; rw [hcj.out]; omega
            have Hst : Hid ((sv ++ [((.slice (some ⟨g, 0, none⟩) n cp : Value), (.slice (some ⟨g3, 0, none⟩) (n + 2) cap3 : Value), n)]).length = c + 1) := by show _ = _; rw [List.length_append, Hsv.out]; rfl
            have hct2 : c + 1 ≤ 30 := by omega
            have Mt : Hid (Mine w w12 bs 26 1 (.slice (some ⟨g4, 0, none⟩) (c + 1) cap4) (c + 1) ((sv ++ [((.slice (some ⟨g, 0, none⟩) n cp : Value), (.slice (some ⟨g3, 0, none⟩) (n + 2) cap3 : Value), n)]).map (·.2.1))) := by rw [List.map_append]; exact Mt0
            have Lt : Hid (Mine w w12 bs 26 1 (.slice (some ⟨g2, 0, none⟩) (c + 1) cap2) (c + 1) ((sv ++ [((.slice (some ⟨g, 0, none⟩) n cp : Value), (.slice (some ⟨g3, 0, none⟩) (n + 2) cap3 : Value), n)]).map (·.1))) := by rw [List.map_append]; exact Lt0
            generalize (some ({ block := g4, off := 0, spot := none } : Addr)) = aM' at *
            generalize (some ({ block := g2, off := 0, spot := none } : Addr)) = aL' at *
            generalize sv ++ [((.slice (some ⟨g, 0, none⟩) n cp : Value), (.slice (some ⟨g3, 0, none⟩) (n + 2) cap3 : Value), n)] = sv' at *
            generalize c + 1 = c' at *
            generalize cap2 = cL' at *
            generalize cap4 = cM' at *
            generalize w12 = wT at *
            clear STb Mb Lb Eb HKb hown4 hgrow4 hat4 hlt4 Mt0 Lt0 AP10 hg2 hcj
          case' neg =>
            have j1 : ¬ (j : Int) < 30 := by omega
            have hcj : Hid (c = 30) := by show _ = _; rw [Hc.out]; omega
            have STt : Hid (Stand w w9 B k0 T bs) := ST.out.under hb.out
            have Lt : Hid (Mine w w9 bs 26 1 (.slice aL c cL) c (sv.map (·.1))) := L.out.under hb.out
            have Mt : Hid (Mine w w9 bs 26 1 (.slice aM c cM) c (sv.map (·.2.1))) := MM.out.under hb.out
            have Et : Hid (Each w w9 bs sv) := E.out.under hb.out
            have HKt : Hid (w9.ownsRow 0 9 1 (.slice (some ⟨g7, 0, none⟩) n cap7) n (T.labels.map Value.string)) := owns_zero hk.out
            have APt : Hid (∀ b, (Value.slice aM c cM).ownBlock = some b → (Value.slice aL c cL).ownBlock ≠ some b) := AP.out
            have hct : Hid (c = min (j + 1) 30) := by show _ = _; rw [hcj.out]; omega
            have Hst : Hid (sv.length = c) := Hsv.out
            have hct2 : c ≤ 30 := by rw [hcj.out]; exact Nat.le_refl _
            go_wp2_with fail
            generalize aM = aM' at *
            generalize aL = aL' at *
            generalize sv = sv' at *
            generalize c = c' at *
            generalize cL = cL' at *
            generalize cM = cM' at *
            generalize w9 = wT at *
          all_goals
            clear L MM E AP ST Hsv Hc hb
            have LL2 : Hid _ := labels_any wT bs B k0 T (by rw [HN.out]; omega) STt.out.tab
            refine Calls.mono LL2.out ?_
            rintro e w13 ⟨v13, rfl, hv13, hb13⟩
            have hk13 : w13.ownsRow 0 9 1 (.slice (some ⟨g7, 0, none⟩) n cap7) n (T.labels.map Value.string) := owns_same HKt.out fun b e => by cases e; exact hb13.block g7 (own_low HKt.out g7 rfl)
            have SE : Hid _ := same_eq w13 v13 (.slice (some ⟨g7, 0, none⟩) n cap7) T.labels (by rw [HN.out]; omega) (owns_zero hv13) (by rw [HN.out]; exact hk13)
            have c7 : w13.cell? ⟨g7, 0, none⟩ = some (.string ⟨#[102, 105, 114, 115, 116]⟩) := row_cells hk13 0 _ (by rw [HLab.out]; rfl)
            have ST13 : Hid (Stand w w13 B k0 T bs) := STt.out.under hb13
            have L13 : Hid (Mine w w13 bs 26 1 (.slice aL' c' cL') c' (sv'.map (·.1))) := Lt.out.under hb13
            have M13 : Hid (Mine w w13 bs 26 1 (.slice aM' c' cM') c' (sv'.map (·.2.1))) := Mt.out.under hb13
            have E13 : Hid (Each w w13 bs sv') := Et.out.under hb13
            have n2' : ¬ (n : Int) < 2 := by omega
            clear STt Lt Mt Et HKt LL2 hv13 hb13 hk13
            go_wp2_with fail
            refine Calls.mono SE.out ?_
            rintro e wz ⟨rfl, d, hwz⟩
            subst wz
            have c7' : (w13.drewN d).cell? ⟨g7, 0, none⟩ = some (.string ⟨#[102, 105, 114, 115, 116]⟩) := c7
            replace ST13 : Hid (Stand w (w13.drewN d) B k0 T bs) := ST13.out.under (below_draw _ _)
            replace L13 : Hid (Mine w (w13.drewN d) bs 26 1 (.slice aL' c' cL') c' (sv'.map (·.1))) := L13.out.under (below_draw _ _)
            replace M13 : Hid (Mine w (w13.drewN d) bs 26 1 (.slice aM' c' cM') c' (sv'.map (·.2.1))) := M13.out.under (below_draw _ _)
            replace E13 : Hid (Each w (w13.drewN d) bs sv') := E13.out.under (below_draw _ _)
            clear c7 SE
            generalize w13.drewN d = w14 at *
            obtain ⟨b, off, rfl, q0, q1, q2, hs⟩ := HS.out.at ST13.out.below hlt
            obtain ⟨kd, hkd⟩ : ∃ kd, kd = K j := ⟨_, rfl⟩
            obtain ⟨sd, hsd⟩ : ∃ sd, sd = S j := ⟨_, rfl⟩
            obtain ⟨md, hmd⟩ : ∃ md, md = M j := ⟨_, rfl⟩
            rw [← hkd] at q0
            rw [← hsd] at q1 hs
            rw [← hmd] at q2
            clear hkd hsd hmd
            have DA : Hid _ := does_any w14 bs B k0 T kd sd md ST13.out.ok (by omega) hs ST13.out.kbr ST13.out.tab
            go_wp2_with fail
            refine Calls.mono DA.out ?_
            rintro e w15 ⟨rfl, hn15⟩
            obtain ⟨bs', hs15, hG⟩ := ST13.out.doing hn15
            have ST15 : Hid (Stand w w15 B (k0 + 2) (doT T kd sd) bs') := hs15
            have L15 : Hid (Mine w w15 bs' 26 1 (.slice aL' c' cL') c' (sv'.map (·.1))) := L13.out.goes hG
            have M15 : Hid (Mine w w15 bs' 26 1 (.slice aM' c' cM') c' (sv'.map (·.2.1))) := M13.out.goes hG
            have E15 : Hid (Each w w15 bs' sv') := E13.out.goes hG
            clear hs15 hn15 hG DA ST13 L13 M13 E13 q0 q1 q2 hs c7'
            have hlabs : Hid (∃ rest', (doT T kd sd).labels = lF :: lS :: rest') := by
              obtain ⟨l2, h2⟩ := labels_do T kd sd
              exact ⟨rest ++ l2, by rw [h2, HLab.out]; rfl⟩
            have e4 : Hid (k0 + 2 = 8 + 2 * (j + 1)) := by show _ = _; rw [Hk0.out]; omega
            go_wp2_with fail
            go_loopw [12, 13] (fun k _ wx => ∃ u : Nat, u ≤ c' ∧ k = .int .i64 u ∧ Hid (Below w15.heap.size w15 wx)) (fun k _ _ => c' - (intOf k).toNat)
            case atStart => exact ⟨0, Nat.zero_le _, rfl, Below.refl _ _⟩
            case round =>
              obtain ⟨u, hu, rfl, hb⟩ := hrel
              by_cases huc : u < c'
              · have u1 : (u : Int) < (c' : Int) := by omega
                obtain ⟨sx, hsx⟩ : ∃ sx, sv'[u]? = some sx := ⟨sv'[u]'(by rw [Hst.out]; exact huc), List.getElem?_eq_getElem _⟩
                have r1 := L15.out.own
                have r2 := M15.out.own
                have r3 := (E15.out.one u sx hsx).own
                have r4 := (E15.out.two u sx hsx).own
                obtain ⟨gL, cpL, hgL, _, _⟩ := r1.form (by omega)
                obtain ⟨gM, cpM, hgM, _, _⟩ := r2.form (by omega)
                cases hgL
                cases hgM
                have x1 : w15.cell? ⟨gL, u, none⟩ = some sx.1 := row_cells r1 u _ (by rw [List.getElem?_map, hsx]; rfl)
                have x2 : w15.cell? ⟨gM, u, none⟩ = some sx.2.1 := row_cells r2 u _ (by rw [List.getElem?_map, hsx]; rfl)
                obtain ⟨v1, v2, nn⟩ := sx
                have r3' : w15.ownsRow w.heap.size 9 1 v1 nn (List.replicate nn (.string (numB u))) := r3
                have r4' : w15.ownsRow w.heap.size 9 1 v2 (nn + 2) (List.replicate (nn + 2) (.string (numB u))) := r4
                obtain ⟨a1, cp1, h1e⟩ := own_slice r3'
                obtain ⟨g2', cp2, h2e, _, _⟩ := r4'.form (by omega)
                subst h1e
                subst h2e
                have x1' : w15.cell? ⟨gL, u, none⟩ = some (.slice a1 nn cp1) := x1
                have x2' : w15.cell? ⟨gM, u, none⟩ = some (.slice (some ⟨g2', 0, none⟩) (nn + 2) cp2) := x2
                have R3 : Hid (w15.ownsRow w.heap.size 9 1 (.slice a1 nn cp1) nn (List.replicate nn (.string (numB u)))) := r3'
                have R4 : Hid (w15.ownsRow w.heap.size 9 1 (.slice (some ⟨g2', 0, none⟩) (nn + 2) cp2) (nn + 2) (List.replicate (nn + 2) (.string (numB u)))) := r4'
                have X1 : Hid (w15.cell? ⟨gL, u, none⟩ = some (.slice a1 nn cp1)) := x1'
                have X2 : Hid (w15.cell? ⟨gM, u, none⟩ = some (.slice (some ⟨g2', 0, none⟩) (nn + 2) cp2)) := x2'
                have hnn : nn + 2 ≤ 9223372036854775807 := by
                  rcases r4'.2 with ⟨e', _⟩ | ⟨g'', cap'', cur, hv, _, _, hnc, hcm, _⟩
                  · cases e'
                  · unfold maxLen at hcm; omega
                clear r1 r2 r3 r4 x1 x2 r3' r4' x1' x2' hsx
                obtain ⟨mu, hmu⟩ : ∃ mu, mu = numB u := ⟨_, rfl⟩
                rw [← hmu] at R3 R4
                have NU : Hid (∀ wx : World, Calls Tryd.prog 22 #[.int .i64 u] wx fun e w' => e = .returned (.string mu) ∧ Below wx.heap.size wx w') := fun wx => by rw [hmu]; exact numbered_any wx u (by omega)
                clear hmu
                go_wp2_with fail
                go_loopw [13] (fun t wx => ∃ y : Nat, y ≤ nn + 2 ∧ t = .int .i64 y ∧ Hid (Below w15.heap.size w15 wx)) (fun t _ => nn + 2 - (intOf t).toNat)
                case atStart => exact ⟨0, Nat.zero_le _, rfl, hb.out⟩
                case round =>
                  clear hb
                  obtain ⟨y, hy, rfl, hb⟩ := hrel
                  have x1 : wr.cell? ⟨gL, u, none⟩ = some (.slice a1 nn cp1) := (hb.out.cell (p := ⟨gL, u, none⟩) (World.block_lt_of_cell? _ _ X1.out)).trans X1.out
                  have x2 : wr.cell? ⟨gM, u, none⟩ = some (.slice (some ⟨g2', 0, none⟩) (nn + 2) cp2) := (hb.out.cell (p := ⟨gM, u, none⟩) (World.block_lt_of_cell? _ _ X2.out)).trans X2.out
                  by_cases hyn : y < nn + 2
                  · have y1 : (y : Int) < (nn : Int) + 2 := by omega
                    have X4 : w15.cell? ⟨g2', y, none⟩ = some (.string mu) := row_cells R4.out y _ (by rw [List.getElem?_replicate, if_pos hyn])
                    have x4 : wr.cell? ⟨g2', y, none⟩ = some (.string mu) := (hb.out.cell (p := ⟨g2', y, none⟩) (World.block_lt_of_cell? _ _ X4)).trans X4
                    clear X4
                    have hgL : gL < wr.heap.size := World.block_lt_of_cell? _ _ x1
                    have hgM : gM < wr.heap.size := World.block_lt_of_cell? _ _ x2
                    have hg2' : g2' < wr.heap.size := World.block_lt_of_cell? _ _ x4
                    have HbD : Hid (Below wr.heap.size wr wr.drew) := ⟨rfl, rfl, rfl, Nat.le_refl _, fun _ _ => rfl⟩
                    by_cases hy2 : y < nn
                    · have X3 : w15.ownsRow w.heap.size 9 1 (.slice a1 nn cp1) nn (List.replicate nn (.string mu)) := R3.out
                      obtain ⟨g1, cq1, he1, _, _⟩ := X3.form (by omega)
                      cases he1
                      have X5 : w15.cell? ⟨g1, y, none⟩ = some (.string mu) := row_cells X3 y _ (by rw [List.getElem?_replicate, if_pos hy2])
                      have x5 : wr.cell? ⟨g1, y, none⟩ = some (.string mu) := (hb.out.cell (p := ⟨g1, y, none⟩) (World.block_lt_of_cell? _ _ X5)).trans X5
                      have hg1 : g1 < wr.heap.size := World.block_lt_of_cell? _ _ x5
                      clear X5 X3
                      have y2 : (y : Int) < (nn : Int) := by omega
                      have NUs : ∀ wx : World, Hid (Below wr.heap.size wr wx) → Calls Tryd.prog 22 #[.int .i64 u] wx fun e w' => e = .returned (.string mu) ∧ w'.cell? ⟨gL, u, none⟩ = some (.slice (some ⟨g1, 0, none⟩) nn cp1) ∧ w'.cell? ⟨gM, u, none⟩ = some (.slice (some ⟨g2', 0, none⟩) (nn + 2) cp2) ∧ w'.cell? ⟨g2', y, none⟩ = some (.string mu) ∧ w'.cell? ⟨g1, y, none⟩ = some (.string mu) ∧ Hid (Below wr.heap.size wr w') := fun wx hx =>
                        (NU.out wx).mono fun e w' ⟨he, hb'⟩ => by
                          have hb2 : Below wr.heap.size wr w' := hx.out.trans (hb'.mono hx.out.size)
                          exact ⟨he, (hb2.cell (p := ⟨gL, u, none⟩) hgL).trans x1, (hb2.cell (p := ⟨gM, u, none⟩) hgM).trans x2, (hb2.cell (p := ⟨g2', y, none⟩) hg2').trans x4, (hb2.cell (p := ⟨g1, y, none⟩) hg1).trans x5, hb2⟩
                      replace NUs := show Hid _ from NUs
                      clear hgL hgM hg2' hg1
                      go_wp2_with fail
                      go_region_held3 (fun w' => w'.cell? ⟨gL, u, none⟩ = some (.slice (some ⟨g1, 0, none⟩) nn cp1) ∧ w'.cell? ⟨gM, u, none⟩ = some (.slice (some ⟨g2', 0, none⟩) (nn + 2) cp2) ∧ w'.cell? ⟨g2', y, none⟩ = some (.string mu) ∧ w'.cell? ⟨g1, y, none⟩ = some (.string mu) ∧ Hid (Below wr.heap.size wr w')) (refine ⟨?_, ?_, ?_, ?_, ?_⟩ <;> first | assumption | exact x1 | exact x2 | exact x4 | exact x5)
                        (first
                          | (go_at_call 22; refine (NUs.out _ ?_).mono ?_; (first | assumption | exact (by assumption : _ ∧ _ ∧ _ ∧ _ ∧ Hid (Below wr.heap.size wr _)).2.2.2.2); rintro e w6 ⟨rfl, d1, d2, d3, d4, d5⟩))
                      all_goals go_wp2
                      all_goals go_roundw
                      case rel => exact ⟨y + 1, by omega, by go_num, hb.out.trans (d5.out.mono hb.out.size)⟩
                      case measure => simp [intOf]; omega
                    · have y2 : decide ((y : Int) < (nn : Int)) = false := decide_eq_false (by omega)
                      have y3 : (y < nn) = False := eq_false hy2
                      have NUs : ∀ wx : World, Hid (Below wr.heap.size wr wx) → Calls Tryd.prog 22 #[.int .i64 u] wx fun e w' => e = .returned (.string mu) ∧ w'.cell? ⟨gL, u, none⟩ = some (.slice a1 nn cp1) ∧ w'.cell? ⟨gM, u, none⟩ = some (.slice (some ⟨g2', 0, none⟩) (nn + 2) cp2) ∧ w'.cell? ⟨g2', y, none⟩ = some (.string mu) ∧ Hid (Below wr.heap.size wr w') := fun wx hx =>
                        (NU.out wx).mono fun e w' ⟨he, hb'⟩ => by
                          have hb2 : Below wr.heap.size wr w' := hx.out.trans (hb'.mono hx.out.size)
                          exact ⟨he, (hb2.cell (p := ⟨gL, u, none⟩) hgL).trans x1, (hb2.cell (p := ⟨gM, u, none⟩) hgM).trans x2, (hb2.cell (p := ⟨g2', y, none⟩) hg2').trans x4, hb2⟩
                      replace NUs := show Hid _ from NUs
                      clear hgL hgM hg2'
                      go_wp2_with fail
                      refine wp_region_held_drew (S := fun w' => w'.cell? ⟨gL, u, none⟩ = some (.slice a1 nn cp1) ∧ w'.cell? ⟨gM, u, none⟩ = some (.slice (some ⟨g2', 0, none⟩) (nn + 2) cp2) ∧ w'.cell? ⟨g2', y, none⟩ = some (.string mu) ∧ Hid (Below wr.heap.size wr w')) (by kernel_rfl) ?_ (fun hHeld => ?_)
                      · exact ⟨x1, x2, x4, HbD⟩
                      refine wpAnyH_take (i := 0) (oi := { dst := some 105, op := Op.move (Operand.tmp 6), type := 48, pos := "outright.go:340", after := #[], guard := none }) (v := ?_) rfl (by kernel_rfl) (by kernel_rfl) (by kernel_rfl) (fun _ _ _ h => h) (Or.inl ⟨by rfl, ?_⟩) hHeld ?_
                      rotate_left
                      · (intro w hSw; (try dsimp only at hSw); go_simp; try with_reducible rfl)
                      try simp only [Act.put, List.setIfInBounds_toArray, List.set_cons_zero, List.set_cons_succ]
                      refine wpAnyH_take (i := 1) (oi := { dst := some 106, op := Op.move (Operand.tmp 12), type := 3, pos := "outright.go:340", after := #[], guard := none }) (v := ?_) rfl (by kernel_rfl) (by kernel_rfl) (by kernel_rfl) (fun _ _ _ h => h) (Or.inl ⟨by rfl, ?_⟩) hHeld ?_
                      rotate_left
                      · (intro w hSw; (try dsimp only at hSw); go_simp; try with_reducible rfl)
                      try simp only [Act.put, List.setIfInBounds_toArray, List.set_cons_zero, List.set_cons_succ]
                      refine wpAnyH_take (i := 2) (oi := { dst := some 107, op := Op.indexAddr 48 (Operand.tmp 105) (Operand.tmp 106), type := 0, pos := "outright.go:340", after := #[{ on := 0, ground := Ground.data }, { on := 1, ground := Ground.data }], guard := none }) (v := ?_) rfl (by kernel_rfl) (by kernel_rfl) (by kernel_rfl) (fun _ _ _ h => h) (Or.inl ⟨by rfl, ?_⟩) hHeld ?_
                      rotate_left
                      · (intro w hSw; (try dsimp only at hSw); go_simp; try with_reducible rfl)
                      try simp only [Act.put, List.setIfInBounds_toArray, List.set_cons_zero, List.set_cons_succ]
                      refine wpAnyH_take (i := 3) (oi := { dst := some 108, op := Op.load 26 (Operand.tmp 107), type := 26, pos := "outright.go:340", after := #[{ on := 2, ground := Ground.data }], guard := none }) (v := ?_) rfl (by kernel_rfl) (by kernel_rfl) (by kernel_rfl) (fun _ _ _ h => h) (Or.inl ⟨by rfl, ?_⟩) hHeld ?_
                      rotate_left
                      · (intro w hSw; (try dsimp only at hSw); go_simp; try with_reducible rfl)
                      try simp only [Act.put, List.setIfInBounds_toArray, List.set_cons_zero, List.set_cons_succ]
                      refine wpAnyH_take (i := 4) (oi := { dst := some 109, op := Op.move (Operand.tmp 13), type := 3, pos := "outright.go:340", after := #[], guard := none }) (v := ?_) rfl (by kernel_rfl) (by kernel_rfl) (by kernel_rfl) (fun _ _ _ h => h) (Or.inl ⟨by rfl, ?_⟩) hHeld ?_
                      rotate_left
                      · (intro w hSw; (try dsimp only at hSw); go_simp; try with_reducible rfl)
                      try simp only [Act.put, List.setIfInBounds_toArray, List.set_cons_zero, List.set_cons_succ]
                      refine wpAnyH_take (i := 5) (oi := { dst := some 110, op := Op.indexAddr 26 (Operand.tmp 108) (Operand.tmp 109), type := 0, pos := "outright.go:340", after := #[{ on := 3, ground := Ground.data }, { on := 4, ground := Ground.data }], guard := none }) (v := ?_) rfl (by kernel_rfl) (by kernel_rfl) (by kernel_rfl) (fun _ _ _ h => h) (Or.inl ⟨by rfl, ?_⟩) hHeld ?_
                      rotate_left
                      · (intro w hSw; (try dsimp only at hSw); go_simp; try with_reducible rfl)
                      try simp only [Act.put, List.setIfInBounds_toArray, List.set_cons_zero, List.set_cons_succ]
                      refine wpAnyH_take (i := 6) (oi := { dst := some 111, op := Op.load 9 (Operand.tmp 110), type := 9, pos := "outright.go:340", after := #[{ on := 5, ground := Ground.data }], guard := none }) (v := ?_) rfl (by kernel_rfl) (by kernel_rfl) (by kernel_rfl) (fun _ _ _ h => h) (Or.inl ⟨by rfl, ?_⟩) hHeld ?_
                      rotate_left
                      · (intro w hSw; (try dsimp only at hSw); go_simp; try with_reducible rfl)
                      try simp only [Act.put, List.setIfInBounds_toArray, List.set_cons_zero, List.set_cons_succ]
                      refine wpAnyH_take (i := 7) (oi := { dst := some 112, op := Op.move (Operand.tmp 12), type := 3, pos := "outright.go:340", after := #[], guard := none }) (v := ?_) rfl (by kernel_rfl) (by kernel_rfl) (by kernel_rfl) (fun _ _ _ h => h) (Or.inl ⟨by rfl, ?_⟩) hHeld ?_
                      rotate_left
                      · (intro w hSw; (try dsimp only at hSw); go_simp; try with_reducible rfl)
                      try simp only [Act.put, List.setIfInBounds_toArray, List.set_cons_zero, List.set_cons_succ]
                      refine wpAnyH_ready (rs := [8]) (by kernel_rfl) (by simp) ?_
                      refine AllReadyH.cons (o := { dst := some 113, op := Op.call { callee := Callee.value (Operand.func 22), args := #[Operand.tmp 112], argTypes := #[3] }, type := 9, pos := "outright.go:340", after := #[{ on := 7, ground := Ground.data }], guard := none }) rfl (fun K hK => ?_) AllReadyH.nil
                      go_simp
                      go_at_call 22
                      refine (NUs.out _ hHeld.2.2.2).mono ?_
                      rintro e w6 ⟨rfl, d1, d2, d3, d4⟩
                      try go_wp2_with fail
                      refine hK.out _ _ ?_ (fun hHeld2 => ?_)
                      · exact ⟨d1, d2, d3, d4⟩
                      clear hK K
                      try simp only [Act.put, List.setIfInBounds_toArray, List.set_cons_zero, List.set_cons_succ]
                      refine wpAnyH_take (i := 9) (oi := { dst := some 114, op := Op.binOp BinOp.neq 9 (Operand.tmp 111) (Operand.tmp 113) 9, type := 4, pos := "outright.go:340", after := #[{ on := 6, ground := Ground.data }, { on := 8, ground := Ground.data }], guard := none }) (v := ?_) rfl (by kernel_rfl) (by kernel_rfl) (by kernel_rfl) (fun _ _ _ h => h) (Or.inl ⟨by rfl, ?_⟩) hHeld2 ?_
                      rotate_left
                      · (intro w hSw; (try dsimp only at hSw); go_simp; try with_reducible rfl)
                      try simp only [Act.put, List.setIfInBounds_toArray, List.set_cons_zero, List.set_cons_succ]
                      refine wpAnyH_take (i := 10) (oi := { dst := some 115, op := Op.move (Operand.tmp 114), type := 4, pos := "outright.go:340", after := #[{ on := 9, ground := Ground.data }, { on := 8, ground := Ground.chain }], guard := none }) (v := ?_) rfl (by kernel_rfl) (by kernel_rfl) (by kernel_rfl) (fun _ _ _ h => h) (Or.inl ⟨by rfl, ?_⟩) hHeld2 ?_
                      rotate_left
                      · (intro w hSw; (try dsimp only at hSw); go_simp; try with_reducible rfl)
                      try simp only [Act.put, List.setIfInBounds_toArray, List.set_cons_zero, List.set_cons_succ]
                      refine wpAnyH_take (i := 11) (oi := { dst := some 116, op := Op.move (Operand.tmp 13), type := 3, pos := "outright.go:340", after := #[{ on := 10, ground := Ground.guard }], guard := some (10, false) }) (v := ?_) rfl (by kernel_rfl) (by kernel_rfl) (by kernel_rfl) (fun _ _ _ h => h) (Or.inl ⟨by rfl, ?_⟩) hHeld2 ?_
                      rotate_left
                      · (intro w hSw; (try dsimp only at hSw); go_simp; try with_reducible rfl)
                      try simp only [Act.put, List.setIfInBounds_toArray, List.set_cons_zero, List.set_cons_succ]
                      refine wpAnyH_take (i := 12) (oi := { dst := some 117, op := Op.move (Operand.tmp 5), type := 48, pos := "outright.go:340", after := #[{ on := 10, ground := Ground.guard }], guard := some (10, false) }) (v := ?_) rfl (by kernel_rfl) (by kernel_rfl) (by kernel_rfl) (fun _ _ _ h => h) (Or.inl ⟨by rfl, ?_⟩) hHeld2 ?_
                      rotate_left
                      · (intro w hSw; (try dsimp only at hSw); go_simp; try with_reducible rfl)
                      try simp only [Act.put, List.setIfInBounds_toArray, List.set_cons_zero, List.set_cons_succ]
                      refine wpAnyH_take (i := 13) (oi := { dst := some 118, op := Op.move (Operand.tmp 12), type := 3, pos := "outright.go:340", after := #[{ on := 10, ground := Ground.guard }], guard := some (10, false) }) (v := ?_) rfl (by kernel_rfl) (by kernel_rfl) (by kernel_rfl) (fun _ _ _ h => h) (Or.inl ⟨by rfl, ?_⟩) hHeld2 ?_
                      rotate_left
                      · (intro w hSw; (try dsimp only at hSw); go_simp; try with_reducible rfl)
                      try simp only [Act.put, List.setIfInBounds_toArray, List.set_cons_zero, List.set_cons_succ]
                      refine wpAnyH_take (i := 14) (oi := { dst := some 119, op := Op.indexAddr 48 (Operand.tmp 117) (Operand.tmp 118), type := 0, pos := "outright.go:340", after := #[{ on := 12, ground := Ground.data }, { on := 13, ground := Ground.data }, { on := 10, ground := Ground.guard }], guard := some (10, false) }) (v := ?_) rfl (by kernel_rfl) (by kernel_rfl) (by kernel_rfl) (fun _ _ _ h => h) (Or.inl ⟨by rfl, ?_⟩) hHeld2 ?_
                      rotate_left
                      · (intro w hSw; (try dsimp only at hSw); go_simp; try with_reducible rfl)
                      try simp only [Act.put, List.setIfInBounds_toArray, List.set_cons_zero, List.set_cons_succ]
                      refine wpAnyH_take (i := 15) (oi := { dst := some 120, op := Op.load 26 (Operand.tmp 119), type := 26, pos := "outright.go:340", after := #[{ on := 14, ground := Ground.data }, { on := 10, ground := Ground.guard }], guard := some (10, false) }) (v := ?_) rfl (by kernel_rfl) (by kernel_rfl) (by kernel_rfl) (fun _ _ _ h => h) (Or.inl ⟨by rfl, ?_⟩) hHeld2 ?_
                      rotate_left
                      · (intro w hSw; (try dsimp only at hSw); go_simp; try with_reducible rfl)
                      try simp only [Act.put, List.setIfInBounds_toArray, List.set_cons_zero, List.set_cons_succ]
                      refine wpAnyH_take (i := 16) (oi := { dst := some 121, op := Op.call { callee := Callee.builtin Builtin.len, args := #[Operand.tmp 120], argTypes := #[26] }, type := 3, pos := "outright.go:340", after := #[{ on := 15, ground := Ground.data }, { on := 10, ground := Ground.guard }], guard := some (10, false) }) (v := ?_) rfl (by kernel_rfl) (by kernel_rfl) (by kernel_rfl) (fun _ _ _ h => h) (Or.inl ⟨by rfl, ?_⟩) hHeld2 ?_
                      rotate_left
                      · (intro w hSw; (try dsimp only at hSw); go_simp; try with_reducible rfl)
                      try simp only [Act.put, List.setIfInBounds_toArray, List.set_cons_zero, List.set_cons_succ]
                      refine wpAnyH_take (i := 17) (oi := { dst := some 122, op := Op.binOp BinOp.lss 3 (Operand.tmp 116) (Operand.tmp 121) 3, type := 4, pos := "outright.go:340", after := #[{ on := 11, ground := Ground.data }, { on := 16, ground := Ground.data }, { on := 10, ground := Ground.guard }], guard := some (10, false) }) (v := ?_) rfl (by kernel_rfl) (by kernel_rfl) (by kernel_rfl) (fun _ _ _ h => h) (Or.inl ⟨by rfl, ?_⟩) hHeld2 ?_
                      rotate_left
                      · (intro w hSw; (try dsimp only at hSw); go_simp; try with_reducible rfl)
                      try simp only [Act.put, List.setIfInBounds_toArray, List.set_cons_zero, List.set_cons_succ]
                      refine wpAnyH_take (i := 18) (oi := { dst := some 123, op := Op.move (Operand.tmp 122), type := 4, pos := "outright.go:340", after := #[{ on := 17, ground := Ground.data }, { on := 10, ground := Ground.chain }, { on := 10, ground := Ground.guard }], guard := some (10, false) }) (v := ?_) rfl (by kernel_rfl) (by kernel_rfl) (by kernel_rfl) (fun _ _ _ h => h) (Or.inl ⟨by rfl, ?_⟩) hHeld2 ?_
                      rotate_left
                      · (intro w hSw; (try dsimp only at hSw); go_simp; try with_reducible rfl)
                      try simp only [Act.put, List.setIfInBounds_toArray, List.set_cons_zero, List.set_cons_succ]
                      refine wpAnyH_take (i := 19) (oi := { dst := some 124, op := Op.move (Operand.tmp 5), type := 48, pos := "outright.go:340", after := #[{ on := 18, ground := Ground.guard }], guard := some (18, true) }) (v := undef) rfl (by kernel_rfl) (by kernel_rfl) (by kernel_rfl) (fun _ _ _ h => h) (Or.inr ⟨by rfl, rfl⟩) hHeld2 ?_
                      try simp only [Act.put, List.setIfInBounds_toArray, List.set_cons_zero, List.set_cons_succ]
                      refine wpAnyH_take (i := 20) (oi := { dst := some 125, op := Op.move (Operand.tmp 12), type := 3, pos := "outright.go:340", after := #[{ on := 18, ground := Ground.guard }], guard := some (18, true) }) (v := undef) rfl (by kernel_rfl) (by kernel_rfl) (by kernel_rfl) (fun _ _ _ h => h) (Or.inr ⟨by rfl, rfl⟩) hHeld2 ?_
                      try simp only [Act.put, List.setIfInBounds_toArray, List.set_cons_zero, List.set_cons_succ]
                      refine wpAnyH_take (i := 21) (oi := { dst := some 126, op := Op.indexAddr 48 (Operand.tmp 124) (Operand.tmp 125), type := 0, pos := "outright.go:340", after := #[{ on := 19, ground := Ground.data }, { on := 20, ground := Ground.data }, { on := 18, ground := Ground.guard }], guard := some (18, true) }) (v := undef) rfl (by kernel_rfl) (by kernel_rfl) (by kernel_rfl) (fun _ _ _ h => h) (Or.inr ⟨by rfl, rfl⟩) hHeld2 ?_
                      try simp only [Act.put, List.setIfInBounds_toArray, List.set_cons_zero, List.set_cons_succ]
                      refine wpAnyH_take (i := 22) (oi := { dst := some 127, op := Op.load 26 (Operand.tmp 126), type := 26, pos := "outright.go:340", after := #[{ on := 21, ground := Ground.data }, { on := 18, ground := Ground.guard }], guard := some (18, true) }) (v := undef) rfl (by kernel_rfl) (by kernel_rfl) (by kernel_rfl) (fun _ _ _ h => h) (Or.inr ⟨by rfl, rfl⟩) hHeld2 ?_
                      try simp only [Act.put, List.setIfInBounds_toArray, List.set_cons_zero, List.set_cons_succ]
                      refine wpAnyH_take (i := 23) (oi := { dst := some 128, op := Op.move (Operand.tmp 13), type := 3, pos := "outright.go:340", after := #[{ on := 18, ground := Ground.guard }], guard := some (18, true) }) (v := undef) rfl (by kernel_rfl) (by kernel_rfl) (by kernel_rfl) (fun _ _ _ h => h) (Or.inr ⟨by rfl, rfl⟩) hHeld2 ?_
                      try simp only [Act.put, List.setIfInBounds_toArray, List.set_cons_zero, List.set_cons_succ]
                      refine wpAnyH_take (i := 24) (oi := { dst := some 129, op := Op.indexAddr 26 (Operand.tmp 127) (Operand.tmp 128), type := 0, pos := "outright.go:340", after := #[{ on := 22, ground := Ground.data }, { on := 23, ground := Ground.data }, { on := 18, ground := Ground.guard }], guard := some (18, true) }) (v := undef) rfl (by kernel_rfl) (by kernel_rfl) (by kernel_rfl) (fun _ _ _ h => h) (Or.inr ⟨by rfl, rfl⟩) hHeld2 ?_
                      try simp only [Act.put, List.setIfInBounds_toArray, List.set_cons_zero, List.set_cons_succ]
                      refine wpAnyH_take (i := 25) (oi := { dst := some 130, op := Op.load 9 (Operand.tmp 129), type := 9, pos := "outright.go:340", after := #[{ on := 24, ground := Ground.data }, { on := 18, ground := Ground.guard }], guard := some (18, true) }) (v := undef) rfl (by kernel_rfl) (by kernel_rfl) (by kernel_rfl) (fun _ _ _ h => h) (Or.inr ⟨by rfl, rfl⟩) hHeld2 ?_
                      try simp only [Act.put, List.setIfInBounds_toArray, List.set_cons_zero, List.set_cons_succ]
                      refine wpAnyH_take (i := 26) (oi := { dst := some 131, op := Op.move (Operand.tmp 12), type := 3, pos := "outright.go:340", after := #[{ on := 18, ground := Ground.guard }], guard := some (18, true) }) (v := undef) rfl (by kernel_rfl) (by kernel_rfl) (by kernel_rfl) (fun _ _ _ h => h) (Or.inr ⟨by rfl, rfl⟩) hHeld2 ?_
                      try simp only [Act.put, List.setIfInBounds_toArray, List.set_cons_zero, List.set_cons_succ]
                      refine wpAnyH_take (i := 27) (oi := { dst := some 132, op := Op.call { callee := Callee.value (Operand.func 22), args := #[Operand.tmp 131], argTypes := #[3] }, type := 9, pos := "outright.go:340", after := #[{ on := 26, ground := Ground.data }, { on := 18, ground := Ground.chain }, { on := 18, ground := Ground.guard }], guard := some (18, true) }) (v := undef) rfl (by kernel_rfl) (by kernel_rfl) (by kernel_rfl) (fun _ _ _ h => h) (Or.inr ⟨by rfl, rfl⟩) hHeld2 ?_
                      try simp only [Act.put, List.setIfInBounds_toArray, List.set_cons_zero, List.set_cons_succ]
                      refine wpAnyH_take (i := 28) (oi := { dst := some 133, op := Op.binOp BinOp.neq 9 (Operand.tmp 130) (Operand.tmp 132) 9, type := 4, pos := "outright.go:340", after := #[{ on := 25, ground := Ground.data }, { on := 27, ground := Ground.data }, { on := 18, ground := Ground.guard }], guard := some (18, true) }) (v := undef) rfl (by kernel_rfl) (by kernel_rfl) (by kernel_rfl) (fun _ _ _ h => h) (Or.inr ⟨by rfl, rfl⟩) hHeld2 ?_
                      try simp only [Act.put, List.setIfInBounds_toArray, List.set_cons_zero, List.set_cons_succ]
                      refine wpAnyH_take (i := 29) (oi := { dst := some 134, op := Op.pick (Operand.tmp 123) (Operand.tmp 133) (Operand.const (Value.bool false)), type := 4, pos := "outright.go:340", after := #[{ on := 18, ground := Ground.data }, { on := 28, ground := Ground.data }, { on := 10, ground := Ground.guard }], guard := some (10, false) }) (v := ?_) rfl (by kernel_rfl) (by kernel_rfl) (by kernel_rfl) (fun _ _ _ h => h) (Or.inl ⟨by rfl, ?_⟩) hHeld2 ?_
                      rotate_left
                      · (intro w hSw; (try dsimp only at hSw); go_simp; try with_reducible rfl)
                      try simp only [Act.put, List.setIfInBounds_toArray, List.set_cons_zero, List.set_cons_succ]
                      refine wpAnyH_take (i := 30) (oi := { dst := some 135, op := Op.pick (Operand.tmp 115) (Operand.const (Value.bool true)) (Operand.tmp 134), type := 4, pos := "outright.go:340", after := #[{ on := 10, ground := Ground.data }, { on := 29, ground := Ground.data }], guard := none }) (v := ?_) rfl (by kernel_rfl) (by kernel_rfl) (by kernel_rfl) (fun _ _ _ h => h) (Or.inl ⟨by rfl, ?_⟩) hHeld2 ?_
                      rotate_left
                      · (intro w hSw; (try dsimp only at hSw); go_simp; try with_reducible rfl)
                      try simp only [Act.put, List.setIfInBounds_toArray, List.set_cons_zero, List.set_cons_succ]
                      refine wpAnyH_done (by kernel_rfl) ?_ _
                      go_wp2
                      go_roundw
                      case rel => exact ⟨y + 1, by omega, by go_num, hb.out.trans (d4.out.mono hb.out.size)⟩
                      case measure => simp [intOf]; omega
                  · have y1 : ¬ (y : Int) < (nn : Int) + 2 := by omega
                    go_wp2
                    go_roundw
                    case rel => exact ⟨u + 1, by omega, by go_num, hb.out⟩
                    case measure => simp [intOf]; omega
              · have u1 : ¬ (u : Int) < (c' : Int) := by omega
                have ST16 : Hid (Stand w wr B (k0 + 2) (doT T kd sd) bs') := ST15.out.under hb.out
                have L16 : Hid (Mine w wr bs' 26 1 (.slice aL' c' cL') c' (sv'.map (·.1))) := L15.out.under hb.out
                have M16 : Hid (Mine w wr bs' 26 1 (.slice aM' c' cM') c' (sv'.map (·.2.1))) := M15.out.under hb.out
                have E16 : Hid (Each w wr bs' sv') := E15.out.under hb.out
                clear ST15 L15 M15 E15
                go_wp2
                go_roundw
                case rel =>
                  obtain ⟨rest', hr'⟩ := hlabs.out
                  exact ⟨j + 1, c', aL', cL', aM', cM', by omega, hct.out, rfl, rfl, by go_num, ⟨_, bs', sv', rest', by rw [← e4.out]; exact ST16.out, hr', Hst.out, L16.out, M16.out, APt.out, E16.out⟩⟩
                case measure => simp [intOf]; omega
    · have n4 : ¬ (j : Int) < (len : Int) := by omega
      go_wp2_with fail
      refine Calls.mono LL.out ?_
      rintro e w6 ⟨v6, rfl, hv6, hb6⟩
      rw [HN.out] at hv6
      obtain ⟨g, cp, rfl, hg0, hg1⟩ := hv6.form (by omega)
      have c0 : w6.cell? ⟨g, 0, none⟩ = some (.string ⟨#[102, 105, 114, 115, 116]⟩) := row_cells hv6 0 _ (by rw [HLab.out]; rfl)
      have c1 : w6.cell? ⟨g, 1, none⟩ = some (.string ⟨#[115, 101, 99, 111, 110, 100]⟩) := row_cells hv6 1 _ (by rw [HLab.out]; rfl)
      have n2' : (2 : Int) ≤ (n : Int) := by omega
      have n5 : (1 : Int) < (n : Int) := by omega
      have n6 : (0 : Int) < (n : Int) := by omega
      have Hend : Hid (Below w.heap.size w w6) := ST.out.below.trans (hb6.mono ST.out.below.size)
      clear hv6 hb6 LL L MM E AP ST
      go_wp2
      go_ret
      exact ⟨rfl, Hend.out⟩
end Go.Proofs.YtdnkgjjboonmnaaDoor
