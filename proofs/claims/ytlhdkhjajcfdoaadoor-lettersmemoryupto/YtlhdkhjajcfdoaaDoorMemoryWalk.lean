/- The walk of LettersMemory. -/
import Derived.Test.YtlhdkhjajcfdoaaDoorMem
namespace Go.Proofs.YtlhdkhjajcfdoaaDoor
open Go.RowKit

set_option maxRecDepth 100000 in
set_option maxHeartbeats 32000000 in
theorem memory_walk (w : World) (a0 : Option Addr) (n c0 : Nat) (ws : List ByteArray) (a1 : Option Addr) (m c1 : Nat) (l : List Int) (h0 : ws.length = n) (hn : n ≤ 1048576) (i0 : StrsAt w a0 ws) (hb0 : (ws.flatMap fun s => s.data.toList).length ≤ 1048576) (h1 : l.length = m) (hm : m ≤ 1048576) (i1 : IntsAt w a1 l) (hT : Tabs w) :
    Calls Tryd.prog 7 #[.slice a0 n c0, .slice a1 m c1] w fun e w' => e = .returned (.bool true) ∧ Below w.heap.size w w' := by
  obtain ⟨it, hi0, hz0, hz1, hz3⟩ := info_parts infoT
  obtain ⟨ii, hj0, hy0, hy1, hy3⟩ := info_parts infoN
  obtain ⟨ic, hk0, hx0, hx1, hx3⟩ := info_parts infoC
  obtain ⟨T0, hT0⟩ : ∃ T0, T0 = toksOf 0 ws := ⟨_, rfl⟩
  have hT0l : T0.length = n := by rw [hT0, toksOf_len]; exact h0
  have hT0b : (allBytes T0).length ≤ 1048576 := by rw [hT0, toksOf_bytes]; exact hb0
  obtain ⟨L, hL⟩ : ∃ L, L = l.map goodN := ⟨_, rfl⟩
  have hLl : L.length = m := by rw [hL, List.length_map]; exact h1
  obtain ⟨cs, hcs⟩ : ∃ cs, cs = codesOf 0 (T0 ++ [tokA]) := ⟨_, rfl⟩
  have hcl : cs.length ≤ 1048578 := by
    have h := codesOf_len (T0 ++ [tokA]) 0
    rw [← hcs, allBytes_append, List.length_append] at h
    have e : (allBytes [tokA]).length = 1 := rfl
    omega
  have hcp : 0 < cs.length := by rw [hcs]; exact codes_A T0
  obtain ⟨k, hk⟩ : ∃ k, k = cs.length := ⟨_, rfl⟩
  obtain ⟨cut, hcut⟩ : ∃ cut, cut = decide (0 < endOf 0 (T0 ++ [tokA])) := ⟨_, rfl⟩
  have TO : Hid (∀ wx, StrsAt wx a0 ws → Calls Tryd.prog 18 #[.slice a0 n c0] wx fun e w' => ∃ v, e = .returned v ∧ w'.ownsRow wx.heap.size 30 4 v n (rowT T0) ∧ Below wx.heap.size wx w') := fun wx hx => by
    have := tokens_any wx a0 n c0 ws h0 (by omega) hx
    rw [← hT0] at this
    exact this
  have GD : Hid (∀ wx, IntsAt wx a1 l → Calls Tryd.prog 16 #[.slice a1 m c1] wx fun e w' => ∃ v, e = .returned v ∧ w'.ownsRow wx.heap.size 3 1 v m (L.map intV) ∧ Below wx.heap.size wx w') := fun wx hx => by
    have := good_any wx a1 m c1 l h1 (by omega) hx
    rw [← hL] at this
    exact this
  have PR : Hid (∀ (wx : World) (g c : Nat), m + 1 ≤ c → IntsAt wx (some ⟨g, 0, none⟩) (L ++ [0]) → Calls Tryd.prog 14 #[.slice (some ⟨g, 0, none⟩) (m + 1) c] wx fun e w' => e = .returned (.tuple #[.string (prT (L ++ [0])), .int .i64 (prE (L ++ [0]))]) ∧ Below wx.heap.size wx w') := fun wx g c hc hx => print_any wx _ (m + 1) c (L ++ [0]) (by rw [List.length_append, hLl]; rfl) hc (by omega) hx
  have DE : Hid (∀ (wx : World) (g c : Nat), n + 1 ≤ c → ToksAt wx (some ⟨g, 0, none⟩) (T0 ++ [tokA]) → Tabs wx → Calls Tryd.prog 9 #[.slice (some ⟨g, 0, none⟩) (n + 1) c] wx fun e w' => ∃ g' cap, e = .returned (.tuple #[.slice (some ⟨g', 0, none⟩) k cap, .bool cut]) ∧ k ≤ cap ∧ wx.heap.size ≤ g' ∧ g' < w'.heap.size ∧ w'.ownsRow wx.heap.size 33 5 (.slice (some ⟨g', 0, none⟩) k cap) k (rowC cs) ∧ Below wx.heap.size wx w') := fun wx g c hc hx hTx => by
    have := decode_any wx _ (n + 1) c (T0 ++ [tokA]) (by rw [List.length_append, hT0l]; rfl) hc (by omega) hx hTx (by rw [allBytes_append, List.length_append]; have e : (allBytes [tokA]).length = 1 := rfl; omega)
    rw [← hcs, ← hk, ← hcut] at this
    refine this.mono ?_
    rintro e w' ⟨v, rfl, ho, hb⟩
    obtain ⟨g', cap, rfl, h2, h3, h4⟩ := own_some ho (by omega)
    exact ⟨g', cap, rfl, h2, h3, h4, ho, hb⟩
  have SA : Hid (∀ (wx : World) (a b : Option Addr) (c d : Nat), k ≤ c → k ≤ d → CodesAt wx a cs → CodesAt wx b cs → Calls Tryd.prog 19 #[.slice a k c, .slice b k d] wx fun e w' => e = .returned (.bool true) ∧ Below wx.heap.size wx w') := fun wx a b c d hc hd hA hB => same_any wx a b k c d cs hk.symm (by omega) hc hd hA hB
  have HT0l : Hid (T0.length = n) := hT0l
  have HLl : Hid (L.length = m) := hLl
  have HK : Hid (cs.length = k) := hk.symm
  have hk0' : 0 < k := by omega
  have hkb : k ≤ 1048578 := by omega
  have HI0 : Hid (StrsAt w a0 ws) := i0
  have HI1 : Hid (IntsAt w a1 l) := i1
  have HT : Hid (Tabs w) := hT
  have HS : Hid (2 ≤ w.heap.size) := hT.size
  generalize hSs : prT (L ++ [0]) = s0 at *
  generalize hEe : prE (L ++ [0]) = e0 at *
  clear hSs hEe hT0 hT0l hT0b hL hLl hcs hcl hcp hk hcut h0 h1 hb0 i0 i1 hT
  go_enter Tryd.func7, Tryd.ntmps7
  go_wp2_with fail
  refine Calls.mono (TO.out w HI0.out) ?_
  rintro e w1 ⟨v1, rfl, ho1, hb1⟩
  have HB1 : Hid (Below w.heap.size w w1) := hb1
  have HO1 : Hid (w1.ownsRow w.heap.size 30 4 v1 n (rowT T0)) := ho1
  have HZ1 : Hid (w.heap.size ≤ w1.heap.size) := hb1.size
  clear hb1 ho1
  go_wp2_with (at_builtin; refine wpList_append_lies _ rfl _ _ _ rfl w.heap.size 30 it _ 4 40 Tryd.underlying31 hi0 hz0 hz1 hz3 rfl (by omega) _ n (rowT T0) (by rfl) (by exact HO1.out.alloc _) ⟨w1.heap.size, 0, none⟩ 3 3 (rowT [tokA, tokB, tokC]) (by rfl) (by rfl) (World.news_of_block (cs := #[.string ⟨#[65]⟩, .int .i64 0, .int .i64 0, .int .i64 0, .string ⟨#[98, 101, 104, 105, 110, 100]⟩, .int .i64 0, .int .i64 0, .int .i64 0, .string ⟨#[116, 104, 105, 115]⟩, .int .i64 0, .int .i64 0, .int .i64 0]) (t := 30) (fr := (0, 0)) (heap_alloc_new w1 _)) (by simp [rowT, tokCells, Value.oneCell']) (by omega) (by unfold maxLen; omega) (by omega) (by have := HZ1.out; simp; omega) (w1.heap.size + 1) (by simp) ?_; intro g5 cap5 w2 ho2 hgr2 _ hlt2; obtain ⟨_, _, hv2, hc2, _, _⟩ := own_some ho2 (by omega); have hcap5 : n + 3 ≤ cap5 := (by cases hv2; exact hc2); have HO2 : Hid (w2.ownsRow w.heap.size 30 4 (.slice (some ⟨g5, 0, none⟩) (n + 3) cap5) (n + 3) (rowT T0 ++ rowT [tokA, tokB, tokC])) := ho2; have HB2 : Hid (Below w.heap.size w w2) := (HB1.out.alloc HZ1.out _).grown hgr2 (by have := HZ1.out; simp; omega) (fun k e => (slice_form HO1.out).choose_spec.choose_spec.2.2 k e |>.1); clear ho2 hgr2 hv2 hc2)
  go_wp2_with fail
  refine Calls.mono (GD.out w2 (HI1.out.under HB2.out)) ?_
  rintro e w3 ⟨v3, rfl, ho3, hb3⟩
  have HB3 : Hid (Below w.heap.size w w3) := HB2.out.trans (hb3.mono HB2.out.size)
  have HO2' : Hid (w3.ownsRow w.heap.size 30 4 (.slice (some ⟨g5, 0, none⟩) (n + 3) cap5) (n + 3) (rowT T0 ++ rowT [tokA, tokB, tokC])) := owns_under HO2.out hb3
  have HO3 : Hid (w3.ownsRow w2.heap.size 3 1 v3 m (L.map intV)) := ho3
  have HZ3 : Hid (w.heap.size ≤ w2.heap.size ∧ w2.heap.size ≤ w3.heap.size) := ⟨HB2.out.size, hb3.size⟩
  have Hg5 : Hid (g5 < w2.heap.size) := hlt2
  clear hb3 ho3 HB2 HO2 hlt2 HO1 HB1 HZ1
  go_wp2_with (at_builtin; refine wpList_append_lies _ rfl _ _ _ rfl w2.heap.size 3 ii _ 1 8 Tryd.underlying42 hj0 hy0 hy1 hy3 rfl (by omega) _ m (L.map intV) (by rfl) (by exact HO3.out.alloc _) ⟨w3.heap.size, 0, none⟩ 3 3 ([0, 71, 72].map intV) (by rfl) (by rfl) (World.news_of_block (cs := #[.int .i64 0, .int .i64 71, .int .i64 72]) (t := 3) (fr := (0, 0)) (heap_alloc_new w3 _)) (by simp [intV, Value.oneCell']) (by omega) (by unfold maxLen; omega) (by omega) (by have := HZ3.out.2; simp; omega) (w3.heap.size + 1) (by simp) ?_; intro g7 cap7 w4 ho4 hgr4 _ hlt4; obtain ⟨_, _, hv4, hc4, _, _⟩ := own_some ho4 (by omega); have hcap7 : m + 3 ≤ cap7 := (by cases hv4; exact hc4); have HO4 : Hid (w4.ownsRow w2.heap.size 3 1 (.slice (some ⟨g7, 0, none⟩) (m + 3) cap7) (m + 3) (L.map intV ++ [0, 71, 72].map intV)) := ho4; have HB34 : Hid (Below w2.heap.size w3 w4) := ((Below.refl _ w3).alloc HZ3.out.2 _).grown hgr4 (by have := HZ3.out.2; simp; omega) (fun k e => (slice_form HO3.out).choose_spec.choose_spec.2.2 k e |>.1); clear ho4 hgr4 hv4 hc4)
  have HB4 : Hid (Below w.heap.size w w4) := HB3.out.trans (HB34.out.mono HZ3.out.1)
  have HO5 : Hid (w4.ownsRow w.heap.size 30 4 (.slice (some ⟨g5, 0, none⟩) (n + 3) cap5) (n + 3) (rowT T0 ++ rowT [tokA, tokB, tokC])) := owns_same HO2'.out fun b hb => by cases hb; exact HB34.out.block g5 Hg5.out
  have HA4 : Hid (ToksAt w4 (some ⟨g5, 0, none⟩) (T0 ++ [tokA, tokB, tokC])) := by
    have h := HO5.out
    rw [← rowT_append] at h
    obtain ⟨a, c, e, _, hA⟩ := own_toks h
    cases e
    exact hA
  have HN4 : Hid (IntsAt w4 (some ⟨g7, 0, none⟩) (L ++ [0, 71, 72])) := by
    have h := HO4.out
    rw [← List.map_append] at h
    obtain ⟨a, c, e, _, hA⟩ := own_ints h
    cases e
    exact hA
  have IT : Hid (∀ wx, Below w4.heap.size w4 wx → ToksAt wx (some ⟨g5, 0, none⟩) (T0 ++ [tokA])) := fun wx hx i t ht => (HA4.out.under hx) i t (by
    have hlt := (List.getElem?_eq_some_iff.1 ht).1
    have e : T0 ++ [tokA, tokB, tokC] = (T0 ++ [tokA]) ++ [tokB, tokC] := by simp
    rw [e, List.getElem?_append_left hlt]
    exact ht)
  have IN : Hid (∀ wx, Below w4.heap.size w4 wx → IntsAt wx (some ⟨g7, 0, none⟩) (L ++ [0])) := fun wx hx i t ht => (HN4.out.under hx) i t (by
    have hlt := (List.getElem?_eq_some_iff.1 ht).1
    have e : L ++ [0, 71, 72] = (L ++ [0]) ++ [71, 72] := by simp
    rw [e, List.getElem?_append_left hlt]
    exact ht)
  clear HO2' HO3 HB34 hlt4 HB3 HO4 HO5
  go_wp2_with fail
  refine Calls.mono (PR.out w4 g7 cap7 (by omega) (IN.out w4 (Below.refl _ _))) ?_
  rintro e w5 ⟨rfl, hb5⟩
  have HP5 : Hid (Below w4.heap.size w4 w5) := hb5
  have HB5 : Hid (Below w.heap.size w w5) := HB4.out.trans (hb5.mono HB4.out.size)
  clear hb5
  go_wp2_with fail
  refine Calls.mono (DE.out w5 g5 cap5 (by omega) (IT.out w5 HP5.out) (HT.out.under HS.out HB5.out)) ?_
  rintro e w6 ⟨g11, cap11, rfl, hcap11, hg11, hg11', ho6, hb6⟩
  have HO6 : Hid (w6.ownsRow w5.heap.size 33 5 (.slice (some ⟨g11, 0, none⟩) k cap11) k (rowC cs)) := ho6
  have HP6 : Hid (Below w5.heap.size w5 w6) := hb6
  have Hg : Hid (w5.heap.size ≤ g11 ∧ g11 < w6.heap.size) := ⟨hg11, hg11'⟩
  clear ho6 hb6 hg11 hg11'
  go_wp2_with (at_builtin; refine wpList_append_lies _ rfl _ _ _ rfl w6.heap.size 33 ic _ 5 48 Tryd.underlying24 hk0 hx0 hx1 hx3 rfl (by omega) _ 0 [] (by rfl) (by exact World.ownsRow_nil _ _ _ _) ⟨g11, 0, none⟩ k cap11 (rowC cs) (by rfl) (by rw [rowC_len, HK.out]) (by intro j u hu; rw [Addr.add_lit, Nat.zero_add]; exact row_cells HO6.out j u hu) (by intro u hu; obtain ⟨x, _, hu2⟩ := List.mem_flatMap.1 hu; simp [codeCells, tokCells] at hu2; rcases hu2 with rfl | rfl | rfl | rfl | rfl <;> rfl) (by omega) (by unfold maxLen; omega) (by omega) (by simp) w6.heap.size (by simp) ?_; intro gk capk w7 ho7 hgr7 hat7 hlt7; have hgk : gk = w6.heap.size := hat7.elim (fun h => (by cases h)) id; subst hgk; obtain ⟨_, _, hv7, hc7, _, _⟩ := own_some ho7 (by omega); have hcapk : k ≤ capk := (by cases hv7; omega); have HO7 : Hid (w7.ownsRow w6.heap.size 33 5 (.slice (some ⟨w6.heap.size, 0, none⟩) (0 + k) capk) (0 + k) ([] ++ rowC cs)) := ho7; have HP7 : Hid (Below w6.heap.size w6 w7) := (Below.refl _ w6).grown hgr7 (Nat.le_refl _) (fun k e => (by cases e)); clear ho7 hgr7 hv7 hc7 hat7 hlt7)
  generalize hgk : w6.heap.size = gk at *
  have HOk : Hid (w7.ownsRow gk 33 5 (.slice (some ⟨gk, 0, none⟩) k capk) k (rowC cs)) := by have h := HO7.out; rwa [Nat.zero_add, List.nil_append] at h
  have HOf : Hid (w7.ownsRow w5.heap.size 33 5 (.slice (some ⟨g11, 0, none⟩) k cap11) k (rowC cs)) := owns_same HO6.out fun b hb => by cases hb; exact HP7.out.block g11 Hg.out.2
  have HQ7 : Hid (Below w5.heap.size w5 w7) := HP6.out.trans (HP7.out.mono (by have := Hg.out; omega))
  clear hgk HO7 HP7 HO6 HP6
  go_loopw [14] (fun i wx => ∃ j : Nat, j ≤ k ∧ i = .int .i64 j ∧ Hid (wx.ownsRow w5.heap.size 33 5 (.slice (some ⟨g11, 0, none⟩) k cap11) k (rowC (marksC cs j))) ∧ Hid (wx.ownsRow gk 33 5 (.slice (some ⟨gk, 0, none⟩) k capk) k (rowC cs)) ∧ Hid (Below w5.heap.size w5 wx)) (fun i _ => k - (intOf i).toNat)
  case atStart => exact ⟨0, Nat.zero_le _, rfl, HOf.out, HOk.out, HQ7.out⟩
  case round =>
    clear HOf HOk HQ7
    obtain ⟨j, hj, rfl, hF, hK, hQ⟩ := hrel
    by_cases hlt : j < k
    · have n1 : (j : Int) < (k : Int) := by omega
      have hml : (marksC cs j).length = k := by rw [marksC_len cs j (by rw [HK.out]; exact hj), HK.out]
      obtain ⟨y, hy⟩ : ∃ y, (marksC cs j)[j]? = some y := ⟨(marksC cs j)[j]'(by rw [hml]; exact hlt), List.getElem?_eq_getElem _⟩
      obtain ⟨y0, y1, y2, y3, y4⟩ := row_code hF.out j y hy
      have yf := fun i => row_free hF.out i
      have F2 : Hid ((putC wr g11 j (mk1 j)).ownsRow w5.heap.size 33 5 (.slice (some ⟨g11, 0, none⟩) k cap11) k (rowC (marksC cs (j + 1)))) := by
        show World.ownsRow _ _ _ _ _ _ _
        rw [marksC_succ cs j (by rw [HK.out]; exact hlt)]
        exact owns_put hF.out j (mk1 j) (by rw [hml]; exact hlt)
      have K2 : Hid ((putC wr g11 j (mk1 j)).ownsRow gk 33 5 (.slice (some ⟨gk, 0, none⟩) k capk) k (rowC cs)) := owns_far hK.out (fun e => by have h := Hg.out.2; have e2 : gk = g11 := Option.some.inj e; omega) j (mk1 j)
      have Q2 : Hid (Below w5.heap.size w5 (putC wr g11 j (mk1 j))) := below_put hQ.out Hg.out.1 j (mk1 j)
      clear hy hml
      go_wp2
      exact ⟨⟨j + 1, by omega, by go_num, F2.out, K2.out, Q2.out⟩, by simp [intOf]; omega⟩
    · have n1 : ¬ (j : Int) < (k : Int) := by omega
      obtain rfl : j = k := by omega
      have HF8 : Hid (wr.ownsRow w5.heap.size 33 5 (.slice (some ⟨g11, 0, none⟩) j cap11) j (rowC (marksC cs j))) := hF.out
      have HK8 : Hid (wr.ownsRow gk 33 5 (.slice (some ⟨gk, 0, none⟩) j capk) j (rowC cs)) := hK.out
      have HQ8 : Hid (Below w5.heap.size w5 wr) := hQ.out
      clear hF hK hQ
      obtain ⟨w8, hw8⟩ : ∃ w8, w8 = wr := ⟨_, rfl⟩
      subst hw8
      go_wp2_with fail
      go_loopw [15, 16] (fun v i wx => ∃ (q : Nat) (av : Option Addr) (cap : Nat), q ≤ 64 ∧ v = .slice av q cap ∧ i = .int .i64 q ∧ Hid (wx.ownsRow w8.heap.size 33 5 (.slice av q cap) q (rowC (moreC q))) ∧ Hid (Below w8.heap.size w8 wx)) (fun _ i _ => 64 - (intOf i).toNat)
      case atStart => exact ⟨0, none, 0, by omega, rfl, rfl, World.ownsRow_nil _ _ _ _, Below.refl _ _⟩
      case round =>
        obtain ⟨q, av, cap, hq, rfl, rfl, hR, hb⟩ := hrel
        have hsz : Hid (w8.heap.size ≤ wr.heap.size) := hb.out.size
        by_cases hlt : q < 64
        · have n2 : (q : Int) < 64 := by omega
          go_wp2_with (at_builtin; refine wpList_append_more (w := wr.alloc (.cells #[.int .i64 (-100000 - (q : Int)), .string ⟨#[]⟩, .int .i64 0, .int .i64 0, .int .i64 0] 33)) rfl _ _ _ rfl w8.heap.size 33 ic _ 5 48 Tryd.underlying24 hk0 hx0 hx1 hx3 rfl (by omega) _ q (rowC (moreC q)) (by rfl) (by exact hR.out.alloc _) (some ⟨wr.heap.size, 0, none⟩) 1 1 (rowC [mk2 q]) (by rfl) (by rfl) (by intro i u hu; refine ⟨_, rfl, ?_⟩; exact World.news_of_block (cs := #[.int .i64 (-100000 - (q : Int)), .string ⟨#[]⟩, .int .i64 0, .int .i64 0, .int .i64 0]) (t := 33) (fr := (0, 0)) (heap_alloc_new wr _) i u hu) (by simp [rowC, codeCells, tokCells, Value.oneCell']) (by unfold maxLen; omega) (by omega) (by have := hsz.out; simp; omega) ?_; intro a9 c9 w9 ho9 hb9; have HO9 : Hid (w9.ownsRow w8.heap.size 33 5 (.slice a9 (q + 1) c9) (q + 1) (rowC (moreC q) ++ rowC [mk2 q])) := ho9; have HB9 : Hid (Below w8.heap.size w8 w9) := (hb.out.alloc hsz.out _).trans hb9; clear ho9 hb9)
          go_wp2
          have hO9 := HO9.out
          rw [← rowC_append, ← moreC_succ] at hO9
          exact ⟨⟨q + 1, a9, c9, by omega, rfl, by go_num, hO9, HB9.out⟩, by simp [intOf]; omega⟩
        · have n2 : ¬ (q : Int) < 64 := by omega
          obtain rfl : q = 64 := by omega
          obtain ⟨gm, _, hvm, hcm, hgm, hgm'⟩ := own_some hR.out (by omega)
          cases hvm
          have HF9 : Hid (wr.ownsRow w5.heap.size 33 5 (.slice (some ⟨g11, 0, none⟩) j cap11) j (rowC (marksC cs j))) := owns_under HF8.out hb.out
          have HK9 : Hid (wr.ownsRow gk 33 5 (.slice (some ⟨gk, 0, none⟩) j capk) j (rowC cs)) := owns_under HK8.out hb.out
          have hz58 : Hid (w5.heap.size ≤ w8.heap.size) := HQ8.out.size
          have HQ9 : Hid (Below w5.heap.size w5 wr) := HQ8.out.trans (hb.out.mono hz58.out)
          obtain ⟨gg, capg, w9, hr9, hog, hof, hgrow, _⟩ := run_append_stays (P := Tryd.prog) wr 24 24 w5.heap.size 33 ic _ 5 48 Tryd.underlying24 hk0 hx0 hx1 hx3 rfl (by omega) g11 j cap11 (rowC (marksC cs j)) HF9.out ⟨gm, 0, none⟩ 64 cap (rowC (moreC 64)) (by rw [rowC_len]; simp [moreC]) (fun i u hu => by rw [Addr.add_lit, Nat.zero_add]; exact row_cells hR.out i u hu) (by intro u hu; obtain ⟨x, _, hu2⟩ := List.mem_flatMap.1 hu; simp [codeCells, tokCells] at hu2; rcases hu2 with rfl | rfl | rfl | rfl | rfl <;> rfl) (by omega) (by unfold maxLen; omega) (by omega) (by have h1 := hz58.out; have h2 := hsz.out; omega)
          have HG9 : Hid (w9.ownsRow w5.heap.size 33 5 (.slice (some ⟨gg, 0, none⟩) (j + 64) capg) (j + 64) (rowC (marksC cs j) ++ rowC (moreC 64))) := hog
          have HF10 : Hid (w9.ownsRow w5.heap.size 33 5 (.slice (some ⟨g11, 0, none⟩) j cap11) j (rowC (marksC cs j))) := hof
          have HK10 : Hid (w9.ownsRow gk 33 5 (.slice (some ⟨gk, 0, none⟩) j capk) j (rowC cs)) := owns_same HK9.out fun b hb' => by
            cases hb'
            obtain ⟨_, _, e1, _, _, h3⟩ := own_some HK9.out hk0'
            cases e1
            exact hgrow.block gk h3 (fun e => by have h := Hg.out.2; have e2 : gk = g11 := Option.some.inj e; omega)
          have HQ10 : Hid (Below w5.heap.size w5 w9) := HQ9.out.grown hgrow (by have h1 := hz58.out; have h2 := hsz.out; omega) (fun b e => by cases e; exact Hg.out.1)
          have hcapg : j + 64 ≤ capg := by obtain ⟨_, _, e1, h2, _, _⟩ := own_some HG9.out (by omega); cases e1; exact h2
          clear hog hof hgrow HF9 HK9 HQ9 hgm hgm' hcm
          go_wp2_with (at_builtin; refine wpList_append_run rfl _ _ _ rfl _ _ _ _ (by rfl) (by rfl) hr9 ?_)
          clear hr9 hR hb HF8 HK8 HQ8
          have HW9 : Hid (Below w.heap.size w w9) := HB5.out.trans (HQ10.out.mono HB5.out.size)
          have HP9 : Hid (Below w4.heap.size w4 w9) := HP5.out.trans (HQ10.out.mono HP5.out.size)
          go_wp2_with fail
          refine Calls.mono (DE.out w9 g5 cap5 (by omega) (IT.out w9 HP9.out) (HT.out.under HS.out HW9.out)) ?_
          rintro e w10 ⟨g18, cap18, rfl, hcap18, hg18, hg18', ho10, hb10⟩
          have HS10 : Hid (w10.ownsRow w9.heap.size 33 5 (.slice (some ⟨g18, 0, none⟩) j cap18) j (rowC cs)) := ho10
          have HX10 : Hid (Below w9.heap.size w9 w10) := hb10
          have Hg18 : Hid (w9.heap.size ≤ g18) := hg18
          have HP10 : Hid (Below w4.heap.size w4 w10) := HP9.out.trans (hb10.mono HP9.out.size)
          clear ho10 hb10 hg18 hg18'
          go_wp2_with fail
          refine Calls.mono (PR.out w10 g7 cap7 (by omega) (IN.out w10 HP10.out)) ?_
          rintro e w11 ⟨rfl, hb11⟩
          have HS11 : Hid (w11.ownsRow w9.heap.size 33 5 (.slice (some ⟨g18, 0, none⟩) j cap18) j (rowC cs)) := owns_under HS10.out hb11
          have HX11 : Hid (Below w9.heap.size w9 w11) := HX10.out.trans (hb11.mono HX10.out.size)
          clear hb11 HX10 HS10 HP10
          have S11 : Hid _ := SA.out w11 (some ⟨g18, 0, none⟩) (some ⟨gk, 0, none⟩) cap18 capk hcap18 hcapk (by obtain ⟨_, _, e1, _, hC⟩ := own_codes HS11.out; cases e1; exact hC) (by obtain ⟨_, _, e1, _, hC⟩ := own_codes (owns_under HK10.out HX11.out); cases e1; exact hC)
          go_wp2_with fail
          refine Calls.mono S11.out ?_
          rintro e w12 ⟨rfl, hb12⟩
          have HS12 : Hid (w12.ownsRow w9.heap.size 33 5 (.slice (some ⟨g18, 0, none⟩) j cap18) j (rowC cs)) := owns_under HS11.out hb12
          have HX12 : Hid (Below w9.heap.size w9 w12) := HX11.out.trans (hb12.mono HX11.out.size)
          clear hb12 HX11 HS11 S11
          have hjne : ((j : Int) == 0) = false := beq_eq_false_iff_ne.2 (by omega)
          have hjne2 : ¬ (j : Int) = 0 := by omega
          have hjne3 : ¬ j = 0 := by omega
          go_wp2_with fail
          go_loopw [22] (fun i wx => ∃ (q : Nat) (X : List (Int × Tok)), q ≤ j ∧ i = .int .i64 q ∧ Hid (X.length = j) ∧ Hid (wx.ownsRow w9.heap.size 33 5 (.slice (some ⟨g18, 0, none⟩) j cap18) j (rowC X)) ∧ Hid (Below w9.heap.size w9 wx)) (fun i _ => j - (intOf i).toNat)
          case atStart => exact ⟨0, cs, Nat.zero_le _, rfl, HK.out, HS12.out, HX12.out⟩
          case round =>
            obtain ⟨q, X, hq, rfl, hXl, hR, hb⟩ := hrel
            by_cases hlt : q < j
            · have n3 : (q : Int) < (j : Int) := by omega
              obtain ⟨y, hy⟩ : ∃ y, X[q]? = some y := ⟨X[q]'(by rw [hXl.out]; exact hlt), List.getElem?_eq_getElem _⟩
              obtain ⟨y0, y1, y2, y3, y4⟩ := row_code hR.out q y hy
              have yf := fun i => row_free hR.out i
              have R2 : Hid ((putC wr g18 q (-200, tok0)).ownsRow w9.heap.size 33 5 (.slice (some ⟨g18, 0, none⟩) j cap18) j (rowC (X.set q (-200, tok0)))) := owns_put hR.out q (-200, tok0) (by rw [hXl.out]; exact hlt)
              have B2 : Hid (Below w9.heap.size w9 (putC wr g18 q (-200, tok0))) := below_put hb.out Hg18.out q (-200, tok0)
              have L2 : Hid ((X.set q (-200, tok0)).length = j) := by show _ = _; rw [List.length_set]; exact hXl.out
              clear hy
              go_wp2
              exact ⟨⟨q + 1, X.set q (-200, tok0), by omega, by go_num, L2.out, R2.out, B2.out⟩, by simp [intOf]; omega⟩
            · have n3 : ¬ (q : Int) < (j : Int) := by omega
              have HF13 : Hid (wr.ownsRow w5.heap.size 33 5 (.slice (some ⟨g11, 0, none⟩) j cap11) j (rowC (marksC cs j))) := owns_under HF10.out hb.out
              have HG13 : Hid (wr.ownsRow w5.heap.size 33 5 (.slice (some ⟨gg, 0, none⟩) (j + 64) capg) (j + 64) (rowC (marksC cs j ++ moreC 64))) := by
                show World.ownsRow _ _ _ _ _ _ _
                rw [rowC_append]
                exact owns_under HG9.out hb.out
              have HP13 : Hid (Below w4.heap.size w4 wr) := HP9.out.trans (hb.out.mono HP9.out.size)
              clear hR hb hXl HS12 HX12
              obtain ⟨w13, hw13⟩ : ∃ w13, w13 = wr := ⟨_, rfl⟩
              subst hw13
              go_wp2_with fail
              go_loop [23] (fun i => ∃ q : Nat, q ≤ j ∧ i = .int .i64 q) (fun i => j - (intOf i).toNat)
              case atStart => exact ⟨0, Nat.zero_le _, rfl⟩
              case round =>
                obtain ⟨q, hq, rfl⟩ := hrel
                by_cases hlt : q < j
                · have n4 : (q : Int) < (j : Int) := by omega
                  obtain ⟨y0, _⟩ := row_code HF13.out q (mk1 q) (marksC_at cs j q hlt)
                  obtain ⟨z0, _⟩ := row_code HG13.out q (mk1 q) (by rw [List.getElem?_append_left (by rw [marksC_len cs j (by rw [HK.out]; exact Nat.le_refl _), HK.out]; exact hlt)]; exact marksC_at cs j q hlt)
                  have y0' : w13.cell? ⟨g11, q * 5, none⟩ = some (.int .i64 (-100 - (q : Int))) := y0
                  have z0' : w13.cell? ⟨gg, q * 5, none⟩ = some (.int .i64 (-100 - (q : Int))) := z0
                  clear y0 z0
                  go_wp2
                  exact ⟨⟨q + 1, by omega, by go_num⟩, by simp [intOf]; omega⟩
                · have n4 : ¬ (q : Int) < (j : Int) := by omega
                  go_wp2_with fail
                  go_loop [24] (fun i => ∃ r : Nat, r ≤ 64 ∧ i = .int .i64 r) (fun i => 64 - (intOf i).toNat)
                  case atStart => exact ⟨0, Nat.zero_le _, rfl⟩
                  case round =>
                    obtain ⟨r, hr, rfl⟩ := hrel
                    by_cases hlt : r < 64
                    · have n5 : (r : Int) < 64 := by omega
                      obtain ⟨y0, _⟩ := row_code HG13.out (j + r) (mk2 r) (by
                        have hml := marksC_len cs j (by rw [HK.out]; exact Nat.le_refl _)
                        rw [HK.out] at hml
                        rw [List.getElem?_append_right (by omega), hml, Nat.add_sub_cancel_left]
                        exact moreC_at 64 r hlt)
                      have y0' : w13.cell? ⟨gg, (j + r) * 5, none⟩ = some (.int .i64 (-100000 - (r : Int))) := y0
                      clear y0
                      go_wp2
                      exact ⟨⟨r + 1, by omega, by go_num⟩, by simp [intOf]; omega⟩
                    · have n5 : ¬ (r : Int) < 64 := by omega
                      go_wp2_with fail
                      have HW13 : Hid (Below w.heap.size w w13) := HB4.out.trans (HP13.out.mono HB4.out.size)
                      refine Calls.mono (TO.out w13 (HI0.out.under HW13.out)) ?_
                      rintro e w14 ⟨v14, rfl, ho14, hb14⟩
                      obtain ⟨a14, c14, rfl, hc14, hT14⟩ := own_toks ho14
                      have HW : Hid (ToksAt w14 a14 T0) := hT14
                      have HP14 : Hid (Below w4.heap.size w4 w14) := HP13.out.trans (hb14.mono HP13.out.size)
                      clear ho14 hb14 hT14 HF13 HG13 HP13 HW13
                      go_wp2_with fail
                      go_loopw [26] (fun i wx => ∃ q : Nat, q ≤ n ∧ i = .int .i64 q ∧ Hid (Below w14.heap.size w14 wx)) (fun i _ => n - (intOf i).toNat)
                      case atStart => exact ⟨0, Nat.zero_le _, rfl, Below.refl _ _⟩
                      case round =>
                        obtain ⟨q, hq, rfl, hb⟩ := hrel
                        by_cases hlt : q < n
                        · have n6 : (q : Int) < (n : Int) := by omega
                          obtain ⟨t, ht⟩ : ∃ t, T0[q]? = some t := ⟨T0[q]'(by rw [HT0l.out]; exact hlt), List.getElem?_eq_getElem _⟩
                          have HPr : Hid (Below w4.heap.size w4 wr) := HP14.out.trans (hb.out.mono HP14.out.size)
                          obtain ⟨g1, o1, e1, x0, x1, x2, x3⟩ := (HA4.out.under HPr.out) q t (by rw [List.getElem?_append_left (by rw [HT0l.out]; exact hlt)]; exact ht)
                          cases e1
                          obtain ⟨g2, o2, rfl, y0, y1, y2, y3⟩ := (HW.out.under hb.out) q t ht
                          simp only [Nat.zero_add] at x0 x1 x2 x3
                          clear ht HPr
                          go_wp2_with fail
                          go_quiet (fail)
                          have Bq : Hid (Below w14.heap.size w14 (wr.drewN nq)) := below_drewN hb.out nq
                          generalize wr.drewN nq = wq at *
                          go_wp2
                          exact ⟨⟨q + 1, by omega, by go_num, Bq.out⟩, by simp [intOf]; omega⟩
                        · have n6 : ¬ (q : Int) < (n : Int) := by omega
                          have HP15 : Hid (Below w4.heap.size w4 wr) := HP14.out.trans (hb.out.mono HP14.out.size)
                          clear hb HW HP14
                          obtain ⟨w15, hw15⟩ : ∃ w15, w15 = wr := ⟨_, rfl⟩
                          subst hw15
                          go_wp2_with fail
                          have HW15 : Hid (Below w.heap.size w w15) := HB4.out.trans (HP15.out.mono HB4.out.size)
                          refine Calls.mono (GD.out w15 (HI1.out.under HW15.out)) ?_
                          rintro e w16 ⟨v16, rfl, ho16, hb16⟩
                          obtain ⟨a16, c16, rfl, hc16, hT16⟩ := own_ints ho16
                          have HW : Hid (IntsAt w16 a16 L) := hT16
                          have HP16 : Hid (Below w4.heap.size w4 w16) := HP15.out.trans (hb16.mono HP15.out.size)
                          clear ho16 hb16 hT16 HP15 HW15
                          go_wp2_with fail
                          go_loopw [28] (fun i wx => ∃ q : Nat, q ≤ m ∧ i = .int .i64 q ∧ Hid (Below w16.heap.size w16 wx)) (fun i _ => m - (intOf i).toNat)
                          case atStart => exact ⟨0, Nat.zero_le _, rfl, Below.refl _ _⟩
                          case round =>
                            obtain ⟨q, hq, rfl, hb⟩ := hrel
                            have HPr : Hid (Below w4.heap.size w4 wr) := HP16.out.trans (hb.out.mono HP16.out.size)
                            by_cases hlt : q < m
                            · have n7 : (q : Int) < (m : Int) := by omega
                              obtain ⟨t, ht⟩ : ∃ t, L[q]? = some t := ⟨L[q]'(by rw [HLl.out]; exact hlt), List.getElem?_eq_getElem _⟩
                              obtain ⟨g1, o1, e1, x0⟩ := (HN4.out.under HPr.out) q t (by rw [List.getElem?_append_left (by rw [HLl.out]; exact hlt)]; exact ht)
                              cases e1
                              obtain ⟨g2, o2, rfl, y0⟩ := (HW.out.under hb.out) q t ht
                              simp only [Nat.zero_add] at x0
                              clear ht HPr
                              go_wp2_with fail
                              go_quiet (fail)
                              have Bq : Hid (Below w16.heap.size w16 (wr.drewN nq)) := below_drewN hb.out nq
                              generalize wr.drewN nq = wq at *
                              go_wp2
                              exact ⟨⟨q + 1, by omega, by go_num, Bq.out⟩, by simp [intOf]; omega⟩
                            · have n7 : ¬ (q : Int) < (m : Int) := by omega
                              have hA := HA4.out.under HPr.out
                              have hN := HN4.out.under HPr.out
                              have tl := HT0l.out
                              have ll := HLl.out
                              obtain ⟨g1, o1, e1, x0, _⟩ := hA n tokA (by rw [List.getElem?_append_right (by omega), tl, Nat.sub_self]; rfl)
                              cases e1
                              obtain ⟨g1, o1, e1, x1, _⟩ := hA (n + 1) tokB (by rw [List.getElem?_append_right (by omega), tl, Nat.add_sub_cancel_left]; rfl)
                              cases e1
                              obtain ⟨g1, o1, e1, x2, _⟩ := hA (n + 2) tokC (by rw [List.getElem?_append_right (by omega), tl, Nat.add_sub_cancel_left]; rfl)
                              cases e1
                              obtain ⟨g1, o1, e1, y0⟩ := hN m 0 (by rw [List.getElem?_append_right (by omega), ll, Nat.sub_self]; rfl)
                              cases e1
                              obtain ⟨g1, o1, e1, y1⟩ := hN (m + 1) 71 (by rw [List.getElem?_append_right (by omega), ll, Nat.add_sub_cancel_left]; rfl)
                              cases e1
                              obtain ⟨g1, o1, e1, y2⟩ := hN (m + 2) 72 (by rw [List.getElem?_append_right (by omega), ll, Nat.add_sub_cancel_left]; rfl)
                              cases e1
                              simp only [Nat.zero_add, tokA, tokB, tokC] at x0 x1 x2 y0 y1 y2
                              clear hA hN tl ll
                              go_wp2
                              go_ret
                              exact ⟨rfl, HB4.out.trans (HPr.out.mono HB4.out.size)⟩
end Go.Proofs.YtlhdkhjajcfdoaaDoor
