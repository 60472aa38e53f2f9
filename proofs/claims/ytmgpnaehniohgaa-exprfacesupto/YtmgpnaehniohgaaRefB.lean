/- The document's Places, Join, Is. -/
import Derived.Test.YtmgpnaehniohgaaPick
namespace Go.Proofs.Ytmgpnaehniohgaa
open Go.RowKit Go.Deep

theorem ints_cut {w : World} {a : Option Addr} {l : List Int} {n c i p : Nat} (h : IntsAt w a l) (hl : l.length = n) (hr : n ≤ c) : IntsAt w (if c = i then a else Option.map (fun x => x.add i) a) ((l.drop i).take p) := ints_take (ints_rest h hl hr)
theorem plc_mem {l p : List Int} {x : Int} : x ∈ plc l p ↔ ∃ i : Nat, x = i ∧ i + p.length ≤ l.length ∧ (l.drop i).take p.length = p := by
  constructor
  · exact plc_at
  · rintro ⟨i, rfl, h1, h2⟩
    have e : l = l.take i ++ (p ++ (l.drop i).drop p.length) := by
      conv => lhs; rw [← List.take_append_drop i l, ← List.take_append_drop p.length (l.drop i), h2]
    have := plc_has e
    rw [List.length_take, Nat.min_eq_left (by omega)] at this
    exact this

set_option maxRecDepth 100000 in
set_option maxHeartbeats 8000000 in
theorem rplaces_any (w : World) (a b : Option Addr) (ca cb : Nat) (l p : List Int) (n m : Nat) (hl : l.length = n) (hp : p.length = m) (hca : n ≤ ca) (hn : n ≤ 17592186043900) (hm : m ≤ 17592186043900) (hA : IntsAt w a l) (hB : IntsAt w b p) :
    Calls Try.prog 18 #[.slice a n ca, .slice b m cb] w fun e w' => Below w.heap.size w w' ∧ ∃ ao cap, e = .returned (.slice ao (plc l p).length cap) ∧ IntsAt w' ao (plc l p) := by
  obtain ⟨i0, hi0, hz0, hz1, hz3⟩ := info_parts infoI
  have HA : Hid (IntsAt w a l) := hA
  have HB : Hid (IntsAt w b p) := hB
  have HL : Hid (l.length = n) := hl
  have HP : Hid (p.length = m) := hp
  clear hA hB hl hp
  go_enter Try.func18, Try.ntmps18
  go_wp2_with fail
  go_loopw [5, 6] (fun v i wx => ∃ (j k : Nat) (ao : Option Addr) (cap : Nat) (out : List Int), j ≤ n + 1 ∧ k ≤ j ∧ i = .int .i64 j ∧ v = .slice ao k cap ∧ Hid (out.length = k) ∧ Hid (wx.ownsRow w.heap.size 3 1 (.slice ao k cap) k (out.map intV)) ∧ Hid (out.Pairwise (· < ·)) ∧ Hid (∀ x, x ∈ out ↔ ∃ i : Nat, x = i ∧ i < j ∧ i + m ≤ n ∧ (l.drop i).take m = p) ∧ Hid (Below w.heap.size w wx)) (fun _ i _ => n + 1 - (intOf i).toNat)
  case atStart => exact ⟨0, 0, none, 0, [], Nat.zero_le _, Nat.le_refl _, rfl, rfl, rfl, World.ownsRow_nil _ _ _ _, List.Pairwise.nil, fun x => by simp, Below.refl _ _⟩
  case round =>
    obtain ⟨j, k, ao, cap, out, hj, hk, rfl, rfl, HO, HW, HPw, HM, hb⟩ := hrel
    have hs0 : w.heap.size ≤ wr.heap.size := hb.out.size
    by_cases hlt : j + m ≤ n
    · have y1 : (j : Int) + (m : Int) ≤ (n : Int) := by omega
      have y2 : decide ((n : Int) < (j : Int) + (m : Int)) = false := decide_eq_false (by omega)
      have y4 : IntKind.i64.wrap ((j : Int) + (m : Int)) = (j : Int) + (m : Int) := by rw [IntWalk.i64_in _ (by omega)]
      have y5 : (0 : Int) ≤ (j : Int) + (m : Int) := by omega
      have y6 : ((j : Int) + (m : Int)).toNat = j + m := by omega
      have y3 : (j : Int) + (m : Int) ≤ (ca : Int) := by omega
      have hcut : ((l.drop j).take m).length = m := by rw [List.length_take, List.length_drop, HL.out]; omega
      obtain ⟨bb, hbb⟩ : ∃ bb, bb = decide ((l.drop j).take m = p) := ⟨_, rfl⟩
      have EQ : Hid (∀ X Y, IntsAt wr X ((l.drop j).take m) → Calls Try.prog 14 #[.slice X m Y, .slice b m cb] wr fun e w' => e = .returned (.bool bb) ∧ ∃ k, w' = wr.drewN k) := fun X Y hX => by
        rw [hbb]
        exact requal_any wr X b Y cb ((l.drop j).take m) p m m hcut HP.out (by omega) (by omega) hX (HB.out.under hb.out)
      have IC := ints_cut (i := j) (p := m) (HA.out.under hb.out) HL.out hca
      have C1 : Hid (ca = j → IntsAt wr a ((l.drop j).take m)) := fun e => by rw [if_pos e] at IC; exact IC
      have C2 : Hid (¬ ca = j → IntsAt wr (Option.map (fun x => x.add j) a) ((l.drop j).take m)) := fun e => by rw [if_neg e] at IC; exact IC
      clear hcut IC
      by_cases hin : (l.drop j).take m = p
      · have h1 : bb = true := by rw [hbb]; exact decide_eq_true hin
        subst h1
        clear hbb
        have HM2 : Hid (∀ x, x ∈ out ++ [(j : Int)] ↔ ∃ i : Nat, x = i ∧ i < j + 1 ∧ i + m ≤ n ∧ (l.drop i).take m = p) := fun x => by
          rw [List.mem_append, HM.out, List.mem_singleton]
          constructor
          · rintro (⟨i, e, h2, h3⟩ | h)
            · exact ⟨i, e, by omega, h3⟩
            · exact ⟨j, h, by omega, hlt, hin⟩
          · rintro ⟨i, e, h2, h3⟩
            by_cases hij : i = j
            · subst hij; exact .inr e
            · exact .inl ⟨i, e, by omega, h3⟩
        have HP2 : Hid ((out ++ [(j : Int)]).Pairwise (· < ·)) := List.pairwise_append.2 ⟨HPw.out, List.pairwise_singleton _ _, fun x hx y hy => by
          obtain ⟨i, e, h2, _⟩ := (HM.out x).1 hx
          rw [List.mem_singleton.1 hy, e]
          omega⟩
        clear hin HM HPw
        by_cases hcj : ca = j
        · subst hcj
          go_wp2_with fail
          refine Calls.mono (EQ.out _ _ (C1.out trivial)) ?_
          rintro e w' ⟨rfl, d, hw⟩
          subst w'
          have HWd : Hid ((wr.drewN d).ownsRow w.heap.size 3 1 (.slice ao k cap) k (out.map intV)) := HW.out
          have hbd : Hid (Below w.heap.size w (wr.drewN d)) := hb.out.trans ⟨rfl, rfl, rfl, Nat.le_refl _, fun _ _ => rfl⟩
          have hsd : w.heap.size ≤ (wr.drewN d).heap.size := hs0
          clear EQ C1 C2
          generalize wr.drewN d = w3 at *
          go_wp2_with (at_builtin; refine wpList_append_more (w := w3.alloc (.cells #[.int .i64 (ca : Int)] 3)) rfl _ _ _ rfl w.heap.size 3 i0 _ 1 8 Try.underlying22 hi0 hz0 hz1 hz3 rfl (by omega) _ k (out.map intV) (by rfl) (by exact HWd.out.alloc _) (some ⟨w3.heap.size, 0, none⟩) 1 1 [.int .i64 (ca : Int)] (by rfl) (by rfl) (by exact (row_new w3 [.int .i64 (ca : Int)] 3 _ rfl).news) (by simp [Value.oneCell']) (by unfold maxLen; omega) (by omega) (by simp; omega) ?_; intro a2 c2 w2 ho hb2; have HO3 : Hid (w2.ownsRow w.heap.size 3 1 (.slice a2 (k + 1) c2) (k + 1) (out.map intV ++ [.int .i64 (ca : Int)])) := ho; have HB3 : Hid (Below w.heap.size w w2) := hbd.out.trans (((Below.refl _ _).alloc hsd _).trans hb2); clear ho hb2)
          go_wp2
          refine ⟨⟨ca + 1, k + 1, _, _, out ++ [(ca : Int)], by omega, by omega, by go_num, rfl, by show _ = _; simp [HO.out], ?_, HP2.out, HM2.out, HB3.out⟩, by simp [intOf]; omega⟩
          show World.ownsRow _ _ _ _ _ _ _
          rw [List.map_append]
          exact HO3.out
        · go_wp2_with fail
          refine Calls.mono (EQ.out _ _ (C2.out hcj)) ?_
          rintro e w' ⟨rfl, d, hw⟩
          subst w'
          have HWd : Hid ((wr.drewN d).ownsRow w.heap.size 3 1 (.slice ao k cap) k (out.map intV)) := HW.out
          have hbd : Hid (Below w.heap.size w (wr.drewN d)) := hb.out.trans ⟨rfl, rfl, rfl, Nat.le_refl _, fun _ _ => rfl⟩
          have hsd : w.heap.size ≤ (wr.drewN d).heap.size := hs0
          clear EQ C1 C2
          generalize wr.drewN d = w3 at *
          go_wp2_with (at_builtin; refine wpList_append_more (w := w3.alloc (.cells #[.int .i64 (j : Int)] 3)) rfl _ _ _ rfl w.heap.size 3 i0 _ 1 8 Try.underlying22 hi0 hz0 hz1 hz3 rfl (by omega) _ k (out.map intV) (by rfl) (by exact HWd.out.alloc _) (some ⟨w3.heap.size, 0, none⟩) 1 1 [.int .i64 (j : Int)] (by rfl) (by rfl) (by exact (row_new w3 [.int .i64 (j : Int)] 3 _ rfl).news) (by simp [Value.oneCell']) (by unfold maxLen; omega) (by omega) (by simp; omega) ?_; intro a2 c2 w2 ho hb2; have HO3 : Hid (w2.ownsRow w.heap.size 3 1 (.slice a2 (k + 1) c2) (k + 1) (out.map intV ++ [.int .i64 (j : Int)])) := ho; have HB3 : Hid (Below w.heap.size w w2) := hbd.out.trans (((Below.refl _ _).alloc hsd _).trans hb2); clear ho hb2)
          go_wp2
          refine ⟨⟨j + 1, k + 1, _, _, out ++ [(j : Int)], by omega, by omega, by go_num, rfl, by show _ = _; simp [HO.out], ?_, HP2.out, HM2.out, HB3.out⟩, by simp [intOf]; omega⟩
          show World.ownsRow _ _ _ _ _ _ _
          rw [List.map_append]
          exact HO3.out
      · have h1 : bb = false := by rw [hbb]; exact decide_eq_false hin
        subst h1
        clear hbb
        have HM2 : Hid (∀ x, x ∈ out ↔ ∃ i : Nat, x = i ∧ i < j + 1 ∧ i + m ≤ n ∧ (l.drop i).take m = p) := fun x => by
          rw [HM.out]
          constructor
          · rintro ⟨i, e, h2, h3⟩
            exact ⟨i, e, by omega, h3⟩
          · rintro ⟨i, e, h2, h3⟩
            by_cases hij : i = j
            · subst hij; exact absurd h3.2 hin
            · exact ⟨i, e, by omega, h3⟩
        clear hin HM
        by_cases hcj : ca = j
        · subst hcj
          go_wp2_with fail
          refine Calls.mono (EQ.out _ _ (C1.out trivial)) ?_
          rintro e w' ⟨rfl, d, hw⟩
          subst w'
          have HWd : Hid ((wr.drewN d).ownsRow w.heap.size 3 1 (.slice ao k cap) k (out.map intV)) := HW.out
          have hbd : Hid (Below w.heap.size w (wr.drewN d)) := hb.out.trans ⟨rfl, rfl, rfl, Nat.le_refl _, fun _ _ => rfl⟩
          clear EQ C1 C2
          generalize wr.drewN d = w3 at *
          go_wp2
          exact ⟨⟨ca + 1, k, _, _, out, by omega, by omega, by go_num, rfl, HO.out, HWd.out, HPw.out, HM2.out, hbd.out⟩, by simp [intOf]; omega⟩
        · go_wp2_with fail
          refine Calls.mono (EQ.out _ _ (C2.out hcj)) ?_
          rintro e w' ⟨rfl, d, hw⟩
          subst w'
          have HWd : Hid ((wr.drewN d).ownsRow w.heap.size 3 1 (.slice ao k cap) k (out.map intV)) := HW.out
          have hbd : Hid (Below w.heap.size w (wr.drewN d)) := hb.out.trans ⟨rfl, rfl, rfl, Nat.le_refl _, fun _ _ => rfl⟩
          clear EQ C1 C2
          generalize wr.drewN d = w3 at *
          go_wp2
          exact ⟨⟨j + 1, k, _, _, out, by omega, by omega, by go_num, rfl, HO.out, HWd.out, HPw.out, HM2.out, hbd.out⟩, by simp [intOf]; omega⟩
    · have y1 : ¬ (j : Int) + (m : Int) ≤ (n : Int) := by omega
      have y4 : IntKind.i64.wrap ((j : Int) + (m : Int)) = (j : Int) + (m : Int) := by rw [IntWalk.i64_in _ (by omega)]
      have HE : Hid (out = plc l p) := rising_ext HPw.out (plc_rising l p) fun x => by
        rw [HM.out, plc_mem, HL.out, HP.out]
        constructor
        · rintro ⟨i, e, h2, h3⟩
          exact ⟨i, e, h3⟩
        · rintro ⟨i, e, h3⟩
          exact ⟨i, e, by omega, h3⟩
      have HR : Hid (IntsAt wr ao (plc l p) ∧ (plc l p).length = k) := by
        obtain ⟨a', c', e, hr⟩ := own_row HW.out
        cases e
        rw [← HE.out]
        exact ⟨hr.ints, HO.out⟩
      clear HM HPw
      go_wp2
      go_ret
      refine ⟨hb.out, ao, ⟨cap, ?_⟩, HR.out.1⟩
      rw [HR.out.2]
      rfl

set_option maxRecDepth 100000 in
set_option maxHeartbeats 8000000 in
theorem rjoin_any (w : World) (ap : Option Addr) (cp : Nat) (vs : List Value) (ls : List (List Int)) (k : Nat) (hk : vs.length = k) (hk2 : k ≤ 17592186043904) (hR : RowAt w ap vs) (hP : PartsAt w vs ls) (hbig : ls.flatten.length ≤ 17592186043900) :
    Calls Try.prog 17 #[.slice ap k cp] w fun e w' => LaidIs w w' e ls := by
  obtain ⟨i0, hi0, hz0, hz1, hz3⟩ := info_parts infoI
  have HR : Hid (RowAt w ap vs) := hR
  have HP : Hid (PartsAt w vs ls) := hP
  have HK : Hid (vs.length = k) := hk
  have HB : Hid (ls.flatten.length ≤ 17592186043900) := hbig
  clear hR hP hk hbig
  go_enter Try.func17, Try.ntmps17
  go_wp2_with fail
  go_loopw [4, 5, 6] (fun v i _ wx => ∃ (j t : Nat) (av : Option Addr) (cap : Nat), j ≤ k ∧ i = .int .i64 j ∧ v = .slice av t cap ∧ Hid ((ls.take j).flatten.length = t) ∧ Hid (wx.ownsRow w.heap.size 3 1 (.slice av t cap) t ((ls.take j).flatten.map intV)) ∧ Hid (Below w.heap.size w wx)) (fun _ i _ _ => k - (intOf i).toNat)
  case atStart => exact ⟨0, 0, none, 0, Nat.zero_le _, rfl, rfl, rfl, World.ownsRow_nil _ _ _ _, Below.refl _ _⟩
  case round =>
    obtain ⟨j, t, av, cap, hj, rfl, rfl, hlen, hown, hb⟩ := hrel
    by_cases hlt : j < k
    · have n1 : (j : Int) < (k : Int) := by omega
      obtain ⟨l, hl⟩ : ∃ l, ls[j]? = some l := ⟨ls[j]'(by rw [← HP.out.1, HK.out]; exact hlt), List.getElem?_eq_getElem _⟩
      obtain ⟨a1, c1, hv, hi1⟩ := HP.out.2 j l hl
      obtain ⟨b2, o2, rfl, hc2⟩ := HR.out j _ hv
      have htk : Hid ((ls.take (j + 1)).flatten = (ls.take j).flatten ++ l) := by show _ = _; rw [List.take_add_one, hl, List.flatten_append]; simp
      have hle : t + l.length ≤ 17592186043900 := by
        have e1 : ls.flatten.length = (ls.take (j + 1)).flatten.length + (ls.drop (j + 1)).flatten.length := by rw [← List.length_append, ← List.flatten_append, List.take_append_drop]
        have := HB.out
        rw [e1, htk.out, List.length_append, hlen.out] at this
        omega
      have HC2 : Hid (w.cell? ⟨b2, o2 + j, none⟩ = some (.slice a1 l.length c1)) := hc2
      have HI1 : Hid (IntsAt w a1 l) := hi1
      obtain ⟨q, hq⟩ : ∃ q, l.length = q := ⟨_, rfl⟩
      rw [hq] at hle HC2
      have Hq : Hid (l.length = q) := hq
      clear hv hi1 hl hc2 hq
      go_wp2_with fail
      go_loopw [4, 6] (fun v i wx => ∃ (u : Nat) (av : Option Addr) (cap : Nat), u ≤ q ∧ i = .int .i64 u ∧ v = .slice av (t + u) cap ∧ Hid (wx.ownsRow w.heap.size 3 1 (.slice av (t + u) cap) (t + u) (((ls.take j).flatten ++ l.take u).map intV)) ∧ Hid (Below w.heap.size w wx)) (fun _ i _ => q - (intOf i).toNat)
      case atStart => exact ⟨0, av, cap, Nat.zero_le _, rfl, rfl, by show World.ownsRow _ _ _ _ _ _ _; rw [List.take_zero, List.append_nil]; exact hown.out, hb.out⟩
      case round =>
        clear hown hb
        obtain ⟨u, av, cap, hu, rfl, rfl, hown, hb⟩ := hrel
        have hcv : wr.cell? ⟨b2, o2 + j, none⟩ = some (.slice a1 q c1) := (hb.out.cell (p := ⟨b2, o2 + j, none⟩) (World.block_lt_of_cell? _ _ HC2.out)).trans HC2.out
        have hs0 : w.heap.size ≤ wr.heap.size := hb.out.size
        by_cases hlu : u < q
        · have u1 : (u : Int) < (q : Int) := by omega
          obtain ⟨x, hx⟩ : ∃ x, l[u]? = some x := ⟨l[u]'(by rw [Hq.out]; exact hlu), List.getElem?_eq_getElem _⟩
          obtain ⟨b3, o3, e3, hc3⟩ := (HI1.out.under hb.out) u x hx
          subst e3
          have Htk2 : Hid (l.take (u + 1) = l.take u ++ [x]) := by show _ = _; rw [List.take_add_one, hx]; rfl
          clear hx
          go_wp2_with (at_builtin; refine wpList_append_more (w := wr.alloc (.cells #[.int .i64 x] 3)) rfl _ _ _ rfl w.heap.size 3 i0 _ 1 8 Try.underlying22 hi0 hz0 hz1 hz3 rfl (by omega) _ (t + u) (((ls.take j).flatten ++ l.take u).map intV) (by rfl) (by exact hown.out.alloc _) (some ⟨wr.heap.size, 0, none⟩) 1 1 [.int .i64 x] (by rfl) (by rfl) (by exact (row_new wr [.int .i64 x] 3 _ rfl).news) (by simp [Value.oneCell']) (by unfold maxLen; omega) (by omega) (by simp; omega) ?_; intro a2 c2 w2 ho hb2; have HO3 : Hid (w2.ownsRow w.heap.size 3 1 (.slice a2 (t + u + 1) c2) (t + u + 1) (((ls.take j).flatten ++ l.take u).map intV ++ [.int .i64 x])) := ho; have HB3 : Hid (Below w.heap.size w w2) := hb.out.trans (((Below.refl _ _).alloc hs0 _).trans hb2); clear ho hb2)
          go_wp2
          refine ⟨⟨u + 1, _, _, by omega, by go_num, rfl, ?_, HB3.out⟩, by simp [intOf]; omega⟩
          show World.ownsRow _ _ _ _ _ _ _
          rw [Htk2.out, ← List.append_assoc, List.map_append]
          exact HO3.out
        · have u1 : ¬ (u : Int) < (q : Int) := by omega
          have huq : u = q := by omega
          subst huq
          have HOn : Hid (wr.ownsRow w.heap.size 3 1 (.slice av (t + u) cap) (t + u) ((ls.take (j + 1)).flatten.map intV)) := by
            have := hown.out
            rw [List.take_of_length_le (l := l) (i := u) (by rw [Hq.out]; exact Nat.le_refl _), ← htk.out] at this
            exact this
          have HLn : Hid ((ls.take (j + 1)).flatten.length = t + u) := by show _ = _; rw [htk.out, List.length_append, hlen.out, Hq.out]
          clear hown
          go_wp2
          exact ⟨⟨j + 1, t + u, _, _, by omega, by go_num, rfl, HLn.out, HOn.out, hb.out⟩, by simp [intOf]; omega⟩
    · have n1 : ¬ (j : Int) < (k : Int) := by omega
      have htk : Hid (ls.take j = ls) := by show _ = _; rw [List.take_of_length_le (by rw [← HP.out.1, HK.out]; omega)]
      have hlen2 : Hid (ls.flatten.length = t) := by have := hlen.out; rw [htk.out] at this; exact this
      have hown2 : Hid (wr.ownsRow w.heap.size 3 1 (.slice av t cap) t (ls.flatten.map intV)) := by have := hown.out; rw [htk.out] at this; exact this
      clear hlen hown
      by_cases hfit : t ≤ 200
      · have f1 : ¬ (200 : Int) < (t : Int) := by omega
        go_wp2
        go_ret2
        refine ⟨hb.out, .inl ⟨by rw [hlen2.out]; exact hfit, _, rfl, ?_⟩⟩
        rw [hlen2.out]
        exact hown2.out
      · have f1 : (200 : Int) < (t : Int) := by omega
        go_wp2
        go_ret2
        exact ⟨hb.out, .inr ⟨by rw [hlen2.out]; omega, rfl⟩⟩

set_option maxRecDepth 100000 in
set_option maxHeartbeats 4000000 in
theorem is_any (w : World) (vs : List Int) (x : Int) (nv cv : Nat) (av : Option Addr) (hv : vs.length = nv) (hnv : nv ≤ 17592186043900) (hV : IntsAt w av vs) :
    Calls Try.prog 27 #[.agg #[.bool false, .slice none 0 0, .int .i64 0, .bool false, .int .i64 0, .int .i64 0, .slice av nv cv], .int .i64 x] w fun e w' => e = .returned (.bool (decide (x ∈ vs))) ∧ Below w.heap.size w w' := by
  have HV : Hid (IntsAt w av vs) := hV
  have HL : Hid (vs.length = nv) := hv
  clear hV hv
  have hbA : Below w.heap.size w (w.alloc (.cells #[.bool false, .slice none 0 0, .int .i64 0, .bool false, .int .i64 0, .int .i64 0, .slice av nv cv] 37)) := (Below.refl _ _).alloc (Nat.le_refl _) _
  have k6 : (w.alloc (.cells #[.bool false, .slice none 0 0, .int .i64 0, .bool false, .int .i64 0, .int .i64 0, .slice av nv cv] 37)).cell? ⟨w.heap.size, 6, none⟩ = some (.slice av nv cv) := World.cell?_alloc_new w _ _ 6
  have HVA : Hid (IntsAt (w.alloc (.cells #[.bool false, .slice none 0 0, .int .i64 0, .bool false, .int .i64 0, .int .i64 0, .slice av nv cv] 37)) av vs) := HV.out.under hbA
  have HbA : Hid (Below w.heap.size w (w.alloc (.cells #[.bool false, .slice none 0 0, .int .i64 0, .bool false, .int .i64 0, .int .i64 0, .slice av nv cv] 37))) := hbA
  have K6 : Hid _ := k6
  clear hbA k6
  go_enter Try.func27, Try.ntmps27
  go_wp2_with fail
  all_goals
    have k6 := K6.out
    clear K6
    generalize w.alloc (.cells #[.bool false, .slice none 0 0, .int .i64 0, .bool false, .int .i64 0, .int .i64 0, .slice av nv cv] 37) = wA at *
    generalize hB0 : w.heap.size = B0 at *
    have HB0 : Hid (w.heap.size = B0) := hB0
    clear hB0
    go_loop [6] (fun i => ∃ j : Nat, j ≤ nv ∧ i = .int .i64 j ∧ Hid (x ∉ vs.take j)) (fun i => nv - (intOf i).toNat)
    case atStart => exact ⟨0, Nat.zero_le _, rfl, by show ¬ _; simp⟩
    case round =>
      obtain ⟨j, hj, rfl, he⟩ := hrel
      by_cases hlt : j < nv
      · have n1 : (j : Int) < (nv : Int) := by omega
        obtain ⟨y, hy⟩ : ∃ y, vs[j]? = some y := ⟨vs[j]'(by rw [HL.out]; exact hlt), List.getElem?_eq_getElem _⟩
        obtain ⟨b1, o1, rfl, c1⟩ := HVA.out j y hy
        by_cases hxy : y = x
        · subst hxy
          have Hm : Hid (decide (y ∈ vs) = true) := decide_eq_true (List.mem_of_getElem? hy)
          clear hy he
          go_wp2
          go_ret
          exact ⟨by rw [Hm.out]; rfl, by rw [HB0.out]; exact HbA.out⟩
        · have hb : (y == x) = false := by simpa using hxy
          have Hn : Hid (x ∉ vs.take (j + 1)) := by
            show ¬ _
            rw [List.take_add_one, hy]
            intro h
            rcases List.mem_append.1 h with h | h
            · exact he.out h
            · simp at h; exact hxy h.symm
          clear hy he hxy
          go_wp2
          go_round
          case rel => exact ⟨j + 1, by omega, by go_num, Hn⟩
          case measure => simp [intOf]; omega
      · have n1 : ¬ (j : Int) < (nv : Int) := by omega
        have Hm : Hid (decide (x ∈ vs) = false) := by
          have := he.out
          rw [List.take_of_length_le (by rw [HL.out]; omega)] at this
          exact decide_eq_false this
        clear he
        go_wp2
        go_ret
        exact ⟨by rw [Hm.out]; rfl, by rw [HB0.out]; exact HbA.out⟩
end Go.Proofs.Ytmgpnaehniohgaa
