/- What made answers: the first bind of each variable, and their substitution. -/
import Derived.Test.YteiaobeklahifaaAlive
namespace Go.Proofs.Yteiaobeklahifaa
open Go.RowKit

def stepF (acc : List (Int × List Int)) (p : Int × List Int) : List (Int × List Int) := if p.1 ∈ acc.map (·.1) then acc else acc ++ [p]
/-- The first bind of each variable. -/
def firsts (bl : List (Int × List Int)) : List (Int × List Int) := bl.foldl stepF []
theorem firsts_take {bl : List (Int × List Int)} {j : Nat} {p : Int × List Int} (hp : bl[j]? = some p) : firsts (bl.take (j + 1)) = stepF (firsts (bl.take j)) p := by
  unfold firsts
  rw [List.take_add_one, hp, Option.toList_some, List.foldl_append]; rfl
theorem firsts_nodup (bl : List (Int × List Int)) : ((firsts bl).map (·.1)).Nodup := by
  have key : ∀ (l acc : List (Int × List Int)), (acc.map (·.1)).Nodup → ((l.foldl stepF acc).map (·.1)).Nodup := by
    intro l
    induction l with
    | nil => intro acc h; exact h
    | cons p l ih =>
      intro acc h
      rw [List.foldl_cons]
      apply ih
      unfold stepF
      split
      · exact h
      · rename_i hne
        rw [List.map_append, List.nodup_append]
        exact ⟨h, by simp, fun a ha b hb e => by simp at hb; subst hb; subst e; exact hne ha⟩
  exact key bl [] (by simp)
theorem firsts_mem {bl : List (Int × List Int)} : ∀ p ∈ firsts bl, p ∈ bl := by
  have key : ∀ (l acc : List (Int × List Int)), ∀ p ∈ l.foldl stepF acc, p ∈ acc ∨ p ∈ l := by
    intro l
    induction l with
    | nil => intro acc p h; exact .inl h
    | cons q l ih =>
      intro acc p h
      rw [List.foldl_cons] at h
      rcases ih _ p h with h1 | h1
      · unfold stepF at h1
        split at h1
        · exact .inl h1
        · rcases List.mem_append.1 h1 with h2 | h2
          · exact .inl h2
          · simp at h2; subst h2; simp
      · exact .inr (List.mem_cons_of_mem _ h1)
  intro p hp
  rcases key bl [] p hp with h | h
  · simp at h
  · exact h
theorem Matches.snoc {w : World} {vs : List (Int × Value)} {bl : List (Int × List Int)} (h : Matches w vs bl) (p : Int × List Int) (a : Option Addr) (n c : Nat) (hn : p.2.length = n) (hI : IntsAt w a p.2) : Matches w (vs ++ [(p.1, Value.slice a n c)]) (bl ++ [p]) := by
  refine ⟨by simp [h.1], fun i q hi => ?_⟩
  by_cases hlt : i < bl.length
  · rw [List.getElem?_append_left hlt] at hi
    obtain ⟨a', c', h1, h2⟩ := h.2 i q hi
    exact ⟨a', c', by rw [List.getElem?_append_left (by rw [h.1]; exact hlt)]; exact h1, h2⟩
  · rw [List.getElem?_append_right (by omega)] at hi
    have hi0 : i - bl.length = 0 := by
      have := (List.getElem?_eq_some_iff.1 hi).1
      simp at this; omega
    rw [hi0] at hi
    simp at hi
    subst hi
    exact ⟨a, c, by rw [List.getElem?_append_right (by rw [h.1]; omega), h.1, hi0, hn]; rfl, hI⟩
def MadeIs (w w' : World) (e : Ending) (l : List (Int × List Int)) (k : Nat) : Prop := Below w.heap.size w w' ∧
  ∃ (a3 : Option Addr) (c3 : Nat) (vs3 : List (Int × Value)) (bl : List (Int × List Int)) (a5 : Option Addr) (c5 : Nat) (vs5 : List (Int × Value)),
    e = .returned (.tuple #[.agg #[.slice a5 k c5], .slice a3 k c3, .bool true]) ∧ RowAt w' a3 (rowB vs3) ∧ Matches w' vs3 l ∧ bl.Perm l ∧ Rises bl ∧ w'.ownsRow w.heap.size 31 2 (.slice a5 k c5) k (rowB vs5) ∧ Owns w.heap.size w' vs5 bl

set_option maxRecDepth 100000 in
set_option maxHeartbeats 16000000 in
theorem made_any (w : World) (a : Option Addr) (n c : Nat) (vs0 : List (Int × Value)) (bl : List (Int × List Int)) (hl : bl.length = n) (hn : n ≤ 4398046511000) (hbig : ∀ p ∈ bl, p.2.length ≤ 17592186043904) (hR : RowAt w a (rowB vs0)) (hM : Matches w vs0 bl) :
    Calls Try.prog 14 #[.slice a n c] w fun e w' => MadeIs w w' e (firsts bl) (firsts bl).length := by
  obtain ⟨i0, hi0, hz0, hz1, hz3⟩ := info_parts infoB
  have k0 : (w.alloc (.cells #[.slice none 0 0] 25)).cell? ⟨w.heap.size, 0, none⟩ = some (.slice none 0 0) := World.cell?_alloc_new w _ _ 0
  have kf : (w.alloc (.cells #[.slice none 0 0] 25)).frozen? ⟨w.heap.size, 0, none⟩ = false := World.frozen?_alloc_new w _ _ 0
  have hbA := below_alloc w (.cells #[.slice none 0 0] 25)
  have HA : Hid (Below w.heap.size w (w.alloc (.cells #[.slice none 0 0] 25))) := hbA
  have HR : Hid (RowAt w a (rowB vs0)) := hR
  have HM : Hid (Matches w vs0 bl) := hM
  have HL : Hid (bl.length = n) := hl
  have HBG : Hid (∀ p ∈ bl, p.2.length ≤ 17592186043904) := hbig
  clear hR hM hl hbig hbA
  go_enter Try.func14, Try.ntmps14
  go_wp2_with fail
  generalize hwA : w.alloc (.cells #[.slice none 0 0] 25) = wA at *
  have HB0 : w.heap.size < wA.heap.size := World.block_lt_of_cell? _ _ k0
  generalize hB0 : w.heap.size = B0 at *
  have HB0e : Hid (w.heap.size = B0) := hB0
  have K0 : Hid (wA.cell? ⟨B0, 0, none⟩ = some (.slice none 0 0)) := k0
  have KF : Hid (wA.frozen? ⟨B0, 0, none⟩ = false) := kf
  clear hwA hB0 k0 kf
  go_loopw [5, 6, 7, 8] (fun v i _ _ wx => ∃ (j k : Nat) (av : Option Addr) (cap : Nat), j ≤ n ∧ k ≤ j ∧ i = .int .i64 j ∧ v = .slice av k cap ∧ Hid (∃ vs, (firsts (bl.take j)).length = k ∧ wx.ownsRow wA.heap.size 31 2 (.slice av k cap) k (rowB vs) ∧ Matches w vs (firsts (bl.take j))) ∧ Hid (Below wA.heap.size wA wx)) (fun _ i _ _ _ => n - (intOf i).toNat)
  case atStart => exact ⟨0, 0, none, 0, Nat.zero_le _, Nat.le_refl _, rfl, rfl, ⟨[], rfl, World.ownsRow_nil _ _ _ _, rfl, fun i p h => by simp [firsts] at h⟩, Below.refl _ _⟩
  case round =>
    obtain ⟨j, k, av, cap, hj, hkj, rfl, rfl, hv, hb⟩ := hrel
    obtain ⟨W0, hW0⟩ : ∃ W0, W0 = wr := ⟨_, rfl⟩
    subst hW0
    obtain ⟨vs, hk, hown, hmat⟩ := hv.out
    have HK : Hid ((firsts (bl.take j)).length = k) := hk
    have HO : Hid (W0.ownsRow wA.heap.size 31 2 (.slice av k cap) k (rowB vs)) := hown
    have HMt : Hid (Matches w vs (firsts (bl.take j))) := hmat
    have hbw0 : Below w.heap.size w W0 := by rw [HB0e.out]; exact HA.out.trans (hb.out.mono (Nat.le_of_lt HB0))
    have HBw0 : Hid (Below w.heap.size w W0) := hbw0
    clear hv hk hown hmat hbw0
    by_cases hlt : j < n
    · have n1 : (j : Int) < (n : Int) := by omega
      obtain ⟨d, hd⟩ : ∃ d, bl[j]? = some d := ⟨bl[j]'(by rw [HL.out]; exact hlt), List.getElem?_eq_getElem _⟩
      obtain ⟨a1, c1, hv1, hi1⟩ := HM.out.2 j d hd
      obtain ⟨r1, r2⟩ := rowB_at vs0 j _ hv1
      have hR2 := HR.out.under HBw0.out
      obtain ⟨b2, o2, rfl, k1⟩ := hR2 _ _ r1
      obtain ⟨_, _, e2, k2⟩ := hR2 _ _ r2
      cases e2
      have hft := firsts_take hd
      obtain ⟨y, ly⟩ := d
      have k1' : W0.cell? ⟨b2, o2 + j * 2, none⟩ = some (.int .i64 y) := k1
      have k2' : W0.cell? ⟨b2, o2 + j * 2 + 1, none⟩ = some (.slice a1 ly.length c1) := by rw [Nat.add_assoc]; exact k2
      have HFT : Hid (firsts (bl.take (j + 1)) = stepF (firsts (bl.take j)) (y, ly)) := hft
      have HI1 : Hid (IntsAt w a1 ly) := hi1
      generalize hyl : ly.length = yl at *
      have Hyl : Hid (ly.length = yl) := hyl
      clear r1 r2 hR2 k1 k2 hv1 hi1 hd hft hyl
      go_wp2_with fail
      go_loopw [7, 8] (fun tw q wx => ∃ (t : Nat) (bw : Bool), t ≤ k ∧ q = .int .i64 t ∧ tw = .bool bw ∧ Hid (bw = decide (y ∈ ((firsts (bl.take j)).take t).map (·.1))) ∧ Hid (Below W0.heap.size W0 wx)) (fun _ q _ => k - (intOf q).toNat)
      case atStart => exact ⟨0, false, Nat.zero_le _, rfl, rfl, by show _ = _; simp, Below.refl _ _⟩
      case round =>
        obtain ⟨t, bw, ht, rfl, rfl, hbw, hb2⟩ := hrel
        by_cases htk : t < k
        · have n2 : (t : Int) < (k : Int) := by omega
          obtain ⟨p, hp⟩ : ∃ p, (firsts (bl.take j))[t]? = some p := ⟨_, List.getElem?_eq_getElem (by rw [HK.out]; exact htk)⟩
          obtain ⟨a3, c3, hv3, _⟩ := HMt.out.2 t p hp
          obtain ⟨av', cap', e3, _, hrow3, _⟩ := own_row HO.out
          cases e3
          obtain ⟨r1, _⟩ := rowB_at vs t _ hv3
          obtain ⟨b3, o3, rfl, q1⟩ := (hrow3.under hb2.out) _ _ r1
          obtain ⟨z, lz⟩ := p
          have q1' : wr.cell? ⟨b3, o3 + t * 2, none⟩ = some (.int .i64 z) := q1
          have q2' : wr.cell? ⟨b2, o2 + j * 2, none⟩ = some (.int .i64 y) := (hb2.out.cell (p := ⟨b2, o2 + j * 2, none⟩) (World.block_lt_of_cell? _ _ k1')).trans k1'
          have Hstep : Hid (decide (y ∈ ((firsts (bl.take j)).take (t + 1)).map (·.1)) = (bw || (z == y))) := by
            show _ = _
            rw [hbw.out, List.take_add_one, hp, Option.toList_some, List.map_append]
            by_cases h1 : y ∈ ((firsts (bl.take j)).take t).map (·.1)
            · have : y ∈ List.map (fun x => x.1) (List.take t (firsts (List.take j bl))) ++ List.map (fun x => x.1) [(z, lz)] := List.mem_append_left _ h1
              rw [decide_eq_true this, decide_eq_true h1]; rfl
            · rw [decide_eq_false h1, Bool.false_or]
              by_cases h2 : z = y
              · subst h2; simp
              · have h3 : (z == y) = false := by simpa using h2
                rw [h3, decide_eq_false]
                intro h4
                rcases List.mem_append.1 h4 with h5 | h5
                · exact h1 h5
                · simp at h5; exact h2 h5.symm
          clear q1 hrow3 hv3 hp
          cases bw
          · by_cases hzy : z = y
            · have hzy' : (z == y) = true := by simpa using hzy
              go_wp2_with fail
              go_quiet (fail)
              go_wp2
              exact ⟨⟨t + 1, true, by omega, by go_num, rfl, by show _ = _; rw [Hstep.out, hzy']; rfl, hb2.out.trans ⟨rfl, rfl, rfl, Nat.le_refl _, fun _ _ => rfl⟩⟩, by simp [intOf]; omega⟩
            · have hzy' : (z == y) = false := by simpa using hzy
              go_wp2_with fail
              go_quiet (fail)
              go_wp2
              exact ⟨⟨t + 1, false, by omega, by go_num, rfl, by show _ = _; rw [Hstep.out, hzy']; rfl, hb2.out.trans ⟨rfl, rfl, rfl, Nat.le_refl _, fun _ _ => rfl⟩⟩, by simp [intOf]; omega⟩
          · go_wp2_with fail
            go_quiet (fail)
            go_wp2
            exact ⟨⟨t + 1, true, by omega, by go_num, rfl, by show _ = _; rw [Hstep.out]; rfl, hb2.out.trans ⟨rfl, rfl, rfl, Nat.le_refl _, fun _ _ => rfl⟩⟩, by simp [intOf]; omega⟩
        · have n2 : ¬ (t : Int) < (k : Int) := by omega
          have hall : (firsts (bl.take j)).take t = firsts (bl.take j) := List.take_of_length_le (by rw [HK.out]; omega)
          have hbw' := hbw.out
          rw [hall] at hbw'
          have k1r : wr.cell? ⟨b2, o2 + j * 2, none⟩ = some (.int .i64 y) := (hb2.out.cell (p := ⟨b2, o2 + j * 2, none⟩) (World.block_lt_of_cell? _ _ k1')).trans k1'
          have k2r : wr.cell? ⟨b2, o2 + j * 2 + 1, none⟩ = some (.slice a1 yl c1) := (hb2.out.cell (p := ⟨b2, o2 + j * 2 + 1, none⟩) (World.block_lt_of_cell? _ _ k2')).trans k2'
          have HOr : Hid (wr.ownsRow wA.heap.size 31 2 (.slice av k cap) k (rowB vs)) := owns_under HO.out hb2.out
          have Hbr : Hid (Below wA.heap.size wA wr) := hb.out.trans (hb2.out.mono hb.out.size)
          cases bw
          · have HF : Hid (firsts (bl.take (j + 1)) = firsts (bl.take j) ++ [(y, ly)]) := by
              show _ = _
              rw [HFT.out]
              unfold stepF
              rw [if_neg (of_decide_eq_false hbw'.symm)]
            clear hall hbw' hbw
            go_wp2_with (at_builtin; refine wpList_append_more (w := wr.alloc (.cells #[.int .i64 y, .slice a1 yl c1] 31)) rfl _ _ _ rfl wA.heap.size 31 i0 _ 2 32 Try.underlying23 hi0 hz0 hz1 hz3 rfl (by omega) _ k (rowB vs) (by rfl) (by exact HOr.out.alloc _) (some ⟨wr.heap.size, 0, none⟩) 1 1 [.int .i64 y, .slice a1 yl c1] (by rfl) (by rfl) (fun j' u hu => ⟨_, rfl, World.news_of_block (cs := #[.int .i64 y, .slice a1 yl c1]) (t := 31) (fr := (0, 0)) (heap_alloc_new wr _) j' u hu⟩) (by simp [Value.oneCell']) (by unfold maxLen; omega) (by omega) (by have := Hbr.out.size; simp; omega) ?_; intro a4 c4 w4 ho4 hb4; have HO4 : Hid (w4.ownsRow wA.heap.size 31 2 (.slice a4 (k + 1) c4) (k + 1) (rowB (vs ++ [(y, .slice a1 yl c1)]))) := by rw [rowB_snoc]; exact ho4
                         have HB4 : Hid (Below wA.heap.size wA w4) := (Hbr.out.alloc Hbr.out.size _).trans hb4
                         clear ho4 hb4)
            go_wp2
            exact ⟨⟨j + 1, k + 1, _, _, by omega, by omega, by go_num, rfl, ⟨_, by rw [HF.out, List.length_append, HK.out]; rfl, HO4.out, by rw [HF.out]; exact HMt.out.snoc (y, ly) a1 yl c1 Hyl.out HI1.out⟩, HB4.out⟩, by simp [intOf]; omega⟩
          · have HF : Hid (firsts (bl.take (j + 1)) = firsts (bl.take j)) := by
              show _ = _
              rw [HFT.out]
              unfold stepF
              rw [if_pos (of_decide_eq_true hbw'.symm)]
            clear hall hbw' hbw
            go_wp2
            exact ⟨⟨j + 1, k, _, _, by omega, by omega, by go_num, rfl, ⟨vs, by rw [HF.out]; exact HK.out, HOr.out, by rw [HF.out]; exact HMt.out⟩, Hbr.out⟩, by simp [intOf]; omega⟩
    · have n1 : ¬ (j : Int) < (n : Int) := by omega
      have htk : bl.take j = bl := List.take_of_length_le (by rw [HL.out]; omega)
      rw [htk] at HK HMt
      obtain ⟨av', cap', e3, _, hrow3, _⟩ := own_row HO.out
      cases e3
      have NW : Hid _ := new_any W0 av k cap vs (firsts bl) HK.out (by omega) (fun p hp => HBG.out p (firsts_mem p hp)) hrow3 (HMt.out.under HBw0.out)
      have HRow : Hid (RowAt W0 av (rowB vs)) := hrow3
      have c0 : W0.cell? ⟨B0, 0, none⟩ = some (.slice none 0 0) := (hb.out.cell (p := ⟨B0, 0, none⟩) HB0).trans K0.out
      have f0 : W0.frozen? ⟨B0, 0, none⟩ = false := (hb.out.frozen (p := ⟨B0, 0, none⟩) HB0).trans KF.out
      have hBW : B0 < W0.heap.size := World.block_lt_of_cell? _ _ c0
      clear htk hrow3
      go_wp2_with fail
      refine Calls.mono NW.out ?_
      rintro e w4 ⟨hb4, ⟨hnd, rfl⟩ | ⟨_, bl', a5, c5, vs5, hperm, hrise, rfl, ho5, hO5⟩⟩
      · exact absurd (firsts_nodup bl) hnd
      have hb5 : Below w4.heap.size w4 (w4.alloc (.cells #[.slice a5 k c5] 25)) := below_alloc _ _
      have hb45 : Below W0.heap.size W0 (w4.alloc (.cells #[.slice a5 k c5] 25)) := hb4.trans (hb5.mono hb4.size)
      have k9 : (w4.alloc (.cells #[.slice a5 k c5] 25)).cell? ⟨w4.heap.size, 0, none⟩ = some (.slice a5 k c5) := World.cell?_alloc_new w4 _ _ 0
      have c05 : (w4.alloc (.cells #[.slice a5 k c5] 25)).cell? ⟨B0, 0, none⟩ = some (.slice none 0 0) := (hb45.cell (p := ⟨B0, 0, none⟩) hBW).trans c0
      have f05 : (w4.alloc (.cells #[.slice a5 k c5] 25)).frozen? ⟨B0, 0, none⟩ = false := (hb45.frozen (p := ⟨B0, 0, none⟩) hBW).trans f0
      have ho5' := owns_under ho5 hb5
      have hO5' := hO5.under hb5
      have HB45 : Hid (Below W0.heap.size W0 (w4.alloc (.cells #[.slice a5 k c5] 25))) := hb45
      have HO5 : Hid ((w4.alloc (.cells #[.slice a5 k c5] 25)).ownsRow W0.heap.size 31 2 (.slice a5 k c5) k (rowB vs5)) := ho5'
      have HW5 : Hid (Owns W0.heap.size (w4.alloc (.cells #[.slice a5 k c5] 25)) vs5 bl') := hO5'
      have hB9 : B0 < w4.heap.size := Nat.lt_of_lt_of_le hBW hb4.size
      have HP : Hid (bl'.Perm (firsts bl)) := hperm
      have HRi : Hid (Rises bl') := hrise
      clear hb4 hb5 hb45 ho5 hO5 ho5' hO5' NW hperm hrise
      go_wp2_with fail
      generalize w4.alloc (.cells #[.slice a5 k c5] 25) = w5 at *
      generalize w4.heap.size = B9 at *
      refine wp_region_held_drew (S := fun w' => w'.cell? ⟨B9, 0, none⟩ = some (.slice a5 k c5)) (by kernel_rfl) ?_ (fun hHeld => ?_)
      · exact k9
      refine wpAnyH_take (i := 0) (oi := { dst := some 51, op := Op.load 25 (Operand.tmp 9), type := 25, pos := "outright.go:38", after := #[], guard := none }) (v := ?_) rfl (by kernel_rfl) (by kernel_rfl) (by kernel_rfl) (fun _ _ _ h => h) (Or.inl ⟨by rfl, ?_⟩) hHeld ?_
      rotate_left
      · (intro w hSw; (try dsimp only at hSw); go_simp; try with_reducible rfl)
      try simp only [Act.put, List.setIfInBounds_toArray, List.set_cons_zero, List.set_cons_succ]
      refine wpAnyH_take (i := 1) (oi := { dst := some 52, op := Op.move (Operand.tmp 5), type := 23, pos := "outright.go:38", after := #[{ on := 5, ground := Ground.gcOnly Departure.lateStores }], guard := none }) (v := ?_) rfl (by kernel_rfl) (by kernel_rfl) (by kernel_rfl) (fun _ _ _ h => h) (Or.inl ⟨by rfl, ?_⟩) hHeld ?_
      rotate_left
      · (intro w hSw; (try dsimp only at hSw); go_simp; try with_reducible rfl)
      try simp only [Act.put, List.setIfInBounds_toArray, List.set_cons_zero, List.set_cons_succ]
      refine wpAnyH_take (i := 2) (oi := { dst := some 53, op := Op.move (Operand.tmp 10), type := 26, pos := "outright.go:38", after := #[], guard := none }) (v := ?_) rfl (by kernel_rfl) (by kernel_rfl) (by kernel_rfl) (fun _ _ _ h => h) (Or.inl ⟨by rfl, ?_⟩) hHeld ?_
      rotate_left
      · (intro w hSw; (try dsimp only at hSw); go_simp; try with_reducible rfl)
      try simp only [Act.put, List.setIfInBounds_toArray, List.set_cons_zero, List.set_cons_succ]
      refine wpAnyH_ready (rs := [3]) (by kernel_rfl) (by simp) ?_
      refine AllReadyH.cons (o := { dst := some 54, op := Op.call { callee := Callee.value (Operand.func 11), args := #[Operand.tmp 53], argTypes := #[26] }, type := 3, pos := "outright.go:38", after := #[{ on := 2, ground := Ground.data }], guard := none }) rfl (fun K hK => ?_) AllReadyH.nil
      go_simp
      go_at_call 11
      refine (num_any _ _).mono ?_
      rintro e wz ⟨rfl, hwz⟩
      subst wz
      try go_wp2_with fail
      refine hK.out _ _ ?_ (fun hHeld2 => ?_)
      · exact k9
      clear hK K
      try simp only [Act.put, List.setIfInBounds_toArray, List.set_cons_zero, List.set_cons_succ]
      refine wpAnyH_take (i := 4) (oi := { dst := some 55, op := Op.binOp BinOp.eql 3 (Operand.tmp 54) (Operand.const (Value.int IntKind.i64 0)) 3, type := 4, pos := "outright.go:38", after := #[{ on := 3, ground := Ground.data }, { on := 6, ground := Ground.gcOnly Departure.lateStores }], guard := none }) (v := ?_) rfl (by kernel_rfl) (by kernel_rfl) (by kernel_rfl) (fun _ _ _ h => h) (Or.inl ⟨by rfl, ?_⟩) hHeld2 ?_
      rotate_left
      · (intro w hSw; (try dsimp only at hSw); go_simp; try with_reducible rfl)
      try simp only [Act.put, List.setIfInBounds_toArray, List.set_cons_zero, List.set_cons_succ]
      refine wpAnyH_ready (rs := [5]) (by kernel_rfl) (by simp) ?_
      refine AllReadyH.cons (o := { dst := none, op := Op.store 25 (Operand.tmp 2) (Operand.tmp 51), type := 0, pos := "outright.go:38", after := #[{ on := 0, ground := Ground.data }, { on := 3, ground := Ground.chain }, { on := 0, ground := Ground.phase }, { on := 1, ground := Ground.textOnly Departure.lateStores }, { on := 2, ground := Ground.textOnly Departure.lateStores }, { on := 3, ground := Ground.textOnly Departure.lateStoresUnsure }, { on := 4, ground := Ground.textOnly Departure.lateStores }], guard := none }) rfl (fun K hK => ?_) AllReadyH.nil
      go_simp
      refine hK.out _ _ ?_ (fun hHeld3 => ?_)
      · exact (World.cell?_setCell_other _ _ _ _ (by first | (simp; done) | (simp; omega))).trans k9
      clear hK K
      try simp only [Act.put, List.setIfInBounds_toArray, List.set_cons_zero, List.set_cons_succ]
      refine wpAnyH_take (i := 6) (oi := { dst := some 3, op := Op.assign (Operand.tmp 52), type := 23, pos := "outright.go:38", after := #[{ on := 1, ground := Ground.data }, { on := 5, ground := Ground.chain }, { on := 0, ground := Ground.phase }, { on := 1, ground := Ground.phase }, { on := 2, ground := Ground.textOnly Departure.lateStores }, { on := 3, ground := Ground.textOnly Departure.lateStoresUnsure }, { on := 4, ground := Ground.textOnly Departure.lateStores }, { on := 5, ground := Ground.phase }], guard := none }) (v := ?_) rfl (by kernel_rfl) (by kernel_rfl) (by kernel_rfl) (fun _ _ _ h => h) (Or.inl ⟨by rfl, ?_⟩) hHeld3 ?_
      rotate_left
      · (intro w hSw; (try dsimp only at hSw); go_simp; try with_reducible rfl)
      try simp only [Act.put, List.setIfInBounds_toArray, List.set_cons_zero, List.set_cons_succ]
      refine wpAnyH_take (i := 7) (oi := { dst := some 4, op := Op.assign (Operand.tmp 55), type := 4, pos := "outright.go:38", after := #[{ on := 4, ground := Ground.data }, { on := 6, ground := Ground.chain }, { on := 0, ground := Ground.phase }, { on := 1, ground := Ground.phase }, { on := 2, ground := Ground.phase }, { on := 3, ground := Ground.phase }, { on := 4, ground := Ground.phase }, { on := 5, ground := Ground.phase }, { on := 6, ground := Ground.phase }], guard := none }) (v := ?_) rfl (by kernel_rfl) (by kernel_rfl) (by kernel_rfl) (fun _ _ _ h => h) (Or.inl ⟨by rfl, ?_⟩) hHeld3 ?_
      rotate_left
      · (intro w hSw; (try dsimp only at hSw); go_simp; try with_reducible rfl)
      try simp only [Act.put, List.setIfInBounds_toArray, List.set_cons_zero, List.set_cons_succ]
      refine wpAnyH_done (by kernel_rfl) ?_ _
      have kw2 : (w5.setCell ⟨B0, 0, none⟩ (.slice a5 k c5)).cell? ⟨B0, 0, none⟩ = some (.slice a5 k c5) := World.cell?_setCell_same _ _ _ (u := .slice none 0 0) c05
      have hbd : Below W0.heap.size W0 w5.drew := ⟨HB45.out.os, HB45.out.tape, HB45.out.output, HB45.out.size, HB45.out.block⟩
      have hbE : Below w.heap.size w (w5.drew.setCell ⟨B0, 0, none⟩ (.slice a5 k c5)) := (HBw0.out.trans (hbd.mono HBw0.out.size)).setCell (p := ⟨B0, 0, none⟩) (by rw [HB0e.out]; exact Nat.le_refl _) _
      have HbE : Hid (Below w.heap.size w (w5.drew.setCell ⟨B0, 0, none⟩ (.slice a5 k c5))) := hbE
      have H5 : Hid ((w5.drew.setCell ⟨B0, 0, none⟩ (.slice a5 k c5)).ownsRow w.heap.size 31 2 (.slice a5 k c5) k (rowB vs5)) := owns_down (ownsRow_setCell_below (w := w5.drew) HO5.out (a := ⟨B0, 0, none⟩) hBW _) HBw0.out.size
      have O5 : Hid (Owns w.heap.size (w5.drew.setCell ⟨B0, 0, none⟩ (.slice a5 k c5)) vs5 bl') := ⟨HW5.out.1, fun i p hi => by
        obtain ⟨v, h1, h2⟩ := HW5.out.2 i p hi
        exact ⟨v, h1, owns_down (ownsRow_setCell_below (w := w5.drew) h2 (a := ⟨B0, 0, none⟩) hBW _) HBw0.out.size⟩⟩
      have R5 : Hid (RowAt (w5.drew.setCell ⟨B0, 0, none⟩ (.slice a5 k c5)) av (rowB vs)) := by
        have h1 : W0.ownsRow wA.heap.size 31 2 (.slice av k cap) k (rowB vs) := HO.out
        have h2 : w5.drew.ownsRow wA.heap.size 31 2 (.slice av k cap) k (rowB vs) := owns_under h1 hbd
        obtain ⟨a9, c9, e9, _, hr9, _⟩ := own_row (ownsRow_setCell_below (w := w5.drew) h2 (a := ⟨B0, 0, none⟩) HB0 (.slice a5 k c5))
        cases e9
        exact hr9
      clear hbd hbE
      go_wp2
      (try simp only [Exit.inBlock, Exit.then])
      refine bodyPost_ret (by simp [results, Try.results14, go_sem, kw2]; try rfl) rfl ?_
      have hkk := HK.out
      subst hkk
      exact ⟨HbE.out, av, cap, vs, bl', a5, c5, vs5, rfl, R5.out, HMt.out.under HbE.out, HP.out, HRi.out, H5.out, O5.out⟩
end Go.Proofs.Yteiaobeklahifaa
