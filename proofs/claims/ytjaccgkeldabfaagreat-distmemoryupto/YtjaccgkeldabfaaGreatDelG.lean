/- DeleteFunc: what is left of a list in memory of its own. -/
import Derived.Test.YtjaccgkeldabfaaGreatDelF
namespace Go.Proofs.YtjaccgkeldabfaaGreat
open Go.RowKit

/-- DeleteFunc along its loop: i are kept of the first j. -/
structure Kept (p : Int → Bool) (l : List Int) (n i j : Nat) (zs : List Int) : Prop where
  len : zs.length = n
  take : zs.take i = (l.take j).filter p
  drop : zs.drop j = l.drop j
theorem Kept.at {p : Int → Bool} {l : List Int} {n i j : Nat} {zs : List Int} (h : Kept p l n i j zs) : zs[j]? = l[j]? := by
  have := congrArg (fun r => r[0]?) h.drop
  simpa using this
theorem drop_set_lt {zs : List Int} {i j : Nat} {x : Int} (h : i < j) : (zs.set i x).drop j = zs.drop j := by
  rw [List.drop_set]
  rw [if_pos h]
theorem Kept.skip {p : Int → Bool} {l : List Int} {n i j : Nat} {zs : List Int} {x : Int} (h : Kept p l n i j zs) (hx : l[j]? = some x) (hp : p x = false) : Kept p l n i (j + 1) zs := by
  refine ⟨h.len, ?_, ?_⟩
  · rw [h.take, List.take_add_one, hx, Option.toList_some, List.filter_append]
    simp [hp]
  · have := congrArg (fun r => r.drop 1) h.drop
    simpa [List.drop_drop] using this
theorem Kept.keep {p : Int → Bool} {l : List Int} {n i j : Nat} {zs : List Int} {x : Int} (h : Kept p l n i j zs) (hx : l[j]? = some x) (hp : p x = true) (hij : i < j) (hjn : j < n) : Kept p l n (i + 1) (j + 1) (zs.set i x) := by
  refine ⟨by rw [List.length_set]; exact h.len, ?_, ?_⟩
  · rw [List.take_add_one, List.take_set, List.set_eq_of_length_le (by rw [List.length_take]; omega), h.take, List.getElem?_set_self (by rw [h.len]; omega), Option.toList_some, List.take_add_one, hx, Option.toList_some, List.filter_append]
    simp [hp]
  · rw [drop_set_lt (by omega)]
    have := congrArg (fun r => r.drop 1) h.drop
    simpa [List.drop_drop] using this
theorem idx_first {p : Int → Bool} {l : List Int} {n : Nat} (hl : l.length = n) : (idxOf (fun x => !p x) l = -1 ∧ l.filter p = l) ∨ ∃ j, j < n ∧ idxOf (fun x => !p x) l = (j : Int) ∧ Kept p l n j (j + 1) l := by
  unfold idxOf
  cases h : l.findIdx? (fun x => !p x) with
  | none =>
    rw [List.findIdx?_eq_none_iff] at h
    exact .inl ⟨rfl, List.filter_eq_self.2 fun x hx => by simpa using h x hx⟩
  | some j =>
    rw [List.findIdx?_eq_some_iff_getElem] at h
    obtain ⟨hj, hp, hbef⟩ := h
    refine .inr ⟨j, by omega, rfl, hl, ?_, rfl⟩
    rw [List.take_add_one, List.getElem?_eq_getElem hj, Option.toList_some, List.filter_append]
    have hpf : p l[j] = false := by simpa using hp
    have : (l.take j).filter p = l.take j := List.filter_eq_self.2 fun x hx => by
      obtain ⟨k, hk, rfl⟩ := List.mem_iff_getElem.1 hx
      rw [List.length_take] at hk
      rw [List.getElem_take]
      have := hbef k (by omega)
      simpa using this
    rw [this]
    simp [hpf]
theorem turn_setCells (g : Nat) : ∀ (vs : List Value) (o : Nat) (w : World), Turn g w (w.setCells g o vs)
  | [], _, w => Turn.refl g w
  | v :: vs, o, w => (turn_setCell w g o v).trans (turn_setCells g vs (o + 1) _)
theorem Turn.cell {b : Nat} {W W' : World} (h : Turn b W W') {p : Addr} {v : Value} (hc : W.cell? p = some v) (hne : p.block ≠ b) : W'.cell? p = some v := by
  rw [World.cell?_of_block (h.block p.block (World.block_lt_of_cell? _ _ hc) hne)]
  exact hc

set_option maxRecDepth 100000 in
set_option maxHeartbeats 4000000 in
theorem del_any (w : World) (B g n c : Nat) (l : List Int) (sl ss sh : Value) (m r : Int) (hl : l.length = n) (hn : n ≤ 17592186043904) (hnc : n ≤ c) (hwf : ∀ x ∈ l, wfI x) (hm : wfI m) (hc : w.cell? ⟨B, 1, none⟩ = some (fnV (carried sl ss sh m r))) (hBg : B ≠ g) (hM : Mut w g l) :
    Calls Tryz.prog 59 #[.slice (some ⟨g, 0, none⟩) n c, .func (.func 60) #[] #[.pointer (some ⟨B, 0, none⟩)]] w fun e w' => e = .returned (.slice (some ⟨g, 0, none⟩) (l.filter (isV m r)).length c) ∧ IntsAt w' (some ⟨g, 0, none⟩) (l.filter (isV m r)) ∧ Turn g w w' := by
  have HL : Hid (l.length = n) := hl
  have HF : Hid (∀ W, Turn g w W → ∀ x ∈ l, Calls Tryz.prog 60 #[.int .i64 x, .pointer (some ⟨B, 0, none⟩)] W fun e W' => e = .returned (.bool (!isV m r x)) ∧ Below W.heap.size W W') := fun W hW x hx =>
    notv_any W B sl ss sh m r x (hwf x hx) hm (hW.cell hc hBg)
  have CI : Hid _ := idx60_any w (some ⟨g, 0, none⟩) n c l (fun x => !isV m r x) (.pointer (some ⟨B, 0, none⟩)) hl hn hM.ints fun W hW x hx => HF.out W (Turn.of_below hW) x hx
  have HMu : Hid (Mut w g l) := hM
  have hlow : ∀ x, l[0]? = some x → g < w.heap.size := fun x hx => World.block_lt_of_cell? _ _ (hM 0 x hx).1
  have HLow : Hid (0 < n → g < w.heap.size) := fun h => hlow _ (List.getElem?_eq_getElem (by rw [hl]; exact h))
  have ID : Hid _ := idx_first (p := isV m r) hl
  clear hl hwf hm hc hM hlow
  generalize isV m r = p at *
  go_enter Tryz.func59, Tryz.ntmps59
  go_wp2_with fail
  refine Calls.mono CI.out ?_
  rintro e w1 ⟨rfl, hb1⟩
  rcases ID.out with ⟨hi, hfl⟩ | ⟨j0, hj0, hi, hK⟩
  · have HB : Hid (Below w.heap.size w w1) := hb1
    have HFL : Hid (l.filter p = l) := hfl
    rw [hi]
    clear CI ID hb1 hi hfl
    go_wp2
    go_ret
    rw [HFL.out, HL.out]
    exact ⟨rfl, HMu.out.ints.under HB.out, Turn.of_below HB.out⟩
  · have hg : g < w.heap.size := HLow.out (by omega)
    have HT : Hid (Turn g w w1 ∧ Mut w1 g l ∧ Kept p l n j0 (j0 + 1) l) := ⟨Turn.of_below hb1, HMu.out.kept (hb1.block g hg), hK⟩
    have e1 : IntKind.i64.wrap ((j0 : Int) + 1) = ((j0 + 1 : Nat) : Int) := by rw [IntWalk.i64_in _ (by omega)]; omega
    have e2 : ((j0 : Int) == -1) = false := by rw [beq_eq_false_iff_ne]; omega
    rw [hi]
    clear CI ID hb1 hi hK HMu HLow
    go_wp2_with fail
    go_loopw [5, 6] (fun iv jv wx => ∃ i j : Nat, i < j ∧ j ≤ n ∧ iv = .int .i64 i ∧ jv = .int .i64 j ∧ Hid (∃ zs, Turn g w wx ∧ Mut wx g zs ∧ Kept p l n i j zs)) (fun _ jv _ => n - (intOf jv).toNat)
    case atStart => exact ⟨j0, j0 + 1, by omega, by omega, rfl, by go_num, l, HT.out⟩
    case round =>
      obtain ⟨i, j, hij, hj, rfl, rfl, HX⟩ := hrel
      clear HT e1 e2 hj0
      obtain ⟨zs, hT, hM, hK⟩ := HX.out
      have HTr : Hid (Turn g w wr) := hT
      have HM : Hid (Mut wr g zs) := hM
      have HK : Hid (Kept p l n i j zs) := hK
      by_cases hlt : j < n
      · have n1 : (j : Int) < (n : Int) := by omega
        have n2 : (i : Int) < (n : Int) := by omega
        obtain ⟨x, hx⟩ : ∃ x, l[j]? = some x := ⟨l[j]'(by rw [HL.out]; exact hlt), List.getElem?_eq_getElem _⟩
        have c1 : wr.cell? ⟨g, 0 + j, none⟩ = some (.int .i64 x) := by rw [Nat.zero_add]; exact (hM j x (hK.at.trans hx)).1
        have c1' : wr.cell? ⟨g, j, none⟩ = some (.int .i64 x) := (hM j x (hK.at.trans hx)).1
        have CC : Hid _ := HF.out wr hT x (List.mem_of_getElem? hx)
        have hgr : g < wr.heap.size := World.block_lt_of_cell? _ _ c1'
        rcases hp : p x
        · have HK2 : Hid (Kept p l n i (j + 1) zs) := hK.skip hx hp
          rw [hp] at CC
          clear hx hp hT hM hK HX HK
          go_wp2_with fail
          refine Calls.mono CC.out ?_
          rintro e w2 ⟨rfl, hb⟩
          have HY : Hid (∃ zs, Turn g w w2 ∧ Mut w2 g zs ∧ Kept p l n i (j + 1) zs) := ⟨zs, HTr.out.trans (Turn.of_below hb), HM.out.kept (hb.block g hgr), HK2.out⟩
          clear CC hb
          go_wp2
          go_roundw
          case rel => exact ⟨i, j + 1, by omega, by omega, rfl, by go_num, HY.out⟩
          case measure => simp [intOf]; omega
        · have HK2 : Hid (Kept p l n (i + 1) (j + 1) (zs.set i x)) := hK.keep hx hp hij hlt
          obtain ⟨y, hy⟩ : ∃ y, zs[i]? = some y := ⟨zs[i]'(by rw [hK.len]; omega), List.getElem?_eq_getElem _⟩
          have HC2 : Hid (wr.cell? ⟨g, i, none⟩ = some (.int .i64 y) ∧ wr.frozen? ⟨g, i, none⟩ = false) := hM i y hy
          rw [hp] at CC
          clear hx hp hT hM hK HX HK hy
          go_wp2_with fail
          refine Calls.mono CC.out ?_
          rintro e w2 ⟨rfl, hb⟩
          have hbb := hb.block g hgr
          have d1 : w2.cell? ⟨g, i, none⟩ = some (.int .i64 y) := by rw [World.cell?_of_block (a := ⟨g, i, none⟩) hbb]; exact HC2.out.1
          have d2 : w2.frozen? ⟨g, i, none⟩ = false := by rw [frozen_block hbb]; exact HC2.out.2
          have HY : Hid (∃ zs, Turn g w (w2.setCell ⟨g, i, none⟩ (.int .i64 x)) ∧ Mut (w2.setCell ⟨g, i, none⟩ (.int .i64 x)) g zs ∧ Kept p l n (i + 1) (j + 1) zs) := ⟨_, (HTr.out.trans (Turn.of_below hb)).trans (turn_setCell _ _ _ _), (HM.out.kept hbb).set i x, HK2.out⟩
          clear CC hb hbb HC2
          go_wp2
          go_roundw
          case rel => exact ⟨i + 1, j + 1, by omega, by omega, by go_num, by go_num, HY.out⟩
          case measure => simp [intOf]; omega
      · have n1 : ¬ (j : Int) < (n : Int) := by omega
        have hjn : j = n := by omega
        have HQ : Hid (zs.take i = l.filter p) := by
          have := hK.take
          rw [List.take_of_length_le (l := l) (by rw [HL.out]; omega)] at this
          exact this
        have HI : Hid (i = (l.filter p).length) := by
          show i = _
          have h2 := congrArg List.length HQ.out
          rw [List.length_take, hK.len] at h2
          omega
        have n2 : i ≤ c := by omega
        have hz : ∀ q, q < n - i → (wr.cell? ⟨g, i + q, none⟩).isSome = true ∧ wr.frozen? ⟨g, i + q, none⟩ = false := fun q hq => by
          obtain ⟨h1, h2⟩ := hM (i + q) _ (List.getElem?_eq_getElem (by rw [hK.len]; omega))
          exact ⟨by rw [h1]; rfl, h2⟩
        have hclr := Lib.run_clear_slice (P := Tryz.prog) wr 44 3 0 (.int .i64 0) Tryz.underlying44 (fun w => by kernel_rfl) rfl rfl g i (n - i) (c - i) (by omega) (fun q hq => (hz q hq).1) (fun q hq => (hz q hq).2)
        have HE : Hid (IntsAt (wr.setCells g i (List.replicate (n - i) (.int .i64 0))) (some ⟨g, 0, none⟩) (l.filter p) ∧ Turn g w (wr.setCells g i (List.replicate (n - i) (.int .i64 0)))) := by
          refine ⟨fun q x hx => ⟨g, 0, rfl, ?_⟩, hT.trans (turn_setCells g _ _ _)⟩
          rw [← HQ.out, List.getElem?_take] at hx
          split at hx
          · rename_i hq
            rw [Nat.zero_add, World.cell?_setCells_out g _ _ _ _ (fun _ _ => .inl hq)]
            exact (hM q x hx).1
          · cases hx
        clear hz hT hM hK HX HK HM HTr HF
        go_wp2
        go_ret
        rw [← HI.out]
        exact ⟨rfl, HE.out⟩
end Go.Proofs.YtjaccgkeldabfaaGreat
