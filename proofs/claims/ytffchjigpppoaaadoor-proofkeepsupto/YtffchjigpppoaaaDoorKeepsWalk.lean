/- The walk of ProofKeeps. -/
import Derived.Test.YtffchjigpppoaaaDoorKeep
import Derived.Deep.DeepCutAuto
import Derived.Deep.Cut
import Derived.Deep.CutRange
namespace Go.Proofs.YtffchjigpppoaaaDoor
open Go.RowKit

theorem infoPf : (Tryd.prog.info? 43).map (fun i => (i.zero, i.size, i.bytes)) = some (some (.agg #[.int .i64 0, .slice none 0 0, .slice none 0 0, .bool false, .bool false, .string ⟨#[]⟩, .int .i64 0, .int .i64 0, .int .i64 0]), 9, 104) := by kernel_rfl
theorem infoSt : (Tryd.prog.info? 35).map (fun i => (i.zero, i.size, i.bytes)) = some (some (.slice none 0 0), 1, 24) := by kernel_rfl
theorem infoSc : (Tryd.prog.info? 37).map (fun i => (i.zero, i.size, i.bytes)) = some (some (.slice none 0 0), 1, 24) := by kernel_rfl

set_option maxRecDepth 100000 in
set_option maxHeartbeats 32000000 in
theorem keeps_walk (w : World) (a : Option Addr) (n c : Nat) (ts : List Tok) (hl : ts.length = n) (hn : n ≤ 1048576) (hc : n ≤ c) (h : ToksAt w a ts) (hT : Tabs w) (hRm : RoomAt w) (hB0 : (allBytes ts).length ≤ 1048576)
    (b : Option Addr) (m d : Nat) (us : List Tok) (hl2 : us.length = m) (hm : m ≤ 1048576) (hd : m ≤ d) (h2 : ToksAt w b us) (hB2 : (allBytes us).length ≤ 1048576) :
    Calls Tryd.prog 5 #[.slice a n c, .slice b m d] w fun e w' => e = .returned (.bool true) ∧ Below w.heap.size w w' := by
  obtain ⟨ip, hip, ipz, ips, ipb⟩ := info_parts infoPf
  obtain ⟨it, hit, itz, its, itb⟩ := info_parts infoT
  obtain ⟨ic, hic, icz, ics, icb⟩ := info_parts infoC
  obtain ⟨iu, hiu, iuz, ius, iub⟩ := info_parts infoSt
  obtain ⟨iv, hiv, ivz, ivs, ivb⟩ := info_parts infoSc
  obtain ⟨pv, hpv⟩ : ∃ pv : Nat → PV, pv = fun r => if r = 0 then parseT ts else parseT us := ⟨_, rfl⟩
  obtain ⟨A, hA⟩ : ∃ A : Nat → Value, A = fun r => if r = 0 then .slice a n c else .slice b m d := ⟨_, rfl⟩
  obtain ⟨w1, hw1⟩ : ∃ w1, w1 = w.alloc (.cells #[.slice a n c, .slice b m d] 36) := ⟨_, rfl⟩
  obtain ⟨w2, hw2⟩ : ∃ w2, w2 = w1.alloc (.cells #[.int .i64 0, .slice none 0 0, .slice none 0 0, .bool false, .bool false, .string ⟨#[]⟩, .int .i64 0, .int .i64 0, .int .i64 0, .int .i64 0, .slice none 0 0, .slice none 0 0, .bool false, .bool false, .string ⟨#[]⟩, .int .i64 0, .int .i64 0, .int .i64 0] 44) := ⟨_, rfl⟩
  have hb1 : Below w.heap.size w w1 := by rw [hw1]; exact below_alloc _ _
  have hb2 : Below w1.heap.size w1 w2 := by rw [hw2]; exact below_alloc _ _
  have hs1 : w1.heap.size = w.heap.size + 1 := by rw [hw1]; simp
  have hbx : w1.heap[w.heap.size]? = some (.cells #[.slice a n c, .slice b m d] 36 (0, 0)) := by rw [hw1]; exact heap_alloc_new w _
  obtain ⟨B0, hB0e⟩ : ∃ B0, w.heap.size = B0 := ⟨_, rfl⟩
  obtain ⟨B1, hB1e⟩ : ∃ B1, w1.heap.size = B1 := ⟨_, rfl⟩
  have hB10 : B0 < B1 := by omega
  have W1 : Hid (Below w.heap.size w w1) := hb1
  have PP : Hid (∀ wx r, r < 2 → Below B1 w1 wx → Calls Tryd.prog 18 #[A r, .agg #[.string roomS, .int .i64 0, .int .i64 0, .int .i64 0]] wx fun e w' => ProofIs wx w' e (pv r) roomT) := fun wx r hr hx => by
    have hx1 : Below w.heap.size w wx := hb1.trans (hx.mono (by omega))
    have hTx := hT.under hT.size hx1
    subst hpv hA
    rcases Nat.lt_or_ge r 1 with h0 | h0
    · obtain rfl : r = 0 := by omega
      exact parse_any wx a n c ts roomT hl (by omega) hc (h.under hx1) hTx (by omega)
    · obtain rfl : r = 1 := by omega
      exact parse_any wx b m d us roomT hl2 (by omega) hd (h2.under hx1) hTx (by omega)
  have CL : Hid (∀ wx r, r < 2 → Below B1 w1 wx → wx.cell? ⟨B0, r, none⟩ = some (A r)) := fun wx r hr hx => by
    have hk := (hx.block B0 hB10).trans (hB0e ▸ hbx)
    rw [cell_whole hk r]
    subst hA
    rcases Nat.lt_or_ge r 1 with h0 | h0
    · obtain rfl : r = 0 := by omega
      rfl
    · obtain rfl : r = 1 := by omega
      rfl
  have CR : Hid (∀ wx, Below B1 w1 wx → RoomAt wx) := fun wx hx => hRm.under (hb1.trans (hx.mono (by omega)))
  have PL : Hid (∀ r, r < 2 → (pv r).labels.length ≤ 1048576 ∧ (pv r).codes.length ≤ 1048577) := fun r hr => by
    have h3 := labels_len ts
    have h4 := labels_len us
    have h5 := codes_len ts
    have h6 := codes_len us
    subst hpv
    rcases Nat.lt_or_ge r 1 with h0 | h0
    · obtain rfl : r = 0 := by omega
      exact ⟨by show (parseT ts).labels.length ≤ _; omega, by show (parseT ts).codes.length ≤ _; omega⟩
    · obtain rfl : r = 1 := by omega
      exact ⟨by show (parseT us).labels.length ≤ _; omega, by show (parseT us).codes.length ≤ _; omega⟩
  have R0 : Hid (Rnd B1 pv (fun _ => False) w2 (.slice none 0 0) (.slice none 0 0) (.slice none 0 0) 0 0 0 [] [] [] [] 0) := by
    refine ⟨World.ownsRow_nil _ _ _ _, World.ownsRow_nil _ _ _ _, World.ownsRow_nil _ _ _ _, (fun g e => by cases e), (fun g e => by cases e), (fun g e => by cases e), (fun j x hj => by cases hj), ⟨#[.int .i64 0, .slice none 0 0, .slice none 0 0, .bool false, .bool false, .string ⟨#[]⟩, .int .i64 0, .int .i64 0, .int .i64 0, .int .i64 0, .slice none 0 0, .slice none 0 0, .bool false, .bool false, .string ⟨#[]⟩, .int .i64 0, .int .i64 0, .int .i64 0], ?_, rfl⟩, (fun r _ hr => absurd hr (by omega)), (fun g hg => hg.elim)⟩
    rw [hw2, ← hB1e]
    exact heap_alloc_new w1 _
  have B2 : Hid (Below B1 w1 w2) := by rw [← hB1e]; exact hb2
  have HBB : Hid (w.heap.size = B0) := hB0e
  have HB1 : Hid (w1.heap.size = B1) := hB1e
  clear hl hl2 h h2 hT hRm hB0 hB2 hpv hA hb1 hb2 hbx hc hd
  go_enter Tryd.func5, Tryd.ntmps5
  go_wp2_with fail
  try rw [← hw1]
  try rw [← hw2]
  try rw [hB0e]
  try rw [hB1e]
  have hB01 : B0 + 1 = B1 := by omega
  rw [hB01]
  clear hB01
  clear hw1 hw2 hs1 hB0e hB1e
  go_loopw [7, 8, 9, 10] (fun va vm vc vk wx => ∃ (k : Nat) (Ks : List Kept) (Pr : Nat → Prop), k ≤ 6 ∧ vk = .int .i64 k ∧ Hid (Ks.length = k) ∧ Hid (∀ (j : Nat) (y : Kept), Ks[j]? = some y → y.nl ≤ 1048577 ∧ y.nc ≤ 1048577) ∧ Hid (Rnd B1 pv Pr wx va vm vc k k k (Ks.flatMap allC) (Ks.map (·.mv)) (Ks.map (·.dv)) Ks k) ∧ Hid (Below B1 w1 wx)) (fun _ _ _ vk _ => 6 - (intOf vk).toNat)
  case atStart => exact ⟨0, [], fun _ => False, by omega, rfl, rfl, (fun j y hj => by cases hj), R0.out, B2.out⟩
  case round =>
    obtain ⟨k, Ks, Pr, hk, rfl, hKl, hKB, hR, hB⟩ := hrel
    by_cases hk6 : k < 6
    · have k1 : (k : Int) < 6 := by omega
      obtain ⟨r, hr⟩ : ∃ r : Nat, (k : Int) % 2 = (r : Int) := ⟨k % 2, by omega⟩
      have hrt : (k : Int).tmod 2 = (r : Int) := by rw [Int.tmod_eq_emod_of_nonneg (by omega)]; exact hr
      have hr2 : r < 2 := by omega
      have hr0 : (0 : Int) ≤ (r : Int) := by omega
      have hr3 : (r : Int) < 2 := by omega
      obtain ⟨nl, hnl⟩ : ∃ nl, (pv r).labels.length = nl := ⟨_, rfl⟩
      obtain ⟨nc, hnc⟩ : ∃ nc, (pv r).codes.length = nc := ⟨_, rfl⟩
      obtain ⟨hnlb, hncb⟩ := PL.out r hr2
      rw [hnl] at hnlb
      rw [hnc] at hncb
      have HNL : Hid ((pv r).labels.length = nl) := hnl
      have HNC : Hid ((pv r).codes.length = nc) := hnc
      clear hnl hnc
      go_upto_region 9 with fail
      go_cut [11] (fun v11 wx => ∃ (N : Nat) (al bl : Option Addr) (cl dl : Nat), v11 = .pointer (some ⟨N, 0, none⟩) ∧ nl ≤ cl ∧ nc ≤ dl ∧ Hid (Rnd B1 pv Pr wx u7 u8 u9 k k k (Ks.flatMap allC) (Ks.map (·.mv)) (Ks.map (·.dv)) Ks k) ∧ Hid (Fresh B1 Pr wx u7 u8 u9 N (.slice al nl cl) (.slice bl nc dl) nl nc (rowT (pv r).labels) (rowC (pv r).codes) #[.int .i64 (pv r).form, .slice al nl cl, .slice bl nc dl, .bool (pv r).broken, .bool (pv r).cut, .string roomS, .int .i64 0, .int .i64 0, .int .i64 0]) ∧ Hid (Below B1 w1 wx))
      case first => as_aux_lemma =>
        have HBd : Hid (Below B1 w1 wr.drew) := ⟨hB.out.os, hB.out.tape, hB.out.output, hB.out.size, hB.out.block⟩
        have RWd : Hid (Rnd B1 pv Pr wr.drew u7 u8 u9 k k k (Ks.flatMap allC) (Ks.map (·.mv)) (Ks.map (·.dv)) Ks k) := hR.out.below (below_drewN (Below.refl _ wr) 1)
        refine wp_region_held_drew (S := fun w' => w'.cell? ⟨B0, r, none⟩ = some (A r) ∧ w'.cell? ⟨0, 0, none⟩ = some (.string roomS) ∧ w'.cell? ⟨0, 1, none⟩ = some (.int .i64 0) ∧ w'.cell? ⟨0, 2, none⟩ = some (.int .i64 0) ∧ w'.cell? ⟨0, 3, none⟩ = some (.int .i64 0)) (by kernel_rfl) ?_ (fun hHeld => ?_)
        · exact ⟨CL.out _ r hr2 HBd.out, (CR.out _ HBd.out).1, (CR.out _ HBd.out).2.1, (CR.out _ HBd.out).2.2.1, (CR.out _ HBd.out).2.2.2⟩
        refine wpAnyH_take (i := 0) (oi := { dst := some 25, op := Op.move (Operand.tmp 10), type := 3, pos := "outright.go:193", after := #[], guard := none }) (v := ?_) rfl (by kernel_rfl) (by kernel_rfl) (by kernel_rfl) (fun _ _ _ h => h) (Or.inl ⟨by rfl, ?_⟩) hHeld ?_
        rotate_left
        · (intro w hSw; (try dsimp only at hSw); go_simp; try with_reducible rfl)
        try simp only [Act.put, List.setIfInBounds_toArray, List.set_cons_zero, List.set_cons_succ]
        refine wpAnyH_take (i := 1) (oi := { dst := some 26, op := Op.binOp BinOp.rem 3 (Operand.tmp 25) (Operand.const (Value.int IntKind.i64 2)) 3, type := 3, pos := "outright.go:193", after := #[{ on := 0, ground := Ground.data }], guard := none }) (v := ?_) rfl (by kernel_rfl) (by kernel_rfl) (by kernel_rfl) (fun _ _ _ h => h) (Or.inl ⟨by rfl, ?_⟩) hHeld ?_
        rotate_left
        · (intro w hSw; (try dsimp only at hSw); go_simp; try with_reducible rfl)
        try simp only [Act.put, List.setIfInBounds_toArray, List.set_cons_zero, List.set_cons_succ]
        refine wpAnyH_take (i := 2) (oi := { dst := some 27, op := Op.indexAddr 36 (Operand.tmp 5) (Operand.tmp 26), type := 0, pos := "outright.go:193", after := #[{ on := 1, ground := Ground.data }], guard := none }) (v := ?_) rfl (by kernel_rfl) (by kernel_rfl) (by kernel_rfl) (fun _ _ _ h => h) (Or.inl ⟨by rfl, ?_⟩) hHeld ?_
        rotate_left
        · (intro w hSw; (try dsimp only at hSw); go_simp; try with_reducible rfl)
        try simp only [Act.put, List.setIfInBounds_toArray, List.set_cons_zero, List.set_cons_succ]
        refine wpAnyH_take (i := 3) (oi := { dst := some 28, op := Op.load 35 (Operand.tmp 27), type := 35, pos := "outright.go:193", after := #[{ on := 2, ground := Ground.data }], guard := none }) (v := ?_) rfl (by kernel_rfl) (by kernel_rfl) (by kernel_rfl) (fun _ _ _ h => h) (Or.inl ⟨by rfl, ?_⟩) hHeld ?_
        rotate_left
        · (intro w hSw; (try dsimp only at hSw); go_simp; try with_reducible rfl)
        try simp only [Act.put, List.setIfInBounds_toArray, List.set_cons_zero, List.set_cons_succ]
        refine wpAnyH_take (i := 4) (oi := { dst := some 29, op := Op.load 41 (Operand.global 0), type := 41, pos := "outright.go:193", after := #[], guard := none }) (v := ?_) rfl (by kernel_rfl) (by kernel_rfl) (by kernel_rfl) (fun _ _ _ h => h) (Or.inl ⟨by rfl, ?_⟩) hHeld ?_
        rotate_left
        · (intro w hSw; (try dsimp only at hSw); go_simp; try with_reducible rfl)
        try simp only [Act.put, List.setIfInBounds_toArray, List.set_cons_zero, List.set_cons_succ]
        refine wpAnyH_ready (rs := [5, 6]) (by kernel_rfl) (by simp) ?_
        refine AllReadyH.cons (o := { dst := some 30, op := Op.call { callee := Callee.value (Operand.func 18), args := #[Operand.tmp 28, Operand.tmp 29], argTypes := #[35, 41] }, type := 43, pos := "outright.go:193", after := #[{ on := 3, ground := Ground.data }, { on := 4, ground := Ground.data }], guard := none }) rfl (fun K hK => ?_) (AllReadyH.cons (o := { dst := some 11, op := Op.alloc 43, type := 0, pos := "outright.go:193", after := #[], guard := none }) rfl (fun K hK => ?_) AllReadyH.nil)
        · go_simp
          go_at_call 18
          refine Calls.mono (PP.out _ r hr2 HBd.out) ?_
          rintro e w7 ⟨u7x, v7x, rfl, hu7, hv7, hap, hb7⟩
          rw [HNL.out] at hu7
          rw [HNC.out] at hv7
          obtain ⟨al, cl, rfl, hcl, _⟩ := own_cell hu7
          obtain ⟨bl, dl, rfl, hdl, _⟩ := own_cell hv7
          have HBw7 : Hid (Below B1 w1 w7) := HBd.out.trans (hb7.mono (by have h1 := HBd.out.size; have h2 := HB1.out; omega))
          have RW7 : Hid (Rnd B1 pv Pr w7 u7 u8 u9 k k k (Ks.flatMap allC) (Ks.map (·.mv)) (Ks.map (·.dv)) Ks k) := RWd.out.below hb7
          have HFU : Hid (∀ g, (Value.slice al nl cl).ownBlock = some g → wr.drew.heap.size ≤ g ∧ g < w7.heap.size) := fun g hg => ⟨own_ge' hu7 g hg, own_lt hu7 g hg⟩
          have HFV : Hid (∀ g, (Value.slice bl nc dl).ownBlock = some g → (wr.drew.heap.size ≤ g ∧ g < w7.heap.size) ∧ (Value.slice al nl cl).ownBlock ≠ some g) := fun g hg => ⟨⟨own_ge' hv7 g hg, own_lt hv7 g hg⟩, fun e => hap g e hg⟩
          have HLB : B1 + 1 ≤ wr.drew.heap.size := RWd.out.lt
          have HUw7 : Hid (w7.ownsRow (B1 + 1) 41 4 (.slice al nl cl) nl (rowT (pv r).labels)) := owns_mono hu7 HLB
          have HVw7 : Hid (w7.ownsRow (B1 + 1) 51 5 (.slice bl nc dl) nc (rowC (pv r).codes)) := owns_mono hv7 HLB
          have HWZ : Hid (wr.heap.size ≤ wr.drew.heap.size) := Nat.le_refl _
          have HSz7 : Hid (wr.heap.size ≤ w7.heap.size) := Nat.le_trans HWZ.out hb7.size
          clear hu7 hv7 hb7 hap HLB
          try go_wp2_with fail
          refine hK.out _ _ ?_ (fun hHeld_5 => ?_)
          · exact ⟨CL.out _ r hr2 HBw7.out, (CR.out _ HBw7.out).1, (CR.out _ HBw7.out).2.1, (CR.out _ HBw7.out).2.2.1, (CR.out _ HBw7.out).2.2.2⟩
          clear hK K
          try simp only [Act.put, List.setIfInBounds_toArray, List.set_cons_zero, List.set_cons_succ]
          refine wpAnyH_ready (rs := [6]) (by kernel_rfl) (by simp) ?_
          refine AllReadyH.cons (o := { dst := some 11, op := Op.alloc 43, type := 0, pos := "outright.go:193", after := #[], guard := none }) rfl (fun K hK => ?_) AllReadyH.nil
          go_simp
          obtain ⟨w8, hw8⟩ : ∃ w8, w8 = (w7.alloc (.cells #[.int .i64 0, .slice none 0 0, .slice none 0 0, .bool false, .bool false, .string ⟨#[]⟩, .int .i64 0, .int .i64 0, .int .i64 0] 43)) := ⟨_, rfl⟩
          have hbx8 : Below w7.heap.size w7 w8 := by rw [hw8]; exact below_alloc w7 _
          have HBw8 : Hid (Below B1 w1 w8) := HBw7.out.trans (hbx8.mono (by have h1 := HBw7.out.size; have h2 := HB1.out; omega))
          have RWw8 : Hid (Rnd B1 pv Pr w8 u7 u8 u9 k k k (Ks.flatMap allC) (Ks.map (·.mv)) (Ks.map (·.dv)) Ks k) := RW7.out.below hbx8
          obtain ⟨Dk, hDk⟩ : ∃ Dk, w7.heap.size = Dk := ⟨_, rfl⟩
          have KDw8 : Hid (w8.heap[Dk]? = some (.cells #[.int .i64 0, .slice none 0 0, .slice none 0 0, .bool false, .bool false, .string ⟨#[]⟩, .int .i64 0, .int .i64 0, .int .i64 0] 43 (0, 0))) := by rw [hw8, ← hDk]; exact heap_alloc_new _ _
          have HSz8 : Hid (wr.heap.size ≤ w8.heap.size) := Nat.le_trans HSz7.out hbx8.size
          have HDW : Hid (wr.heap.size ≤ Dk) := by rw [← hDk]; exact HSz7.out
          have HUw8 : Hid (w8.ownsRow (B1 + 1) 41 4 (.slice al nl cl) nl (rowT (pv r).labels)) := by rw [hw8]; exact owns_alloc HUw7.out _
          have HVw8 : Hid (w8.ownsRow (B1 + 1) 51 5 (.slice bl nc dl) nc (rowC (pv r).codes)) := by rw [hw8]; exact owns_alloc HVw7.out _
          have HAU : Hid (∀ g, (Value.slice al nl cl).ownBlock = some g → g ≠ Dk) := fun g hg => by have h := (HFU.out g hg).2; omega
          have HAV : Hid (∀ g, (Value.slice bl nc dl).ownBlock = some g → g ≠ Dk) := fun g hg => by have h := (HFV.out g hg).1.2; omega
          try rw [hDk]
          rw [← hw8]
          clear hw8 hDk hbx8
          refine hK.out _ _ ?_ (fun hHeld_6 => ?_)
          · exact ⟨CL.out _ r hr2 HBw8.out, (CR.out _ HBw8.out).1, (CR.out _ HBw8.out).2.1, (CR.out _ HBw8.out).2.2.1, (CR.out _ HBw8.out).2.2.2⟩
          clear hK K
          try simp only [Act.put, List.setIfInBounds_toArray, List.set_cons_zero, List.set_cons_succ]
          refine wpAnyH_ready (rs := [7]) (by kernel_rfl) (by simp) ?_
          refine AllReadyH.cons (o := { dst := none, op := Op.store 43 (Operand.tmp 11) (Operand.tmp 30), type := 0, pos := "outright.go:193", after := #[{ on := 6, ground := Ground.data }, { on := 5, ground := Ground.data }, { on := 5, ground := Ground.chain }, { on := 0, ground := Ground.phase }, { on := 1, ground := Ground.phase }, { on := 2, ground := Ground.phase }, { on := 3, ground := Ground.phase }, { on := 4, ground := Ground.phase }, { on := 5, ground := Ground.phase }, { on := 6, ground := Ground.phase }], guard := none }) rfl (fun K hK => ?_) AllReadyH.nil
          refine wp_store_mid 43 _ _ rfl Dk 0 #[.int .i64 (pv r).form, .slice al nl cl, .slice bl nc dl, .bool (pv r).broken, .bool (pv r).cut, .string roomS, .int .i64 0, .int .i64 0, .int .i64 0] rfl rfl (show w8.there Dk 0 9 from there_whole KDw8.out) (by kernel_rfl) (by simp [Value.oneCell']) ?_
          obtain ⟨wz, hwz⟩ : ∃ wz, wz = w8.setCells Dk 0 #[.int .i64 (pv r).form, .slice al nl cl, .slice bl nc dl, .bool (pv r).broken, .bool (pv r).cut, .string roomS, .int .i64 0, .int .i64 0, .int .i64 0].toList := ⟨_, rfl⟩
          have KZ : Hid (wz.heap[Dk]? = some (.cells #[.int .i64 (pv r).form, .slice al nl cl, .slice bl nc dl, .bool (pv r).broken, .bool (pv r).cut, .string roomS, .int .i64 0, .int .i64 0, .int .i64 0] 43 (0, 0))) := by rw [hwz]; exact setCells_whole Dk 43 [.int .i64 (pv r).form, .slice al nl cl, .slice bl nc dl, .bool (pv r).broken, .bool (pv r).cut, .string roomS, .int .i64 0, .int .i64 0, .int .i64 0] [] _ w8 KDw8.out rfl
          have CZ : Hid (Ch (fun g => g = Dk) w8 wz) := ⟨by rw [hwz]; exact (setCells_below (Nat.le_refl Dk) _ _ _ (Below.refl _ _)).os, by rw [hwz]; exact (setCells_below (Nat.le_refl Dk) _ _ _ (Below.refl _ _)).tape, by rw [hwz]; exact (setCells_below (Nat.le_refl Dk) _ _ _ (Below.refl _ _)).output, by rw [hwz]; exact (setCells_below (Nat.le_refl Dk) _ _ _ (Below.refl _ _)).size, fun g _ hg => by rw [hwz]; exact setCells_other _ _ _ _ _ hg⟩
          have FD : Hid (Free B1 Pr u7 u8 u9 Dk) := hR.out.free HDW.out
          have HDB : B1 ≤ Dk := Nat.le_of_lt FD.out.b1
          have HBwz : Hid (Below B1 w1 wz) := by rw [hwz]; exact setCells_below HDB _ _ _ HBw8.out
          have RWz : Hid (Rnd B1 pv Pr wz u7 u8 u9 k k k (Ks.flatMap allC) (Ks.map (·.mv)) (Ks.map (·.dv)) Ks k) := RWw8.out.chFree CZ.out fun g hg => hg ▸ FD.out
          have FZ : Hid (Fresh B1 Pr wz u7 u8 u9 Dk (.slice al nl cl) (.slice bl nc dl) nl nc (rowT (pv r).labels) (rowC (pv r).codes) #[.int .i64 (pv r).form, .slice al nl cl, .slice bl nc dl, .bool (pv r).broken, .bool (pv r).cut, .string roomS, .int .i64 0, .int .i64 0, .int .i64 0]) := ⟨FD.out, KZ.out, owns_ch HUw8.out CZ.out fun g e hx => HAU.out g e hx, owns_ch HVw8.out CZ.out fun g e hx => HAV.out g e hx, fun g e => ⟨hR.out.free (Nat.le_trans HWZ.out (HFU.out g e).1), HAU.out g e⟩, fun g e => ⟨hR.out.free (Nat.le_trans HWZ.out (HFV.out g e).1.1), HAV.out g e, (HFV.out g e).2⟩⟩
          rw [← hwz]
          clear hwz
          refine hK.out _ _ ?_ (fun hHeld_7 => ?_)
          · exact ⟨CL.out _ r hr2 HBwz.out, (CR.out _ HBwz.out).1, (CR.out _ HBwz.out).2.1, (CR.out _ HBwz.out).2.2.1, (CR.out _ HBwz.out).2.2.2⟩
          clear hK K
          try simp only [Act.put]
          refine wpAnyH_done (by kernel_rfl) ?_ _
          go_wp2_with fail
          go_meet
          exact ⟨Dk, al, bl, cl, dl, rfl, hcl, hdl, RWz.out, FZ.out, HBwz.out⟩
        · go_simp
          obtain ⟨w8, hw8⟩ : ∃ w8, w8 = (wr.alloc (.cells #[.int .i64 0, .slice none 0 0, .slice none 0 0, .bool false, .bool false, .string ⟨#[]⟩, .int .i64 0, .int .i64 0, .int .i64 0] 43)).drew := ⟨_, rfl⟩
          have hbx8 : Below wr.heap.size wr w8 := by rw [hw8]; exact (below_alloc wr _).drew
          have HBw8 : Hid (Below B1 w1 w8) := hB.out.trans (hbx8.mono (by have h1 := hB.out.size; have h2 := HB1.out; omega))
          have RWw8 : Hid (Rnd B1 pv Pr w8 u7 u8 u9 k k k (Ks.flatMap allC) (Ks.map (·.mv)) (Ks.map (·.dv)) Ks k) := hR.out.below hbx8
          obtain ⟨Dk, hDk⟩ : ∃ Dk, wr.heap.size = Dk := ⟨_, rfl⟩
          have KDw8 : Hid (w8.heap[Dk]? = some (.cells #[.int .i64 0, .slice none 0 0, .slice none 0 0, .bool false, .bool false, .string ⟨#[]⟩, .int .i64 0, .int .i64 0, .int .i64 0] 43 (0, 0))) := by rw [hw8, ← hDk]; exact heap_alloc_new _ _
          have HSz8 : Hid (wr.heap.size ≤ w8.heap.size) := hbx8.size
          have HDW : Hid (wr.heap.size ≤ Dk) := by rw [← hDk]; exact Nat.le_refl _
          try rw [hDk]
          rw [← hw8]
          clear hw8 hDk hbx8
          refine hK.out _ _ ?_ (fun hHeld_6 => ?_)
          · exact ⟨CL.out _ r hr2 HBw8.out, (CR.out _ HBw8.out).1, (CR.out _ HBw8.out).2.1, (CR.out _ HBw8.out).2.2.1, (CR.out _ HBw8.out).2.2.2⟩
          clear hK K
          try simp only [Act.put, List.setIfInBounds_toArray, List.set_cons_zero, List.set_cons_succ]
          refine wpAnyH_ready (rs := [5]) (by kernel_rfl) (by simp) ?_
          refine AllReadyH.cons (o := { dst := some 30, op := Op.call { callee := Callee.value (Operand.func 18), args := #[Operand.tmp 28, Operand.tmp 29], argTypes := #[35, 41] }, type := 43, pos := "outright.go:193", after := #[{ on := 3, ground := Ground.data }, { on := 4, ground := Ground.data }], guard := none }) rfl (fun K hK => ?_) AllReadyH.nil
          go_simp
          go_at_call 18
          refine Calls.mono (PP.out _ r hr2 HBw8.out) ?_
          rintro e w7 ⟨u7x, v7x, rfl, hu7, hv7, hap, hb7⟩
          rw [HNL.out] at hu7
          rw [HNC.out] at hv7
          obtain ⟨al, cl, rfl, hcl, _⟩ := own_cell hu7
          obtain ⟨bl, dl, rfl, hdl, _⟩ := own_cell hv7
          have HBw7 : Hid (Below B1 w1 w7) := HBw8.out.trans (hb7.mono (by have h1 := HBw8.out.size; have h2 := HB1.out; omega))
          have RW7 : Hid (Rnd B1 pv Pr w7 u7 u8 u9 k k k (Ks.flatMap allC) (Ks.map (·.mv)) (Ks.map (·.dv)) Ks k) := RWw8.out.below hb7
          have HFU : Hid (∀ g, (Value.slice al nl cl).ownBlock = some g → w8.heap.size ≤ g ∧ g < w7.heap.size) := fun g hg => ⟨own_ge' hu7 g hg, own_lt hu7 g hg⟩
          have HFV : Hid (∀ g, (Value.slice bl nc dl).ownBlock = some g → (w8.heap.size ≤ g ∧ g < w7.heap.size) ∧ (Value.slice al nl cl).ownBlock ≠ some g) := fun g hg => ⟨⟨own_ge' hv7 g hg, own_lt hv7 g hg⟩, fun e => hap g e hg⟩
          have HLB : B1 + 1 ≤ w8.heap.size := RWw8.out.lt
          have HUw7 : Hid (w7.ownsRow (B1 + 1) 41 4 (.slice al nl cl) nl (rowT (pv r).labels)) := owns_mono hu7 HLB
          have HVw7 : Hid (w7.ownsRow (B1 + 1) 51 5 (.slice bl nc dl) nc (rowC (pv r).codes)) := owns_mono hv7 HLB
          have HWZ : Hid (wr.heap.size ≤ w8.heap.size) := HSz8.out
          have HSz7 : Hid (wr.heap.size ≤ w7.heap.size) := Nat.le_trans HWZ.out hb7.size
          have KDw7 : Hid (w7.heap[Dk]? = some (.cells #[.int .i64 0, .slice none 0 0, .slice none 0 0, .bool false, .bool false, .string ⟨#[]⟩, .int .i64 0, .int .i64 0, .int .i64 0] 43 (0, 0))) := (hb7.block Dk (Array.getElem?_eq_some_iff.1 KDw8.out).1).trans KDw8.out
          have HAU : Hid (∀ g, (Value.slice al nl cl).ownBlock = some g → g ≠ Dk) := fun g hg => by have h1 := (HFU.out g hg).1; have h2 := (Array.getElem?_eq_some_iff.1 KDw8.out).1; omega
          have HAV : Hid (∀ g, (Value.slice bl nc dl).ownBlock = some g → g ≠ Dk) := fun g hg => by have h1 := (HFV.out g hg).1.1; have h2 := (Array.getElem?_eq_some_iff.1 KDw8.out).1; omega
          clear hu7 hv7 hb7 hap HLB
          try go_wp2_with fail
          refine hK.out _ _ ?_ (fun hHeld_5 => ?_)
          · exact ⟨CL.out _ r hr2 HBw7.out, (CR.out _ HBw7.out).1, (CR.out _ HBw7.out).2.1, (CR.out _ HBw7.out).2.2.1, (CR.out _ HBw7.out).2.2.2⟩
          clear hK K
          try simp only [Act.put, List.setIfInBounds_toArray, List.set_cons_zero, List.set_cons_succ]
          refine wpAnyH_ready (rs := [7]) (by kernel_rfl) (by simp) ?_
          refine AllReadyH.cons (o := { dst := none, op := Op.store 43 (Operand.tmp 11) (Operand.tmp 30), type := 0, pos := "outright.go:193", after := #[{ on := 6, ground := Ground.data }, { on := 5, ground := Ground.data }, { on := 5, ground := Ground.chain }, { on := 0, ground := Ground.phase }, { on := 1, ground := Ground.phase }, { on := 2, ground := Ground.phase }, { on := 3, ground := Ground.phase }, { on := 4, ground := Ground.phase }, { on := 5, ground := Ground.phase }, { on := 6, ground := Ground.phase }], guard := none }) rfl (fun K hK => ?_) AllReadyH.nil
          refine wp_store_mid 43 _ _ rfl Dk 0 #[.int .i64 (pv r).form, .slice al nl cl, .slice bl nc dl, .bool (pv r).broken, .bool (pv r).cut, .string roomS, .int .i64 0, .int .i64 0, .int .i64 0] rfl rfl (show w7.there Dk 0 9 from there_whole KDw7.out) (by kernel_rfl) (by simp [Value.oneCell']) ?_
          obtain ⟨wz, hwz⟩ : ∃ wz, wz = w7.setCells Dk 0 #[.int .i64 (pv r).form, .slice al nl cl, .slice bl nc dl, .bool (pv r).broken, .bool (pv r).cut, .string roomS, .int .i64 0, .int .i64 0, .int .i64 0].toList := ⟨_, rfl⟩
          have KZ : Hid (wz.heap[Dk]? = some (.cells #[.int .i64 (pv r).form, .slice al nl cl, .slice bl nc dl, .bool (pv r).broken, .bool (pv r).cut, .string roomS, .int .i64 0, .int .i64 0, .int .i64 0] 43 (0, 0))) := by rw [hwz]; exact setCells_whole Dk 43 [.int .i64 (pv r).form, .slice al nl cl, .slice bl nc dl, .bool (pv r).broken, .bool (pv r).cut, .string roomS, .int .i64 0, .int .i64 0, .int .i64 0] [] _ w7 KDw7.out rfl
          have CZ : Hid (Ch (fun g => g = Dk) w7 wz) := ⟨by rw [hwz]; exact (setCells_below (Nat.le_refl Dk) _ _ _ (Below.refl _ _)).os, by rw [hwz]; exact (setCells_below (Nat.le_refl Dk) _ _ _ (Below.refl _ _)).tape, by rw [hwz]; exact (setCells_below (Nat.le_refl Dk) _ _ _ (Below.refl _ _)).output, by rw [hwz]; exact (setCells_below (Nat.le_refl Dk) _ _ _ (Below.refl _ _)).size, fun g _ hg => by rw [hwz]; exact setCells_other _ _ _ _ _ hg⟩
          have FD : Hid (Free B1 Pr u7 u8 u9 Dk) := hR.out.free HDW.out
          have HDB : B1 ≤ Dk := Nat.le_of_lt FD.out.b1
          have HBwz : Hid (Below B1 w1 wz) := by rw [hwz]; exact setCells_below HDB _ _ _ HBw7.out
          have RWz : Hid (Rnd B1 pv Pr wz u7 u8 u9 k k k (Ks.flatMap allC) (Ks.map (·.mv)) (Ks.map (·.dv)) Ks k) := RW7.out.chFree CZ.out fun g hg => hg ▸ FD.out
          have FZ : Hid (Fresh B1 Pr wz u7 u8 u9 Dk (.slice al nl cl) (.slice bl nc dl) nl nc (rowT (pv r).labels) (rowC (pv r).codes) #[.int .i64 (pv r).form, .slice al nl cl, .slice bl nc dl, .bool (pv r).broken, .bool (pv r).cut, .string roomS, .int .i64 0, .int .i64 0, .int .i64 0]) := ⟨FD.out, KZ.out, owns_ch HUw7.out CZ.out fun g e hx => HAU.out g e hx, owns_ch HVw7.out CZ.out fun g e hx => HAV.out g e hx, fun g e => ⟨hR.out.free (Nat.le_trans HWZ.out (HFU.out g e).1), HAU.out g e⟩, fun g e => ⟨hR.out.free (Nat.le_trans HWZ.out (HFV.out g e).1.1), HAV.out g e, (HFV.out g e).2⟩⟩
          rw [← hwz]
          clear hwz
          refine hK.out _ _ ?_ (fun hHeld_7 => ?_)
          · exact ⟨CL.out _ r hr2 HBwz.out, (CR.out _ HBwz.out).1, (CR.out _ HBwz.out).2.1, (CR.out _ HBwz.out).2.2.1, (CR.out _ HBwz.out).2.2.2⟩
          clear hK K
          try simp only [Act.put]
          refine wpAnyH_done (by kernel_rfl) ?_ _
          go_wp2_with fail
          go_meet
          exact ⟨Dk, al, bl, cl, dl, rfl, hcl, hdl, RWz.out, FZ.out, HBwz.out⟩
      case rest =>
        obtain ⟨N, al, bl, cl, dl, rfl, hcl, hdl, hR2, hF2, hB2⟩ := hcut
        clear hR hB
        obtain ⟨w3, hw3⟩ : ∃ w3, w3 = wc := ⟨_, rfl⟩
        subst hw3
        go_upto_if 32 with fail
        go_cut [33] (fun _ wx => ∃ (Pr4 : Nat → Prop), Hid (Rnd B1 pv Pr4 wx u7 u8 u9 k k k (Ks.flatMap allC) (Ks.map (·.mv)) (Ks.map (·.dv)) Ks (k + 1)) ∧ Hid (Fresh B1 Pr4 wx u7 u8 u9 N (.slice al nl cl) (.slice bl nc dl) nl nc (rowT (pv r).labels) (rowC (pv r).codes) #[.int .i64 (pv r).form, .slice al nl cl, .slice bl nc dl, .bool (pv r).broken, .bool (pv r).cut, .string roomS, .int .i64 0, .int .i64 0, .int .i64 0]) ∧ Hid (Below B1 w1 wx))
        case first => as_aux_lemma =>
          by_cases hk2 : k < 2
          · have hkr : r = k := by omega
            subst hkr
            have k2 : (r : Int) < 2 := by omega
            go_upto_region 11 with fail
            have HBd : Hid (Below B1 w1 w3.drew) := ⟨hB2.out.os, hB2.out.tape, hB2.out.output, hB2.out.size, hB2.out.block⟩
            refine wp_region_held_drew (S := fun w' => w'.cell? ⟨B0, r, none⟩ = some (A r) ∧ w'.cell? ⟨0, 0, none⟩ = some (.string roomS) ∧ w'.cell? ⟨0, 1, none⟩ = some (.int .i64 0) ∧ w'.cell? ⟨0, 2, none⟩ = some (.int .i64 0) ∧ w'.cell? ⟨0, 3, none⟩ = some (.int .i64 0)) (by kernel_rfl) ?_ (fun hHeld => ?_)
            · exact ⟨CL.out _ r hr2 HBd.out, (CR.out _ HBd.out).1, (CR.out _ HBd.out).2.1, (CR.out _ HBd.out).2.2.1, (CR.out _ HBd.out).2.2.2⟩
            refine wpAnyH_take (i := 0) (oi := { dst := some 33, op := Op.move (Operand.tmp 10), type := 3, pos := "outright.go:195", after := #[], guard := none }) (v := ?_) rfl (by kernel_rfl) (by kernel_rfl) (by kernel_rfl) (fun _ _ _ h => h) (Or.inl ⟨by rfl, ?_⟩) hHeld ?_
            rotate_left
            · (intro w hSw; (try dsimp only at hSw); go_simp; try with_reducible rfl)
            try simp only [Act.put, List.setIfInBounds_toArray, List.set_cons_zero, List.set_cons_succ]
            refine wpAnyH_take (i := 1) (oi := { dst := some 34, op := Op.move (Operand.tmp 10), type := 3, pos := "outright.go:195", after := #[], guard := none }) (v := ?_) rfl (by kernel_rfl) (by kernel_rfl) (by kernel_rfl) (fun _ _ _ h => h) (Or.inl ⟨by rfl, ?_⟩) hHeld ?_
            rotate_left
            · (intro w hSw; (try dsimp only at hSw); go_simp; try with_reducible rfl)
            try simp only [Act.put, List.setIfInBounds_toArray, List.set_cons_zero, List.set_cons_succ]
            refine wpAnyH_take (i := 2) (oi := { dst := some 35, op := Op.indexAddr 36 (Operand.tmp 5) (Operand.tmp 34), type := 0, pos := "outright.go:195", after := #[{ on := 1, ground := Ground.data }], guard := none }) (v := ?_) rfl (by kernel_rfl) (by kernel_rfl) (by kernel_rfl) (fun _ _ _ h => h) (Or.inl ⟨by rfl, ?_⟩) hHeld ?_
            rotate_left
            · (intro w hSw; (try dsimp only at hSw); go_simp; try with_reducible rfl)
            try simp only [Act.put, List.setIfInBounds_toArray, List.set_cons_zero, List.set_cons_succ]
            refine wpAnyH_take (i := 3) (oi := { dst := some 36, op := Op.load 35 (Operand.tmp 35), type := 35, pos := "outright.go:195", after := #[{ on := 2, ground := Ground.data }], guard := none }) (v := ?_) rfl (by kernel_rfl) (by kernel_rfl) (by kernel_rfl) (fun _ _ _ h => h) (Or.inl ⟨by rfl, ?_⟩) hHeld ?_
            rotate_left
            · (intro w hSw; (try dsimp only at hSw); go_simp; try with_reducible rfl)
            try simp only [Act.put, List.setIfInBounds_toArray, List.set_cons_zero, List.set_cons_succ]
            refine wpAnyH_take (i := 4) (oi := { dst := some 37, op := Op.load 41 (Operand.global 0), type := 41, pos := "outright.go:195", after := #[], guard := none }) (v := ?_) rfl (by kernel_rfl) (by kernel_rfl) (by kernel_rfl) (fun _ _ _ h => h) (Or.inl ⟨by rfl, ?_⟩) hHeld ?_
            rotate_left
            · (intro w hSw; (try dsimp only at hSw); go_simp; try with_reducible rfl)
            try simp only [Act.put, List.setIfInBounds_toArray, List.set_cons_zero, List.set_cons_succ]
            refine wpAnyH_ready (rs := [5]) (by kernel_rfl) (by simp) ?_
            refine AllReadyH.cons (o := { dst := some 38, op := Op.call { callee := Callee.value (Operand.func 18), args := #[Operand.tmp 36, Operand.tmp 37], argTypes := #[35, 41] }, type := 43, pos := "outright.go:195", after := #[{ on := 3, ground := Ground.data }, { on := 4, ground := Ground.data }], guard := none }) rfl (fun K hK => ?_) AllReadyH.nil
            go_simp
            go_at_call 18
            refine Calls.mono (PP.out _ r hr2 HBd.out) ?_
            rintro e w7 ⟨u7x, v7x, rfl, hu7, hv7, hap, hb7⟩
            have HBw7 : Hid (Below B1 w1 w7) := HBd.out.trans (hb7.mono (by have h1 := HBd.out.size; have h2 := HB1.out; omega))
            have HLB : B1 + 1 ≤ w3.heap.size := hR2.out.lt
            have hb7w : Below w3.heap.size w3 w7 := ⟨hb7.os, hb7.tape, hb7.output, hb7.size, hb7.block⟩
            obtain ⟨Q, hQ⟩ : ∃ Q : Nat → Prop, Q = fun g => u7x.ownBlock = some g ∨ v7x.ownBlock = some g := ⟨_, rfl⟩
            have hQf : ∀ g, Q g → w3.heap.size ≤ g ∧ g < w7.heap.size := fun g hg => by rw [hQ] at hg; exact hg.elim (fun e => ⟨own_ge' hu7 g e, own_lt hu7 g e⟩) (fun e => ⟨own_ge' hv7 g e, own_lt hv7 g e⟩)
            have RW7 : Hid (Rnd B1 pv (fun g => Pr g ∨ Q g) w7 u7 u8 u9 r r r (Ks.flatMap allC) (Ks.map (·.mv)) (Ks.map (·.dv)) Ks r) := (hR2.out.below hb7w).more fun g hg => ⟨hR2.out.free (hQf g hg).1, (hQf g hg).2⟩
            have FW7 : Hid (Fresh B1 (fun g => Pr g ∨ Q g) w7 u7 u8 u9 N (.slice al nl cl) (.slice bl nc dl) nl nc (rowT (pv r).labels) (rowC (pv r).codes) #[.int .i64 (pv r).form, .slice al nl cl, .slice bl nc dl, .bool (pv r).broken, .bool (pv r).cut, .string roomS, .int .i64 0, .int .i64 0, .int .i64 0]) := (hF2.out.below hb7w).more (fun e => by have h1 := (hQf _ e).1; have h2 := hF2.out.ltN; omega) (fun g e e2 => by have h1 := (hQf _ e2).1; have h2 := own_lt hF2.out.ownU g e; omega) (fun g e e2 => by have h1 := (hQf _ e2).1; have h2 := own_lt hF2.out.ownV g e; omega)
            have RU7 : Hid (RowIn w7 (fun g => Pr g ∨ Q g) u7x (pv r).labels.length (rowT (pv r).labels)) := RowIn.own hu7 fun g e => .inr (by rw [hQ]; exact .inl e)
            have RV7 : Hid (RowIn w7 (fun g => Pr g ∨ Q g) v7x (pv r).codes.length (rowC (pv r).codes)) := RowIn.own hv7 fun g e => .inr (by rw [hQ]; exact .inr e)
            clear hu7 hv7 hb7 hap HLB hb7w hQ hQf
            obtain ⟨aF, cF, rfl, _⟩ := RU7.out
            obtain ⟨bF, dF, rfl, _⟩ := RV7.out
            try go_wp2_with fail
            refine hK.out _ _ ?_ (fun hHeld_5 => ?_)
            · exact ⟨CL.out _ r hr2 HBw7.out, (CR.out _ HBw7.out).1, (CR.out _ HBw7.out).2.1, (CR.out _ HBw7.out).2.2.1, (CR.out _ HBw7.out).2.2.2⟩
            clear hK K
            try simp only [Act.put, List.setIfInBounds_toArray, List.set_cons_zero, List.set_cons_succ]
            refine wpAnyH_take (i := 6) (oi := { dst := some 39, op := Op.indexAddr 44 (Operand.tmp 6) (Operand.tmp 33), type := 0, pos := "outright.go:195", after := #[{ on := 0, ground := Ground.data }, { on := 0, ground := Ground.phase }, { on := 1, ground := Ground.phase }, { on := 2, ground := Ground.phase }, { on := 3, ground := Ground.phase }, { on := 4, ground := Ground.phase }, { on := 5, ground := Ground.phase }], guard := none }) (v := ?_) rfl (by kernel_rfl) (by kernel_rfl) (by kernel_rfl) (fun _ _ _ h => h) (Or.inl ⟨by rfl, ?_⟩) hHeld_5 ?_
            rotate_left
            · (intro w hSw; (try dsimp only at hSw); go_simp; try with_reducible rfl)
            try simp only [Act.put, List.setIfInBounds_toArray, List.set_cons_zero, List.set_cons_succ]
            refine wpAnyH_ready (rs := [7]) (by kernel_rfl) (by simp) ?_
            refine AllReadyH.cons (o := { dst := none, op := Op.store 43 (Operand.tmp 39) (Operand.tmp 38), type := 0, pos := "outright.go:195", after := #[{ on := 6, ground := Ground.data }, { on := 5, ground := Ground.data }, { on := 5, ground := Ground.chain }, { on := 0, ground := Ground.phase }, { on := 1, ground := Ground.phase }, { on := 2, ground := Ground.phase }, { on := 3, ground := Ground.phase }, { on := 4, ground := Ground.phase }, { on := 5, ground := Ground.phase }], guard := none }) rfl (fun K hK => ?_) AllReadyH.nil
            obtain ⟨FC, hFC, hFs⟩ := RW7.out.box
            refine wp_store_mid 43 _ _ rfl B1 (r * 9) #[.int .i64 (pv r).form, .slice aF (pv r).labels.length cF, .slice bF (pv r).codes.length dF, .bool (pv r).broken, .bool (pv r).cut, .string roomS, .int .i64 0, .int .i64 0, .int .i64 0] rfl rfl (show w7.there B1 (r * 9) 9 from fun j hj => ⟨by rw [cell_whole hFC]; rw [Array.getElem?_eq_getElem (show r * 9 + j < FC.size by omega)]; rfl, by simp [World.frozen?, hFC]⟩) (by kernel_rfl) (by simp [Value.oneCell']) ?_
            obtain ⟨wz, hwz⟩ : ∃ wz, wz = w7.setCells B1 (r * 9) #[.int .i64 (pv r).form, .slice aF (pv r).labels.length cF, .slice bF (pv r).codes.length dF, .bool (pv r).broken, .bool (pv r).cut, .string roomS, .int .i64 0, .int .i64 0, .int .i64 0].toList := ⟨_, rfl⟩
            have CZ : Hid (Ch (fun g => g = B1) w7 wz) := by rw [hwz]; exact ch_setCells _ _ _ _
            have RWz : Hid (Rnd B1 pv (fun g => Pr g ∨ Q g) wz u7 u8 u9 r r r (Ks.flatMap allC) (Ks.map (·.mv)) (Ks.map (·.dv)) Ks (r + 1)) := by rw [hwz]; exact RW7.out.store hk2 RU7.out RV7.out
            have HBwz : Hid (Below B1 w1 wz) := by rw [hwz]; exact setCells_below (Nat.le_refl _) _ _ _ HBw7.out
            have FWz : Hid (Fresh B1 (fun g => Pr g ∨ Q g) wz u7 u8 u9 N (.slice al nl cl) (.slice bl nc dl) nl nc (rowT (pv r).labels) (rowC (pv r).codes) #[.int .i64 (pv r).form, .slice al nl cl, .slice bl nc dl, .bool (pv r).broken, .bool (pv r).cut, .string roomS, .int .i64 0, .int .i64 0, .int .i64 0]) := FW7.out.ch CZ.out (fun e => by have h1 := FW7.out.freeN.b1; omega) (fun g e e2 => by have h1 := (FW7.out.freeU g e).1.b1; omega) (fun g e e2 => by have h1 := (FW7.out.freeV g e).1.b1; omega)
            rw [← hwz]
            clear hwz hFC hFs
            refine hK.out _ _ ?_ (fun hHeld_7 => ?_)
            · exact ⟨CL.out _ r hr2 HBwz.out, (CR.out _ HBwz.out).1, (CR.out _ HBwz.out).2.1, (CR.out _ HBwz.out).2.2.1, (CR.out _ HBwz.out).2.2.2⟩
            clear hK K
            try simp only [Act.put]
            refine wpAnyH_done (by kernel_rfl) ?_ _
            go_wp2_with fail
            go_meet
            exact ⟨_, RWz.out, FWz.out, HBwz.out⟩
          · have k2 : ¬ (k : Int) < 2 := by omega
            go_wp2_with fail
            go_meet
            exact ⟨Pr, hR2.out.firsts (by omega), hF2.out, hB2.out⟩
        case rest =>
          obtain ⟨Pr4, hR4, hF4, hB4⟩ := hcut
          clear hR2 hF2 hB2
          obtain ⟨w4, hw4⟩ : ∃ w4, w4 = wc := ⟨_, rfl⟩
          subst hw4
          obtain ⟨uF, vF, hFc, hFu, hFv⟩ := (hR4.out.first r hr2 (by omega)).ok
          obtain ⟨aF, cF, rfl, _, hTF⟩ := hFu.toks
          obtain ⟨bF, dF, rfl, _, hCF⟩ := hFv.codes
          obtain ⟨_, _, e1, _, hTU⟩ := own_toks hF4.out.ownU
          cases e1
          obtain ⟨_, _, e1, _, hCU⟩ := own_codes hF4.out.ownV
          cases e1
          rw [HNL.out, HNC.out] at hFc
          have KS : Hid (∀ wx, Below w4.heap.size w4 wx → wx.cell? ⟨N, 0, none⟩ = some (.int .i64 (pv r).form) ∧ wx.cell? ⟨N, 1, none⟩ = some (.slice al nl cl) ∧ wx.cell? ⟨N, 2, none⟩ = some (.slice bl nc dl) ∧ wx.cell? ⟨N, 3, none⟩ = some (.bool (pv r).broken) ∧ wx.cell? ⟨N, 4, none⟩ = some (.bool (pv r).cut) ∧ wx.cell? ⟨N, 5, none⟩ = some (.string roomS) ∧ wx.cell? ⟨N, 6, none⟩ = some (.int .i64 0) ∧ wx.cell? ⟨N, 7, none⟩ = some (.int .i64 0) ∧ wx.cell? ⟨N, 8, none⟩ = some (.int .i64 0) ∧ wx.cell? ⟨B1, r * 9, none⟩ = some (.int .i64 (pv r).form) ∧ wx.cell? ⟨B1, r * 9 + 1, none⟩ = some (.slice aF nl cF) ∧ wx.cell? ⟨B1, r * 9 + 2, none⟩ = some (.slice bF nc dF) ∧ wx.cell? ⟨B1, r * 9 + 3, none⟩ = some (.bool (pv r).broken) ∧ wx.cell? ⟨B1, r * 9 + 4, none⟩ = some (.bool (pv r).cut) ∧ wx.cell? ⟨B1, r * 9 + 5, none⟩ = some (.string roomS) ∧ wx.cell? ⟨B1, r * 9 + 6, none⟩ = some (.int .i64 0) ∧ wx.cell? ⟨B1, r * 9 + 7, none⟩ = some (.int .i64 0) ∧ wx.cell? ⟨B1, r * 9 + 8, none⟩ = some (.int .i64 0) ∧ wx.cell? ⟨0, 0, none⟩ = some (.string roomS) ∧ wx.cell? ⟨0, 1, none⟩ = some (.int .i64 0) ∧ wx.cell? ⟨0, 2, none⟩ = some (.int .i64 0) ∧ wx.cell? ⟨0, 3, none⟩ = some (.int .i64 0)) := fun wx hx => by
            have hz := (hx.block N hF4.out.ltN).trans hF4.out.box
            have hb : ∀ i y, (pCells (pv r) (.slice aF nl cF) (.slice bF nc dF))[i]? = some y → wx.cell? ⟨B1, r * 9 + i, none⟩ = some y := fun i y hy => (hx.cell (p := ⟨B1, _, none⟩) hR4.out.lt).trans (hFc i y hy)
            obtain ⟨r0, r1, r2, r3⟩ := CR.out wx (hB4.out.trans (hx.mono (by have h1 := hB4.out.size; have h2 := HB1.out; omega)))
            exact ⟨cell_whole hz 0, cell_whole hz 1, cell_whole hz 2, cell_whole hz 3, cell_whole hz 4, cell_whole hz 5, cell_whole hz 6, cell_whole hz 7, cell_whole hz 8, hb 0 _ rfl, hb 1 _ rfl, hb 2 _ rfl, hb 3 _ rfl, hb 4 _ rfl, hb 5 _ rfl, hb 6 _ rfl, hb 7 _ rfl, hb 8 _ rfl, r0, r1, r2, r3⟩
          have S1 : Hid (∀ wx, Below w4.heap.size w4 wx → Calls Tryd.prog 19 #[.agg #[.int .i64 (pv r).form, .slice al nl cl, .slice bl nc dl, .bool (pv r).broken, .bool (pv r).cut, .string roomS, .int .i64 0, .int .i64 0, .int .i64 0], .agg #[.int .i64 (pv r).form, .slice aF nl cF, .slice bF nc dF, .bool (pv r).broken, .bool (pv r).cut, .string roomS, .int .i64 0, .int .i64 0, .int .i64 0]] wx fun e w' => e = .returned (.bool true) ∧ Below wx.heap.size wx w') := fun wx hx => by
            have h1 := same_eq wx (pv r) al bl aF bF cl dl cF dF roomT (by rw [HNL.out]; omega) (by rw [HNC.out]; omega) (hTU.under hx) (hTF.under hx) (hCU.under hx) (hCF.under hx)
            rw [HNL.out, HNC.out] at h1
            exact h1
          clear hFc hFu hFv hTF hCF hTU hCU
          go_upto_region 12 with fail
          go_cut [52] (fun v52 wx => v52 = .bool false ∧ Hid (Below w4.heap.size w4 wx))
          case first => as_aux_lemma =>
            refine wp_region_held_drew (S := fun w' => w'.cell? ⟨N, 0, none⟩ = some (.int .i64 (pv r).form) ∧ w'.cell? ⟨N, 1, none⟩ = some (.slice al nl cl) ∧ w'.cell? ⟨N, 2, none⟩ = some (.slice bl nc dl) ∧ w'.cell? ⟨N, 3, none⟩ = some (.bool (pv r).broken) ∧ w'.cell? ⟨N, 4, none⟩ = some (.bool (pv r).cut) ∧ w'.cell? ⟨N, 5, none⟩ = some (.string roomS) ∧ w'.cell? ⟨N, 6, none⟩ = some (.int .i64 0) ∧ w'.cell? ⟨N, 7, none⟩ = some (.int .i64 0) ∧ w'.cell? ⟨N, 8, none⟩ = some (.int .i64 0) ∧ w'.cell? ⟨B1, r * 9, none⟩ = some (.int .i64 (pv r).form) ∧ w'.cell? ⟨B1, r * 9 + 1, none⟩ = some (.slice aF nl cF) ∧ w'.cell? ⟨B1, r * 9 + 2, none⟩ = some (.slice bF nc dF) ∧ w'.cell? ⟨B1, r * 9 + 3, none⟩ = some (.bool (pv r).broken) ∧ w'.cell? ⟨B1, r * 9 + 4, none⟩ = some (.bool (pv r).cut) ∧ w'.cell? ⟨B1, r * 9 + 5, none⟩ = some (.string roomS) ∧ w'.cell? ⟨B1, r * 9 + 6, none⟩ = some (.int .i64 0) ∧ w'.cell? ⟨B1, r * 9 + 7, none⟩ = some (.int .i64 0) ∧ w'.cell? ⟨B1, r * 9 + 8, none⟩ = some (.int .i64 0) ∧ w'.cell? ⟨0, 0, none⟩ = some (.string roomS) ∧ w'.cell? ⟨0, 1, none⟩ = some (.int .i64 0) ∧ w'.cell? ⟨0, 2, none⟩ = some (.int .i64 0) ∧ w'.cell? ⟨0, 3, none⟩ = some (.int .i64 0)) (by kernel_rfl) ?_ (fun hHeld => ?_)
            · exact KS.out _ (below_drewN (Below.refl _ w4) 1)
            refine wpAnyH_take (i := 0) (oi := { dst := some 40, op := Op.load 43 (Operand.tmp 11), type := 43, pos := "outright.go:197", after := #[], guard := none }) (v := ?_) rfl (by kernel_rfl) (by kernel_rfl) (by kernel_rfl) (fun _ _ _ h => h) (Or.inl ⟨by rfl, ?_⟩) hHeld ?_
            rotate_left
            · (intro w hSw; (try dsimp only at hSw); go_simp; try with_reducible rfl)
            try simp only [Act.put, List.setIfInBounds_toArray, List.set_cons_zero, List.set_cons_succ]
            refine wpAnyH_take (i := 1) (oi := { dst := some 41, op := Op.move (Operand.tmp 10), type := 3, pos := "outright.go:197", after := #[], guard := none }) (v := ?_) rfl (by kernel_rfl) (by kernel_rfl) (by kernel_rfl) (fun _ _ _ h => h) (Or.inl ⟨by rfl, ?_⟩) hHeld ?_
            rotate_left
            · (intro w hSw; (try dsimp only at hSw); go_simp; try with_reducible rfl)
            try simp only [Act.put, List.setIfInBounds_toArray, List.set_cons_zero, List.set_cons_succ]
            refine wpAnyH_take (i := 2) (oi := { dst := some 42, op := Op.binOp BinOp.rem 3 (Operand.tmp 41) (Operand.const (Value.int IntKind.i64 2)) 3, type := 3, pos := "outright.go:197", after := #[{ on := 1, ground := Ground.data }], guard := none }) (v := ?_) rfl (by kernel_rfl) (by kernel_rfl) (by kernel_rfl) (fun _ _ _ h => h) (Or.inl ⟨by rfl, ?_⟩) hHeld ?_
            rotate_left
            · (intro w hSw; (try dsimp only at hSw); go_simp; try with_reducible rfl)
            try simp only [Act.put, List.setIfInBounds_toArray, List.set_cons_zero, List.set_cons_succ]
            refine wpAnyH_take (i := 3) (oi := { dst := some 43, op := Op.indexAddr 44 (Operand.tmp 6) (Operand.tmp 42), type := 0, pos := "outright.go:197", after := #[{ on := 2, ground := Ground.data }], guard := none }) (v := ?_) rfl (by kernel_rfl) (by kernel_rfl) (by kernel_rfl) (fun _ _ _ h => h) (Or.inl ⟨by rfl, ?_⟩) hHeld ?_
            rotate_left
            · (intro w hSw; (try dsimp only at hSw); go_simp; try with_reducible rfl)
            try simp only [Act.put, List.setIfInBounds_toArray, List.set_cons_zero, List.set_cons_succ]
            refine wpAnyH_take (i := 4) (oi := { dst := some 44, op := Op.load 43 (Operand.tmp 43), type := 43, pos := "outright.go:197", after := #[{ on := 3, ground := Ground.data }], guard := none }) (v := ?_) rfl (by kernel_rfl) (by kernel_rfl) (by kernel_rfl) (fun _ _ _ h => h) (Or.inl ⟨by rfl, ?_⟩) hHeld ?_
            rotate_left
            · (intro w hSw; (try dsimp only at hSw); go_simp; try with_reducible rfl)
            try simp only [Act.put, List.setIfInBounds_toArray, List.set_cons_zero, List.set_cons_succ]
            refine wpAnyH_ready (rs := [5]) (by kernel_rfl) (by simp) ?_
            refine AllReadyH.cons (o := { dst := some 45, op := Op.call { callee := Callee.value (Operand.func 19), args := #[Operand.tmp 40, Operand.tmp 44], argTypes := #[43, 43] }, type := 4, pos := "outright.go:197", after := #[{ on := 0, ground := Ground.data }, { on := 4, ground := Ground.data }], guard := none }) rfl (fun K hK => ?_) AllReadyH.nil
            go_simp
            go_at_call 19
            refine Calls.mono (S1.out _ (below_drewN (Below.refl _ w4) 1)) ?_
            rintro e wp ⟨rfl, hbp⟩
            have HBp : Hid (Below w4.heap.size w4 wp) := ⟨hbp.os, hbp.tape, hbp.output, hbp.size, hbp.block⟩
            clear hbp
            try go_wp2_with fail
            refine hK.out _ _ ?_ (fun hHeld_5 => ?_)
            · exact KS.out _ HBp.out
            clear hK K
            try simp only [Act.put, List.setIfInBounds_toArray, List.set_cons_zero, List.set_cons_succ]
            refine wpAnyH_take (i := 6) (oi := { dst := some 46, op := Op.unOp UnOp.not 4 (Operand.tmp 45), type := 4, pos := "outright.go:197", after := #[{ on := 5, ground := Ground.data }], guard := none }) (v := ?_) rfl (by kernel_rfl) (by kernel_rfl) (by kernel_rfl) (fun _ _ _ h => h) (Or.inl ⟨by rfl, ?_⟩) hHeld_5 ?_
            rotate_left
            · (intro w hSw; (try dsimp only at hSw); go_simp; try with_reducible rfl)
            try simp only [Act.put, List.setIfInBounds_toArray, List.set_cons_zero, List.set_cons_succ]
            refine wpAnyH_take (i := 7) (oi := { dst := some 47, op := Op.move (Operand.tmp 46), type := 4, pos := "outright.go:197", after := #[{ on := 6, ground := Ground.data }, { on := 5, ground := Ground.chain }], guard := none }) (v := ?_) rfl (by kernel_rfl) (by kernel_rfl) (by kernel_rfl) (fun _ _ _ h => h) (Or.inl ⟨by rfl, ?_⟩) hHeld_5 ?_
            rotate_left
            · (intro w hSw; (try dsimp only at hSw); go_simp; try with_reducible rfl)
            try simp only [Act.put, List.setIfInBounds_toArray, List.set_cons_zero, List.set_cons_succ]
            refine wpAnyH_take (i := 8) (oi := { dst := some 48, op := Op.fieldAddr 43 (Operand.tmp 11) 5, type := 0, pos := "outright.go:197", after := #[{ on := 7, ground := Ground.guard }], guard := some (7, false) }) (v := ?_) rfl (by kernel_rfl) (by kernel_rfl) (by kernel_rfl) (fun _ _ _ h => h) (Or.inl ⟨by rfl, ?_⟩) hHeld_5 ?_
            rotate_left
            · (intro w hSw; (try dsimp only at hSw); go_simp; try with_reducible rfl)
            try simp only [Act.put, List.setIfInBounds_toArray, List.set_cons_zero, List.set_cons_succ]
            refine wpAnyH_take (i := 9) (oi := { dst := some 49, op := Op.load 41 (Operand.tmp 48), type := 41, pos := "outright.go:197", after := #[{ on := 8, ground := Ground.data }, { on := 7, ground := Ground.guard }], guard := some (7, false) }) (v := ?_) rfl (by kernel_rfl) (by kernel_rfl) (by kernel_rfl) (fun _ _ _ h => h) (Or.inl ⟨by rfl, ?_⟩) hHeld_5 ?_
            rotate_left
            · (intro w hSw; (try dsimp only at hSw); go_simp; try with_reducible rfl)
            try simp only [Act.put, List.setIfInBounds_toArray, List.set_cons_zero, List.set_cons_succ]
            refine wpAnyH_take (i := 10) (oi := { dst := some 50, op := Op.load 41 (Operand.global 0), type := 41, pos := "outright.go:197", after := #[{ on := 7, ground := Ground.guard }], guard := some (7, false) }) (v := ?_) rfl (by kernel_rfl) (by kernel_rfl) (by kernel_rfl) (fun _ _ _ h => h) (Or.inl ⟨by rfl, ?_⟩) hHeld_5 ?_
            rotate_left
            · (intro w hSw; (try dsimp only at hSw); go_simp; try with_reducible rfl)
            try simp only [Act.put, List.setIfInBounds_toArray, List.set_cons_zero, List.set_cons_succ]
            refine wpAnyH_take (i := 11) (oi := { dst := some 51, op := Op.binOp BinOp.neq 41 (Operand.tmp 49) (Operand.tmp 50) 41, type := 4, pos := "outright.go:197", after := #[{ on := 9, ground := Ground.data }, { on := 10, ground := Ground.data }, { on := 7, ground := Ground.guard }], guard := some (7, false) }) (v := ?_) rfl (by kernel_rfl) (by kernel_rfl) (by kernel_rfl) (fun _ _ _ h => h) (Or.inl ⟨by rfl, ?_⟩) hHeld_5 ?_
            rotate_left
            · (intro w hSw; (try dsimp only at hSw); go_simp; try with_reducible rfl)
            try simp only [Act.put, List.setIfInBounds_toArray, List.set_cons_zero, List.set_cons_succ]
            refine wpAnyH_take (i := 12) (oi := { dst := some 52, op := Op.pick (Operand.tmp 47) (Operand.const (Value.bool true)) (Operand.tmp 51), type := 4, pos := "outright.go:197", after := #[{ on := 7, ground := Ground.data }, { on := 11, ground := Ground.data }], guard := none }) (v := ?_) rfl (by kernel_rfl) (by kernel_rfl) (by kernel_rfl) (fun _ _ _ h => h) (Or.inl ⟨by rfl, ?_⟩) hHeld_5 ?_
            rotate_left
            · (intro w hSw; (try dsimp only at hSw); go_simp; try with_reducible rfl)
            try simp only [Act.put, List.setIfInBounds_toArray, List.set_cons_zero, List.set_cons_succ]
            refine wpAnyH_done (by kernel_rfl) ?_ _
            go_wp2_with fail
            go_meet
            exact ⟨by first | rfl | simp, HBp.out⟩
          case rest =>
            obtain ⟨rfl, hb5⟩ := hcut
            obtain ⟨w5, hw5⟩ : ∃ w5, w5 = wc := ⟨_, rfl⟩
            subst hw5
            have R5 : Hid (Rnd B1 pv Pr4 w5 u7 u8 u9 k k k (Ks.flatMap allC) (Ks.map (·.mv)) (Ks.map (·.dv)) Ks (k + 1)) := hR4.out.below hb5.out
            have F5 : Hid (Fresh B1 Pr4 w5 u7 u8 u9 N (.slice al nl cl) (.slice bl nc dl) nl nc (rowT (pv r).labels) (rowC (pv r).codes) #[.int .i64 (pv r).form, .slice al nl cl, .slice bl nc dl, .bool (pv r).broken, .bool (pv r).cut, .string roomS, .int .i64 0, .int .i64 0, .int .i64 0]) := hF4.out.below hb5.out
            have B5 : Hid (Below B1 w1 w5) := hB4.out.trans (hb5.out.mono (by have h1 := hB4.out.size; have h2 := HB1.out; omega))
            clear hb5 KS S1 hR4 hF4 hB4
            go_wp2_with fail
            go_loopw [12] (fun i wx => ∃ j : Nat, j ≤ nl ∧ i = .int .i64 j ∧ Hid (wx.ownsRow (B1 + 1) 41 4 (.slice al nl cl) nl (rowT (marksT k (pv r).labels j))) ∧ Hid (Ch (fun g => (Value.slice al nl cl).ownBlock = some g) w5 wx)) (fun i _ => nl - (intOf i).toNat)
            case atStart => exact ⟨0, Nat.zero_le _, rfl, (by show World.ownsRow _ _ _ _ _ _ _; rw [show marksT k (pv r).labels 0 = (pv r).labels by simp [marksT]]; exact F5.out.ownU), Ch.refl _ _⟩
            case round =>
              obtain ⟨j, hj, rfl, hO, hC⟩ := hrel
              have hNb := (hC.out.block N F5.out.ltN (fun e => (F5.out.freeU N e).2 rfl)).trans F5.out.box
              have x1 : wr.cell? ⟨N, 1, none⟩ = some (.slice al nl cl) := cell_whole hNb 1
              by_cases hlt : j < nl
              · have n1 : (j : Int) < (nl : Int) := by omega
                have hml : (marksT k (pv r).labels j).length = nl := by rw [marksT_len _ _ _ (by rw [HNL.out]; exact hj), HNL.out]
                obtain ⟨gu, _, hv, _, _, _⟩ := own_some hO.out (by omega)
                cases hv
                obtain ⟨y, hy⟩ : ∃ y, (marksT k (pv r).labels j)[j]? = some y := ⟨(marksT k (pv r).labels j)[j]'(by rw [hml]; exact hlt), List.getElem?_eq_getElem _⟩
                obtain ⟨y0, y1, y2, y3⟩ := row_tok hO.out j y hy
                have yf := fun i => row_free hO.out i
                have F2 : Hid ((putT wr gu j (mkT k)).ownsRow (B1 + 1) 41 4 (.slice (some ⟨gu, 0, none⟩) nl cl) nl (rowT (marksT k (pv r).labels (j + 1)))) := by
                  show World.ownsRow _ _ _ _ _ _ _
                  rw [marksT_succ k _ j (by rw [HNL.out]; exact hlt)]
                  exact owns_putT hO.out j (mkT k) (by rw [hml]; exact hlt)
                have Q2 : Hid (Ch (fun g => (Value.slice (some ⟨gu, 0, none⟩) nl cl).ownBlock = some g) w5 (putT wr gu j (mkT k))) := hC.out.trans ((ch_putT wr gu j (mkT k)).mono fun g e => by rw [e]; rfl)
                clear hy hml hNb
                go_wp2
                exact ⟨⟨j + 1, by omega, by go_num, F2.out, Q2.out⟩, by simp [intOf]; omega⟩
              · have n1 : ¬ (j : Int) < (nl : Int) := by omega
                have hjn : nl = j := by omega
                subst hjn
                have HU6 : Hid (wr.ownsRow (B1 + 1) 41 4 (.slice al nl cl) nl (rowT (List.replicate nl (mkT k)))) := by
                  show World.ownsRow _ _ _ _ _ _ _
                  have h := hO.out
                  rw [← HNL.out, marksT_all, HNL.out] at h
                  exact h
                have R6 : Hid (Rnd B1 pv Pr4 wr u7 u8 u9 k k k (Ks.flatMap allC) (Ks.map (·.mv)) (Ks.map (·.dv)) Ks (k + 1)) := R5.out.chFree hC.out fun g e => (F5.out.freeU g e).1
                have F6 : Hid (Fresh B1 Pr4 wr u7 u8 u9 N (.slice al nl cl) (.slice bl nc dl) nl nc (rowT (List.replicate nl (mkT k))) (rowC (pv r).codes) #[.int .i64 (pv r).form, .slice al nl cl, .slice bl nc dl, .bool (pv r).broken, .bool (pv r).cut, .string roomS, .int .i64 0, .int .i64 0, .int .i64 0]) := ⟨F5.out.freeN, hNb, HU6.out, owns_ch F5.out.ownV hC.out fun g e hx => (F5.out.freeV g e).2.2 hx, F5.out.freeU, F5.out.freeV⟩
                have B6 : Hid (Below B1 w1 wr) := B5.out.trans (hC.out.below (by have h1 := B5.out.size; have h2 := HB1.out; omega) fun g e => Nat.le_of_lt (F5.out.freeU g e).1.b1)
                obtain ⟨w6, hw6⟩ : ∃ w6, w6 = wr := ⟨_, rfl⟩
                subst hw6
                clear hO hC hNb R5 F5 B5 HU6
                go_wp2_with fail
                clear x1
                go_loopw [13] (fun i wx => ∃ j : Nat, j ≤ nc ∧ i = .int .i64 j ∧ Hid (wx.ownsRow (B1 + 1) 51 5 (.slice bl nc dl) nc (rowC (marksC k (pv r).codes j))) ∧ Hid (Ch (fun g => (Value.slice bl nc dl).ownBlock = some g) w6 wx)) (fun i _ => nc - (intOf i).toNat)
                case atStart => exact ⟨0, Nat.zero_le _, rfl, (by show World.ownsRow _ _ _ _ _ _ _; rw [show marksC k (pv r).codes 0 = (pv r).codes by simp [marksC]]; exact F6.out.ownV), Ch.refl _ _⟩
                case round =>
                  obtain ⟨j, hj, rfl, hO, hC⟩ := hrel
                  have hNb := (hC.out.block N F6.out.ltN (fun e => (F6.out.freeV N e).2.1 rfl)).trans F6.out.box
                  have x2 : wr.cell? ⟨N, 2, none⟩ = some (.slice bl nc dl) := cell_whole hNb 2
                  by_cases hlt : j < nc
                  · have n2 : (j : Int) < (nc : Int) := by omega
                    have hml : (marksC k (pv r).codes j).length = nc := by rw [marksC_len _ _ _ (by rw [HNC.out]; exact hj), HNC.out]
                    obtain ⟨gv, _, hv, _, _, _⟩ := own_some hO.out (by omega)
                    cases hv
                    obtain ⟨y, hy⟩ : ∃ y, (marksC k (pv r).codes j)[j]? = some y := ⟨(marksC k (pv r).codes j)[j]'(by rw [hml]; exact hlt), List.getElem?_eq_getElem _⟩
                    obtain ⟨y0, y1, y2, y3, y4⟩ := row_code hO.out j y hy
                    have yf := fun i => row_free hO.out i
                    have F2 : Hid ((putC wr gv j (mkC k)).ownsRow (B1 + 1) 51 5 (.slice (some ⟨gv, 0, none⟩) nc dl) nc (rowC (marksC k (pv r).codes (j + 1)))) := by
                      show World.ownsRow _ _ _ _ _ _ _
                      rw [marksC_succ k _ j (by rw [HNC.out]; exact hlt)]
                      exact owns_put hO.out j (mkC k) (by rw [hml]; exact hlt)
                    have Q2 : Hid (Ch (fun g => (Value.slice (some ⟨gv, 0, none⟩) nc dl).ownBlock = some g) w6 (putC wr gv j (mkC k))) := hC.out.trans ((ch_putC wr gv j (mkC k)).mono fun g e => by rw [e]; rfl)
                    clear hy hml hNb
                    go_wp2
                    exact ⟨⟨j + 1, by omega, by go_num, F2.out, Q2.out⟩, by simp [intOf]; omega⟩
                  · have n2 : ¬ (j : Int) < (nc : Int) := by omega
                    have hjn2 : nc = j := by omega
                    subst hjn2
                    have R7 : Hid (Rnd B1 pv Pr4 wr u7 u8 u9 k k k (Ks.flatMap allC) (Ks.map (·.mv)) (Ks.map (·.dv)) Ks (k + 1)) := R6.out.chFree hC.out fun g e => (F6.out.freeV g e).1
                    have F7 : Hid (Fresh B1 Pr4 wr u7 u8 u9 N (.slice al nl cl) (.slice bl nc dl) nl nc (rowT (List.replicate nl (mkT k))) (rowC (List.replicate nc (mkC k))) #[.int .i64 (pv r).form, .slice al nl cl, .slice bl nc dl, .bool (pv r).broken, .bool (pv r).cut, .string roomS, .int .i64 0, .int .i64 0, .int .i64 0]) := ⟨F6.out.freeN, hNb, owns_ch F6.out.ownU hC.out fun g e hx => (F6.out.freeV g hx).2.2 e, (by have h := hO.out; rw [← HNC.out, marksC_all, HNC.out] at h; exact h), F6.out.freeU, F6.out.freeV⟩
                    have B7 : Hid (Below B1 w1 wr) := B6.out.trans (hC.out.below (by have h1 := B6.out.size; have h2 := HB1.out; omega) fun g e => Nat.le_of_lt (F6.out.freeV g e).1.b1)
                    obtain ⟨w7, hw7⟩ : ∃ w7, w7 = wr := ⟨_, rfl⟩
                    subst hw7
                    have XC : Hid (w7.cell? ⟨N, 0, none⟩ = some (.int .i64 (pv r).form) ∧ w7.cell? ⟨N, 1, none⟩ = some (.slice al nl cl) ∧ w7.cell? ⟨N, 2, none⟩ = some (.slice bl nc dl) ∧ w7.cell? ⟨N, 3, none⟩ = some (.bool (pv r).broken) ∧ w7.cell? ⟨N, 4, none⟩ = some (.bool (pv r).cut) ∧ w7.cell? ⟨N, 5, none⟩ = some (.string roomS) ∧ w7.cell? ⟨N, 6, none⟩ = some (.int .i64 0) ∧ w7.cell? ⟨N, 7, none⟩ = some (.int .i64 0) ∧ w7.cell? ⟨N, 8, none⟩ = some (.int .i64 0)) := ⟨cell_whole hNb 0, cell_whole hNb 1, cell_whole hNb 2, cell_whole hNb 3, cell_whole hNb 4, cell_whole hNb 5, cell_whole hNb 6, cell_whole hNb 7, cell_whole hNb 8⟩
                    clear hO hC hNb R6 F6 B6 x2
                    have p0 := XC.out.1
                    have p1 := XC.out.2.1
                    have p2 := XC.out.2.2.1
                    have p3 := XC.out.2.2.2.1
                    have p4 := XC.out.2.2.2.2.1
                    have p5 := XC.out.2.2.2.2.2.1
                    have p6 := XC.out.2.2.2.2.2.2.1
                    have p7 := XC.out.2.2.2.2.2.2.2.1
                    have p8 := XC.out.2.2.2.2.2.2.2.2
                    have OW7 : Hid ((w7.alloc (.cells #[.int .i64 (pv r).form, .slice al nl cl, .slice bl nc dl, .bool (pv r).broken, .bool (pv r).cut, .string roomS, .int .i64 0, .int .i64 0, .int .i64 0] 43)).ownsRow (B1 + 1) 43 9 u7 k (Ks.flatMap allC)) := owns_alloc R7.out.own7 _
                    have HBZ : Hid (B1 + 1 ≤ (w7.alloc (.cells #[.int .i64 (pv r).form, .slice al nl cl, .slice bl nc dl, .bool (pv r).broken, .bool (pv r).cut, .string roomS, .int .i64 0, .int .i64 0, .int .i64 0] 43)).heap.size) := Nat.le_trans R7.out.lt (below_alloc _ _).size
                    go_upto_region 23 with (at_builtin; (refine wpList_append_lies (w7.alloc (.cells #[.int .i64 (pv r).form, .slice al nl cl, .slice bl nc dl, .bool (pv r).broken, .bool (pv r).cut, .string roomS, .int .i64 0, .int .i64 0, .int .i64 0] 43)) rfl _ _ _ rfl (B1 + 1) 43 ip _ 9 104 Tryd.underlying45 hip ipz ips ipb rfl (by omega) _ k (Ks.flatMap allC) (by rfl) (by exact OW7.out) ⟨w7.heap.size, 0, none⟩ 1 1 #[.int .i64 (pv r).form, .slice al nl cl, .slice bl nc dl, .bool (pv r).broken, .bool (pv r).cut, .string roomS, .int .i64 0, .int .i64 0, .int .i64 0].toList (by rfl) (by rfl) (fun j' u hu => World.news_of_block (cs := #[.int .i64 (pv r).form, .slice al nl cl, .slice bl nc dl, .bool (pv r).broken, .bool (pv r).cut, .string roomS, .int .i64 0, .int .i64 0, .int .i64 0]) (t := 43) (fr := (0, 0)) (heap_alloc_new w7 _) j' u hu) (by simp [Value.oneCell']) (by omega) (by unfold maxLen; omega) (by omega) (by exact HBZ.out) _ rfl ?_; intro g8 c8 w8 ho8 hg8 hl8 ht8; have HO8 : Hid (w8.ownsRow (B1 + 1) 43 9 (.slice (some ⟨g8, 0, none⟩) (k + 1) c8) (k + 1) (Ks.flatMap allC ++ #[.int .i64 (pv r).form, .slice al nl cl, .slice bl nc dl, .bool (pv r).broken, .bool (pv r).cut, .string roomS, .int .i64 0, .int .i64 0, .int .i64 0].toList)) := ho8; have HG8 : Hid ((w7.alloc (.cells #[.int .i64 (pv r).form, .slice al nl cl, .slice bl nc dl, .bool (pv r).broken, .bool (pv r).cut, .string roomS, .int .i64 0, .int .i64 0, .int .i64 0] 43)).grownBy w8 u7.ownBlock) := hg8; have HL8 : Hid (u7.ownBlock = some g8 ∨ g8 = (w7.alloc (.cells #[.int .i64 (pv r).form, .slice al nl cl, .slice bl nc dl, .bool (pv r).broken, .bool (pv r).cut, .string roomS, .int .i64 0, .int .i64 0, .int .i64 0] 43)).heap.size) := hl8; clear ho8 hg8 hl8 ht8))
                    clear p0 p1 p2 p3 p4 p5 p6 p7 p8 OW7 HBZ XC
                    have L8 : Hid (∀ g, (Value.slice (some ⟨g8, 0, none⟩) (k + 1) c8).ownBlock = some g → u7.ownBlock = some g ∨ (w7.alloc (.cells #[.int .i64 (pv r).form, .slice al nl cl, .slice bl nc dl, .bool (pv r).broken, .bool (pv r).cut, .string roomS, .int .i64 0, .int .i64 0, .int .i64 0] 43)).heap.size ≤ g) := loc_of HL8.out
                    have R8 : Hid (Rnd B1 pv Pr4 w8 (.slice (some ⟨g8, 0, none⟩) (k + 1) c8) u8 u9 (k + 1) k k (Ks.flatMap allC ++ #[.int .i64 (pv r).form, .slice al nl cl, .slice bl nc dl, .bool (pv r).broken, .bool (pv r).cut, .string roomS, .int .i64 0, .int .i64 0, .int .i64 0].toList) (Ks.map (·.mv)) (Ks.map (·.dv)) Ks (k + 1)) := (R7.out.below (below_alloc w7 _)).grow7 HG8.out HO8.out L8.out
                    have F8 : Hid (Fresh B1 Pr4 w8 (.slice (some ⟨g8, 0, none⟩) (k + 1) c8) u8 u9 N (.slice al nl cl) (.slice bl nc dl) nl nc (rowT (List.replicate nl (mkT k))) (rowC (List.replicate nc (mkC k))) #[.int .i64 (pv r).form, .slice al nl cl, .slice bl nc dl, .bool (pv r).broken, .bool (pv r).cut, .string roomS, .int .i64 0, .int .i64 0, .int .i64 0]) := (F7.out.below (below_alloc w7 _)).grow7 HG8.out L8.out
                    have B8 : Hid (Below B1 w1 w8) := (B7.out.trans ((below_alloc w7 (.cells #[.int .i64 (pv r).form, .slice al nl cl, .slice bl nc dl, .bool (pv r).broken, .bool (pv r).cut, .string roomS, .int .i64 0, .int .i64 0, .int .i64 0] 43)).mono (by have h1 := R7.out.lt; omega))).trans ((Ch.of_grown HG8.out).below (by have h1 := R7.out.lt; simp; omega) fun g e => by have h1 := own_ge' R7.out.own7 g e; omega)
                    clear R7 F7 B7 HG8 HL8 L8 HO8
                    have x1 : w8.cell? ⟨N, 1, none⟩ = some (.slice al nl cl) := cell_whole F8.out.box 1
                    obtain ⟨g9, c9, w9, hr9, hog9, hst9, hgr9, hat9, hlt9⟩ := run_append_keeps (P := Tryd.prog) (w8.alloc (.cells #[.string ⟨#[109, 111, 114, 101]⟩, .int .i64 (k : Int), .int .i64 0, .int .i64 0] 41)) 35 35 (B1 + 1) 41 it _ 4 40 Tryd.underlying35 hit itz its itb rfl (by omega) (.slice al nl cl) nl (rowT (List.replicate nl (mkT k))) (owns_alloc F8.out.ownU _) ⟨w8.heap.size, 0, none⟩ 1 1 #[.string ⟨#[109, 111, 114, 101]⟩, .int .i64 (k : Int), .int .i64 0, .int .i64 0].toList rfl (fun j' u hu => World.news_of_block (cs := #[.string ⟨#[109, 111, 114, 101]⟩, .int .i64 (k : Int), .int .i64 0, .int .i64 0]) (t := 41) (fr := (0, 0)) (heap_alloc_new w8 _) j' u hu) (by simp [Value.oneCell']) (by omega) (by unfold maxLen; omega) (by omega) (Nat.le_trans R8.out.lt (below_alloc _ _).size)
                    have hR8a := R8.out.below (below_alloc w8 (.cells #[.string ⟨#[109, 111, 114, 101]⟩, .int .i64 (k : Int), .int .i64 0, .int .i64 0] 41))
                    have hF8a := F8.out.below (below_alloc w8 (.cells #[.string ⟨#[109, 111, 114, 101]⟩, .int .i64 (k : Int), .int .i64 0, .int .i64 0] 41))
                    have R9 : Hid (Rnd B1 pv Pr4 w9 (.slice (some ⟨g8, 0, none⟩) (k + 1) c8) u8 u9 (k + 1) k k (Ks.flatMap allC ++ #[.int .i64 (pv r).form, .slice al nl cl, .slice bl nc dl, .bool (pv r).broken, .bool (pv r).cut, .string roomS, .int .i64 0, .int .i64 0, .int .i64 0].toList) (Ks.map (·.mv)) (Ks.map (·.dv)) Ks (k + 1)) := hR8a.chFree (Ch.of_grown hgr9) fun g e => (hF8a.freeU g e).1
                    have F9 : Hid (Fresh B1 Pr4 w9 (.slice (some ⟨g8, 0, none⟩) (k + 1) c8) u8 u9 N (.slice al nl cl) (.slice bl nc dl) nl nc (rowT (List.replicate nl (mkT k))) (rowC (List.replicate nc (mkC k))) #[.int .i64 (pv r).form, .slice al nl cl, .slice bl nc dl, .bool (pv r).broken, .bool (pv r).cut, .string roomS, .int .i64 0, .int .i64 0, .int .i64 0]) := ⟨hF8a.freeN, (hgr9.block N hF8a.ltN (fun e => (hF8a.freeU N e.symm).2 rfl)).trans hF8a.box, hst9, owns_ch hF8a.ownV (Ch.of_grown hgr9) fun g e hx => (hF8a.freeV g e).2.2 hx, hF8a.freeU, hF8a.freeV⟩
                    have G9 : Hid (Free B1 Pr4 (.slice (some ⟨g8, 0, none⟩) (k + 1) c8) u8 u9 g9 ∧ g9 < w9.heap.size ∧ (Value.slice bl nc dl).ownBlock ≠ some g9) := ⟨hat9.elim (fun e => (hF8a.freeU g9 e).1) (fun e => hR8a.free (by rw [e]; exact Nat.le_refl _)), hlt9, fun e => hat9.elim (fun e2 => (hF8a.freeV g9 e).2.2 e2) (fun e2 => by have h1 := own_lt F8.out.ownV g9 e; rw [e2] at h1; simp at h1; omega)⟩
                    have B9 : Hid (Below B1 w1 w9) := (B8.out.trans ((below_alloc w8 (.cells #[.string ⟨#[109, 111, 114, 101]⟩, .int .i64 (k : Int), .int .i64 0, .int .i64 0] 41)).mono (by have h1 := R8.out.lt; omega))).trans ((Ch.of_grown hgr9).below (by have h1 := R8.out.lt; simp; omega) fun g e => by have h1 := own_ge' F8.out.ownU g e; omega)
                    have M9 : Hid (w9.ownsRow (B1 + 1) 41 4 (.slice (some ⟨g9, 0, none⟩) (nl + 1) c9) (nl + 1) (rowT (List.replicate nl (mkT k)) ++ #[.string ⟨#[109, 111, 114, 101]⟩, .int .i64 (k : Int), .int .i64 0, .int .i64 0].toList)) := hog9
                    clear hR8a hF8a hog9 hst9 hgr9 hat9 hlt9 R8 F8 B8
                    have OW9 : Hid ((w9.alloc (.cells #[.slice (some ⟨g9, 0, none⟩) (nl + 1) c9] 35)).ownsRow (B1 + 1) 35 1 u8 k (Ks.map (·.mv))) := owns_alloc R9.out.own8 _
                    have HBZ : Hid (B1 + 1 ≤ (w9.alloc (.cells #[.slice (some ⟨g9, 0, none⟩) (nl + 1) c9] 35)).heap.size) := Nat.le_trans R9.out.lt (below_alloc _ _).size
                    go_upto_region 24 with (at_builtin; first | (refine wpList_append_run rfl _ _ 35 rfl _ _ _ _ (by rfl) (by rfl) hr9 ?_) | (refine wpList_append_lies (w9.alloc (.cells #[.slice (some ⟨g9, 0, none⟩) (nl + 1) c9] 35)) rfl _ _ _ rfl (B1 + 1) 35 iu _ 1 24 Tryd.underlying46 hiu iuz ius iub rfl (by omega) _ k (Ks.map (·.mv)) (by rfl) (by exact OW9.out) ⟨w9.heap.size, 0, none⟩ 1 1 [.slice (some ⟨g9, 0, none⟩) (nl + 1) c9] (by rfl) (by rfl) (fun j' u hu => World.news_of_block (cs := #[.slice (some ⟨g9, 0, none⟩) (nl + 1) c9]) (t := 35) (fr := (0, 0)) (heap_alloc_new w9 _) j' u hu) (by simp [Value.oneCell']) (by omega) (by unfold maxLen; omega) (by omega) (by exact HBZ.out) _ rfl ?_; intro g10 c10 w10 ho10 hg10 hl10 ht10; have HO10 : Hid (w10.ownsRow (B1 + 1) 35 1 (.slice (some ⟨g10, 0, none⟩) (k + 1) c10) (k + 1) (Ks.map (·.mv) ++ [.slice (some ⟨g9, 0, none⟩) (nl + 1) c9])) := ho10; have HG10 : Hid ((w9.alloc (.cells #[.slice (some ⟨g9, 0, none⟩) (nl + 1) c9] 35)).grownBy w10 u8.ownBlock) := hg10; have HL10 : Hid (u8.ownBlock = some g10 ∨ g10 = (w9.alloc (.cells #[.slice (some ⟨g9, 0, none⟩) (nl + 1) c9] 35)).heap.size) := hl10; clear ho10 hg10 hl10 ht10))
                    clear x1 hr9 OW9 HBZ
                    have L10 : Hid (∀ g, (Value.slice (some ⟨g10, 0, none⟩) (k + 1) c10).ownBlock = some g → u8.ownBlock = some g ∨ (w9.alloc (.cells #[.slice (some ⟨g9, 0, none⟩) (nl + 1) c9] 35)).heap.size ≤ g) := loc_of HL10.out
                    have R10 : Hid (Rnd B1 pv Pr4 w10 (.slice (some ⟨g8, 0, none⟩) (k + 1) c8) (.slice (some ⟨g10, 0, none⟩) (k + 1) c10) u9 (k + 1) (k + 1) k (Ks.flatMap allC ++ #[.int .i64 (pv r).form, .slice al nl cl, .slice bl nc dl, .bool (pv r).broken, .bool (pv r).cut, .string roomS, .int .i64 0, .int .i64 0, .int .i64 0].toList) (Ks.map (·.mv) ++ [.slice (some ⟨g9, 0, none⟩) (nl + 1) c9]) (Ks.map (·.dv)) Ks (k + 1)) := (R9.out.below (below_alloc w9 _)).grow8 HG10.out HO10.out L10.out
                    have F10 : Hid (Fresh B1 Pr4 w10 (.slice (some ⟨g8, 0, none⟩) (k + 1) c8) (.slice (some ⟨g10, 0, none⟩) (k + 1) c10) u9 N (.slice al nl cl) (.slice bl nc dl) nl nc (rowT (List.replicate nl (mkT k))) (rowC (List.replicate nc (mkC k))) #[.int .i64 (pv r).form, .slice al nl cl, .slice bl nc dl, .bool (pv r).broken, .bool (pv r).cut, .string roomS, .int .i64 0, .int .i64 0, .int .i64 0]) := (F9.out.below (below_alloc w9 _)).grow8 HG10.out L10.out
                    have G10 : Hid (Free B1 Pr4 (.slice (some ⟨g8, 0, none⟩) (k + 1) c8) (.slice (some ⟨g10, 0, none⟩) (k + 1) c10) u9 g9 ∧ g9 < w10.heap.size ∧ (Value.slice bl nc dl).ownBlock ≠ some g9) := ⟨G9.out.1.grow8 (Nat.lt_of_lt_of_le G9.out.2.1 (below_alloc w9 _).size) L10.out, Nat.lt_of_lt_of_le (Nat.lt_of_lt_of_le G9.out.2.1 (below_alloc w9 _).size) HG10.out.size, G9.out.2.2⟩
                    have M10 : Hid (w10.ownsRow (B1 + 1) 41 4 (.slice (some ⟨g9, 0, none⟩) (nl + 1) c9) (nl + 1) (rowT (List.replicate nl (mkT k)) ++ #[.string ⟨#[109, 111, 114, 101]⟩, .int .i64 (k : Int), .int .i64 0, .int .i64 0].toList)) := owns_ch (owns_alloc M9.out _) (Ch.of_grown HG10.out) fun g e hx => by cases e; exact G9.out.1.m hx
                    have B10 : Hid (Below B1 w1 w10) := (B9.out.trans ((below_alloc w9 (.cells #[.slice (some ⟨g9, 0, none⟩) (nl + 1) c9] 35)).mono (by have h1 := R9.out.lt; omega))).trans ((Ch.of_grown HG10.out).below (by have h1 := R9.out.lt; simp; omega) fun g e => by have h1 := own_ge' R9.out.own8 g e; omega)
                    clear R9 F9 G9 M9 B9 HO10 HG10 HL10 L10
                    have x2 : w10.cell? ⟨N, 2, none⟩ = some (.slice bl nc dl) := cell_whole F10.out.box 2
                    obtain ⟨g11, c11, w11, hr11, hog11, hst11, hgr11, hat11, hlt11⟩ := run_append_keeps (P := Tryd.prog) (w10.alloc (.cells #[.int .i64 (-200 - (k : Int)), .string ⟨#[]⟩, .int .i64 0, .int .i64 0, .int .i64 0] 51)) 37 37 (B1 + 1) 51 ic _ 5 48 Tryd.underlying37 hic icz ics icb rfl (by omega) (.slice bl nc dl) nc (rowC (List.replicate nc (mkC k))) (owns_alloc F10.out.ownV _) ⟨w10.heap.size, 0, none⟩ 1 1 #[.int .i64 (-200 - (k : Int)), .string ⟨#[]⟩, .int .i64 0, .int .i64 0, .int .i64 0].toList rfl (fun j' u hu => World.news_of_block (cs := #[.int .i64 (-200 - (k : Int)), .string ⟨#[]⟩, .int .i64 0, .int .i64 0, .int .i64 0]) (t := 51) (fr := (0, 0)) (heap_alloc_new w10 _) j' u hu) (by simp [Value.oneCell']) (by omega) (by unfold maxLen; omega) (by omega) (Nat.le_trans R10.out.lt (below_alloc _ _).size)
                    have hR10a := R10.out.below (below_alloc w10 (.cells #[.int .i64 (-200 - (k : Int)), .string ⟨#[]⟩, .int .i64 0, .int .i64 0, .int .i64 0] 51))
                    have hF10a := F10.out.below (below_alloc w10 (.cells #[.int .i64 (-200 - (k : Int)), .string ⟨#[]⟩, .int .i64 0, .int .i64 0, .int .i64 0] 51))
                    have R11 : Hid (Rnd B1 pv Pr4 w11 (.slice (some ⟨g8, 0, none⟩) (k + 1) c8) (.slice (some ⟨g10, 0, none⟩) (k + 1) c10) u9 (k + 1) (k + 1) k (Ks.flatMap allC ++ #[.int .i64 (pv r).form, .slice al nl cl, .slice bl nc dl, .bool (pv r).broken, .bool (pv r).cut, .string roomS, .int .i64 0, .int .i64 0, .int .i64 0].toList) (Ks.map (·.mv) ++ [.slice (some ⟨g9, 0, none⟩) (nl + 1) c9]) (Ks.map (·.dv)) Ks (k + 1)) := hR10a.chFree (Ch.of_grown hgr11) fun g e => (hF10a.freeV g e).1
                    have F11 : Hid (Fresh B1 Pr4 w11 (.slice (some ⟨g8, 0, none⟩) (k + 1) c8) (.slice (some ⟨g10, 0, none⟩) (k + 1) c10) u9 N (.slice al nl cl) (.slice bl nc dl) nl nc (rowT (List.replicate nl (mkT k))) (rowC (List.replicate nc (mkC k))) #[.int .i64 (pv r).form, .slice al nl cl, .slice bl nc dl, .bool (pv r).broken, .bool (pv r).cut, .string roomS, .int .i64 0, .int .i64 0, .int .i64 0]) := ⟨hF10a.freeN, (hgr11.block N hF10a.ltN (fun e => (hF10a.freeV N e.symm).2.1 rfl)).trans hF10a.box, owns_ch hF10a.ownU (Ch.of_grown hgr11) fun g e hx => (hF10a.freeV g hx).2.2 e, hst11, hF10a.freeU, hF10a.freeV⟩
                    have G11 : Hid (Free B1 Pr4 (.slice (some ⟨g8, 0, none⟩) (k + 1) c8) (.slice (some ⟨g10, 0, none⟩) (k + 1) c10) u9 g11 ∧ g11 < w11.heap.size) := ⟨hat11.elim (fun e => (hF10a.freeV g11 e).1) (fun e => hR10a.free (by rw [e]; exact Nat.le_refl _)), hlt11⟩
                    have M11 : Hid (w11.ownsRow (B1 + 1) 41 4 (.slice (some ⟨g9, 0, none⟩) (nl + 1) c9) (nl + 1) (rowT (List.replicate nl (mkT k)) ++ #[.string ⟨#[109, 111, 114, 101]⟩, .int .i64 (k : Int), .int .i64 0, .int .i64 0].toList)) := owns_ch (owns_alloc M10.out _) (Ch.of_grown hgr11) fun g e hx => by cases e; exact G10.out.2.2 hx
                    have H9 : Hid (Free B1 Pr4 (.slice (some ⟨g8, 0, none⟩) (k + 1) c8) (.slice (some ⟨g10, 0, none⟩) (k + 1) c10) u9 g9 ∧ g9 < w11.heap.size) := ⟨G10.out.1, Nat.lt_of_lt_of_le (Nat.lt_of_lt_of_le G10.out.2.1 (below_alloc w10 _).size) hgr11.size⟩
                    have B11 : Hid (Below B1 w1 w11) := (B10.out.trans ((below_alloc w10 (.cells #[.int .i64 (-200 - (k : Int)), .string ⟨#[]⟩, .int .i64 0, .int .i64 0, .int .i64 0] 51)).mono (by have h1 := R10.out.lt; omega))).trans ((Ch.of_grown hgr11).below (by have h1 := R10.out.lt; simp; omega) fun g e => by have h1 := own_ge' F10.out.ownV g e; omega)
                    have D11 : Hid (w11.ownsRow (B1 + 1) 51 5 (.slice (some ⟨g11, 0, none⟩) (nc + 1) c11) (nc + 1) (rowC (List.replicate nc (mkC k)) ++ #[.int .i64 (-200 - (k : Int)), .string ⟨#[]⟩, .int .i64 0, .int .i64 0, .int .i64 0].toList)) := hog11
                    clear hR10a hF10a hog11 hst11 hgr11 hat11 hlt11 R10 F10 G10 M10 B10
                    have OW11 : Hid ((w11.alloc (.cells #[.slice (some ⟨g11, 0, none⟩) (nc + 1) c11] 37)).ownsRow (B1 + 1) 37 1 u9 k (Ks.map (·.dv))) := owns_alloc R11.out.own9 _
                    have HBZ : Hid (B1 + 1 ≤ (w11.alloc (.cells #[.slice (some ⟨g11, 0, none⟩) (nc + 1) c11] 37)).heap.size) := Nat.le_trans R11.out.lt (below_alloc _ _).size
                    go_wp2_with (at_builtin; first | (refine wpList_append_run rfl _ _ 37 rfl _ _ _ _ (by rfl) (by rfl) hr11 ?_) | (refine wpList_append_lies (w11.alloc (.cells #[.slice (some ⟨g11, 0, none⟩) (nc + 1) c11] 37)) rfl _ _ _ rfl (B1 + 1) 37 iv _ 1 24 Tryd.underlying47 hiv ivz ivs ivb rfl (by omega) _ k (Ks.map (·.dv)) (by rfl) (by exact OW11.out) ⟨w11.heap.size, 0, none⟩ 1 1 [.slice (some ⟨g11, 0, none⟩) (nc + 1) c11] (by rfl) (by rfl) (fun j' u hu => World.news_of_block (cs := #[.slice (some ⟨g11, 0, none⟩) (nc + 1) c11]) (t := 37) (fr := (0, 0)) (heap_alloc_new w11 _) j' u hu) (by simp [Value.oneCell']) (by omega) (by unfold maxLen; omega) (by omega) (by exact HBZ.out) _ rfl ?_; intro g12 c12 w12 ho12 hg12 hl12 ht12; have HO12 : Hid (w12.ownsRow (B1 + 1) 37 1 (.slice (some ⟨g12, 0, none⟩) (k + 1) c12) (k + 1) (Ks.map (·.dv) ++ [.slice (some ⟨g11, 0, none⟩) (nc + 1) c11])) := ho12; have HG12 : Hid ((w11.alloc (.cells #[.slice (some ⟨g11, 0, none⟩) (nc + 1) c11] 37)).grownBy w12 u9.ownBlock) := hg12; have HL12 : Hid (u9.ownBlock = some g12 ∨ g12 = (w11.alloc (.cells #[.slice (some ⟨g11, 0, none⟩) (nc + 1) c11] 37)).heap.size) := hl12; clear ho12 hg12 hl12 ht12))
                    clear x2 hr11 OW11 HBZ
                    have L12 : Hid (∀ g, (Value.slice (some ⟨g12, 0, none⟩) (k + 1) c12).ownBlock = some g → u9.ownBlock = some g ∨ (w11.alloc (.cells #[.slice (some ⟨g11, 0, none⟩) (nc + 1) c11] 37)).heap.size ≤ g) := loc_of HL12.out
                    have R12 : Hid (Rnd B1 pv Pr4 w12 (.slice (some ⟨g8, 0, none⟩) (k + 1) c8) (.slice (some ⟨g10, 0, none⟩) (k + 1) c10) (.slice (some ⟨g12, 0, none⟩) (k + 1) c12) (k + 1) (k + 1) (k + 1) (Ks.flatMap allC ++ #[.int .i64 (pv r).form, .slice al nl cl, .slice bl nc dl, .bool (pv r).broken, .bool (pv r).cut, .string roomS, .int .i64 0, .int .i64 0, .int .i64 0].toList) (Ks.map (·.mv) ++ [.slice (some ⟨g9, 0, none⟩) (nl + 1) c9]) (Ks.map (·.dv) ++ [.slice (some ⟨g11, 0, none⟩) (nc + 1) c11]) Ks (k + 1)) := (R11.out.below (below_alloc w11 _)).grow9 HG12.out HO12.out L12.out
                    have F12 : Hid (Fresh B1 Pr4 w12 (.slice (some ⟨g8, 0, none⟩) (k + 1) c8) (.slice (some ⟨g10, 0, none⟩) (k + 1) c10) (.slice (some ⟨g12, 0, none⟩) (k + 1) c12) N (.slice al nl cl) (.slice bl nc dl) nl nc (rowT (List.replicate nl (mkT k))) (rowC (List.replicate nc (mkC k))) #[.int .i64 (pv r).form, .slice al nl cl, .slice bl nc dl, .bool (pv r).broken, .bool (pv r).cut, .string roomS, .int .i64 0, .int .i64 0, .int .i64 0]) := (F11.out.below (below_alloc w11 _)).grow9 HG12.out L12.out
                    have M12 : Hid (w12.ownsRow (B1 + 1) 41 4 (.slice (some ⟨g9, 0, none⟩) (nl + 1) c9) (nl + 1) (rowT (List.replicate nl (mkT k)) ++ #[.string ⟨#[109, 111, 114, 101]⟩, .int .i64 (k : Int), .int .i64 0, .int .i64 0].toList)) := owns_ch (owns_alloc M11.out _) (Ch.of_grown HG12.out) fun g e hx => by cases e; exact H9.out.1.c hx
                    have D12 : Hid (w12.ownsRow (B1 + 1) 51 5 (.slice (some ⟨g11, 0, none⟩) (nc + 1) c11) (nc + 1) (rowC (List.replicate nc (mkC k)) ++ #[.int .i64 (-200 - (k : Int)), .string ⟨#[]⟩, .int .i64 0, .int .i64 0, .int .i64 0].toList)) := owns_ch (owns_alloc D11.out _) (Ch.of_grown HG12.out) fun g e hx => by cases e; exact G11.out.1.c hx
                    have H9b : Hid (Free B1 Pr4 (.slice (some ⟨g8, 0, none⟩) (k + 1) c8) (.slice (some ⟨g10, 0, none⟩) (k + 1) c10) (.slice (some ⟨g12, 0, none⟩) (k + 1) c12) g9 ∧ g9 < w12.heap.size) := ⟨H9.out.1.grow9 (Nat.lt_of_lt_of_le H9.out.2 (below_alloc w11 _).size) L12.out, Nat.lt_of_lt_of_le (Nat.lt_of_lt_of_le H9.out.2 (below_alloc w11 _).size) HG12.out.size⟩
                    have H11b : Hid (Free B1 Pr4 (.slice (some ⟨g8, 0, none⟩) (k + 1) c8) (.slice (some ⟨g10, 0, none⟩) (k + 1) c10) (.slice (some ⟨g12, 0, none⟩) (k + 1) c12) g11 ∧ g11 < w12.heap.size) := ⟨G11.out.1.grow9 (Nat.lt_of_lt_of_le G11.out.2 (below_alloc w11 _).size) L12.out, Nat.lt_of_lt_of_le (Nat.lt_of_lt_of_le G11.out.2 (below_alloc w11 _).size) HG12.out.size⟩
                    have B12 : Hid (Below B1 w1 w12) := (B11.out.trans ((below_alloc w11 (.cells #[.slice (some ⟨g11, 0, none⟩) (nc + 1) c11] 37)).mono (by have h1 := R11.out.lt; omega))).trans ((Ch.of_grown HG12.out).below (by have h1 := R11.out.lt; simp; omega) fun g e => by have h1 := own_ge' R11.out.own9 g e; omega)
                    clear R11 F11 G11 M11 D11 B11 H9 HO12 HG12 HL12 L12
                    obtain ⟨x, hx⟩ : ∃ x : Kept, x = ⟨nl, nc, (.slice al nl cl), (.slice bl nc dl), .slice (some ⟨g9, 0, none⟩) (nl + 1) c9, .slice (some ⟨g11, 0, none⟩) (nc + 1) c11, (pv r).form, (pv r).broken, (pv r).cut⟩ := ⟨_, rfl⟩
                    obtain ⟨Q, hQ⟩ : ∃ Q : Nat → Prop, Q = fun g => (Value.slice al nl cl).ownBlock = some g ∨ (Value.slice bl nc dl).ownBlock = some g ∨ g = g9 ∨ g = g11 := ⟨_, rfl⟩
                    have KX : Hid (KeptOk w12 Q k x) := by
                      subst hx hQ
                      refine ⟨RowIn.own F12.out.ownU fun g e => .inl e, RowIn.own F12.out.ownV fun g e => .inr (.inl e), RowIn.own (xs := rowT (List.replicate nl (mkT k) ++ [moT k])) (by rw [rowT_append]; exact M12.out) fun g e => ?_, RowIn.own (xs := rowC (List.replicate nc (mkC k) ++ [moC k])) (by rw [rowC_append]; exact D12.out) fun g e => ?_⟩
                      · cases e; exact .inr (.inr (.inl rfl))
                      · cases e; exact .inr (.inr (.inr rfl))
                    have RF : Hid (Rnd B1 pv (fun g => Pr4 g ∨ Q g) w12 (.slice (some ⟨g8, 0, none⟩) (k + 1) c8) (.slice (some ⟨g10, 0, none⟩) (k + 1) c10) (.slice (some ⟨g12, 0, none⟩) (k + 1) c12) (k + 1) (k + 1) (k + 1) ((Ks ++ [x]).flatMap allC) ((Ks ++ [x]).map (·.mv)) ((Ks ++ [x]).map (·.dv)) (Ks ++ [x]) (k + 1)) := by
                      have h1 := R12.out.close x Q (fun g hg => by
                        rw [hQ] at hg
                        rcases hg with e | e | e | e
                        · exact ⟨(F12.out.freeU g e).1, own_lt F12.out.ownU g e⟩
                        · exact ⟨(F12.out.freeV g e).1, own_lt F12.out.ownV g e⟩
                        · rw [e]; exact H9b.out
                        · rw [e]; exact H11b.out) (by rw [hKl.out]; exact KX.out)
                      have e1 : (Ks ++ [x]).flatMap allC = Ks.flatMap allC ++ #[.int .i64 (pv r).form, .slice al nl cl, .slice bl nc dl, .bool (pv r).broken, .bool (pv r).cut, .string roomS, .int .i64 0, .int .i64 0, .int .i64 0].toList := by rw [List.flatMap_append, hx]; rfl
                      have e2 : (Ks ++ [x]).map (·.mv) = Ks.map (·.mv) ++ [.slice (some ⟨g9, 0, none⟩) (nl + 1) c9] := by rw [List.map_append, hx]; rfl
                      have e3 : (Ks ++ [x]).map (·.dv) = Ks.map (·.dv) ++ [.slice (some ⟨g11, 0, none⟩) (nc + 1) c11] := by rw [List.map_append, hx]; rfl
                      show Rnd _ _ _ _ _ _ _ _ _ _ _ _ _ _ _
                      rw [e1, e2, e3]
                      exact h1
                    obtain ⟨Kt, hKt⟩ : ∃ Kt, Ks ++ [x] = Kt := ⟨_, rfl⟩
                    rw [hKt] at RF
                    have HKt : Hid (Kt.length = k + 1) := by show _ = _; rw [← hKt, List.length_append, hKl.out]; rfl
                    have KB : Hid (∀ (j : Nat) (y : Kept), Kt[j]? = some y → y.nl ≤ 1048577 ∧ y.nc ≤ 1048577) := fun j y hy => by
                      rw [← hKt] at hy
                      by_cases hjl : j < Ks.length
                      · rw [List.getElem?_append_left hjl] at hy
                        exact hKB.out j y hy
                      · have hl := (List.getElem?_eq_some_iff.1 hy).1
                        rw [List.length_append, List.length_singleton] at hl
                        rw [List.getElem?_append_right (by omega), show j - Ks.length = 0 by omega] at hy
                        cases hy
                        rw [hx]
                        exact ⟨by show nl ≤ _; omega, by show nc ≤ _; omega⟩
                    clear hKt hx hQ KX R12 F12 M12 D12 H9b H11b
                    go_loopw [14] (fun i wx => ∃ j : Nat, j ≤ k + 1 ∧ i = .int .i64 j ∧ Hid (Below w12.heap.size w12 wx)) (fun i _ => k + 1 - (intOf i).toNat)
                    case atStart => exact ⟨0, Nat.zero_le _, rfl, Below.refl _ _⟩
                    case round => as_aux_lemma =>
                      obtain ⟨j, hj, rfl, hb⟩ := hrel
                      obtain ⟨w13, hw13⟩ : ∃ w13, w13 = wr := ⟨_, rfl⟩
                      subst hw13
                      by_cases hjk : j ≤ k
                      · have c1 : (j : Int) ≤ (k : Int) := by omega
                        have c2 : (j : Int) < (k : Int) + 1 := by omega
                        have c3 : j < k + 1 := by omega
                        obtain ⟨y, hy⟩ : ∃ y, Kt[j]? = some y := ⟨Kt[j]'(by rw [HKt.out]; exact c3), List.getElem?_eq_getElem _⟩
                        have RW := RF.out.below hb.out
                        have KO : Hid _ := RW.each j y hy
                        obtain ⟨ja, jc, ejl, hjl, _⟩ := KO.out.l
                        obtain ⟨jb, jd, ejc, hjd, _⟩ := KO.out.c
                        obtain ⟨jm, je, ejm, hjm, _⟩ := KO.out.m
                        obtain ⟨jn, jf, ejd, hjf, _⟩ := KO.out.d
                        obtain ⟨gm, rfl, m0, m1⟩ := KO.out.m.tok ejm y.nl (moT j) (by rw [List.getElem?_append_right (by simp), List.length_replicate, Nat.sub_self]; rfl)
                        obtain ⟨gd, rfl, d0⟩ := KO.out.d.code ejd y.nc (moC j) (by rw [List.getElem?_append_right (by simp), List.length_replicate, Nat.sub_self]; rfl)
                        have a1 : w13.cell? ⟨g8, j * 9 + 1, none⟩ = some y.lv := row_cells RW.own7 _ _ ((allC_at Kt j 1 y hy (by omega)).trans rfl)
                        have a2 : w13.cell? ⟨g8, j * 9 + 2, none⟩ = some y.cv := row_cells RW.own7 _ _ ((allC_at Kt j 2 y hy (by omega)).trans rfl)
                        have a3 : w13.cell? ⟨g10, j, none⟩ = some y.mv := row_cells RW.own8 _ _ (by rw [List.getElem?_map, hy]; rfl)
                        have a4 : w13.cell? ⟨g12, j, none⟩ = some y.dv := row_cells RW.own9 _ _ (by rw [List.getElem?_map, hy]; rfl)
                        have LQ : Hid (∀ q, q < y.nl → ∃ gl, ja = some ⟨gl, 0, none⟩ ∧ w13.cell? ⟨gl, q * 4 + 1, none⟩ = some (.int .i64 (j : Int)) ∧ w13.cell? ⟨gm, q * 4 + 1, none⟩ = some (.int .i64 (j : Int))) := fun q hq => by
                          obtain ⟨gl, e1, _, h1⟩ := KO.out.l.tok ejl q (mkT j) (by simp [hq])
                          obtain ⟨gl2, e2, _, h2⟩ := KO.out.m.tok ejm q (mkT j) (by rw [List.getElem?_append_left (by simpa using hq)]; simp [hq])
                          cases e2
                          exact ⟨gl, e1, h1, h2⟩
                        have CQ : Hid (∀ q, q < y.nc → ∃ gc, jb = some ⟨gc, 0, none⟩ ∧ w13.cell? ⟨gc, q * 5, none⟩ = some (.int .i64 (-100 - (j : Int))) ∧ w13.cell? ⟨gd, q * 5, none⟩ = some (.int .i64 (-100 - (j : Int)))) := fun q hq => by
                          obtain ⟨gl, e1, h1⟩ := KO.out.c.code ejc q (mkC j) (by simp [hq])
                          obtain ⟨gl2, e2, h2⟩ := KO.out.d.code ejd q (mkC j) (by rw [List.getElem?_append_left (by simpa using hq)]; simp [hq])
                          cases e2
                          exact ⟨gl, e1, h1, h2⟩
                        have m0' : w13.cell? ⟨gm, y.nl * 4, none⟩ = some (.string ⟨#[109, 111, 114, 101]⟩) := m0
                        have m1' : w13.cell? ⟨gm, y.nl * 4 + 1, none⟩ = some (.int .i64 (j : Int)) := m1
                        have d0' : w13.cell? ⟨gd, y.nc * 5, none⟩ = some (.int .i64 (-200 - (j : Int))) := d0
                        rw [ejl] at a1
                        rw [ejc] at a2
                        rw [ejm] at a3
                        rw [ejd] at a4
                        obtain ⟨pl, hpl⟩ : ∃ pl, y.nl = pl := ⟨_, rfl⟩
                        obtain ⟨pc, hpc⟩ : ∃ pc, y.nc = pc := ⟨_, rfl⟩
                        rw [hpl] at a1 a3 LQ m0' m1'
                        rw [hpc] at a2 a4 CQ d0'
                        have BD := KB.out j y hy
                        rw [hpl, hpc] at BD
                        obtain ⟨bd1, bd2⟩ := BD
                        clear KO RW ejl ejc ejm ejd hjl hjd hjm hjf m0 m1 d0 hy hpl hpc
                        go_wp2_with fail
                        go_loopw [16] (fun i wx => ∃ q : Nat, q ≤ pl ∧ i = .int .i64 q ∧ w13 = wx) (fun i _ => pl - (intOf i).toNat)
                        case atStart => exact ⟨0, Nat.zero_le _, rfl, rfl⟩
                        case round =>
                          obtain ⟨q, hq, rfl, rfl⟩ := hrel
                          by_cases hql : q < pl
                          · have e1 : (q : Int) < (pl : Int) := by omega
                            have e2 : (q : Int) < (pl : Int) + 1 := by omega
                            obtain ⟨gl, rfl, z1, z2⟩ := LQ.out q hql
                            go_wp2
                            exact ⟨⟨q + 1, by omega, by go_num, by first | rfl | trivial⟩, by simp [intOf]; omega⟩
                          · have e1 : ¬ (q : Int) < (pl : Int) := by omega
                            have e2 : pl = q := by omega
                            subst e2
                            go_wp2_with fail
                            go_loopw [17] (fun i wx => ∃ q : Nat, q ≤ pc ∧ i = .int .i64 q ∧ w13 = wx) (fun i _ => pc - (intOf i).toNat)
                            case atStart => exact ⟨0, Nat.zero_le _, rfl, rfl⟩
                            case round =>
                              obtain ⟨q, hq2, rfl, rfl⟩ := hrel
                              by_cases hqc : q < pc
                              · have f1 : (q : Int) < (pc : Int) := by omega
                                have f2 : (q : Int) < (pc : Int) + 1 := by omega
                                obtain ⟨gc, rfl, z1, z2⟩ := CQ.out q hqc
                                go_wp2
                                exact ⟨⟨q + 1, by omega, by go_num, by first | rfl | trivial⟩, by simp [intOf]; omega⟩
                              · have f1 : ¬ (q : Int) < (pc : Int) := by omega
                                have f2 : pc = q := by omega
                                subst f2
                                have f3 : (pl : Int) < (pl : Int) + 1 := by omega
                                have f4 : (pc : Int) < (pc : Int) + 1 := by omega
                                go_wp2_with fail
                                go_quiet (fail)
                                have Bq : Hid (Below w12.heap.size w12 (w13.drewN nq)) := below_drewN hb.out nq
                                generalize w13.drewN nq = wq at *
                                go_wp2
                                exact ⟨⟨j + 1, by omega, by go_num, Bq.out⟩, by simp [intOf]; omega⟩
                      · have c1 : ¬ (j : Int) ≤ (k : Int) := by omega
                        have RE : Hid _ := RF.out.below hb.out
                        have BE : Hid (Below B1 w1 w13) := B12.out.trans (hb.out.mono (by have h1 := B12.out.size; have h2 := HB1.out; omega))
                        go_wp2
                        exact ⟨⟨k + 1, Kt, _, by omega, by go_num, HKt.out, KB.out, RE.out, BE.out⟩, by simp [intOf]; omega⟩
    · have k1 : ¬ (k : Int) < 6 := by omega
      go_wp2
      go_ret
      exact ⟨rfl, W1.out.trans (hB.out.mono (by have h1 := W1.out.size; have h2 := HB1.out; omega))⟩
end Go.Proofs.YtffchjigpppoaaaDoor
