/- The walk of ProofPrints. -/
import Derived.Test.YtffchjigpppoaaaDoorPacked
import Derived.Deep.RegionHeld
namespace Go.Proofs.YtffchjigpppoaaaDoor
open Go.RowKit

theorem infoI : (Tryd.prog.info? 3).map (fun i => (i.zero, i.size, i.bytes)) = some (some (.int .i64 0), 1, 8) := by kernel_rfl
theorem StrsAt.head {w : World} {a : Option Addr} {l m : List ByteArray} (h : StrsAt w a (l ++ m)) : StrsAt w a l := fun i x hi => h i x (by rw [List.getElem?_append_left (List.getElem?_eq_some_iff.1 hi).1]; exact hi)
theorem IntsAt.head {w : World} {a : Option Addr} {l m : List Int} (h : IntsAt w a (l ++ m)) : IntsAt w a l := fun i x hi => h i x (by rw [List.getElem?_append_left (List.getElem?_eq_some_iff.1 hi).1]; exact hi)
theorem IntsAt.up {w w' : World} {a : Option Addr} {l : List Int} (h : IntsAt w a l) (hb : Below w.heap.size w w') : IntsAt w' a l := h.under hb
theorem ints_news {w : World} {a : Option Addr} {l : List Int} (h : IntsAt w a l) : ∀ (j : Nat) (u : Value), (l.map intV)[j]? = some u → ∃ ad, a = some ad ∧ w.cell? (ad.add j) = some u := fun j u hu => by
  rw [List.getElem?_map] at hu
  cases hx : l[j]? with
  | none => rw [hx] at hu; cases hu
  | some x =>
    rw [hx] at hu
    cases hu
    obtain ⟨g, off, e, h0⟩ := h j x hx
    refine ⟨_, e, ?_⟩
    by_cases hj : j = 0
    · subst hj; exact h0
    · simpa [Addr.add, hj, intV] using h0
theorem ints_one (l : List Int) : ∀ u ∈ l.map intV, u.oneCell' = true := fun u hu => by
  obtain ⟨x, _, rfl⟩ := List.mem_map.1 hu
  rfl
theorem own_ints {W : World} {base : Nat} {v : Value} {n : Nat} {l : List Int} (h : W.ownsRow base 3 1 v n (l.map intV)) : ∃ a c, v = .slice a n c ∧ n ≤ c ∧ IntsAt W a l := by
  obtain ⟨a, c, rfl, hc, hcell⟩ := own_cell h
  refine ⟨a, c, rfl, hc, fun i x hx => ?_⟩
  obtain ⟨g, rfl, h0⟩ := hcell i (intV x) (by rw [List.getElem?_map, hx]; rfl)
  exact ⟨g, 0, rfl, by rw [Nat.zero_add]; exact h0⟩

set_option maxRecDepth 100000 in
set_option maxHeartbeats 16000000 in
theorem prints_walk (w : World) (a : Option Addr) (n c : Nat) (l : List ByteArray) (hl : l.length = n) (_ : n ≤ c) (hS : lenTo l n ≤ 1099511620000) (h : StrsAt w a l) (hK : KBs w)
    (b : Option Addr) (m d : Nat) (z : List Int) (hz : z.length = m) (_ : m ≤ d) (hm : m ≤ 4294967296) (hI : IntsAt w b z) :
    Calls Tryd.prog 4 #[.slice a n c, .slice b m d] w fun e w' => e = .returned (.bool true) ∧ Below w.heap.size w w' := by
  obtain ⟨i0, hi0, hz0, hz1, hz3⟩ := info_parts infoI
  have hnb : n ≤ 1099511620000 := by
    have h1 : n ≤ lenTo l n := by unfold lenTo; omega
    omega
  have RPl : Hid _ := rplain_any w a n c l hl (by omega) h
  have RPk : Hid (∀ wx, Below w.heap.size w wx → Calls Tryd.prog 15 #[.slice a n c, .slice b m d] wx fun e w' => e = .returned (.tuple #[.string (packT l z), .int .i64 (packE l z)]) ∧ Below wx.heap.size wx w') := fun wx hx => rpacked_any wx a n c l hl hS (h.up hx) b m d z hz hm (hI.up hx)
  have PL : Hid (∀ wx a' c', Below w.heap.size w wx → n ≤ c' → StrsAt wx a' l → Calls Tryd.prog 11 #[.slice a' n c'] wx fun e w' => e = .returned (.tuple #[.string (plainT l), .int .i64 (plainE l)]) ∧ Below wx.heap.size wx w') := fun wx a' c' hx hcx hs => plain_any wx a' n c' l hl hcx (by omega) hs (hK.under hx)
  have PK : Hid (∀ wx a' c' b' d', Below w.heap.size w wx → n ≤ c' → m ≤ d' → StrsAt wx a' l → IntsAt wx b' z → Calls Tryd.prog 12 #[.slice a' n c', .slice b' m d'] wx fun e w' => e = .returned (.tuple #[.string (packT l z), .int .i64 (packE l z)]) ∧ Below wx.heap.size wx w') := fun wx a' c' b' d' hx hcx hdx hs hi => packed_any wx a' n c' l hl hcx hS hs (hK.under hx) b' m d' z hz hdx hm hi
  have TX : Hid (∀ wx, Below w.heap.size w wx → Calls Tryd.prog 16 #[.slice a n c] wx fun e w' => ∃ a' c', e = .returned (.slice a' (n + 1) c') ∧ n + 1 ≤ c' ∧ w'.ownsRow wx.heap.size 9 1 (.slice a' (n + 1) c') (n + 1) ((l ++ [roomB]).map Value.string) ∧ Below wx.heap.size wx w') := fun wx hx => texts_any wx a n c l hl (by omega) (h.up hx)
  have WH : Hid (∀ wx a' c', Below w.heap.size w wx → StrsAt wx a' (l ++ [roomB]) → Calls Tryd.prog 17 #[.slice a' (n + 1) c', .slice a n c] wx fun e w' => e = .returned (.bool true) ∧ Below wx.heap.size wx w') := fun wx a' c' hx hs => whole_any wx a' c' a n c l hl (by omega) hs (h.up hx)
  have HI : Hid (IntsAt w b z) := hI
  have HM : Hid (z.length = m) := hz
  obtain ⟨P, hP⟩ : ∃ P, plainT l = P := ⟨_, rfl⟩
  obtain ⟨E, hE⟩ : ∃ E, plainE l = E := ⟨_, rfl⟩
  obtain ⟨T, hT⟩ : ∃ T, packT l z = T := ⟨_, rfl⟩
  obtain ⟨F, hF⟩ : ∃ F, packE l z = F := ⟨_, rfl⟩
  rw [hP, hE] at RPl PL
  rw [hT, hF] at RPk PK
  clear hP hE hT hF hl hS h hK hz hI
  go_enter Tryd.func4, Tryd.ntmps4
  go_wp2_with fail
  refine Calls.mono RPl.out ?_
  rintro e w1 ⟨rfl, hb1⟩
  have B1 : Hid (Below w.heap.size w w1) := hb1
  clear hb1 RPl
  go_wp2_with fail
  refine Calls.mono (RPk.out w1 B1.out) ?_
  rintro e w2 ⟨rfl, hb2⟩
  have B2 : Hid (Below w.heap.size w w2) := B1.out.trans (hb2.mono B1.out.size)
  clear hb2 RPk B1
  go_wp2_with fail
  refine Calls.mono (TX.out w2 B2.out) ?_
  rintro e w3 ⟨a3, c3, rfl, hc3, ho3, hb3⟩
  have B3 : Hid (Below w.heap.size w w3) := B2.out.trans (hb3.mono B2.out.size)
  obtain ⟨g3, _, e3⟩ := ownsRow_succ ho3
  cases e3
  obtain ⟨_, _, e3, _, hs3⟩ := own_strs ho3
  cases e3
  have S3 : Hid (StrsAt w3 (some ⟨g3, 0, none⟩) (l ++ [roomB])) := hs3
  clear hb3 ho3 hs3 TX B2
  go_wp2_with (at_builtin; first | (refine wpList_append_more (w := w3) rfl _ _ _ rfl w3.heap.size 3 i0 _ 1 8 Tryd.underlying22 hi0 hz0 hz1 hz3 rfl (by omega) _ 0 [] (by rfl) (by exact World.ownsRow_nil _ _ _ _) b m d (z.map intV) (by rfl) (by rw [List.length_map, HM.out]; omega) (ints_news (HI.out.up B3.out)) (ints_one z) (by unfold maxLen; omega) (by omega) (by omega) ?_; intro a4 c4 w4 ho4 hb4; have HO4 : Hid (w4.ownsRow w3.heap.size 3 1 (.slice a4 (0 + m) c4) (0 + m) ([] ++ z.map intV)) := ho4; have HB4 : Hid (Below w3.heap.size w3 w4) := hb4; clear ho4 hb4) | (refine wpList_append_more (w := w4.alloc (.cells #[.int .i64 77] 3)) rfl _ _ _ rfl w3.heap.size 3 i0 _ 1 8 Tryd.underlying22 hi0 hz0 hz1 hz3 rfl (by omega) _ m (z.map intV) (by rfl) (by have h := HO4.out; rw [Nat.zero_add, List.nil_append] at h; exact owns_alloc h _) (some ⟨w4.heap.size, 0, none⟩) 1 1 [.int .i64 77] (by rfl) (by rfl) (fun j' u hu => ⟨_, rfl, World.news_of_block (cs := #[.int .i64 77]) (t := 3) (fr := (0, 0)) (heap_alloc_new w4 _) j' u hu⟩) (by simp [Value.oneCell']) (by unfold maxLen; omega) (by omega) (by exact Nat.le_trans HB4.out.size (below_alloc _ _).size) ?_; intro a5 c5 w5 ho5 hb5; have HO5 : Hid (w5.ownsRow w3.heap.size 3 1 (.slice a5 (m + 1) c5) (m + 1) (z.map intV ++ [.int .i64 77])) := ho5; have HB5 : Hid (Below w3.heap.size w3 w5) := (HB4.out.alloc HB4.out.size _).trans hb5; clear ho5 hb5; have z3 : (n : Int) ≤ (c3 : Int) := (by omega)))
  have B5 : Hid (Below w.heap.size w w5) := B3.out.trans (HB5.out.mono B3.out.size)
  have S5 : Hid (StrsAt w5 (some ⟨g3, 0, none⟩) (l ++ [roomB])) := S3.out.up HB5.out
  obtain ⟨g5, _, e5⟩ := ownsRow_succ HO5.out
  cases e5
  have HO5' : w5.ownsRow w3.heap.size 3 1 (.slice (some ⟨g5, 0, none⟩) (m + 1) c5) (m + 1) ((z ++ [77]).map intV) := by
    have h := HO5.out
    rw [show z.map intV ++ [.int .i64 77] = (z ++ [77]).map intV by simp [intV]] at h
    exact h
  obtain ⟨_, _, e5, hc5, hi5⟩ := own_ints HO5'
  cases e5
  have I5 : Hid (IntsAt w5 (some ⟨g5, 0, none⟩) (z ++ [77])) := hi5
  clear HO5' hi5 HO5 HB5 HO4 HB4 S3 B3
  refine Calls.mono (PL.out w5 _ c3 B5.out (by omega) S5.out.head) ?_
  rintro e w6 ⟨rfl, hb6⟩
  have B6 : Hid (Below w.heap.size w w6) := B5.out.trans (hb6.mono B5.out.size)
  have S6 : Hid (StrsAt w6 (some ⟨g3, 0, none⟩) (l ++ [roomB])) := S5.out.up hb6
  have I6 : Hid (IntsAt w6 (some ⟨g5, 0, none⟩) (z ++ [77])) := I5.out.up hb6
  clear hb6 PL B5 S5 I5
  have z4 : (m : Int) ≤ (c5 : Int) := by omega
  go_wp2_with fail
  refine wp_region_held_drew (S := fun _ => True) (by kernel_rfl) ?_ (fun hHeld => ?_)
  · trivial
  refine wpAnyH_take (i := 0) (oi := { dst := some 44, op := Op.move (Operand.tmp 9), type := 23, pos := "law.go:75", after := #[], guard := none }) (v := ?_) rfl (by kernel_rfl) (by kernel_rfl) (by kernel_rfl) (fun _ _ _ h => h) (Or.inl ⟨by rfl, ?_⟩) hHeld ?_
  rotate_left
  · (intro w hSw; (try dsimp only at hSw); go_simp; try with_reducible rfl)
  try simp only [Act.put, List.setIfInBounds_toArray, List.set_cons_zero, List.set_cons_succ]
  refine wpAnyH_take (i := 1) (oi := { dst := some 45, op := Op.move (Operand.tmp 0), type := 23, pos := "law.go:75", after := #[], guard := none }) (v := ?_) rfl (by kernel_rfl) (by kernel_rfl) (by kernel_rfl) (fun _ _ _ h => h) (Or.inl ⟨by rfl, ?_⟩) hHeld ?_
  rotate_left
  · (intro w hSw; (try dsimp only at hSw); go_simp; try with_reducible rfl)
  try simp only [Act.put, List.setIfInBounds_toArray, List.set_cons_zero, List.set_cons_succ]
  refine wpAnyH_take (i := 2) (oi := { dst := some 46, op := Op.call { callee := Callee.builtin Builtin.len, args := #[Operand.tmp 45], argTypes := #[23] }, type := 3, pos := "law.go:75", after := #[{ on := 1, ground := Ground.data }], guard := none }) (v := ?_) rfl (by kernel_rfl) (by kernel_rfl) (by kernel_rfl) (fun _ _ _ h => h) (Or.inl ⟨by rfl, ?_⟩) hHeld ?_
  rotate_left
  · (intro w hSw; (try dsimp only at hSw); go_simp; try with_reducible rfl)
  try simp only [Act.put, List.setIfInBounds_toArray, List.set_cons_zero, List.set_cons_succ]
  refine wpAnyH_take (i := 3) (oi := { dst := some 47, op := Op.slice 23 (Operand.tmp 44) none (some (Operand.tmp 46)) none, type := 23, pos := "law.go:75", after := #[{ on := 0, ground := Ground.data }, { on := 2, ground := Ground.data }], guard := none }) (v := ?_) rfl (by kernel_rfl) (by kernel_rfl) (by kernel_rfl) (fun _ _ _ h => h) (Or.inl ⟨by rfl, ?_⟩) hHeld ?_
  rotate_left
  · (intro w hSw; (try dsimp only at hSw); go_simp; try with_reducible rfl)
  try simp only [Act.put, List.setIfInBounds_toArray, List.set_cons_zero, List.set_cons_succ]
  refine wpAnyH_take (i := 4) (oi := { dst := some 48, op := Op.move (Operand.tmp 10), type := 22, pos := "law.go:75", after := #[], guard := none }) (v := ?_) rfl (by kernel_rfl) (by kernel_rfl) (by kernel_rfl) (fun _ _ _ h => h) (Or.inl ⟨by rfl, ?_⟩) hHeld ?_
  rotate_left
  · (intro w hSw; (try dsimp only at hSw); go_simp; try with_reducible rfl)
  try simp only [Act.put, List.setIfInBounds_toArray, List.set_cons_zero, List.set_cons_succ]
  refine wpAnyH_take (i := 5) (oi := { dst := some 49, op := Op.move (Operand.tmp 1), type := 22, pos := "law.go:75", after := #[], guard := none }) (v := ?_) rfl (by kernel_rfl) (by kernel_rfl) (by kernel_rfl) (fun _ _ _ h => h) (Or.inl ⟨by rfl, ?_⟩) hHeld ?_
  rotate_left
  · (intro w hSw; (try dsimp only at hSw); go_simp; try with_reducible rfl)
  try simp only [Act.put, List.setIfInBounds_toArray, List.set_cons_zero, List.set_cons_succ]
  refine wpAnyH_take (i := 6) (oi := { dst := some 50, op := Op.call { callee := Callee.builtin Builtin.len, args := #[Operand.tmp 49], argTypes := #[22] }, type := 3, pos := "law.go:75", after := #[{ on := 5, ground := Ground.data }], guard := none }) (v := ?_) rfl (by kernel_rfl) (by kernel_rfl) (by kernel_rfl) (fun _ _ _ h => h) (Or.inl ⟨by rfl, ?_⟩) hHeld ?_
  rotate_left
  · (intro w hSw; (try dsimp only at hSw); go_simp; try with_reducible rfl)
  try simp only [Act.put, List.setIfInBounds_toArray, List.set_cons_zero, List.set_cons_succ]
  refine wpAnyH_take (i := 7) (oi := { dst := some 51, op := Op.slice 22 (Operand.tmp 48) none (some (Operand.tmp 50)) none, type := 22, pos := "law.go:75", after := #[{ on := 4, ground := Ground.data }, { on := 6, ground := Ground.data }], guard := none }) (v := ?_) rfl (by kernel_rfl) (by kernel_rfl) (by kernel_rfl) (fun _ _ _ h => h) (Or.inl ⟨by rfl, ?_⟩) hHeld ?_
  rotate_left
  · (intro w hSw; (try dsimp only at hSw); go_simp; try with_reducible rfl)
  try simp only [Act.put, List.setIfInBounds_toArray, List.set_cons_zero, List.set_cons_succ]
  refine wpAnyH_ready (rs := [8]) (by kernel_rfl) (by simp) ?_
  refine AllReadyH.cons (o := { dst := some 52, op := Op.call { callee := Callee.value (Operand.func 12), args := #[Operand.tmp 47, Operand.tmp 51], argTypes := #[23, 22] }, type := 27, pos := "law.go:75", after := #[{ on := 3, ground := Ground.data }, { on := 7, ground := Ground.data }], guard := none }) rfl (fun K hK => ?_) AllReadyH.nil
  go_simp
  go_at_call 12
  refine Calls.mono (PK.out _ _ c3 _ c5 (below_drewN B6.out 1) (by omega) (by omega) (by exact (S6.out.up (below_drewN (Below.refl _ w6) 1)).head) (by exact (I6.out.up (below_drewN (Below.refl _ w6) 1)).head)) ?_
  rintro e w7 ⟨rfl, hb7⟩
  have HB7 : Hid (Below w6.heap.size w6 w7) := ⟨hb7.os, hb7.tape, hb7.output, hb7.size, hb7.block⟩
  clear hb7
  try go_wp2_with fail
  refine hK.out _ _ ?_ (fun hHeld_8 => ?_)
  · trivial
  clear hK K
  try simp only [Act.put, List.setIfInBounds_toArray, List.set_cons_zero, List.set_cons_succ]
  refine wpAnyH_take (i := 9) (oi := { dst := some 43, op := Op.move (Operand.tmp 52), type := 27, pos := "law.go:75", after := #[{ on := 8, ground := Ground.data }], guard := none }) (v := ?_) rfl (by kernel_rfl) (by kernel_rfl) (by kernel_rfl) (fun _ _ _ h => h) (Or.inl ⟨by rfl, ?_⟩) hHeld_8 ?_
  rotate_left
  · (intro w hSw; (try dsimp only at hSw); go_simp; try with_reducible rfl)
  try simp only [Act.put, List.setIfInBounds_toArray, List.set_cons_zero, List.set_cons_succ]
  refine wpAnyH_take (i := 10) (oi := { dst := some 53, op := Op.extract (Operand.tmp 43) 0, type := 9, pos := "law.go:75", after := #[{ on := 9, ground := Ground.data }], guard := none }) (v := ?_) rfl (by kernel_rfl) (by kernel_rfl) (by kernel_rfl) (fun _ _ _ h => h) (Or.inl ⟨by rfl, ?_⟩) hHeld_8 ?_
  rotate_left
  · (intro w hSw; (try dsimp only at hSw); go_simp; try with_reducible rfl)
  try simp only [Act.put, List.setIfInBounds_toArray, List.set_cons_zero, List.set_cons_succ]
  refine wpAnyH_take (i := 11) (oi := { dst := some 54, op := Op.extract (Operand.tmp 43) 1, type := 26, pos := "law.go:75", after := #[{ on := 9, ground := Ground.data }, { on := 12, ground := Ground.gcOnly Departure.lateStores }], guard := none }) (v := ?_) rfl (by kernel_rfl) (by kernel_rfl) (by kernel_rfl) (fun _ _ _ h => h) (Or.inl ⟨by rfl, ?_⟩) hHeld_8 ?_
  rotate_left
  · (intro w hSw; (try dsimp only at hSw); go_simp; try with_reducible rfl)
  try simp only [Act.put, List.setIfInBounds_toArray, List.set_cons_zero, List.set_cons_succ]
  refine wpAnyH_take (i := 12) (oi := { dst := some 13, op := Op.assign (Operand.tmp 53), type := 9, pos := "law.go:75", after := #[{ on := 10, ground := Ground.data }, { on := 8, ground := Ground.chain }, { on := 0, ground := Ground.phase }, { on := 1, ground := Ground.phase }, { on := 2, ground := Ground.phase }, { on := 3, ground := Ground.phase }, { on := 4, ground := Ground.phase }, { on := 5, ground := Ground.phase }, { on := 6, ground := Ground.phase }, { on := 7, ground := Ground.phase }, { on := 8, ground := Ground.phase }, { on := 9, ground := Ground.phase }, { on := 10, ground := Ground.phase }, { on := 11, ground := Ground.textOnly Departure.lateStores }], guard := none }) (v := ?_) rfl (by kernel_rfl) (by kernel_rfl) (by kernel_rfl) (fun _ _ _ h => h) (Or.inl ⟨by rfl, ?_⟩) hHeld_8 ?_
  rotate_left
  · (intro w hSw; (try dsimp only at hSw); go_simp; try with_reducible rfl)
  try simp only [Act.put, List.setIfInBounds_toArray, List.set_cons_zero, List.set_cons_succ]
  refine wpAnyH_take (i := 13) (oi := { dst := some 14, op := Op.assign (Operand.tmp 54), type := 26, pos := "law.go:75", after := #[{ on := 11, ground := Ground.data }, { on := 12, ground := Ground.chain }, { on := 0, ground := Ground.phase }, { on := 1, ground := Ground.phase }, { on := 2, ground := Ground.phase }, { on := 3, ground := Ground.phase }, { on := 4, ground := Ground.phase }, { on := 5, ground := Ground.phase }, { on := 6, ground := Ground.phase }, { on := 7, ground := Ground.phase }, { on := 8, ground := Ground.phase }, { on := 9, ground := Ground.phase }, { on := 10, ground := Ground.phase }, { on := 11, ground := Ground.phase }, { on := 12, ground := Ground.phase }], guard := none }) (v := ?_) rfl (by kernel_rfl) (by kernel_rfl) (by kernel_rfl) (fun _ _ _ h => h) (Or.inl ⟨by rfl, ?_⟩) hHeld_8 ?_
  rotate_left
  · (intro w hSw; (try dsimp only at hSw); go_simp; try with_reducible rfl)
  try simp only [Act.put, List.setIfInBounds_toArray, List.set_cons_zero, List.set_cons_succ]
  refine wpAnyH_done (by kernel_rfl) ?_ _
  have B7 : Hid (Below w.heap.size w w7) := B6.out.trans (HB7.out.mono B6.out.size)
  have S7 : Hid (StrsAt w7 (some ⟨g3, 0, none⟩) (l ++ [roomB])) := S6.out.up HB7.out
  have I7 : Hid (IntsAt w7 (some ⟨g5, 0, none⟩) (z ++ [77])) := I6.out.up HB7.out
  clear HB7 B6 S6 I6 PK
  have IW : Hid (∀ wx, Below w7.heap.size w7 wx → wx.cell? ⟨g5, m, none⟩ = some (.int .i64 77)) := fun wx hx => by
    obtain ⟨_, _, e1, h1⟩ := (I7.out.up hx) m 77 (by rw [List.getElem?_append_right (by rw [HM.out]; exact Nat.le_refl _), HM.out, Nat.sub_self]; rfl)
    cases e1
    rw [Nat.zero_add] at h1
    exact h1
  have n3 : (m : Int) < (m : Int) + 1 := by omega
  go_wp2_with fail
  refine Calls.mono (WH.out w7 _ c3 B7.out S7.out) ?_
  rintro e w8 ⟨rfl, hb8⟩
  have B8 : Hid (Below w.heap.size w w8) := B7.out.trans (hb8.mono B7.out.size)
  have I8 : Hid (IntsAt w8 (some ⟨g5, 0, none⟩) (z ++ [77])) := I7.out.up hb8
  have k77 := IW.out w8 hb8
  clear hb8 B7 S7 I7 WH IW
  go_wp2_with fail
  go_loopw [15] (fun i wx => ∃ j : Nat, j ≤ m ∧ i = .int .i64 j ∧ Hid (Below w.heap.size w wx) ∧ Hid (Below w8.heap.size w8 wx)) (fun i _ => m - (intOf i).toNat)
  case atStart => exact ⟨0, Nat.zero_le _, rfl, B8.out, Below.refl _ _⟩
  case round =>
    clear k77
    obtain ⟨j, hj, rfl, hb, hb8⟩ := hrel
    by_cases hlt : j < m
    · have n1 : (j : Int) < (m : Int) := by omega
      obtain ⟨x, hx⟩ : ∃ x, z[j]? = some x := ⟨z[j]'(by rw [HM.out]; exact hlt), List.getElem?_eq_getElem _⟩
      obtain ⟨g, off, rfl, c0⟩ := (HI.out.up hb.out) j x hx
      obtain ⟨_, _, e1, c1⟩ := (I8.out.head.up hb8.out) j x hx
      cases e1
      rw [Nat.zero_add] at c1
      clear hx
      have n2 : (j : Int) < (m : Int) + 1 := by omega
      go_wp2_with fail
      go_quiet (fail)
      have Bq : Hid (Below w.heap.size w (wr.drewN nq)) := below_drewN hb.out nq
      have Bq8 : Hid (Below w8.heap.size w8 (wr.drewN nq)) := below_drewN hb8.out nq
      generalize wr.drewN nq = wq at *
      go_wp2
      exact ⟨⟨j + 1, by omega, by go_num, Bq.out, Bq8.out⟩, by simp [intOf]; omega⟩
    · have n1 : ¬ (j : Int) < (m : Int) := by omega
      go_wp2
      go_ret
      exact ⟨rfl, hb.out⟩
end Go.Proofs.YtffchjigpppoaaaDoor
