/- The document's answer: own, Of, length, Size, Apply. -/
import Derived.Test.YteiaobeklahifaaFirsts
namespace Go.Proofs.Yteiaobeklahifaa
open Go.RowKit

theorem look_in {bl : List (Int × List Int)} {x : Int} {l : List Int} (h : look bl x = some l) : (x, l) ∈ bl := by
  unfold look at h
  obtain ⟨p, hp, rfl⟩ := Option.map_eq_some_iff.1 h
  have h1 := List.find?_some hp
  have h2 := List.mem_of_find?_eq_some hp
  have : p.1 = x := by simpa using h1
  rw [← this]
  exact h2
/-- The document's substitution in memory: binds of unlike variables, in whatever order. -/
structure RefAt (w : World) (a : Option Addr) (n : Nat) (rl : List (Int × List Int)) : Prop where
  row : ∃ vs, RowAt w a (rowB vs) ∧ Matches w vs rl
  len : rl.length = n
  nodup : (rl.map (·.1)).Nodup
theorem RefAt.under {w w' : World} {a : Option Addr} {n : Nat} {rl : List (Int × List Int)} (h : RefAt w a n rl) (hb : Below w.heap.size w w') : RefAt w' a n rl := by
  obtain ⟨vs, h1, h2⟩ := h.row
  exact ⟨⟨vs, h1.under hb, h2.under hb⟩, h.len, h.nodup⟩
theorem RefAt.at {w : World} {a : Option Addr} {n : Nat} {rl : List (Int × List Int)} (h : RefAt w a n rl) {i : Nat} {p : Int × List Int} (hp : rl[i]? = some p) :
    ∃ b off a' c', a = some ⟨b, off, none⟩ ∧ w.cell? ⟨b, off + i * 2, none⟩ = some (.int .i64 p.1) ∧ w.cell? ⟨b, off + i * 2 + 1, none⟩ = some (.slice a' p.2.length c') ∧ IntsAt w a' p.2 := by
  obtain ⟨vs, h1, h2⟩ := h.row
  obtain ⟨a', c', hv, hi⟩ := h2.2 i p hp
  obtain ⟨r1, r2⟩ := rowB_at vs i _ hv
  obtain ⟨b, off, rfl, k1⟩ := h1 _ _ r1
  obtain ⟨_, _, e, k2⟩ := h1 _ _ r2
  cases e
  exact ⟨b, off, a', c', rfl, k1, by rw [Nat.add_assoc]; exact k2, hi⟩

set_option maxRecDepth 100000 in
set_option maxHeartbeats 2000000 in
theorem rown_any (w : World) (a : Option Addr) (c : Nat) (l : List Int) (n : Nat) (hl : l.length = n) (hn : n ≤ 17592186043904) (h : IntsAt w a l) :
    Calls Try.prog 41 #[.slice a n c] w fun e w' => ∃ v, e = .returned v ∧ w'.ownsRow w.heap.size 3 1 v n (l.map intV) ∧ Below w.heap.size w w' := by
  obtain ⟨i0, hi0, hz0, hz1, hz3⟩ := info_parts infoI
  have H : Hid (IntsAt w a l) := h
  have HL : Hid (l.length = n) := hl
  clear h hl
  go_enter Try.func41, Try.ntmps41
  go_wp2_with (at_builtin; refine wpList_append_more (w := w) rfl _ _ _ rfl w.heap.size 3 i0 _ 1 8 Try.underlying29 hi0 hz0 hz1 hz3 rfl (by omega) _ 0 [] (by rfl) (by exact World.ownsRow_nil _ _ _ _) a n c (l.map intV) (by rfl) (by rw [List.length_map, HL.out, Nat.mul_one]) (by exact H.out.row.news) (by simp [intV, Value.oneCell']) (by unfold maxLen; omega) (by omega) (Nat.le_refl _) ?_; intro a2 c2 w2 ho hb; rw [Nat.zero_add, List.nil_append] at ho; have HO : Hid (w2.ownsRow w.heap.size 3 1 (.slice a2 n c2) n (l.map intV)) := ho; have HB : Hid (Below w.heap.size w w2) := hb; clear ho hb)
  go_wp2
  go_ret
  refine ⟨_, rfl, ?_, HB.out⟩
  have := HO.out
  simpa using this
def ROfIs (w w' : World) (e : Ending) (rl : List (Int × List Int)) (y : Int) : Prop := Below w.heap.size w w' ∧
  ((∃ (l : List Int) (v : Value), look rl y = some l ∧ e = .returned (.tuple #[v, .bool true]) ∧ w'.ownsRow w.heap.size 3 1 v l.length (l.map intV)) ∨ (look rl y = none ∧ e = .returned (.tuple #[.slice none 0 0, .bool false])))

set_option maxRecDepth 100000 in
set_option maxHeartbeats 4000000 in
theorem rof_any (w : World) (a : Option Addr) (n c : Nat) (rl : List (Int × List Int)) (y : Int) (hn : n ≤ 4398046511000) (hbig : ∀ p ∈ rl, p.2.length ≤ 17592186043904) (h : RefAt w a n rl) :
    Calls Try.prog 32 #[.agg #[.slice a n c], .int .i64 y] w fun e w' => ROfIs w w' e rl y := by
  have k0 : (w.alloc (.cells #[.slice a n c] 50)).cell? ⟨w.heap.size, 0, none⟩ = some (.slice a n c) := World.cell?_alloc_new w _ _ 0
  have hbA := below_alloc w (.cells #[.slice a n c] 50)
  have H : Hid (RefAt (w.alloc (.cells #[.slice a n c] 50)) a n rl) := h.under hbA
  have HA : Hid (Below w.heap.size w (w.alloc (.cells #[.slice a n c] 50))) := hbA
  have HBG : Hid (∀ p ∈ rl, p.2.length ≤ 17592186043904) := hbig
  clear h hbA hbig
  go_enter Try.func32, Try.ntmps32
  go_wp2_with fail
  generalize w.alloc (.cells #[.slice a n c] 50) = wA at *
  generalize hB0 : w.heap.size = B0 at *
  have HB0e : Hid (w.heap.size = B0) := hB0
  clear hB0
  go_loopw [6] (fun i wx => ∃ j : Nat, j ≤ n ∧ i = .int .i64 j ∧ wx = wA ∧ Hid (∀ q ∈ rl.take j, q.1 ≠ y)) (fun i _ => n - (intOf i).toNat)
  case atStart => exact ⟨0, Nat.zero_le _, rfl, rfl, fun q hq => by simp at hq⟩
  case round =>
    obtain ⟨j, hj, rfl, hwr, hno⟩ := hrel
    subst wr
    by_cases hlt : j < n
    · have n1 : (j : Int) < (n : Int) := by omega
      obtain ⟨p, hp⟩ : ∃ p, rl[j]? = some p := ⟨rl[j]'(by rw [H.out.len]; exact hlt), List.getElem?_eq_getElem _⟩
      obtain ⟨b1, o1, a1, c1, rfl, k1, k2, k3⟩ := H.out.at hp
      have hpb := HBG.out p (List.mem_of_getElem? hp)
      have Htk : Hid (rl.take (j + 1) = rl.take j ++ [p]) := by show _ = _; rw [List.take_add_one, hp]; rfl
      by_cases hxy : p.1 = y
      · have HLk : Hid (look rl y = some p.2) := by
          have := look_of_mem H.out.nodup (List.mem_of_getElem? hp)
          rw [hxy] at this
          exact this
        obtain ⟨x, lx⟩ := p
        have hxy' : x = y := hxy
        subst hxy'
        have OW : Hid _ := rown_any wA a1 c1 lx lx.length rfl hpb k3
        have k1' : wA.cell? ⟨b1, o1 + j * 2, none⟩ = some (.int .i64 x) := k1
        have k2' : wA.cell? ⟨b1, o1 + j * 2 + 1, none⟩ = some (.slice a1 lx.length c1) := k2
        clear k1 k2 k3 hp hpb hxy Htk
        have HLk' : Hid (look rl x = some lx) := HLk
        obtain ⟨xl, hxl⟩ : ∃ xl, xl = lx.length := ⟨_, rfl⟩
        have Hxl : Hid (xl = lx.length) := hxl
        rw [← hxl] at k2' OW
        clear hxl HLk
        go_wp2_with fail
        refine Calls.mono OW.out ?_
        rintro e w2 ⟨v2, rfl, ho2, hb2⟩
        have HR : Hid (w2.ownsRow w.heap.size 3 1 v2 lx.length (lx.map intV) ∧ Below w.heap.size w w2) := by
          have h1 := HA.out
          have h2 := h1.size
          rw [Hxl.out] at ho2
          rw [HB0e.out] at h2 ⊢
          exact ⟨owns_down ho2 h2, h1.trans (hb2.mono h2)⟩
        clear ho2 hb2 OW
        go_wp2
        go_ret2
        exact ⟨HR.out.2, .inl ⟨lx, v2, HLk'.out, rfl, HR.out.1⟩⟩
      · obtain ⟨x, lx⟩ := p
        have hxy' : (x == y) = false := by simpa using hxy
        have k1' : wA.cell? ⟨b1, o1 + j * 2, none⟩ = some (.int .i64 x) := k1
        have Hno : Hid (∀ q ∈ rl.take (j + 1), q.1 ≠ y) := fun q hq => by
          rw [Htk.out] at hq
          rcases List.mem_append.1 hq with h1 | h1
          · exact hno.out q h1
          · rw [List.mem_singleton.1 h1]; exact hxy
        clear k1 k2 k3 hp hpb hxy Htk hno
        go_wp2
        exact ⟨⟨j + 1, by omega, by go_num, by trivial, Hno.out⟩, by simp [intOf]; omega⟩
    · have n1 : ¬ (j : Int) < (n : Int) := by omega
      have HN : Hid (look rl y = none) := look_out fun p hp => hno.out p (by rw [List.take_of_length_le (by rw [H.out.len]; omega)]; exact hp)
      go_wp2
      go_ret2
      exact ⟨by have h1 := HA.out; rw [HB0e.out]; exact h1, .inr ⟨HN.out, rfl⟩⟩

set_option maxRecDepth 100000 in
set_option maxHeartbeats 4000000 in
theorem rlen_any (w : World) (a : Option Addr) (n c : Nat) (rl : List (Int × List Int)) (y : Int) (hn : n ≤ 4398046511000) (h : RefAt w a n rl) :
    Calls Try.prog 46 #[.agg #[.slice a n c], .int .i64 y] w fun e w' => e = .returned (.int .i64 ((sub rl y).length : Nat)) ∧ Below w.heap.size w w' := by
  have k0 : (w.alloc (.cells #[.slice a n c] 50)).cell? ⟨w.heap.size, 0, none⟩ = some (.slice a n c) := World.cell?_alloc_new w _ _ 0
  have hbA := below_alloc w (.cells #[.slice a n c] 50)
  have H : Hid (RefAt (w.alloc (.cells #[.slice a n c] 50)) a n rl) := h.under hbA
  have HA : Hid (Below w.heap.size w (w.alloc (.cells #[.slice a n c] 50))) := hbA
  clear h hbA
  go_enter Try.func46, Try.ntmps46
  go_wp2_with fail
  generalize w.alloc (.cells #[.slice a n c] 50) = wA at *
  generalize hB0 : w.heap.size = B0 at *
  have HB0e : Hid (w.heap.size = B0) := hB0
  clear hB0
  go_loopw [5] (fun i wx => ∃ j : Nat, j ≤ n ∧ i = .int .i64 j ∧ wx = wA ∧ Hid (∀ q ∈ rl.take j, q.1 ≠ y)) (fun i _ => n - (intOf i).toNat)
  case atStart => exact ⟨0, Nat.zero_le _, rfl, rfl, fun q hq => by simp at hq⟩
  case round =>
    obtain ⟨j, hj, rfl, hwr, hno⟩ := hrel
    subst wr
    by_cases hlt : j < n
    · have n1 : (j : Int) < (n : Int) := by omega
      obtain ⟨p, hp⟩ : ∃ p, rl[j]? = some p := ⟨rl[j]'(by rw [H.out.len]; exact hlt), List.getElem?_eq_getElem _⟩
      obtain ⟨b1, o1, a1, c1, rfl, k1, k2, k3⟩ := H.out.at hp
      have Htk : Hid (rl.take (j + 1) = rl.take j ++ [p]) := by show _ = _; rw [List.take_add_one, hp]; rfl
      by_cases hxy : p.1 = y
      · have HLk : Hid ((sub rl y).length = p.2.length) := by
          have := look_of_mem H.out.nodup (List.mem_of_getElem? hp)
          rw [hxy] at this
          show _ = _
          unfold sub
          rw [this]; rfl
        obtain ⟨x, lx⟩ := p
        have hxy' : x = y := hxy
        subst hxy'
        have k1' : wA.cell? ⟨b1, o1 + j * 2, none⟩ = some (.int .i64 x) := k1
        have k2' : wA.cell? ⟨b1, o1 + j * 2 + 1, none⟩ = some (.slice a1 lx.length c1) := k2
        have HLk' : Hid ((sub rl x).length = lx.length) := HLk
        clear k1 k2 k3 hp hxy Htk HLk
        go_wp2
        go_ret
        exact ⟨by rw [HLk'.out]; rfl, by have h1 := HA.out; rw [HB0e.out]; exact h1⟩
      · obtain ⟨x, lx⟩ := p
        have hxy' : (x == y) = false := by simpa using hxy
        have k1' : wA.cell? ⟨b1, o1 + j * 2, none⟩ = some (.int .i64 x) := k1
        have Hno : Hid (∀ q ∈ rl.take (j + 1), q.1 ≠ y) := fun q hq => by
          rw [Htk.out] at hq
          rcases List.mem_append.1 hq with h1 | h1
          · exact hno.out q h1
          · rw [List.mem_singleton.1 h1]; exact hxy
        clear k1 k2 k3 hp hxy Htk hno
        go_wp2
        exact ⟨⟨j + 1, by omega, by go_num, by trivial, Hno.out⟩, by simp [intOf]; omega⟩
    · have n1 : ¬ (j : Int) < (n : Int) := by omega
      have HN : Hid ((sub rl y).length = 1) := by
        have := look_out (bl := rl) (y := y) fun p hp => hno.out p (by rw [List.take_of_length_le (by rw [H.out.len]; omega)]; exact hp)
        show _ = _
        unfold sub
        rw [this]; rfl
      go_wp2
      go_ret
      exact ⟨by rw [HN.out]; rfl, by have h1 := HA.out; rw [HB0e.out]; exact h1⟩

set_option maxRecDepth 100000 in
set_option maxHeartbeats 4000000 in
theorem rsize_any (w : World) (a : Option Addr) (n c : Nat) (rl : List (Int × List Int)) (ae : Option Addr) (ne ce : Nat) (l : List Int) (hn : n ≤ 4398046511000) (hbig : ∀ p ∈ rl, p.2.length ≤ 17592186043904) (h : RefAt w a n rl) (hl : l.length = ne) (hne : ne ≤ 17592186043904) (hE : IntsAt w ae l) :
    Calls Try.prog 34 #[.agg #[.slice a n c], .slice ae ne ce] w fun e w' => e = .returned (.int .i64 (min 201 (subs rl l).length : Nat)) ∧ Below w.heap.size w w' := by
  have k0 : (w.alloc (.cells #[.slice a n c] 50)).cell? ⟨w.heap.size, 0, none⟩ = some (.slice a n c) := World.cell?_alloc_new w _ _ 0
  have hbA := below_alloc w (.cells #[.slice a n c] 50)
  have H : Hid (RefAt (w.alloc (.cells #[.slice a n c] 50)) a n rl) := h.under hbA
  have HE : Hid (IntsAt (w.alloc (.cells #[.slice a n c] 50)) ae l) := hE.under hbA
  have HA : Hid (Below w.heap.size w (w.alloc (.cells #[.slice a n c] 50))) := hbA
  have HL : Hid (l.length = ne) := hl
  have HBG : Hid (∀ y, (sub rl y).length ≤ 17592186043904) := fun y => by
    unfold sub
    cases hx : look rl y with
    | none => simp
    | some l => exact hbig _ (look_in hx)
  clear h hbA hE hl hbig
  go_enter Try.func34, Try.ntmps34
  go_wp2_with fail
  generalize w.alloc (.cells #[.slice a n c] 50) = wA at *
  have hB : w.heap.size < wA.heap.size := World.block_lt_of_cell? _ _ k0
  generalize hB0 : w.heap.size = B0 at *
  have HB0e : Hid (w.heap.size = B0) := hB0
  have K0 : Hid (wA.cell? ⟨B0, 0, none⟩ = some (.slice a n c)) := k0
  clear hB0 k0
  go_loopw [5, 6, 7] (fun s i _ wx => ∃ (j t : Nat), j ≤ ne ∧ t ≤ 200 ∧ i = .int .i64 j ∧ s = .int .i64 t ∧ Hid ((subs rl (l.take j)).length = t) ∧ Hid (Below wA.heap.size wA wx)) (fun _ i _ _ => ne - (intOf i).toNat)
  case atStart => exact ⟨0, 0, Nat.zero_le _, Nat.zero_le _, rfl, rfl, rfl, Below.refl _ _⟩
  case round =>
    obtain ⟨j, t, hj, ht, rfl, rfl, hst, hb⟩ := hrel
    by_cases hlt : j < ne
    · have n1 : (j : Int) < (ne : Int) := by omega
      obtain ⟨x, hx⟩ : ∃ x, l[j]? = some x := ⟨l[j]'(by rw [HL.out]; exact hlt), List.getElem?_eq_getElem _⟩
      obtain ⟨b1, o1, rfl, hc1⟩ := (HE.out.under hb.out) j x hx
      have Htk : Hid (subs rl (l.take (j + 1)) = subs rl (l.take j) ++ sub rl x) := subs_take hx
      have kb : wr.cell? ⟨B0, 0, none⟩ = some (.slice a n c) := (hb.out.cell (p := ⟨B0, 0, none⟩) hB).trans K0.out
      have hbd : Below wA.heap.size wA wr.drew := ⟨hb.out.os, hb.out.tape, hb.out.output, hb.out.size, hb.out.block⟩
      have RL : Hid _ := rlen_any wr.drew a n c rl x hn (H.out.under hbd)
      have Hbd : Hid (Below wA.heap.size wA wr.drew) := hbd
      have hpb := HBG.out x
      obtain ⟨p, hp⟩ : ∃ p, p = (sub rl x).length := ⟨_, rfl⟩
      rw [← hp] at RL hpb
      have Hp : Hid (p = (sub rl x).length) := hp
      have hb1 : b1 < wr.heap.size := World.block_lt_of_cell? _ _ hc1
      have hbb : B0 < wr.heap.size := World.block_lt_of_cell? _ _ kb
      clear hx hbd hp
      go_wp2_with fail
      refine wp_region_held_drew (S := fun w' => w'.cell? ⟨B0, 0, none⟩ = some (.slice a n c) ∧ w'.cell? ⟨b1, o1 + j, none⟩ = some (.int .i64 x)) (by kernel_rfl) ?_ (fun hHeld => ?_)
      · exact ⟨kb, hc1⟩
      refine wpAnyH_take (i := 0) (oi := { dst := some 14, op := Op.load 50 (Operand.tmp 2), type := 50, pos := "ref.go:81", after := #[], guard := none }) (v := ?_) rfl (by kernel_rfl) (by kernel_rfl) (by kernel_rfl) (fun _ _ _ h => h) (Or.inl ⟨by rfl, ?_⟩) hHeld ?_
      rotate_left
      · (intro w hSw; (try dsimp only at hSw); go_simp; try with_reducible rfl)
      try simp only [Act.put, List.setIfInBounds_toArray, List.set_cons_zero, List.set_cons_succ]
      refine wpAnyH_take (i := 1) (oi := { dst := some 15, op := Op.move (Operand.tmp 1), type := 29, pos := "ref.go:81", after := #[], guard := none }) (v := ?_) rfl (by kernel_rfl) (by kernel_rfl) (by kernel_rfl) (fun _ _ _ h => h) (Or.inl ⟨by rfl, ?_⟩) hHeld ?_
      rotate_left
      · (intro w hSw; (try dsimp only at hSw); go_simp; try with_reducible rfl)
      try simp only [Act.put, List.setIfInBounds_toArray, List.set_cons_zero, List.set_cons_succ]
      refine wpAnyH_take (i := 2) (oi := { dst := some 16, op := Op.move (Operand.tmp 6), type := 3, pos := "ref.go:81", after := #[], guard := none }) (v := ?_) rfl (by kernel_rfl) (by kernel_rfl) (by kernel_rfl) (fun _ _ _ h => h) (Or.inl ⟨by rfl, ?_⟩) hHeld ?_
      rotate_left
      · (intro w hSw; (try dsimp only at hSw); go_simp; try with_reducible rfl)
      try simp only [Act.put, List.setIfInBounds_toArray, List.set_cons_zero, List.set_cons_succ]
      refine wpAnyH_take (i := 3) (oi := { dst := some 17, op := Op.indexAddr 29 (Operand.tmp 15) (Operand.tmp 16), type := 0, pos := "ref.go:81", after := #[{ on := 1, ground := Ground.data }, { on := 2, ground := Ground.data }], guard := none }) (v := ?_) rfl (by kernel_rfl) (by kernel_rfl) (by kernel_rfl) (fun _ _ _ h => h) (Or.inl ⟨by rfl, ?_⟩) hHeld ?_
      rotate_left
      · (intro w hSw; (try dsimp only at hSw); go_simp; try with_reducible rfl)
      try simp only [Act.put, List.setIfInBounds_toArray, List.set_cons_zero, List.set_cons_succ]
      refine wpAnyH_take (i := 4) (oi := { dst := some 18, op := Op.load 3 (Operand.tmp 17), type := 3, pos := "ref.go:81", after := #[{ on := 3, ground := Ground.data }], guard := none }) (v := ?_) rfl (by kernel_rfl) (by kernel_rfl) (by kernel_rfl) (fun _ _ _ h => h) (Or.inl ⟨by rfl, ?_⟩) hHeld ?_
      rotate_left
      · (intro w hSw; (try dsimp only at hSw); go_simp; try with_reducible rfl)
      try simp only [Act.put, List.setIfInBounds_toArray, List.set_cons_zero, List.set_cons_succ]
      refine wpAnyH_ready (rs := [5]) (by kernel_rfl) (by simp) ?_
      refine AllReadyH.cons (o := { dst := some 19, op := Op.call { callee := Callee.value (Operand.func 46), args := #[Operand.tmp 14, Operand.tmp 18], argTypes := #[50, 3] }, type := 3, pos := "ref.go:81", after := #[{ on := 0, ground := Ground.data }, { on := 4, ground := Ground.data }], guard := none }) rfl (fun K hK => ?_) AllReadyH.nil
      go_simp
      go_at_call 46
      refine Calls.mono RL.out ?_
      rintro e w2 ⟨rfl, hb2⟩
      have k2 : w2.cell? ⟨B0, 0, none⟩ = some (.slice a n c) := (hb2.cell (p := ⟨B0, 0, none⟩) hbb).trans kb
      have k3 : w2.cell? ⟨b1, o1 + j, none⟩ = some (.int .i64 x) := (hb2.cell (p := ⟨b1, o1 + j, none⟩) hb1).trans hc1
      have Hb2 : Hid (Below wA.heap.size wA w2) := Hbd.out.trans (hb2.mono Hbd.out.size)
      clear hb2 RL Hbd
      try go_wp2_with fail
      refine hK.out _ _ ?_ (fun hHeld2 => ?_)
      · exact ⟨k2, k3⟩
      clear hK K
      try simp only [Act.put, List.setIfInBounds_toArray, List.set_cons_zero, List.set_cons_succ]
      refine wpAnyH_take (i := 6) (oi := { dst := some 7, op := Op.assign (Operand.tmp 19), type := 3, pos := "ref.go:81", after := #[{ on := 5, ground := Ground.data }, { on := 5, ground := Ground.chain }, { on := 0, ground := Ground.phase }, { on := 1, ground := Ground.phase }, { on := 2, ground := Ground.phase }, { on := 3, ground := Ground.phase }, { on := 4, ground := Ground.phase }, { on := 5, ground := Ground.phase }], guard := none }) (v := ?_) rfl (by kernel_rfl) (by kernel_rfl) (by kernel_rfl) (fun _ _ _ h => h) (Or.inl ⟨by rfl, ?_⟩) hHeld2 ?_
      rotate_left
      · (intro w hSw; (try dsimp only at hSw); go_simp; try with_reducible rfl)
      try simp only [Act.put, List.setIfInBounds_toArray, List.set_cons_zero, List.set_cons_succ]
      refine wpAnyH_done (by kernel_rfl) ?_ _
      by_cases hfit : t + p ≤ 200
      · have f1 : ¬ (200 : Int) - (t : Int) < (p : Int) := by omega
        go_wp2
        refine ⟨⟨j + 1, t + p, by omega, hfit, by go_num, by go_num, ?_, Hb2.out⟩, by simp [intOf]; omega⟩
        show _ = _
        rw [Htk.out, List.length_append, hst.out, ← Hp.out]
      · have f1 : (200 : Int) - (t : Int) < (p : Int) := by omega
        have hfin : Hid (min 201 (subs rl l).length = 201) := by
          show _ = _
          have h1 := subs_le (bl := rl) (l := l) (j + 1)
          rw [Htk.out, List.length_append, hst.out, ← Hp.out] at h1
          omega
        go_wp2
        go_ret
        exact ⟨by rw [hfin.out]; rfl, by have h1 := HA.out; have h2 := h1.size; rw [HB0e.out] at h2 ⊢; exact h1.trans (Hb2.out.mono h2)⟩
    · have n1 : ¬ (j : Int) < (ne : Int) := by omega
      have hfin : Hid (min 201 (subs rl l).length = t) := by
        show _ = _
        have := hst.out
        rw [List.take_of_length_le (by rw [HL.out]; omega)] at this
        omega
      go_wp2
      go_ret
      exact ⟨by rw [hfin.out]; rfl, by have h1 := HA.out; have h2 := h1.size; rw [HB0e.out] at h2 ⊢; exact h1.trans (hb.out.mono h2)⟩

set_option maxRecDepth 100000 in
set_option maxHeartbeats 8000000 in
theorem rapply_any (w : World) (a : Option Addr) (n c : Nat) (rl : List (Int × List Int)) (ae : Option Addr) (ne ce : Nat) (l : List Int) (hn : n ≤ 4398046511000) (hbig : ∀ p ∈ rl, p.2.length ≤ 17592186043904) (h : RefAt w a n rl) (hl : l.length = ne) (hne : ne ≤ 17592186043904) (hE : IntsAt w ae l) :
    Calls Try.prog 33 #[.agg #[.slice a n c], .slice ae ne ce] w fun e w' => AppIs w w' e rl l := by
  obtain ⟨i0, hi0, hz0, hz1, hz3⟩ := info_parts infoI
  have k0 : (w.alloc (.cells #[.slice a n c] 50)).cell? ⟨w.heap.size, 0, none⟩ = some (.slice a n c) := World.cell?_alloc_new w _ _ 0
  have hbA := below_alloc w (.cells #[.slice a n c] 50)
  have SZ : Hid _ := rsize_any (w.alloc (.cells #[.slice a n c] 50)) a n c rl ae ne ce l hn hbig (h.under hbA) hl hne (hE.under hbA)
  have H : Hid (RefAt (w.alloc (.cells #[.slice a n c] 50)) a n rl) := h.under hbA
  have HE : Hid (IntsAt (w.alloc (.cells #[.slice a n c] 50)) ae l) := hE.under hbA
  have HA : Hid (Below w.heap.size w (w.alloc (.cells #[.slice a n c] 50))) := hbA
  have HL : Hid (l.length = ne) := hl
  have HBG : Hid (∀ p ∈ rl, p.2.length ≤ 17592186043904) := hbig
  clear h hbA hE hl hbig
  by_cases hfit : (subs rl l).length ≤ 200
  · have SZ2 : Hid (Calls Try.prog 34 #[.agg #[.slice a n c], .slice ae ne ce] (w.alloc (.cells #[.slice a n c] 50)) fun e w' => e = .returned (.int .i64 ((subs rl l).length : Nat)) ∧ Below (w.alloc (.cells #[.slice a n c] 50)).heap.size (w.alloc (.cells #[.slice a n c] 50)) w') := by
      have := SZ.out
      rw [Nat.min_eq_right (by omega)] at this
      exact this
    have HF : Hid ((subs rl l).length ≤ 200) := hfit
    obtain ⟨z, hz⟩ : ∃ z, z = (subs rl l).length := ⟨_, rfl⟩
    rw [← hz] at SZ2 hfit
    have f0 : ¬ (200 : Int) < (z : Int) := by omega
    clear SZ hz
    go_enter Try.func33, Try.ntmps33
    go_wp2_with fail
    generalize w.alloc (.cells #[.slice a n c] 50) = wA at *
    have hB : w.heap.size < wA.heap.size := World.block_lt_of_cell? _ _ k0
    generalize hB0 : w.heap.size = B0 at *
    have HB0e : Hid (w.heap.size = B0) := hB0
    have K0 : Hid (wA.cell? ⟨B0, 0, none⟩ = some (.slice a n c)) := k0
    clear hB0 k0
    refine Calls.mono SZ2.out ?_
    rintro e w1 ⟨rfl, hb1⟩
    have HB1 : Hid (Below wA.heap.size wA w1) := hb1
    clear SZ2 hb1
    go_wp2_with fail
    go_loopw [6, 7, 8, 9] (fun v i _ _ wx => ∃ (j s : Nat) (av : Option Addr) (cap : Nat), j ≤ ne ∧ s ≤ 200 ∧ i = .int .i64 j ∧ v = .slice av s cap ∧ Hid ((subs rl (l.take j)).length = s) ∧ Hid (wx.ownsRow wA.heap.size 3 1 (.slice av s cap) s ((subs rl (l.take j)).map intV)) ∧ Hid (Below wA.heap.size wA wx)) (fun _ i _ _ _ => ne - (intOf i).toNat)
    case atStart => exact ⟨0, 0, none, 0, Nat.zero_le _, by omega, rfl, rfl, rfl, World.ownsRow_nil _ _ _ _, HB1.out⟩
    case round =>
      clear HB1
      obtain ⟨j, s, av, cap, hj, hs, rfl, rfl, hst, hown, hb⟩ := hrel
      by_cases hlt : j < ne
      · have n1 : (j : Int) < (ne : Int) := by omega
        obtain ⟨x, hx⟩ : ∃ x, l[j]? = some x := ⟨l[j]'(by rw [HL.out]; exact hlt), List.getElem?_eq_getElem _⟩
        obtain ⟨b1, o1, rfl, hc1⟩ := (HE.out.under hb.out) j x hx
        have Htk : Hid (subs rl (l.take (j + 1)) = subs rl (l.take j) ++ sub rl x) := subs_take hx
        have hle : s + (sub rl x).length ≤ 200 := by
          have h1 := subs_le (bl := rl) (l := l) (j + 1)
          rw [Htk.out, List.length_append, hst.out] at h1
          have := HF.out
          omega
        have kb : wr.cell? ⟨B0, 0, none⟩ = some (.slice a n c) := (hb.out.cell (p := ⟨B0, 0, none⟩) hB).trans K0.out
        have hbd : Below wA.heap.size wA wr.drew := ⟨hb.out.os, hb.out.tape, hb.out.output, hb.out.size, hb.out.block⟩
        have RO : Hid _ := rof_any wr.drew a n c rl x hn HBG.out (H.out.under hbd)
        have Hbd : Hid (Below wA.heap.size wA wr.drew) := hbd
        have Hown : Hid (wr.drew.ownsRow wA.heap.size 3 1 (.slice av s cap) s ((subs rl (l.take j)).map intV)) := hown.out
        have hb1 : b1 < wr.heap.size := World.block_lt_of_cell? _ _ hc1
        have hbb : B0 < wr.heap.size := World.block_lt_of_cell? _ _ kb
        clear hx hbd hown
        go_wp2_with fail
        refine wp_region_held_drew (S := fun w' => w'.cell? ⟨B0, 0, none⟩ = some (.slice a n c) ∧ w'.cell? ⟨b1, o1 + j, none⟩ = some (.int .i64 x)) (by kernel_rfl) ?_ (fun hHeld => ?_)
        · exact ⟨kb, hc1⟩
        refine wpAnyH_take (i := 0) (oi := { dst := some 21, op := Op.load 50 (Operand.tmp 2), type := 50, pos := "ref.go:97", after := #[], guard := none }) (v := ?_) rfl (by kernel_rfl) (by kernel_rfl) (by kernel_rfl) (fun _ _ _ h => h) (Or.inl ⟨by rfl, ?_⟩) hHeld ?_
        rotate_left
        · (intro w hSw; (try dsimp only at hSw); go_simp; try with_reducible rfl)
        try simp only [Act.put, List.setIfInBounds_toArray, List.set_cons_zero, List.set_cons_succ]
        refine wpAnyH_take (i := 1) (oi := { dst := some 22, op := Op.move (Operand.tmp 1), type := 29, pos := "ref.go:97", after := #[], guard := none }) (v := ?_) rfl (by kernel_rfl) (by kernel_rfl) (by kernel_rfl) (fun _ _ _ h => h) (Or.inl ⟨by rfl, ?_⟩) hHeld ?_
        rotate_left
        · (intro w hSw; (try dsimp only at hSw); go_simp; try with_reducible rfl)
        try simp only [Act.put, List.setIfInBounds_toArray, List.set_cons_zero, List.set_cons_succ]
        refine wpAnyH_take (i := 2) (oi := { dst := some 23, op := Op.move (Operand.tmp 7), type := 3, pos := "ref.go:97", after := #[], guard := none }) (v := ?_) rfl (by kernel_rfl) (by kernel_rfl) (by kernel_rfl) (fun _ _ _ h => h) (Or.inl ⟨by rfl, ?_⟩) hHeld ?_
        rotate_left
        · (intro w hSw; (try dsimp only at hSw); go_simp; try with_reducible rfl)
        try simp only [Act.put, List.setIfInBounds_toArray, List.set_cons_zero, List.set_cons_succ]
        refine wpAnyH_take (i := 3) (oi := { dst := some 24, op := Op.indexAddr 29 (Operand.tmp 22) (Operand.tmp 23), type := 0, pos := "ref.go:97", after := #[{ on := 1, ground := Ground.data }, { on := 2, ground := Ground.data }], guard := none }) (v := ?_) rfl (by kernel_rfl) (by kernel_rfl) (by kernel_rfl) (fun _ _ _ h => h) (Or.inl ⟨by rfl, ?_⟩) hHeld ?_
        rotate_left
        · (intro w hSw; (try dsimp only at hSw); go_simp; try with_reducible rfl)
        try simp only [Act.put, List.setIfInBounds_toArray, List.set_cons_zero, List.set_cons_succ]
        refine wpAnyH_take (i := 4) (oi := { dst := some 25, op := Op.load 3 (Operand.tmp 24), type := 3, pos := "ref.go:97", after := #[{ on := 3, ground := Ground.data }], guard := none }) (v := ?_) rfl (by kernel_rfl) (by kernel_rfl) (by kernel_rfl) (fun _ _ _ h => h) (Or.inl ⟨by rfl, ?_⟩) hHeld ?_
        rotate_left
        · (intro w hSw; (try dsimp only at hSw); go_simp; try with_reducible rfl)
        try simp only [Act.put, List.setIfInBounds_toArray, List.set_cons_zero, List.set_cons_succ]
        refine wpAnyH_ready (rs := [5]) (by kernel_rfl) (by simp) ?_
        refine AllReadyH.cons (o := { dst := some 26, op := Op.call { callee := Callee.value (Operand.func 32), args := #[Operand.tmp 21, Operand.tmp 25], argTypes := #[50, 3] }, type := 39, pos := "ref.go:97", after := #[{ on := 0, ground := Ground.data }, { on := 4, ground := Ground.data }], guard := none }) rfl (fun K hK => ?_) AllReadyH.nil
        go_simp
        go_at_call 32
        refine Calls.mono RO.out ?_
        rintro e w2 ⟨hb2, hfound⟩
        have k2 : w2.cell? ⟨B0, 0, none⟩ = some (.slice a n c) := (hb2.cell (p := ⟨B0, 0, none⟩) hbb).trans kb
        have k3 : w2.cell? ⟨b1, o1 + j, none⟩ = some (.int .i64 x) := (hb2.cell (p := ⟨b1, o1 + j, none⟩) hb1).trans hc1
        have Hb2 : Hid (Below wA.heap.size wA w2) := Hbd.out.trans (hb2.mono Hbd.out.size)
        have HO2 : Hid (w2.ownsRow wA.heap.size 3 1 (.slice av s cap) s ((subs rl (l.take j)).map intV)) := owns_under Hown.out hb2
        clear hb2 RO Hbd Hown
        rcases hfound with ⟨ly, vy, hlook, rfl, hoy⟩ | ⟨hlook, rfl⟩
        · obtain ⟨ay, cy, rfl, _, hry, _⟩ := own_row hoy
          have HSb : Hid (sub rl x = ly) := by show _ = _; unfold sub; rw [hlook]; rfl
          rw [HSb.out] at hle
          have HI : Hid (IntsAt w2 ay ly) := hry.ints
          obtain ⟨p, hp⟩ : ∃ p, p = ly.length := ⟨_, rfl⟩
          rw [← hp] at hle
          rw [← hp]
          have Hp : Hid (p = ly.length) := hp
          clear hlook hoy hry hp
          try go_wp2_with fail
          refine hK.out _ _ ?_ (fun hHeld2 => ?_)
          · exact ⟨k2, k3⟩
          clear hK K
          try simp only [Act.put, List.setIfInBounds_toArray, List.set_cons_zero, List.set_cons_succ]
          refine wpAnyH_take (i := 6) (oi := { dst := some 20, op := Op.move (Operand.tmp 26), type := 39, pos := "ref.go:97", after := #[{ on := 5, ground := Ground.data }], guard := none }) (v := ?_) rfl (by kernel_rfl) (by kernel_rfl) (by kernel_rfl) (fun _ _ _ h => h) (Or.inl ⟨by rfl, ?_⟩) hHeld2 ?_
          rotate_left
          · (intro w hSw; (try dsimp only at hSw); go_simp; try with_reducible rfl)
          try simp only [Act.put, List.setIfInBounds_toArray, List.set_cons_zero, List.set_cons_succ]
          refine wpAnyH_take (i := 7) (oi := { dst := some 27, op := Op.extract (Operand.tmp 20) 0, type := 29, pos := "ref.go:97", after := #[{ on := 6, ground := Ground.data }], guard := none }) (v := ?_) rfl (by kernel_rfl) (by kernel_rfl) (by kernel_rfl) (fun _ _ _ h => h) (Or.inl ⟨by rfl, ?_⟩) hHeld2 ?_
          rotate_left
          · (intro w hSw; (try dsimp only at hSw); go_simp; try with_reducible rfl)
          try simp only [Act.put, List.setIfInBounds_toArray, List.set_cons_zero, List.set_cons_succ]
          refine wpAnyH_take (i := 8) (oi := { dst := some 28, op := Op.extract (Operand.tmp 20) 1, type := 4, pos := "ref.go:97", after := #[{ on := 6, ground := Ground.data }, { on := 9, ground := Ground.gcOnly Departure.lateStores }], guard := none }) (v := ?_) rfl (by kernel_rfl) (by kernel_rfl) (by kernel_rfl) (fun _ _ _ h => h) (Or.inl ⟨by rfl, ?_⟩) hHeld2 ?_
          rotate_left
          · (intro w hSw; (try dsimp only at hSw); go_simp; try with_reducible rfl)
          try simp only [Act.put, List.setIfInBounds_toArray, List.set_cons_zero, List.set_cons_succ]
          refine wpAnyH_take (i := 9) (oi := { dst := some 8, op := Op.assign (Operand.tmp 27), type := 29, pos := "ref.go:97", after := #[{ on := 7, ground := Ground.data }, { on := 5, ground := Ground.chain }, { on := 0, ground := Ground.phase }, { on := 1, ground := Ground.phase }, { on := 2, ground := Ground.phase }, { on := 3, ground := Ground.phase }, { on := 4, ground := Ground.phase }, { on := 5, ground := Ground.phase }, { on := 6, ground := Ground.phase }, { on := 7, ground := Ground.phase }, { on := 8, ground := Ground.textOnly Departure.lateStores }], guard := none }) (v := ?_) rfl (by kernel_rfl) (by kernel_rfl) (by kernel_rfl) (fun _ _ _ h => h) (Or.inl ⟨by rfl, ?_⟩) hHeld2 ?_
          rotate_left
          · (intro w hSw; (try dsimp only at hSw); go_simp; try with_reducible rfl)
          try simp only [Act.put, List.setIfInBounds_toArray, List.set_cons_zero, List.set_cons_succ]
          refine wpAnyH_take (i := 10) (oi := { dst := some 9, op := Op.assign (Operand.tmp 28), type := 4, pos := "ref.go:97", after := #[{ on := 8, ground := Ground.data }, { on := 9, ground := Ground.chain }, { on := 0, ground := Ground.phase }, { on := 1, ground := Ground.phase }, { on := 2, ground := Ground.phase }, { on := 3, ground := Ground.phase }, { on := 4, ground := Ground.phase }, { on := 5, ground := Ground.phase }, { on := 6, ground := Ground.phase }, { on := 7, ground := Ground.phase }, { on := 8, ground := Ground.phase }, { on := 9, ground := Ground.phase }], guard := none }) (v := ?_) rfl (by kernel_rfl) (by kernel_rfl) (by kernel_rfl) (fun _ _ _ h => h) (Or.inl ⟨by rfl, ?_⟩) hHeld2 ?_
          rotate_left
          · (intro w hSw; (try dsimp only at hSw); go_simp; try with_reducible rfl)
          try simp only [Act.put, List.setIfInBounds_toArray, List.set_cons_zero, List.set_cons_succ]
          refine wpAnyH_done (by kernel_rfl) ?_ _
          go_wp2_with (at_builtin; refine wpList_append_more (w := w2) rfl _ _ _ rfl wA.heap.size 3 i0 _ 1 8 Try.underlying29 hi0 hz0 hz1 hz3 rfl (by omega) _ s ((subs rl (l.take j)).map intV) (by rfl) (by exact HO2.out) ay p cy (ly.map intV) (by rfl) (by rw [List.length_map, ← Hp.out, Nat.mul_one]) (by exact HI.out.row.news) (by simp [intV, Value.oneCell']) (by unfold maxLen; omega) (by omega) (by exact Hb2.out.size) ?_; intro a3 c3 w3 ho3 hb3; have HO3 : Hid (w3.ownsRow wA.heap.size 3 1 (.slice a3 (s + p) c3) (s + p) ((subs rl (l.take j)).map intV ++ ly.map intV)) := ho3; have HB3 : Hid (Below wA.heap.size wA w3) := Hb2.out.trans hb3; clear ho3 hb3)
          go_wp2
          refine ⟨⟨j + 1, s + p, _, _, by omega, hle, by go_num, rfl, ?_, ?_, HB3.out⟩, by simp [intOf]; omega⟩
          · show _ = _
            rw [Htk.out, List.length_append, hst.out, HSb.out, ← Hp.out]
          · show World.ownsRow _ _ _ _ _ _ _
            rw [Htk.out, HSb.out, List.map_append]
            exact HO3.out
        · have HSb : Hid (sub rl x = [x]) := by show _ = _; unfold sub; rw [hlook]; rfl
          rw [HSb.out] at hle
          have hle' : s + 1 ≤ 200 := hle
          clear hlook hle
          try go_wp2_with fail
          refine hK.out _ _ ?_ (fun hHeld2 => ?_)
          · exact ⟨k2, k3⟩
          clear hK K
          try simp only [Act.put, List.setIfInBounds_toArray, List.set_cons_zero, List.set_cons_succ]
          refine wpAnyH_take (i := 6) (oi := { dst := some 20, op := Op.move (Operand.tmp 26), type := 39, pos := "ref.go:97", after := #[{ on := 5, ground := Ground.data }], guard := none }) (v := ?_) rfl (by kernel_rfl) (by kernel_rfl) (by kernel_rfl) (fun _ _ _ h => h) (Or.inl ⟨by rfl, ?_⟩) hHeld2 ?_
          rotate_left
          · (intro w hSw; (try dsimp only at hSw); go_simp; try with_reducible rfl)
          try simp only [Act.put, List.setIfInBounds_toArray, List.set_cons_zero, List.set_cons_succ]
          refine wpAnyH_take (i := 7) (oi := { dst := some 27, op := Op.extract (Operand.tmp 20) 0, type := 29, pos := "ref.go:97", after := #[{ on := 6, ground := Ground.data }], guard := none }) (v := ?_) rfl (by kernel_rfl) (by kernel_rfl) (by kernel_rfl) (fun _ _ _ h => h) (Or.inl ⟨by rfl, ?_⟩) hHeld2 ?_
          rotate_left
          · (intro w hSw; (try dsimp only at hSw); go_simp; try with_reducible rfl)
          try simp only [Act.put, List.setIfInBounds_toArray, List.set_cons_zero, List.set_cons_succ]
          refine wpAnyH_take (i := 8) (oi := { dst := some 28, op := Op.extract (Operand.tmp 20) 1, type := 4, pos := "ref.go:97", after := #[{ on := 6, ground := Ground.data }, { on := 9, ground := Ground.gcOnly Departure.lateStores }], guard := none }) (v := ?_) rfl (by kernel_rfl) (by kernel_rfl) (by kernel_rfl) (fun _ _ _ h => h) (Or.inl ⟨by rfl, ?_⟩) hHeld2 ?_
          rotate_left
          · (intro w hSw; (try dsimp only at hSw); go_simp; try with_reducible rfl)
          try simp only [Act.put, List.setIfInBounds_toArray, List.set_cons_zero, List.set_cons_succ]
          refine wpAnyH_take (i := 9) (oi := { dst := some 8, op := Op.assign (Operand.tmp 27), type := 29, pos := "ref.go:97", after := #[{ on := 7, ground := Ground.data }, { on := 5, ground := Ground.chain }, { on := 0, ground := Ground.phase }, { on := 1, ground := Ground.phase }, { on := 2, ground := Ground.phase }, { on := 3, ground := Ground.phase }, { on := 4, ground := Ground.phase }, { on := 5, ground := Ground.phase }, { on := 6, ground := Ground.phase }, { on := 7, ground := Ground.phase }, { on := 8, ground := Ground.textOnly Departure.lateStores }], guard := none }) (v := ?_) rfl (by kernel_rfl) (by kernel_rfl) (by kernel_rfl) (fun _ _ _ h => h) (Or.inl ⟨by rfl, ?_⟩) hHeld2 ?_
          rotate_left
          · (intro w hSw; (try dsimp only at hSw); go_simp; try with_reducible rfl)
          try simp only [Act.put, List.setIfInBounds_toArray, List.set_cons_zero, List.set_cons_succ]
          refine wpAnyH_take (i := 10) (oi := { dst := some 9, op := Op.assign (Operand.tmp 28), type := 4, pos := "ref.go:97", after := #[{ on := 8, ground := Ground.data }, { on := 9, ground := Ground.chain }, { on := 0, ground := Ground.phase }, { on := 1, ground := Ground.phase }, { on := 2, ground := Ground.phase }, { on := 3, ground := Ground.phase }, { on := 4, ground := Ground.phase }, { on := 5, ground := Ground.phase }, { on := 6, ground := Ground.phase }, { on := 7, ground := Ground.phase }, { on := 8, ground := Ground.phase }, { on := 9, ground := Ground.phase }], guard := none }) (v := ?_) rfl (by kernel_rfl) (by kernel_rfl) (by kernel_rfl) (fun _ _ _ h => h) (Or.inl ⟨by rfl, ?_⟩) hHeld2 ?_
          rotate_left
          · (intro w hSw; (try dsimp only at hSw); go_simp; try with_reducible rfl)
          try simp only [Act.put, List.setIfInBounds_toArray, List.set_cons_zero, List.set_cons_succ]
          refine wpAnyH_done (by kernel_rfl) ?_ _
          go_wp2_with (at_builtin; refine wpList_append_more (w := w2.alloc (.cells #[.int .i64 x] 3)) rfl _ _ _ rfl wA.heap.size 3 i0 _ 1 8 Try.underlying29 hi0 hz0 hz1 hz3 rfl (by omega) _ s ((subs rl (l.take j)).map intV) (by rfl) (by exact HO2.out.alloc _) (some ⟨w2.heap.size, 0, none⟩) 1 1 [.int .i64 x] (by rfl) (by rfl) (fun j' u hu => ⟨_, rfl, World.news_of_block (cs := #[.int .i64 x]) (t := 3) (fr := (0, 0)) (heap_alloc_new w2 _) j' u hu⟩) (by simp [Value.oneCell']) (by unfold maxLen; omega) (by omega) (by have := Hb2.out.size; simp; omega) ?_; intro a3 c3 w3 ho3 hb3; have HO3 : Hid (w3.ownsRow wA.heap.size 3 1 (.slice a3 (s + 1) c3) (s + 1) ((subs rl (l.take j)).map intV ++ [.int .i64 x])) := ho3; have HB3 : Hid (Below wA.heap.size wA w3) := (Hb2.out.alloc Hb2.out.size _).trans hb3; clear ho3 hb3)
          go_wp2
          refine ⟨⟨j + 1, s + 1, _, _, by omega, hle', by go_num, rfl, ?_, ?_, HB3.out⟩, by simp [intOf]; omega⟩
          · show _ = _
            rw [Htk.out, List.length_append, hst.out, HSb.out]; rfl
          · show World.ownsRow _ _ _ _ _ _ _
            rw [Htk.out, HSb.out, List.map_append]
            exact HO3.out
      · have n1 : ¬ (j : Int) < (ne : Int) := by omega
        have htk : Hid (l.take j = l) := by show _ = _; rw [List.take_of_length_le (by rw [HL.out]; omega)]
        have HR : Hid (wr.ownsRow w.heap.size 3 1 (.slice av s cap) (subs rl l).length ((subs rl l).map intV) ∧ Below w.heap.size w wr) := by
          have h1 := hst.out
          have h2 := hown.out
          have h3 := HA.out
          have h4 := h3.size
          rw [htk.out] at h1 h2
          rw [h1]
          rw [HB0e.out] at h4 ⊢
          exact ⟨owns_down h2 h4, h3.trans (hb.out.mono h4)⟩
        go_wp2
        go_ret2
        exact ⟨HR.out.2, .inl ⟨HF.out, _, rfl, HR.out.1⟩⟩
  · have SZ2 : Hid (Calls Try.prog 34 #[.agg #[.slice a n c], .slice ae ne ce] (w.alloc (.cells #[.slice a n c] 50)) fun e w' => e = .returned (.int .i64 201) ∧ Below (w.alloc (.cells #[.slice a n c] 50)).heap.size (w.alloc (.cells #[.slice a n c] 50)) w') := by
      have := SZ.out
      rw [Nat.min_eq_left (by omega)] at this
      exact this
    have HF : Hid (200 < (subs rl l).length) := by show _ < _; omega
    clear SZ hfit
    go_enter Try.func33, Try.ntmps33
    go_wp2_with fail
    refine Calls.mono SZ2.out ?_
    rintro e w1 ⟨rfl, hb1⟩
    have HB1 : Hid (Below w.heap.size w w1) := HA.out.trans (hb1.mono HA.out.size)
    clear hb1 SZ2
    go_wp2
    go_ret2
    exact ⟨HB1.out, .inr ⟨HF.out, rfl⟩⟩
end Go.Proofs.Yteiaobeklahifaa
