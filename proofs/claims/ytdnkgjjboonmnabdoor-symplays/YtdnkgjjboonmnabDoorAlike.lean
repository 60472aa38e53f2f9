/- The law's alike: a call on the program's table and on the document's. -/
import Derived.Test.YtdnkgjjboonmnabDoorRefT
import Derived.Deep.RegionHeld3
namespace Go.Proofs.YtdnkgjjboonmnabDoor.R
open Go.RowKit
open Go.Proofs.YtdnkgjjboonmnabDoor.E

theorem drew_below (w : World) : Below w.heap.size w w.drew := ⟨rfl, rfl, rfl, Nat.le_refl _, fun _ _ => rfl⟩
theorem name_same (T : Tab) (n : Int) : rName T.syms n = nameOf (symAt T n) := by
  unfold rName nameOf symAt
  split
  · rename_i h; rw [h]; rfl
  · rename_i p h; rw [h]; rfl
theorem var_same (T : Tab) (n : Int) : rVar T.syms n = varOf (symAt T n) := by
  unfold rVar varOf symAt
  split
  · rename_i h; rw [h]; rfl
  · rename_i p h; rw [h]; rfl

set_option maxRecDepth 100000 in
set_option maxHeartbeats 16000000 in
theorem alike_any (w : World) (xs : List Nat) (B C k : Nat) (T : Tab) (kd : Int) (s : ByteArray) (n : Int) (hs : s.size ≤ maxLen) (hk : k < 17592186043000) (hKB : KB w) (h0 : 0 ∉ xs) (h : Twin w xs B C k T) :
    Calls Tryd.prog 6 #[.pointer (some ⟨B, 0, none⟩), .pointer (some ⟨C, 0, none⟩), .agg #[.int .i64 kd, .string s, .int .i64 n]] w fun e w' => e = .returned (.bool true) ∧ ∃ xs' T', Twin w' xs' B C (k + 2) T' ∧ Goes xs w xs' w' := by
  obtain ⟨bs, rs, A, rfl, hT0, hR0, hi, hok, hgood, hlA, hap⟩ := h
  obtain ⟨w1, hw1⟩ : ∃ w1, w1 = w.alloc (.cells #[.int .i64 kd, .string s, .int .i64 n] 29) := ⟨_, rfl⟩
  have hb1 : Below w.heap.size w w1 := by rw [hw1]; exact (Below.refl _ _).alloc (Nat.le_refl _) _
  have q0 : w1.cell? ⟨w.heap.size, 0, none⟩ = some (.int .i64 kd) := by rw [hw1]; exact World.cell?_alloc_new w _ _ 0
  have q1 : w1.cell? ⟨w.heap.size, 1, none⟩ = some (.string s) := by rw [hw1]; exact World.cell?_alloc_new w _ _ 1
  have q2 : w1.cell? ⟨w.heap.size, 2, none⟩ = some (.int .i64 n) := by rw [hw1]; exact World.cell?_alloc_new w _ _ 2
  have hT1 := hT0.below hb1
  have hR1 := hR0.kept fun b hb => hb1.block b (hR0.low b hb)
  have HT : Hid (TabAt w1 bs B k T) := hT1
  have HR : Hid (RAt w1 rs C T.syms A T.labels) := hR1
  have HI : Hid (Inv T A) := hi
  have HO : Hid (T.Ok k) := hok
  have HG : Hid (T.Good) := hgood
  have HAP : Hid (∀ b ∈ bs, b ∉ rs) := hap
  have HKB : Hid (KB w1) := hKB.below hb1 hKB.pos
  have h5 := hok.syms
  have h6 := hok.labels
  -- the box lies in no table
  have HBX : Hid (∀ b ∈ bs ++ rs, b < w.heap.size) := fun b hb => by
    rcases List.mem_append.1 hb with hb | hb
    · exact hT0.low b hb
    · exact hR0.low b hb
  have HG1 : Hid (Goes (bs ++ rs) w (bs ++ rs) w1) := Goes.of_below hb1
  have hsz1 : w1.heap.size = w.heap.size + 1 := by rw [hw1]; simp
  have SAME : Hid (∀ w2, Below w1.heap.size w1 w2 → ∃ xs' T', Twin w2 xs' B C (k + 2) T' ∧ Goes (bs ++ rs) w xs' w2) := fun w2 hb2 =>
    ⟨bs ++ rs, T, (Twin.under ⟨bs, rs, A, rfl, HT.out, HR.out, HI.out, HO.out, HG.out, hlA, HAP.out⟩ hb2).up (by omega), HG1.out.trans (Goes.of_below hb2)⟩
  have NOW : Hid (∀ T' w2 w3, T'.Ok (k + 2) → T'.Good → Now bs w1 B k T' w2 → RNow rs w2 C A T' w3 → ∃ xs' T', Twin w3 xs' B C (k + 2) T' ∧ Goes (bs ++ rs) w xs' w3) := fun T' w2 w3 ho hg hn hn2 => by
    obtain ⟨xs', h1, h2⟩ := both_now HR.out HAP.out hlA hn hn2 ho hg
    exact ⟨xs', T', h1, HG1.out.trans h2⟩
  have REF : Hid (∀ T' w2, Now bs w1 B k T' w2 → RAt w2 rs C T.syms A T.labels) := fun T' w2 hn => by
    obtain ⟨bs', _, hG⟩ := hn
    exact HR.out.kept fun b hb => hG.turned.block b (HR.out.low b hb) fun hb' => HAP.out b hb' hb
  have BOX : Hid (∀ T' w2 j, Now bs w1 B k T' w2 → w2.cell? ⟨w.heap.size, j, none⟩ = w1.cell? ⟨w.heap.size, j, none⟩) := fun T' w2 j hn => by
    obtain ⟨bs', _, hG⟩ := hn
    exact World.cell?_of_block (a := ⟨w.heap.size, j, none⟩) (hG.turned.block w.heap.size (by omega) fun hb => by have := HBX.out _ (List.mem_append_left _ hb); omega)
  have hA9 : A.length ≤ 17592186043900 := by omega
  have HDB : Hid (Below w1.heap.size w1 w1.drew) := drew_below w1
  clear hT0 hR0 hi hok hgood hap hT1 hR1 hKB h0 hb1
  by_cases k1 : kd = 1
  · subst k1
    subst hw1
    obtain ⟨r, hr⟩ : ∃ r, openR T = r := ⟨_, rfl⟩
    have C1 := open_any (w.alloc (.cells #[.int .i64 1, .string s, .int .i64 n] 29)) bs B k T HT.out
    rw [hr] at C1
    replace C1 := show Hid _ from C1
    have C2 : Hid (∀ w2, Now bs (w.alloc (.cells #[.int .i64 1, .string s, .int .i64 n] 29)) B k r.2 w2 → Calls Tryd.prog 21 #[.pointer (some ⟨C, 0, none⟩)] w2 fun e w' => e = .returned (.int .i64 (r.1 : Nat)) ∧ RNow rs w2 C A r.2 w') := fun w2 hn => by
      have h := ropen_u w2 rs C A T hA9 (REF.out _ w2 hn) HI.out
      rw [hr] at h
      exact h
    have FIN : Hid (∀ w2 w3, Now bs (w.alloc (.cells #[.int .i64 1, .string s, .int .i64 n] 29)) B k r.2 w2 → RNow rs w2 C A r.2 w3 → ∃ xs' T', Twin w3 xs' B C (k + 2) T' ∧ Goes (bs ++ rs) w xs' w3) := fun w2 w3 h2 h3 => NOW.out _ w2 w3 (by rw [← hr]; exact (ok_open HO.out).up (by omega)) (by rw [← hr]; exact good_open HG.out) h2 h3
    clear hr HT HR HI HO HG HAP HKB HBX HG1 SAME NOW HDB
    go_enter Tryd.func6, Tryd.ntmps6
    go_wp2_with fail
    refine Calls.mono C1.out ?_
    rintro e w2 ⟨rfl, hn⟩
    have D2 : Hid _ := C2.out w2 hn
    have HN : Hid (Now bs (w.alloc (.cells #[.int .i64 1, .string s, .int .i64 n] 29)) B k r.2 w2) := hn
    clear C1 C2 hn REF BOX
    go_wp2_with fail
    refine Calls.mono D2.out ?_
    rintro e w3 ⟨rfl, hn3⟩
    have HF : Hid _ := FIN.out w2 w3 HN.out hn3
    clear D2 hn3 FIN HN
    go_wp2
    go_ret
    exact ⟨rfl, HF.out⟩
  by_cases k2 : kd = 2
  · subst k2
    subst hw1
    clear k1
    obtain ⟨r, hr⟩ : ∃ r, closeR T = r := ⟨_, rfl⟩
    have C1 := close_any (w.alloc (.cells #[.int .i64 2, .string s, .int .i64 n] 29)) bs B k T HO.out (by omega) HT.out
    rw [hr] at C1
    replace C1 := show Hid _ from C1
    have C2 : Hid (∀ w2, Now bs (w.alloc (.cells #[.int .i64 2, .string s, .int .i64 n] 29)) B k r.2 w2 → Calls Tryd.prog 23 #[.pointer (some ⟨C, 0, none⟩)] w2 fun e w' => e = .returned (.int .i64 (r.1 : Nat)) ∧ RNow rs w2 C A r.2 w') := fun w2 hn => by
      have h := rclose_u w2 rs C A T hA9 (REF.out _ w2 hn) HI.out
      rw [hr] at h
      exact h
    have FIN : Hid (∀ w2 w3, Now bs (w.alloc (.cells #[.int .i64 2, .string s, .int .i64 n] 29)) B k r.2 w2 → RNow rs w2 C A r.2 w3 → ∃ xs' T', Twin w3 xs' B C (k + 2) T' ∧ Goes (bs ++ rs) w xs' w3) := fun w2 w3 h2 h3 => NOW.out _ w2 w3 (by rw [← hr]; exact (ok_close HO.out).up (by omega)) (by rw [← hr]; exact good_close HG.out) h2 h3
    clear hr HT HR HI HO HG HAP HKB HBX HG1 SAME NOW HDB
    go_enter Tryd.func6, Tryd.ntmps6
    go_wp2_with fail
    refine Calls.mono C1.out ?_
    rintro e w2 ⟨rfl, hn⟩
    have D2 : Hid _ := C2.out w2 hn
    have HN : Hid (Now bs (w.alloc (.cells #[.int .i64 2, .string s, .int .i64 n] 29)) B k r.2 w2) := hn
    clear C1 C2 hn REF BOX
    go_wp2_with fail
    refine Calls.mono D2.out ?_
    rintro e w3 ⟨rfl, hn3⟩
    have HF : Hid _ := FIN.out w2 w3 HN.out hn3
    clear D2 hn3 FIN HN
    go_wp2
    go_ret
    exact ⟨rfl, HF.out⟩
  by_cases k3 : kd = 3
  · subst k3
    subst hw1
    clear k1 k2
    obtain ⟨r, hr⟩ : ∃ r, constR T s = r := ⟨_, rfl⟩
    have C1 := const_any (w.alloc (.cells #[.int .i64 3, .string s, .int .i64 n] 29)) bs B k T s HO.out (by omega) hs HKB.out HT.out
    rw [hr] at C1
    replace C1 := show Hid _ from C1
    have C2 : Hid (∀ w2, Now bs (w.alloc (.cells #[.int .i64 3, .string s, .int .i64 n] 29)) B k r.2.2 w2 → Calls Tryd.prog 25 #[.pointer (some ⟨C, 0, none⟩), .string s] w2 fun e w' => e = .returned (.tuple #[.int .i64 (r.1 : Nat), .int .i64 (r.2.1 : Nat)]) ∧ RNow rs w2 C A r.2.2 w') := fun w2 hn => by
      have h := rconst_u w2 rs C k A T s hs HO.out hA9 (REF.out _ w2 hn) HI.out
      rw [hr] at h
      exact h
    have FIN : Hid (∀ w2 w3, Now bs (w.alloc (.cells #[.int .i64 3, .string s, .int .i64 n] 29)) B k r.2.2 w2 → RNow rs w2 C A r.2.2 w3 → ∃ xs' T', Twin w3 xs' B C (k + 2) T' ∧ Goes (bs ++ rs) w xs' w3) := fun w2 w3 h2 h3 => NOW.out _ w2 w3 (by rw [← hr]; exact ok_const s HO.out) (by rw [← hr]; exact good_const s HG.out HO.out) h2 h3
    clear hr HT HR HI HO HG HAP HKB HBX HG1 SAME NOW HDB
    go_enter Tryd.func6, Tryd.ntmps6
    go_wp2_with fail
    refine Calls.mono C1.out ?_
    rintro e w2 ⟨rfl, hn⟩
    have D2 : Hid _ := C2.out w2 hn
    have HN : Hid (Now bs (w.alloc (.cells #[.int .i64 3, .string s, .int .i64 n] 29)) B k r.2.2 w2) := hn
    have p1 := (BOX.out _ w2 1 hn).trans q1
    clear C1 C2 hn REF BOX
    go_wp2_with fail
    refine Calls.mono D2.out ?_
    rintro e w3 ⟨rfl, hn3⟩
    have HF : Hid _ := FIN.out w2 w3 HN.out hn3
    clear D2 hn3 FIN HN
    go_wp2
    go_ret
    exact ⟨rfl, HF.out⟩
  by_cases k4 : kd = 4
  · subst k4
    subst hw1
    clear k1 k2 k3
    obtain ⟨r, hr⟩ : ∃ r, varR T s = r := ⟨_, rfl⟩
    have C1 := var_any (w.alloc (.cells #[.int .i64 4, .string s, .int .i64 n] 29)) bs B k T s HO.out (by omega) hs HKB.out HT.out
    rw [hr] at C1
    replace C1 := show Hid _ from C1
    have C2 : Hid (∀ w2, Now bs (w.alloc (.cells #[.int .i64 4, .string s, .int .i64 n] 29)) B k r.2.2 w2 → Calls Tryd.prog 27 #[.pointer (some ⟨C, 0, none⟩), .string s] w2 fun e w' => e = .returned (.tuple #[.int .i64 (r.1 : Nat), .int .i64 (r.2.1 : Nat)]) ∧ RNow rs w2 C A r.2.2 w') := fun w2 hn => by
      have h := rvar_u w2 rs C k A T s hs HO.out HG.out hA9 (REF.out _ w2 hn) HI.out
      rw [hr] at h
      exact h
    have FIN : Hid (∀ w2 w3, Now bs (w.alloc (.cells #[.int .i64 4, .string s, .int .i64 n] 29)) B k r.2.2 w2 → RNow rs w2 C A r.2.2 w3 → ∃ xs' T', Twin w3 xs' B C (k + 2) T' ∧ Goes (bs ++ rs) w xs' w3) := fun w2 w3 h2 h3 => NOW.out _ w2 w3 (by rw [← hr]; exact ok_var s HO.out) (by rw [← hr]; exact good_var s HG.out HO.out) h2 h3
    clear hr HT HR HI HO HG HAP HKB HBX HG1 SAME NOW HDB
    go_enter Tryd.func6, Tryd.ntmps6
    go_wp2_with fail
    refine Calls.mono C1.out ?_
    rintro e w2 ⟨rfl, hn⟩
    have D2 : Hid _ := C2.out w2 hn
    have HN : Hid (Now bs (w.alloc (.cells #[.int .i64 4, .string s, .int .i64 n] 29)) B k r.2.2 w2) := hn
    have p1 := (BOX.out _ w2 1 hn).trans q1
    clear C1 C2 hn REF BOX
    go_wp2_with fail
    refine Calls.mono D2.out ?_
    rintro e w3 ⟨rfl, hn3⟩
    have HF : Hid _ := FIN.out w2 w3 HN.out hn3
    clear D2 hn3 FIN HN
    go_wp2
    go_ret
    exact ⟨rfl, HF.out⟩
  by_cases k5 : kd = 5
  · subst k5
    subst hw1
    clear k1 k2 k3 k4
    obtain ⟨vs, va, vt, hRT, hLB, _⟩ := HR.out
    have C1 : Hid _ := find_any (w.alloc (.cells #[.int .i64 5, .string s, .int .i64 n] 29)) bs B k T s hs HT.out
    have C2 := rfind_any (w.alloc (.cells #[.int .i64 5, .string s, .int .i64 n] 29)) C T.syms A vs va vt s (by omega) (by omega) hRT
    rw [find_same HI.out HG.out HO.out.nodup] at C2
    replace C2 := show Hid _ from C2
    have HF : Hid _ := SAME.out _ (Below.refl _ _)
    clear HT HR HI HO HG HAP HKB HBX HG1 SAME NOW HDB REF BOX hRT hLB
    go_enter Tryd.func6, Tryd.ntmps6
    go_wp2_with fail
    refine Calls.mono C1.out ?_
    rintro e w2 ⟨rfl, hw2⟩
    subst w2
    clear C1
    go_wp2_with fail
    refine Calls.mono C2.out ?_
    rintro e w3 ⟨rfl, hw3⟩
    subst w3
    clear C2
    go_wp2
    go_ret
    exact ⟨rfl, HF.out⟩
  by_cases k6 : kd = 6
  · subst k6
    subst hw1
    clear k1 k2 k3 k4 k5
    obtain ⟨vs, va, vt, hRT, hLB, _⟩ := HR.out
    have HRT : Hid (RT (w.alloc (.cells #[.int .i64 6, .string s, .int .i64 n] 29)) C T.syms A vs va vt) := hRT
    have C1 : Hid _ := name_of ((w.alloc (.cells #[.int .i64 6, .string s, .int .i64 n] 29))).drew bs B k T n (by omega) (HT.out.below HDB.out)
    have C2 : Hid (∀ w2, Below ((w.alloc (.cells #[.int .i64 6, .string s, .int .i64 n] 29))).heap.size (w.alloc (.cells #[.int .i64 6, .string s, .int .i64 n] 29)) w2 → Calls Tryd.prog 15 #[.pointer (some ⟨C, 0, none⟩), .int .i64 n] w2 fun e w' => e = .returned (.string (nameOf (symAt T n))) ∧ w' = w2) := fun w2 hb2 => by
      have h := rNameOf_any w2 C T.syms A vs va vt n (by omega) ⟨(hb2.block C (Array.getElem?_eq_some_iff.1 HRT.out.block).1).trans HRT.out.block, owns_under HRT.out.syms hb2, owns_under HRT.out.acts hb2⟩
      rw [name_same] at h
      exact h
    generalize nameOf (symAt T n) = nm at C1 C2
    have hst : (nm.toList == nm.toList) = true := by simp
    have HF : Hid (∀ w2, Below ((w.alloc (.cells #[.int .i64 6, .string s, .int .i64 n] 29))).heap.size (w.alloc (.cells #[.int .i64 6, .string s, .int .i64 n] 29)) w2 → ∃ xs' T', Twin w2 xs' B C (k + 2) T' ∧ Goes (bs ++ rs) w xs' w2) := fun w2 hb2 => SAME.out w2 hb2
    have qd : ((w.alloc (.cells #[.int .i64 6, .string s, .int .i64 n] 29))).drew.cell? ⟨w.heap.size, 2, none⟩ = some (.int .i64 n) := q2
    clear HT HR HI HO HG HAP HKB HBX HG1 SAME NOW REF BOX hRT hLB
    go_enter Tryd.func6, Tryd.ntmps6
    go_wp2_with fail
    refine wp_region_held_drew (S := fun w' => w'.cell? ⟨w.heap.size, 2, none⟩ = some (.int .i64 n)) (by kernel_rfl) ?_ (fun hHeld => ?_)
    · exact qd
    refine wpAnyH_take (i := 0) (oi := { dst := some 109, op := Op.move (Operand.tmp 0), type := 23, pos := "law.go:64", after := #[], guard := none }) (v := ?_) rfl (by kernel_rfl) (by kernel_rfl) (by kernel_rfl) (fun _ _ _ h => h) (Or.inl ⟨by rfl, ?_⟩) hHeld ?_
    rotate_left
    · (intro w hSw; (try dsimp only at hSw); go_simp; try with_reducible rfl)
    try simp only [Act.put, List.setIfInBounds_toArray, List.set_cons_zero, List.set_cons_succ]
    refine wpAnyH_take (i := 1) (oi := { dst := some 110, op := Op.fieldAddr 29 (Operand.tmp 5) 2, type := 0, pos := "law.go:64", after := #[], guard := none }) (v := ?_) rfl (by kernel_rfl) (by kernel_rfl) (by kernel_rfl) (fun _ _ _ h => h) (Or.inl ⟨by rfl, ?_⟩) hHeld ?_
    rotate_left
    · (intro w hSw; (try dsimp only at hSw); go_simp; try with_reducible rfl)
    try simp only [Act.put, List.setIfInBounds_toArray, List.set_cons_zero, List.set_cons_succ]
    refine wpAnyH_take (i := 2) (oi := { dst := some 111, op := Op.load 3 (Operand.tmp 110), type := 3, pos := "law.go:64", after := #[{ on := 1, ground := Ground.data }], guard := none }) (v := ?_) rfl (by kernel_rfl) (by kernel_rfl) (by kernel_rfl) (fun _ _ _ h => h) (Or.inl ⟨by rfl, ?_⟩) hHeld ?_
    rotate_left
    · (intro w hSw; (try dsimp only at hSw); go_simp; try with_reducible rfl)
    try simp only [Act.put, List.setIfInBounds_toArray, List.set_cons_zero, List.set_cons_succ]
    refine wpAnyH_take (i := 4) (oi := { dst := some 113, op := Op.move (Operand.tmp 1), type := 25, pos := "law.go:64", after := #[], guard := none }) (v := ?_) rfl (by kernel_rfl) (by kernel_rfl) (by kernel_rfl) (fun _ _ _ h => h) (Or.inl ⟨by rfl, ?_⟩) hHeld ?_
    rotate_left
    · (intro w hSw; (try dsimp only at hSw); go_simp; try with_reducible rfl)
    try simp only [Act.put, List.setIfInBounds_toArray, List.set_cons_zero, List.set_cons_succ]
    refine wpAnyH_take (i := 5) (oi := { dst := some 114, op := Op.fieldAddr 29 (Operand.tmp 5) 2, type := 0, pos := "law.go:64", after := #[], guard := none }) (v := ?_) rfl (by kernel_rfl) (by kernel_rfl) (by kernel_rfl) (fun _ _ _ h => h) (Or.inl ⟨by rfl, ?_⟩) hHeld ?_
    rotate_left
    · (intro w hSw; (try dsimp only at hSw); go_simp; try with_reducible rfl)
    try simp only [Act.put, List.setIfInBounds_toArray, List.set_cons_zero, List.set_cons_succ]
    refine wpAnyH_take (i := 6) (oi := { dst := some 115, op := Op.load 3 (Operand.tmp 114), type := 3, pos := "law.go:64", after := #[{ on := 5, ground := Ground.data }], guard := none }) (v := ?_) rfl (by kernel_rfl) (by kernel_rfl) (by kernel_rfl) (fun _ _ _ h => h) (Or.inl ⟨by rfl, ?_⟩) hHeld ?_
    rotate_left
    · (intro w hSw; (try dsimp only at hSw); go_simp; try with_reducible rfl)
    try simp only [Act.put, List.setIfInBounds_toArray, List.set_cons_zero, List.set_cons_succ]
    refine wpAnyH_ready (rs := [3]) (by kernel_rfl) (by simp) ?_
    refine AllReadyH.cons (o := { dst := some 112, op := Op.call { callee := Callee.value (Operand.func 14), args := #[Operand.tmp 109, Operand.tmp 111], argTypes := #[23, 3] }, type := 9, pos := "law.go:64", after := #[{ on := 0, ground := Ground.data }, { on := 2, ground := Ground.data }], guard := none }) rfl (fun K hK => ?_) AllReadyH.nil
    go_simp
    go_at_call 14
    refine Calls.mono C1.out ?_
    rintro e w2 ⟨rfl, hb2⟩
    have hb2' := HDB.out.trans hb2
    have p2 := (hb2'.cell (p := ⟨w.heap.size, 2, none⟩) (by simp)).trans q2
    have D2 : Hid _ := C2.out w2 hb2'
    have HB2 : Hid _ := hb2'
    clear C1 C2 hb2 hb2'
    try go_wp2_with fail
    refine hK.out _ _ ?_ (fun hHeld_3 => ?_)
    · exact p2
    clear hK K
    try simp only [Act.put, List.setIfInBounds_toArray, List.set_cons_zero, List.set_cons_succ]
    refine wpAnyH_ready (rs := [7]) (by kernel_rfl) (by simp) ?_
    refine AllReadyH.cons (o := { dst := some 116, op := Op.call { callee := Callee.value (Operand.func 15), args := #[Operand.tmp 113, Operand.tmp 115], argTypes := #[25, 3] }, type := 9, pos := "law.go:64", after := #[{ on := 4, ground := Ground.data }, { on := 6, ground := Ground.data }, { on := 3, ground := Ground.chain }], guard := none }) rfl (fun K hK => ?_) AllReadyH.nil
    go_simp
    go_at_call 15
    refine Calls.mono D2.out ?_
    rintro e w3 ⟨rfl, hw3⟩
    subst w3
    have HF2 : Hid _ := HF.out w2 HB2.out
    clear D2
    try go_wp2_with fail
    refine hK.out _ _ ?_ (fun hHeld_7 => ?_)
    · exact p2
    clear hK K
    try simp only [Act.put, List.setIfInBounds_toArray, List.set_cons_zero, List.set_cons_succ]
    refine wpAnyH_take (i := 8) (oi := { dst := some 117, op := Op.binOp BinOp.eql 9 (Operand.tmp 112) (Operand.tmp 116) 9, type := 4, pos := "law.go:64", after := #[{ on := 3, ground := Ground.data }, { on := 7, ground := Ground.data }], guard := none }) (v := ?_) rfl (by kernel_rfl) (by kernel_rfl) (by kernel_rfl) (fun _ _ _ h => h) (Or.inl ⟨by rfl, ?_⟩) hHeld_7 ?_
    rotate_left
    · (intro w hSw; (try dsimp only at hSw); go_simp; try with_reducible rfl)
    try simp only [Act.put, List.setIfInBounds_toArray, List.set_cons_zero, List.set_cons_succ]
    refine wpAnyH_take (i := 9) (oi := { dst := some 6, op := Op.assign (Operand.tmp 117), type := 4, pos := "law.go:64", after := #[{ on := 8, ground := Ground.data }, { on := 7, ground := Ground.chain }, { on := 0, ground := Ground.phase }, { on := 1, ground := Ground.phase }, { on := 2, ground := Ground.phase }, { on := 3, ground := Ground.phase }, { on := 4, ground := Ground.phase }, { on := 5, ground := Ground.phase }, { on := 6, ground := Ground.phase }, { on := 7, ground := Ground.phase }, { on := 8, ground := Ground.phase }], guard := none }) (v := ?_) rfl (by kernel_rfl) (by kernel_rfl) (by kernel_rfl) (fun _ _ _ h => h) (Or.inl ⟨by rfl, ?_⟩) hHeld_7 ?_
    rotate_left
    · (intro w hSw; (try dsimp only at hSw); go_simp; try with_reducible rfl)
    try simp only [Act.put, List.setIfInBounds_toArray, List.set_cons_zero, List.set_cons_succ]
    refine wpAnyH_done (by kernel_rfl) ?_ _
    go_wp2
    go_ret
    exact ⟨rfl, HF2.out⟩
  by_cases k7 : kd = 7
  · subst k7
    subst hw1
    clear k1 k2 k3 k4 k5 k6
    obtain ⟨vs, va, vt, hRT, hLB, _⟩ := HR.out
    have HRT : Hid (RT (w.alloc (.cells #[.int .i64 7, .string s, .int .i64 n] 29)) C T.syms A vs va vt) := hRT
    have C1 : Hid _ := isVar_of ((w.alloc (.cells #[.int .i64 7, .string s, .int .i64 n] 29))).drew bs B k T n (by omega) (HT.out.below HDB.out)
    have C2 : Hid (∀ w2, Below ((w.alloc (.cells #[.int .i64 7, .string s, .int .i64 n] 29))).heap.size (w.alloc (.cells #[.int .i64 7, .string s, .int .i64 n] 29)) w2 → Calls Tryd.prog 17 #[.pointer (some ⟨C, 0, none⟩), .int .i64 n] w2 fun e w' => e = .returned (.bool (varOf (symAt T n))) ∧ w' = w2) := fun w2 hb2 => by
      have h := risVar_any w2 C T.syms A vs va vt n (by omega) ⟨(hb2.block C (Array.getElem?_eq_some_iff.1 HRT.out.block).1).trans HRT.out.block, owns_under HRT.out.syms hb2, owns_under HRT.out.acts hb2⟩
      rw [var_same] at h
      exact h
    generalize varOf (symAt T n) = nm at C1 C2
    have HF : Hid (∀ w2, Below ((w.alloc (.cells #[.int .i64 7, .string s, .int .i64 n] 29))).heap.size (w.alloc (.cells #[.int .i64 7, .string s, .int .i64 n] 29)) w2 → ∃ xs' T', Twin w2 xs' B C (k + 2) T' ∧ Goes (bs ++ rs) w xs' w2) := fun w2 hb2 => SAME.out w2 hb2
    have qd : ((w.alloc (.cells #[.int .i64 7, .string s, .int .i64 n] 29))).drew.cell? ⟨w.heap.size, 2, none⟩ = some (.int .i64 n) := q2
    clear HT HR HI HO HG HAP HKB HBX HG1 SAME NOW REF BOX hRT hLB
    go_enter Tryd.func6, Tryd.ntmps6
    go_wp2_with fail
    refine wp_region_held_drew (S := fun w' => w'.cell? ⟨w.heap.size, 2, none⟩ = some (.int .i64 n)) (by kernel_rfl) ?_ (fun hHeld => ?_)
    · exact qd
    refine wpAnyH_take (i := 0) (oi := { dst := some 120, op := Op.move (Operand.tmp 0), type := 23, pos := "law.go:66", after := #[], guard := none }) (v := ?_) rfl (by kernel_rfl) (by kernel_rfl) (by kernel_rfl) (fun _ _ _ h => h) (Or.inl ⟨by rfl, ?_⟩) hHeld ?_
    rotate_left
    · (intro w hSw; (try dsimp only at hSw); go_simp; try with_reducible rfl)
    try simp only [Act.put, List.setIfInBounds_toArray, List.set_cons_zero, List.set_cons_succ]
    refine wpAnyH_take (i := 1) (oi := { dst := some 121, op := Op.fieldAddr 29 (Operand.tmp 5) 2, type := 0, pos := "law.go:66", after := #[], guard := none }) (v := ?_) rfl (by kernel_rfl) (by kernel_rfl) (by kernel_rfl) (fun _ _ _ h => h) (Or.inl ⟨by rfl, ?_⟩) hHeld ?_
    rotate_left
    · (intro w hSw; (try dsimp only at hSw); go_simp; try with_reducible rfl)
    try simp only [Act.put, List.setIfInBounds_toArray, List.set_cons_zero, List.set_cons_succ]
    refine wpAnyH_take (i := 2) (oi := { dst := some 122, op := Op.load 3 (Operand.tmp 121), type := 3, pos := "law.go:66", after := #[{ on := 1, ground := Ground.data }], guard := none }) (v := ?_) rfl (by kernel_rfl) (by kernel_rfl) (by kernel_rfl) (fun _ _ _ h => h) (Or.inl ⟨by rfl, ?_⟩) hHeld ?_
    rotate_left
    · (intro w hSw; (try dsimp only at hSw); go_simp; try with_reducible rfl)
    try simp only [Act.put, List.setIfInBounds_toArray, List.set_cons_zero, List.set_cons_succ]
    refine wpAnyH_take (i := 4) (oi := { dst := some 124, op := Op.move (Operand.tmp 1), type := 25, pos := "law.go:66", after := #[], guard := none }) (v := ?_) rfl (by kernel_rfl) (by kernel_rfl) (by kernel_rfl) (fun _ _ _ h => h) (Or.inl ⟨by rfl, ?_⟩) hHeld ?_
    rotate_left
    · (intro w hSw; (try dsimp only at hSw); go_simp; try with_reducible rfl)
    try simp only [Act.put, List.setIfInBounds_toArray, List.set_cons_zero, List.set_cons_succ]
    refine wpAnyH_take (i := 5) (oi := { dst := some 125, op := Op.fieldAddr 29 (Operand.tmp 5) 2, type := 0, pos := "law.go:66", after := #[], guard := none }) (v := ?_) rfl (by kernel_rfl) (by kernel_rfl) (by kernel_rfl) (fun _ _ _ h => h) (Or.inl ⟨by rfl, ?_⟩) hHeld ?_
    rotate_left
    · (intro w hSw; (try dsimp only at hSw); go_simp; try with_reducible rfl)
    try simp only [Act.put, List.setIfInBounds_toArray, List.set_cons_zero, List.set_cons_succ]
    refine wpAnyH_take (i := 6) (oi := { dst := some 126, op := Op.load 3 (Operand.tmp 125), type := 3, pos := "law.go:66", after := #[{ on := 5, ground := Ground.data }], guard := none }) (v := ?_) rfl (by kernel_rfl) (by kernel_rfl) (by kernel_rfl) (fun _ _ _ h => h) (Or.inl ⟨by rfl, ?_⟩) hHeld ?_
    rotate_left
    · (intro w hSw; (try dsimp only at hSw); go_simp; try with_reducible rfl)
    try simp only [Act.put, List.setIfInBounds_toArray, List.set_cons_zero, List.set_cons_succ]
    refine wpAnyH_ready (rs := [3]) (by kernel_rfl) (by simp) ?_
    refine AllReadyH.cons (o := { dst := some 123, op := Op.call { callee := Callee.value (Operand.func 16), args := #[Operand.tmp 120, Operand.tmp 122], argTypes := #[23, 3] }, type := 4, pos := "law.go:66", after := #[{ on := 0, ground := Ground.data }, { on := 2, ground := Ground.data }], guard := none }) rfl (fun K hK => ?_) AllReadyH.nil
    go_simp
    go_at_call 16
    refine Calls.mono C1.out ?_
    rintro e w2 ⟨rfl, hb2⟩
    have hb2' := HDB.out.trans hb2
    have p2 := (hb2'.cell (p := ⟨w.heap.size, 2, none⟩) (by simp)).trans q2
    have D2 : Hid _ := C2.out w2 hb2'
    have HB2 : Hid _ := hb2'
    clear C1 C2 hb2 hb2'
    try go_wp2_with fail
    refine hK.out _ _ ?_ (fun hHeld_3 => ?_)
    · exact p2
    clear hK K
    try simp only [Act.put, List.setIfInBounds_toArray, List.set_cons_zero, List.set_cons_succ]
    refine wpAnyH_ready (rs := [7]) (by kernel_rfl) (by simp) ?_
    refine AllReadyH.cons (o := { dst := some 127, op := Op.call { callee := Callee.value (Operand.func 17), args := #[Operand.tmp 124, Operand.tmp 126], argTypes := #[25, 3] }, type := 4, pos := "law.go:66", after := #[{ on := 4, ground := Ground.data }, { on := 6, ground := Ground.data }, { on := 3, ground := Ground.chain }], guard := none }) rfl (fun K hK => ?_) AllReadyH.nil
    go_simp
    go_at_call 17
    refine Calls.mono D2.out ?_
    rintro e w3 ⟨rfl, hw3⟩
    subst w3
    have HF2 : Hid _ := HF.out w2 HB2.out
    clear D2
    try go_wp2_with fail
    refine hK.out _ _ ?_ (fun hHeld_7 => ?_)
    · exact p2
    clear hK K
    try simp only [Act.put, List.setIfInBounds_toArray, List.set_cons_zero, List.set_cons_succ]
    refine wpAnyH_take (i := 8) (oi := { dst := some 128, op := Op.binOp BinOp.eql 4 (Operand.tmp 123) (Operand.tmp 127) 4, type := 4, pos := "law.go:66", after := #[{ on := 3, ground := Ground.data }, { on := 7, ground := Ground.data }], guard := none }) (v := ?_) rfl (by kernel_rfl) (by kernel_rfl) (by kernel_rfl) (fun _ _ _ h => h) (Or.inl ⟨by rfl, ?_⟩) hHeld_7 ?_
    rotate_left
    · (intro w hSw; (try dsimp only at hSw); go_simp; try with_reducible rfl)
    try simp only [Act.put, List.setIfInBounds_toArray, List.set_cons_zero, List.set_cons_succ]
    refine wpAnyH_take (i := 9) (oi := { dst := some 6, op := Op.assign (Operand.tmp 128), type := 4, pos := "law.go:66", after := #[{ on := 8, ground := Ground.data }, { on := 7, ground := Ground.chain }, { on := 0, ground := Ground.phase }, { on := 1, ground := Ground.phase }, { on := 2, ground := Ground.phase }, { on := 3, ground := Ground.phase }, { on := 4, ground := Ground.phase }, { on := 5, ground := Ground.phase }, { on := 6, ground := Ground.phase }, { on := 7, ground := Ground.phase }, { on := 8, ground := Ground.phase }], guard := none }) (v := ?_) rfl (by kernel_rfl) (by kernel_rfl) (by kernel_rfl) (fun _ _ _ h => h) (Or.inl ⟨by rfl, ?_⟩) hHeld_7 ?_
    rotate_left
    · (intro w hSw; (try dsimp only at hSw); go_simp; try with_reducible rfl)
    try simp only [Act.put, List.setIfInBounds_toArray, List.set_cons_zero, List.set_cons_succ]
    refine wpAnyH_done (by kernel_rfl) ?_ _
    go_wp2
    go_ret
    exact ⟨rfl, HF2.out⟩
  by_cases k8 : kd = 8
  · subst k8
    subst hw1
    clear k1 k2 k3 k4 k5 k6 k7
    obtain ⟨vs, va, vt, hRT, hLB, _⟩ := HR.out
    have HRT : Hid (RT (w.alloc (.cells #[.int .i64 8, .string s, .int .i64 n] 29)) C T.syms A vs va vt) := hRT
    have C1 : Hid _ := active_of ((w.alloc (.cells #[.int .i64 8, .string s, .int .i64 n] 29))).drew bs B k T n (by omega) HO.out.sizes (HT.out.below HDB.out)
    have C2 : Hid (∀ w2, Below ((w.alloc (.cells #[.int .i64 8, .string s, .int .i64 n] 29))).heap.size (w.alloc (.cells #[.int .i64 8, .string s, .int .i64 n] 29)) w2 → Calls Tryd.prog 19 #[.pointer (some ⟨C, 0, none⟩), .int .i64 n] w2 fun e w' => e = .returned (.bool (activeOf T n)) ∧ w' = w2) := fun w2 hb2 => by
      have h := ractive_any w2 C T.syms A vs va vt n (by omega) (by omega) ⟨(hb2.block C (Array.getElem?_eq_some_iff.1 HRT.out.block).1).trans HRT.out.block, owns_under HRT.out.syms hb2, owns_under HRT.out.acts hb2⟩
      rw [inv_active HI.out HG.out HO.out.nodup] at h
      exact h
    generalize activeOf T n = nm at C1 C2
    have HF : Hid (∀ w2, Below ((w.alloc (.cells #[.int .i64 8, .string s, .int .i64 n] 29))).heap.size (w.alloc (.cells #[.int .i64 8, .string s, .int .i64 n] 29)) w2 → ∃ xs' T', Twin w2 xs' B C (k + 2) T' ∧ Goes (bs ++ rs) w xs' w2) := fun w2 hb2 => SAME.out w2 hb2
    have qd : ((w.alloc (.cells #[.int .i64 8, .string s, .int .i64 n] 29))).drew.cell? ⟨w.heap.size, 2, none⟩ = some (.int .i64 n) := q2
    clear HT HR HI HO HG HAP HKB HBX HG1 SAME NOW REF BOX hRT hLB
    go_enter Tryd.func6, Tryd.ntmps6
    go_wp2_with fail
    refine wp_region_held_drew (S := fun w' => w'.cell? ⟨w.heap.size, 2, none⟩ = some (.int .i64 n)) (by kernel_rfl) ?_ (fun hHeld => ?_)
    · exact qd
    refine wpAnyH_take (i := 0) (oi := { dst := some 131, op := Op.move (Operand.tmp 0), type := 23, pos := "law.go:68", after := #[], guard := none }) (v := ?_) rfl (by kernel_rfl) (by kernel_rfl) (by kernel_rfl) (fun _ _ _ h => h) (Or.inl ⟨by rfl, ?_⟩) hHeld ?_
    rotate_left
    · (intro w hSw; (try dsimp only at hSw); go_simp; try with_reducible rfl)
    try simp only [Act.put, List.setIfInBounds_toArray, List.set_cons_zero, List.set_cons_succ]
    refine wpAnyH_take (i := 1) (oi := { dst := some 132, op := Op.fieldAddr 29 (Operand.tmp 5) 2, type := 0, pos := "law.go:68", after := #[], guard := none }) (v := ?_) rfl (by kernel_rfl) (by kernel_rfl) (by kernel_rfl) (fun _ _ _ h => h) (Or.inl ⟨by rfl, ?_⟩) hHeld ?_
    rotate_left
    · (intro w hSw; (try dsimp only at hSw); go_simp; try with_reducible rfl)
    try simp only [Act.put, List.setIfInBounds_toArray, List.set_cons_zero, List.set_cons_succ]
    refine wpAnyH_take (i := 2) (oi := { dst := some 133, op := Op.load 3 (Operand.tmp 132), type := 3, pos := "law.go:68", after := #[{ on := 1, ground := Ground.data }], guard := none }) (v := ?_) rfl (by kernel_rfl) (by kernel_rfl) (by kernel_rfl) (fun _ _ _ h => h) (Or.inl ⟨by rfl, ?_⟩) hHeld ?_
    rotate_left
    · (intro w hSw; (try dsimp only at hSw); go_simp; try with_reducible rfl)
    try simp only [Act.put, List.setIfInBounds_toArray, List.set_cons_zero, List.set_cons_succ]
    refine wpAnyH_take (i := 4) (oi := { dst := some 135, op := Op.move (Operand.tmp 1), type := 25, pos := "law.go:68", after := #[], guard := none }) (v := ?_) rfl (by kernel_rfl) (by kernel_rfl) (by kernel_rfl) (fun _ _ _ h => h) (Or.inl ⟨by rfl, ?_⟩) hHeld ?_
    rotate_left
    · (intro w hSw; (try dsimp only at hSw); go_simp; try with_reducible rfl)
    try simp only [Act.put, List.setIfInBounds_toArray, List.set_cons_zero, List.set_cons_succ]
    refine wpAnyH_take (i := 5) (oi := { dst := some 136, op := Op.fieldAddr 29 (Operand.tmp 5) 2, type := 0, pos := "law.go:68", after := #[], guard := none }) (v := ?_) rfl (by kernel_rfl) (by kernel_rfl) (by kernel_rfl) (fun _ _ _ h => h) (Or.inl ⟨by rfl, ?_⟩) hHeld ?_
    rotate_left
    · (intro w hSw; (try dsimp only at hSw); go_simp; try with_reducible rfl)
    try simp only [Act.put, List.setIfInBounds_toArray, List.set_cons_zero, List.set_cons_succ]
    refine wpAnyH_take (i := 6) (oi := { dst := some 137, op := Op.load 3 (Operand.tmp 136), type := 3, pos := "law.go:68", after := #[{ on := 5, ground := Ground.data }], guard := none }) (v := ?_) rfl (by kernel_rfl) (by kernel_rfl) (by kernel_rfl) (fun _ _ _ h => h) (Or.inl ⟨by rfl, ?_⟩) hHeld ?_
    rotate_left
    · (intro w hSw; (try dsimp only at hSw); go_simp; try with_reducible rfl)
    try simp only [Act.put, List.setIfInBounds_toArray, List.set_cons_zero, List.set_cons_succ]
    refine wpAnyH_ready (rs := [3]) (by kernel_rfl) (by simp) ?_
    refine AllReadyH.cons (o := { dst := some 134, op := Op.call { callee := Callee.value (Operand.func 18), args := #[Operand.tmp 131, Operand.tmp 133], argTypes := #[23, 3] }, type := 4, pos := "law.go:68", after := #[{ on := 0, ground := Ground.data }, { on := 2, ground := Ground.data }], guard := none }) rfl (fun K hK => ?_) AllReadyH.nil
    go_simp
    go_at_call 18
    refine Calls.mono C1.out ?_
    rintro e w2 ⟨rfl, hb2⟩
    have hb2' := HDB.out.trans hb2
    have p2 := (hb2'.cell (p := ⟨w.heap.size, 2, none⟩) (by simp)).trans q2
    have D2 : Hid _ := C2.out w2 hb2'
    have HB2 : Hid _ := hb2'
    clear C1 C2 hb2 hb2'
    try go_wp2_with fail
    refine hK.out _ _ ?_ (fun hHeld_3 => ?_)
    · exact p2
    clear hK K
    try simp only [Act.put, List.setIfInBounds_toArray, List.set_cons_zero, List.set_cons_succ]
    refine wpAnyH_ready (rs := [7]) (by kernel_rfl) (by simp) ?_
    refine AllReadyH.cons (o := { dst := some 138, op := Op.call { callee := Callee.value (Operand.func 19), args := #[Operand.tmp 135, Operand.tmp 137], argTypes := #[25, 3] }, type := 4, pos := "law.go:68", after := #[{ on := 4, ground := Ground.data }, { on := 6, ground := Ground.data }, { on := 3, ground := Ground.chain }], guard := none }) rfl (fun K hK => ?_) AllReadyH.nil
    go_simp
    go_at_call 19
    refine Calls.mono D2.out ?_
    rintro e w3 ⟨rfl, hw3⟩
    subst w3
    have HF2 : Hid _ := HF.out w2 HB2.out
    clear D2
    try go_wp2_with fail
    refine hK.out _ _ ?_ (fun hHeld_7 => ?_)
    · exact p2
    clear hK K
    try simp only [Act.put, List.setIfInBounds_toArray, List.set_cons_zero, List.set_cons_succ]
    refine wpAnyH_take (i := 8) (oi := { dst := some 139, op := Op.binOp BinOp.eql 4 (Operand.tmp 134) (Operand.tmp 138) 4, type := 4, pos := "law.go:68", after := #[{ on := 3, ground := Ground.data }, { on := 7, ground := Ground.data }], guard := none }) (v := ?_) rfl (by kernel_rfl) (by kernel_rfl) (by kernel_rfl) (fun _ _ _ h => h) (Or.inl ⟨by rfl, ?_⟩) hHeld_7 ?_
    rotate_left
    · (intro w hSw; (try dsimp only at hSw); go_simp; try with_reducible rfl)
    try simp only [Act.put, List.setIfInBounds_toArray, List.set_cons_zero, List.set_cons_succ]
    refine wpAnyH_take (i := 9) (oi := { dst := some 6, op := Op.assign (Operand.tmp 139), type := 4, pos := "law.go:68", after := #[{ on := 8, ground := Ground.data }, { on := 7, ground := Ground.chain }, { on := 0, ground := Ground.phase }, { on := 1, ground := Ground.phase }, { on := 2, ground := Ground.phase }, { on := 3, ground := Ground.phase }, { on := 4, ground := Ground.phase }, { on := 5, ground := Ground.phase }, { on := 6, ground := Ground.phase }, { on := 7, ground := Ground.phase }, { on := 8, ground := Ground.phase }], guard := none }) (v := ?_) rfl (by kernel_rfl) (by kernel_rfl) (by kernel_rfl) (fun _ _ _ h => h) (Or.inl ⟨by rfl, ?_⟩) hHeld_7 ?_
    rotate_left
    · (intro w hSw; (try dsimp only at hSw); go_simp; try with_reducible rfl)
    try simp only [Act.put, List.setIfInBounds_toArray, List.set_cons_zero, List.set_cons_succ]
    refine wpAnyH_done (by kernel_rfl) ?_ _
    go_wp2
    go_ret
    exact ⟨rfl, HF2.out⟩
  by_cases k9 : kd = 9
  · subst k9
    subst hw1
    clear k1 k2 k3 k4 k5 k6 k7 k8
    obtain ⟨vs, va, vt, hRT, hLB, _⟩ := HR.out
    have C1 : Hid _ := count_any (w.alloc (.cells #[.int .i64 9, .string s, .int .i64 n] 29)) bs B k T HT.out
    have C2 := rcount_any (w.alloc (.cells #[.int .i64 9, .string s, .int .i64 n] 29)) C T.syms A vs va vt hRT
    skip
    replace C2 := show Hid _ from C2
    have HF : Hid _ := SAME.out _ (Below.refl _ _)
    clear HT HR HI HO HG HAP HKB HBX HG1 SAME NOW HDB REF BOX hRT hLB
    go_enter Tryd.func6, Tryd.ntmps6
    go_wp2_with fail
    refine Calls.mono C1.out ?_
    rintro e w2 ⟨rfl, hw2⟩
    subst w2
    clear C1
    go_wp2_with fail
    refine Calls.mono C2.out ?_
    rintro e w3 ⟨rfl, hw3⟩
    subst w3
    clear C2
    go_wp2
    go_ret
    exact ⟨rfl, HF.out⟩
  by_cases k10 : kd = 10
  · subst k10
    subst hw1
    clear k1 k2 k3 k4 k5 k6 k7 k8 k9
    obtain ⟨r, hr⟩ : ∃ r, labelR T s = r := ⟨_, rfl⟩
    have C1 := label_any ((w.alloc (.cells #[.int .i64 10, .string s, .int .i64 n] 29))).drew bs B k T s (by omega) hs (HKB.out.below HDB.out HKB.out.pos) (HT.out.below HDB.out)
    rw [hr] at C1
    replace C1 := show Hid _ from C1
    have UND : Hid (∀ w2, Now bs ((w.alloc (.cells #[.int .i64 10, .string s, .int .i64 n] 29))).drew B k r.2 w2 → Now bs (w.alloc (.cells #[.int .i64 10, .string s, .int .i64 n] 29)) B k r.2 w2) := fun w2 hn => by
      obtain ⟨bs', h1, h2⟩ := hn
      exact ⟨bs', h1, (Goes.of_below HDB.out).trans h2⟩
    have C2 : Hid (∀ w2, Now bs (w.alloc (.cells #[.int .i64 10, .string s, .int .i64 n] 29)) B k r.2 w2 → Calls Tryd.prog 31 #[.pointer (some ⟨C, 0, none⟩), .string s] w2 fun e w' => e = .returned (.int .i64 (r.1 : Nat)) ∧ RNow rs w2 C A r.2 w') := fun w2 hn => by
      have h := rlabel_u w2 rs C k A T s hs HO.out (REF.out _ w2 hn) HI.out
      rw [hr] at h
      exact h
    have FIN : Hid (∀ w2 w3, Now bs (w.alloc (.cells #[.int .i64 10, .string s, .int .i64 n] 29)) B k r.2 w2 → RNow rs w2 C A r.2 w3 → ∃ xs' T', Twin w3 xs' B C (k + 2) T' ∧ Goes (bs ++ rs) w xs' w3) := fun w2 w3 h2 h3 => NOW.out _ w2 w3 (by rw [← hr]; exact (ok_label s HO.out).up (by omega)) (by rw [← hr]; exact good_label s HG.out) h2 h3
    have FAR : Hid (∀ w2 w3, RNow rs w2 C A r.2 w3 → w.heap.size < w2.heap.size → w3.cell? ⟨w.heap.size, 1, none⟩ = w2.cell? ⟨w.heap.size, 1, none⟩) := fun w2 w3 hn hlt => by
      obtain ⟨rs', A', _, _, _, hG⟩ := hn
      exact World.cell?_of_block (a := ⟨w.heap.size, 1, none⟩) (hG.turned.block w.heap.size hlt fun hb => by have := HBX.out _ (List.mem_append_right _ hb); omega)
    have qd : ((w.alloc (.cells #[.int .i64 10, .string s, .int .i64 n] 29))).drew.cell? ⟨w.heap.size, 1, none⟩ = some (.string s) := q1
    clear hr HT HR HI HO HG HAP HKB HBX HG1 SAME NOW REF
    go_enter Tryd.func6, Tryd.ntmps6
    go_wp2_with fail
    refine wp_region_held_drew (S := fun w' => w'.cell? ⟨w.heap.size, 1, none⟩ = some (.string s)) (by kernel_rfl) ?_ (fun hHeld => ?_)
    · exact qd
    refine wpAnyH_take (i := 0) (oi := { dst := some 149, op := Op.move (Operand.tmp 0), type := 23, pos := "law.go:72", after := #[], guard := none }) (v := ?_) rfl (by kernel_rfl) (by kernel_rfl) (by kernel_rfl) (fun _ _ _ h => h) (Or.inl ⟨by rfl, ?_⟩) hHeld ?_
    rotate_left
    · (intro w hSw; (try dsimp only at hSw); go_simp; try with_reducible rfl)
    try simp only [Act.put, List.setIfInBounds_toArray, List.set_cons_zero, List.set_cons_succ]
    refine wpAnyH_take (i := 1) (oi := { dst := some 150, op := Op.fieldAddr 29 (Operand.tmp 5) 1, type := 0, pos := "law.go:72", after := #[], guard := none }) (v := ?_) rfl (by kernel_rfl) (by kernel_rfl) (by kernel_rfl) (fun _ _ _ h => h) (Or.inl ⟨by rfl, ?_⟩) hHeld ?_
    rotate_left
    · (intro w hSw; (try dsimp only at hSw); go_simp; try with_reducible rfl)
    try simp only [Act.put, List.setIfInBounds_toArray, List.set_cons_zero, List.set_cons_succ]
    refine wpAnyH_take (i := 2) (oi := { dst := some 151, op := Op.load 9 (Operand.tmp 150), type := 9, pos := "law.go:72", after := #[{ on := 1, ground := Ground.data }], guard := none }) (v := ?_) rfl (by kernel_rfl) (by kernel_rfl) (by kernel_rfl) (fun _ _ _ h => h) (Or.inl ⟨by rfl, ?_⟩) hHeld ?_
    rotate_left
    · (intro w hSw; (try dsimp only at hSw); go_simp; try with_reducible rfl)
    try simp only [Act.put, List.setIfInBounds_toArray, List.set_cons_zero, List.set_cons_succ]
    refine wpAnyH_take (i := 4) (oi := { dst := some 153, op := Op.move (Operand.tmp 1), type := 25, pos := "law.go:72", after := #[], guard := none }) (v := ?_) rfl (by kernel_rfl) (by kernel_rfl) (by kernel_rfl) (fun _ _ _ h => h) (Or.inl ⟨by rfl, ?_⟩) hHeld ?_
    rotate_left
    · (intro w hSw; (try dsimp only at hSw); go_simp; try with_reducible rfl)
    try simp only [Act.put, List.setIfInBounds_toArray, List.set_cons_zero, List.set_cons_succ]
    refine wpAnyH_take (i := 5) (oi := { dst := some 154, op := Op.fieldAddr 29 (Operand.tmp 5) 1, type := 0, pos := "law.go:72", after := #[], guard := none }) (v := ?_) rfl (by kernel_rfl) (by kernel_rfl) (by kernel_rfl) (fun _ _ _ h => h) (Or.inl ⟨by rfl, ?_⟩) hHeld ?_
    rotate_left
    · (intro w hSw; (try dsimp only at hSw); go_simp; try with_reducible rfl)
    try simp only [Act.put, List.setIfInBounds_toArray, List.set_cons_zero, List.set_cons_succ]
    refine wpAnyH_take (i := 6) (oi := { dst := some 155, op := Op.load 9 (Operand.tmp 154), type := 9, pos := "law.go:72", after := #[{ on := 5, ground := Ground.data }], guard := none }) (v := ?_) rfl (by kernel_rfl) (by kernel_rfl) (by kernel_rfl) (fun _ _ _ h => h) (Or.inl ⟨by rfl, ?_⟩) hHeld ?_
    rotate_left
    · (intro w hSw; (try dsimp only at hSw); go_simp; try with_reducible rfl)
    try simp only [Act.put, List.setIfInBounds_toArray, List.set_cons_zero, List.set_cons_succ]
    refine wpAnyH_ready (rs := [3]) (by kernel_rfl) (by simp) ?_
    refine AllReadyH.cons (o := { dst := some 152, op := Op.call { callee := Callee.value (Operand.func 30), args := #[Operand.tmp 149, Operand.tmp 151], argTypes := #[23, 9] }, type := 46, pos := "law.go:72", after := #[{ on := 0, ground := Ground.data }, { on := 2, ground := Ground.data }], guard := none }) rfl (fun K hK => ?_) AllReadyH.nil
    go_simp
    go_at_call 30
    refine Calls.mono C1.out ?_
    rintro e w2 ⟨rfl, hn0⟩
    have hn := UND.out w2 hn0
    have p2 := (BOX.out _ w2 1 hn).trans q1
    have hlt2 : w.heap.size < w2.heap.size := World.block_lt_of_cell? _ _ p2
    have D2 : Hid _ := C2.out w2 hn
    have HN : Hid _ := hn
    clear C1 C2 hn hn0 BOX
    try go_wp2_with fail
    refine hK.out _ _ ?_ (fun hHeld_3 => ?_)
    · exact p2
    clear hK K
    try simp only [Act.put, List.setIfInBounds_toArray, List.set_cons_zero, List.set_cons_succ]
    refine wpAnyH_ready (rs := [7]) (by kernel_rfl) (by simp) ?_
    refine AllReadyH.cons (o := { dst := some 156, op := Op.call { callee := Callee.value (Operand.func 31), args := #[Operand.tmp 153, Operand.tmp 155], argTypes := #[25, 9] }, type := 46, pos := "law.go:72", after := #[{ on := 4, ground := Ground.data }, { on := 6, ground := Ground.data }, { on := 3, ground := Ground.chain }], guard := none }) rfl (fun K hK => ?_) AllReadyH.nil
    go_simp
    go_at_call 31
    refine Calls.mono D2.out ?_
    rintro e w3 ⟨rfl, hn3⟩
    have p3 := (FAR.out w2 w3 hn3 hlt2).trans p2
    have HF2 : Hid _ := FIN.out w2 w3 HN.out hn3
    clear D2 hn3 FIN FAR HN
    try go_wp2_with fail
    refine hK.out _ _ ?_ (fun hHeld_7 => ?_)
    · exact p3
    clear hK K
    try simp only [Act.put, List.setIfInBounds_toArray, List.set_cons_zero, List.set_cons_succ]
    refine wpAnyH_take (i := 8) (oi := { dst := some 157, op := Op.binOp BinOp.eql 46 (Operand.tmp 152) (Operand.tmp 156) 46, type := 4, pos := "law.go:72", after := #[{ on := 3, ground := Ground.data }, { on := 7, ground := Ground.data }], guard := none }) (v := ?_) rfl (by kernel_rfl) (by kernel_rfl) (by kernel_rfl) (fun _ _ _ h => h) (Or.inl ⟨by rfl, ?_⟩) hHeld_7 ?_
    rotate_left
    · (intro w hSw; (try dsimp only at hSw); go_simp; try with_reducible rfl)
    try simp only [Act.put, List.setIfInBounds_toArray, List.set_cons_zero, List.set_cons_succ]
    refine wpAnyH_take (i := 9) (oi := { dst := some 6, op := Op.assign (Operand.tmp 157), type := 4, pos := "law.go:72", after := #[{ on := 8, ground := Ground.data }, { on := 7, ground := Ground.chain }, { on := 0, ground := Ground.phase }, { on := 1, ground := Ground.phase }, { on := 2, ground := Ground.phase }, { on := 3, ground := Ground.phase }, { on := 4, ground := Ground.phase }, { on := 5, ground := Ground.phase }, { on := 6, ground := Ground.phase }, { on := 7, ground := Ground.phase }, { on := 8, ground := Ground.phase }], guard := none }) (v := ?_) rfl (by kernel_rfl) (by kernel_rfl) (by kernel_rfl) (fun _ _ _ h => h) (Or.inl ⟨by rfl, ?_⟩) hHeld_7 ?_
    rotate_left
    · (intro w hSw; (try dsimp only at hSw); go_simp; try with_reducible rfl)
    try simp only [Act.put, List.setIfInBounds_toArray, List.set_cons_zero, List.set_cons_succ]
    refine wpAnyH_done (by kernel_rfl) ?_ _
    go_wp2
    go_ret
    exact ⟨rfl, HF2.out⟩
  by_cases k11 : kd = 11
  · subst k11
    subst hw1
    clear k1 k2 k3 k4 k5 k6 k7 k8 k9 k10
    obtain ⟨vs, va, vt, hRT, hLB, _⟩ := HR.out
    have HRT : Hid (RT (w.alloc (.cells #[.int .i64 11, .string s, .int .i64 n] 29)) C T.syms A vs va vt) := hRT
    have HLB : Hid (LabRow (w.alloc (.cells #[.int .i64 11, .string s, .int .i64 n] 29)) vt T.labels) := hLB
    have C1 : Hid _ := labels_any (w.alloc (.cells #[.int .i64 11, .string s, .int .i64 n] 29)) bs B k T (by omega) HT.out
    have C2 : Hid (∀ w2, Below ((w.alloc (.cells #[.int .i64 11, .string s, .int .i64 n] 29))).heap.size (w.alloc (.cells #[.int .i64 11, .string s, .int .i64 n] 29)) w2 → Calls Tryd.prog 13 #[.pointer (some ⟨C, 0, none⟩)] w2 fun e w' => ∃ a c, e = .returned (.slice a T.labels.length c) ∧ WordsAt w' a T.labels ∧ Below w2.heap.size w2 w') := fun w2 hb2 => rlabels_any w2 C T.syms A vs va vt T.labels h6 ⟨(hb2.block C (Array.getElem?_eq_some_iff.1 HRT.out.block).1).trans HRT.out.block, owns_under HRT.out.syms hb2, owns_under HRT.out.acts hb2⟩ (owns_under HLB.out hb2)
    have HF : Hid (∀ w2, Below ((w.alloc (.cells #[.int .i64 11, .string s, .int .i64 n] 29))).heap.size (w.alloc (.cells #[.int .i64 11, .string s, .int .i64 n] 29)) w2 → ∃ xs' T', Twin w2 xs' B C (k + 2) T' ∧ Goes (bs ++ rs) w xs' w2) := fun w2 hb2 => SAME.out w2 hb2
    clear HT HR HI HO HG HAP HKB HBX HG1 SAME NOW HDB REF BOX hRT hLB
    go_enter Tryd.func6, Tryd.ntmps6
    go_wp2_with fail
    refine Calls.mono C1.out ?_
    rintro e w2 ⟨v, rfl, ho2, hb2⟩
    obtain ⟨a2, c2, rfl, hr2⟩ := own_row ho2
    have HW2 : Hid (WordsAt w2 a2 T.labels) := row_words hr2
    have HB2 : Hid _ := hb2
    have D2 : Hid _ := C2.out w2 hb2
    clear C1 C2 ho2 hr2 hb2
    go_wp2_with fail
    refine Calls.mono D2.out ?_
    rintro e w3 ⟨a3, c3, rfl, hw3, hb3⟩
    have HB3 : Hid _ := HB2.out.trans (hb3.mono HB2.out.size)
    have D3 : Hid _ := same_words w3 a2 a3 c2 c3 T.labels T.labels.length rfl (by omega) (HW2.out.under hb3) hw3
    clear D2 hw3 hb3 HW2
    go_wp2_with fail
    refine Calls.mono D3.out ?_
    rintro e w4 ⟨rfl, kk, hw4⟩
    have HF2 : Hid _ := HF.out w4 (by rw [hw4]; exact ⟨HB3.out.os, HB3.out.tape, HB3.out.output, HB3.out.size, HB3.out.block⟩)
    clear D3 hw4 HF HB3 HB2
    go_wp2
    go_ret
    exact ⟨rfl, HF2.out⟩
  by_cases k12 : kd = 12
  · subst k12
    subst hw1
    clear k1 k2 k3 k4 k5 k6 k7 k8 k9 k10 k11
    obtain ⟨vs, va, vt, hRT, hLB, _⟩ := HR.out
    have C1 : Hid _ := Go.Proofs.YtdnkgjjboonmnabDoor.depth_any (w.alloc (.cells #[.int .i64 12, .string s, .int .i64 n] 29)) bs B k T HT.out
    have C2 := R.depth_any (w.alloc (.cells #[.int .i64 12, .string s, .int .i64 n] 29)) C T.syms A vs va vt (by omega) hRT
    rw [HI.out.dep] at C2
    replace C2 := show Hid _ from C2
    have HF : Hid _ := SAME.out _ (Below.refl _ _)
    clear HT HR HI HO HG HAP HKB HBX HG1 SAME NOW HDB REF BOX hRT hLB
    go_enter Tryd.func6, Tryd.ntmps6
    go_wp2_with fail
    refine Calls.mono C1.out ?_
    rintro e w2 ⟨rfl, hw2⟩
    subst w2
    clear C1
    go_wp2_with fail
    refine Calls.mono C2.out ?_
    rintro e w3 ⟨rfl, hw3⟩
    subst w3
    clear C2
    go_wp2
    go_ret
    exact ⟨rfl, HF.out⟩
  have HF : Hid _ := SAME.out _ (Below.refl _ _)
  subst hw1
  have g1 : (kd == 1) = false := by rw [beq_eq_false_iff_ne]; exact k1
  have g2 : (kd == 2) = false := by rw [beq_eq_false_iff_ne]; exact k2
  have g3 : (kd == 3) = false := by rw [beq_eq_false_iff_ne]; exact k3
  have g4 : (kd == 4) = false := by rw [beq_eq_false_iff_ne]; exact k4
  have g5 : (kd == 5) = false := by rw [beq_eq_false_iff_ne]; exact k5
  have g6 : (kd == 6) = false := by rw [beq_eq_false_iff_ne]; exact k6
  have g7 : (kd == 7) = false := by rw [beq_eq_false_iff_ne]; exact k7
  have g8 : (kd == 8) = false := by rw [beq_eq_false_iff_ne]; exact k8
  have g9 : (kd == 9) = false := by rw [beq_eq_false_iff_ne]; exact k9
  have g10 : (kd == 10) = false := by rw [beq_eq_false_iff_ne]; exact k10
  have g11 : (kd == 11) = false := by rw [beq_eq_false_iff_ne]; exact k11
  have g12 : (kd == 12) = false := by rw [beq_eq_false_iff_ne]; exact k12
  clear k1 k2 k3 k4 k5 k6 k7 k8 k9 k10 k11 k12 HT HR HI HO HG HAP HKB HBX HG1 SAME NOW HDB REF BOX
  go_enter Tryd.func6, Tryd.ntmps6
  go_wp2
  go_ret
  exact ⟨rfl, HF.out⟩
end Go.Proofs.YtdnkgjjboonmnabDoor.R
