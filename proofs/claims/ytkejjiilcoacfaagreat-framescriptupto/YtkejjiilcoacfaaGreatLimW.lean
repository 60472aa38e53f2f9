/- FrameLimits along its text. -/
import Derived.Test.YtkejjiilcoacfaaGreatLimP
namespace Go.Proofs.YtkejjiilcoacfaaGreat
open Go.Maps Go.RowKit Go.WideMaps

/-- A stack in memory with its blocks. -/
def StO (O : Nat → Prop) (w : World) (P : Nat) (l : List Sa) : Prop := ∃ (vS : Value) (xs : List ScC), StackAt O w P vS xs ∧ xs.map absC = l
theorem StO.below {O : Nat → Prop} {w w' : World} {P : Nat} {l : List Sa} (h : StO O w P l) (hb : Below w.heap.size w w') : StO O w' P l := by
  obtain ⟨vS, xs, h1, h2⟩ := h
  exact ⟨vS, xs, h1.below hb, h2⟩
theorem StO.lt {O : Nat → Prop} {w : World} {P : Nat} {l : List Sa} (h : StO O w P l) : ∀ g, O g → g < w.heap.size := by
  obtain ⟨vS, xs, h1, h2⟩ := h
  exact h1.lt
theorem StO.sta {O : Nat → Prop} {w : World} {P : Nat} {l : List Sa} (h : StO O w P l) : StA 0 w P l := by
  obtain ⟨vS, xs, h1, h2⟩ := h
  exact ⟨O, vS, xs, h1, h2, fun _ _ => Nat.zero_le _⟩
theorem new_so (w : World) : Calls Tryz.prog 9 #[varsV] w fun e w' => ∃ P, e = .returned (.pointer (some ⟨P, 0, none⟩)) ∧ StO (fun g => w.heap.size ≤ g ∧ g < w'.heap.size) w' P [⟨[], []⟩] ∧ Below w.heap.size w w' :=
  (new_any w).mono fun _ _ ⟨P, vS, _, h1, h2, h3⟩ => ⟨P, h1, ⟨vS, _, h2, rfl⟩, h3⟩
def DeclO (O : Nat → Prop) (w : World) (P : Nat) (E : Int) (l : List Sa) (e : Ending) (w' : World) : Prop := e = .returned (.int .i64 E) ∧ StO (More O w w') w' P l ∧ M.Ch O w w'
theorem Decl.so {O : Nat → Prop} {w w' : World} {P : Nat} {E : Int} {l : List Sa} {e : Ending} (h : Decl O w P E l e w') : DeclO O w P E l e w' := by
  obtain ⟨h1, vS, xs, h2, h3, h4⟩ := h
  exact ⟨h1, ⟨vS, xs, h2, h3⟩, h4⟩
theorem open_so {O : Nat → Prop} {w : World} {P : Nat} {l : List Sa} (h : StO O w P l) (hn : l.length ≤ 1048576) : Calls Tryz.prog 12 #[.pointer (some ⟨P, 0, none⟩)] w (DeclO O w P (openE l) (openL l)) := by
  obtain ⟨vS, xs, h1, rfl⟩ := h
  rw [List.length_map] at hn
  exact (sOpen_any w O P vS xs h1 hn).mono fun e w' hd => hd.so
theorem dist_so {O : Nat → Prop} {w : World} {P : Nat} {l : List Sa} (h : StO O w P l) (hl : SaOk l) (a : Option Addr) (n c : Nat) (vs : List Int) (he : vs.length = n) (hn : n ≤ 1048576) (hA : NsAt w a vs) :
    Calls Tryz.prog 14 #[.pointer (some ⟨P, 0, none⟩), .slice a n c] w (DeclO O w P (distE l vs) (distL l vs)) := by
  obtain ⟨vS, xs, h1, rfl⟩ := h
  have n0 := hl.n0
  have n1 := hl.n1
  have q := hl.q
  rw [List.length_map] at n0 n1
  rw [← aps_abs] at q
  exact (sDist_any w O P vS xs a n c vs h1 n0 n1 q he hn hA).mono fun e w' hd => hd.so
theorem two_run {k : Nat} (h : k ≤ 60) : wrap64 ((wrap64 ((k : Int) * ((k : Int) - 1))).tdiv 2) = ((two k : Nat) : Int) := by
  have hpp : k * (k - 1) ≤ 60 * 60 := Nat.mul_le_mul h (by omega)
  have e27 : (k : Int) * ((k : Int) - 1) = ((k * (k - 1) : Nat) : Int) := by
    rcases Nat.eq_zero_or_pos k with h | h
    · subst h; rfl
    · obtain ⟨j, rfl⟩ : ∃ j, k = j + 1 := ⟨k - 1, by omega⟩
      have e1 : ((j + 1 : Nat) : Int) - 1 = (j : Int) := by omega
      have e2 : (j + 1) * (j + 1 - 1) = (j + 1) * j := rfl
      rw [e1, e2, Int.natCast_mul]
  have e28 : wrap64 ((k : Int) * ((k : Int) - 1)) = ((k * (k - 1) : Nat) : Int) := by rw [e27]; exact fr_w64 _ (by omega) (by omega)
  rw [e28]
  have : (((k * (k - 1) : Nat) : Int)).tdiv 2 = ((k * (k - 1) / 2 : Nat) : Int) := rfl
  rw [this]
  exact fr_w64 _ (by omega) (by omega)

set_option maxRecDepth 100000 in
set_option maxHeartbeats 8000000 in
theorem limits_out (w : World) (sc f s fr : Int) (h : ¬ (0 ≤ sc ∧ sc ≤ 40 ∧ 0 ≤ f ∧ f ≤ 60 ∧ 0 ≤ s ∧ s ≤ 60 ∧ 0 ≤ fr ∧ fr ≤ 60)) : Calls Tryz.prog 3 #[.agg #[.int .i64 sc, .int .i64 f, .int .i64 s, .int .i64 fr]] w fun e w' => e = .returned (.bool true) ∧ Below w.heap.size w w' := by
  obtain ⟨w0, hw0⟩ : ∃ w0, w0 = w.alloc (.cells #[.int .i64 sc, .int .i64 f, .int .i64 s, .int .i64 fr] 23) := ⟨_, rfl⟩
  obtain ⟨T, hT⟩ : ∃ T, w.heap.size = T := ⟨_, rfl⟩
  have HW0 : Hid (w0 = w.alloc (.cells #[.int .i64 sc, .int .i64 f, .int .i64 s, .int .i64 fr] 23)) := hw0
  have HT : Hid (w.heap.size = T) := hT
  have b0 : Below w.heap.size w w0 := by rw [hw0]; exact fr_below_alloc _ _
  have k0 : w0.heap[T]? = some (.cells #[.int .i64 sc, .int .i64 f, .int .i64 s, .int .i64 fr] 23 (0, 0)) := by rw [hw0, ← hT]; exact heap_alloc_new w _
  have B0 : Hid (Below w.heap.size w w0 ∧ w0.heap[T]? = some (.cells #[.int .i64 sc, .int .i64 f, .int .i64 s, .int .i64 fr] 23 (0, 0)) ∧ T < w0.heap.size) := ⟨b0, k0, (Array.getElem?_eq_some_iff.1 k0).1⟩
  have AL : Hid _ := alive_any w0
  clear hw0 hT b0 k0
  go_enter Tryz.func3, Tryz.ntmps3
  go_upto_region 1 with fail
  rw [← HW0.out, HT.out]
  clear HW0
  go_wp2_with fail
  refine Calls.mono AL.out ?_
  rintro e w1 ⟨rfl, hb1⟩
  have k1 : w1.heap[T]? = some (.cells #[.int .i64 sc, .int .i64 f, .int .i64 s, .int .i64 fr] 23 (0, 0)) := (hb1.block T B0.out.2.2).trans B0.out.2.1
  have x0 := M.cell_whole k1 0
  have x1 := M.cell_whole k1 1
  have x2 := M.cell_whole k1 2
  have x3 := M.cell_whole k1 3
  have B1 : Hid (Below w.heap.size w w1) := B0.out.1.trans (hb1.mono B0.out.1.size)
  clear hb1 AL B0 k1 HT
  simp only [List.getElem?_toArray, List.getElem?_cons_zero, List.getElem?_cons_succ] at x0 x1 x2 x3
  go_upto_region 3 with fail
  go_quiet (fail)
  by_cases a0 : sc < 0
  · clear h
    go_wp2
    go_ret
    exact ⟨rfl, fr_below_drewN B1.out _⟩
  by_cases a1 : 40 < sc
  · clear h
    go_wp2
    go_ret
    exact ⟨rfl, fr_below_drewN B1.out _⟩
  by_cases a2 : f < 0
  · clear h
    go_wp2
    go_ret
    exact ⟨rfl, fr_below_drewN B1.out _⟩
  by_cases a3 : 60 < f
  · clear h
    go_wp2
    go_ret
    exact ⟨rfl, fr_below_drewN B1.out _⟩
  by_cases a4 : s < 0
  · clear h
    go_wp2
    go_ret
    exact ⟨rfl, fr_below_drewN B1.out _⟩
  by_cases a5 : 60 < s
  · clear h
    go_wp2
    go_ret
    exact ⟨rfl, fr_below_drewN B1.out _⟩
  by_cases a6 : fr < 0
  · clear h
    go_wp2
    go_ret
    exact ⟨rfl, fr_below_drewN B1.out _⟩
  by_cases a7 : 60 < fr
  · clear h
    go_wp2
    go_ret
    exact ⟨rfl, fr_below_drewN B1.out _⟩
  exact absurd ⟨by omega, by omega, by omega, by omega, by omega, by omega, by omega, by omega⟩ h
end Go.Proofs.YtkejjiilcoacfaaGreat
