/- The calls of a stack that a law has made; alive. -/
import Derived.Test.YtkejjiilcoacfaaGreatFrI
namespace Go.Proofs.YtkejjiilcoacfaaGreat
open Go.Maps Go.RowKit Go.WideMaps

def hypsA (l : List Sa) : List Hy := l.flatMap (·.hs)
def essA (l : List Hy) : List Int := l.flatMap fun h => if h.fl = true then [] else h.ex
def wantA (F : Bool → Int → Bool) (l : List Hy) : List Hy := l.filter fun h => F h.fl h.var
theorem hyps_abs (xs : List ScC) : (hypsC xs).map (·.h) = hypsA (xs.map absC) := by unfold hypsC hypsA; rw [List.flatMap_map, List.map_flatMap]; rfl
theorem ess_abs (xs : List ScC) : essS (hypsC xs) = essA (hypsA (xs.map absC)) := by rw [← hyps_abs]; unfold essS essA; rw [List.flatMap_map]
theorem want_abs (F : Bool → Int → Bool) (xs : List ScC) : wantF F (hypsC xs) = wantA F (hypsA (xs.map absC)) := by rw [← hyps_abs]; rfl
/-- What is declared is small. -/
structure SaOk (l : List Sa) : Prop where
  n0 : 0 < l.length
  n1 : l.length ≤ 1048576
  h : (hypsA l).length ≤ 1000000
  e : ∀ y ∈ hypsA l, y.ex.length ≤ 17592186044416
  q : (apsA l).length ≤ 1000000
  w : ∀ p ∈ apsA l, wfP p
/-- A stack in memory that a law has made: its blocks lie from N on. -/
def StA (N : Nat) (w : World) (P : Nat) (l : List Sa) : Prop := ∃ (O : Nat → Prop) (vS : Value) (xs : List ScC), StackAt O w P vS xs ∧ xs.map absC = l ∧ ∀ g, O g → N ≤ g
theorem StA.below {N : Nat} {w w' : World} {P : Nat} {l : List Sa} (h : StA N w P l) (hb : Below w.heap.size w w') : StA N w' P l := by
  obtain ⟨O, vS, xs, h1, h2, h3⟩ := h
  exact ⟨O, vS, xs, h1.below hb, h2, h3⟩
def DeclA (N : Nat) (w : World) (P : Nat) (E : Int) (l : List Sa) (e : Ending) (w' : World) : Prop := e = .returned (.int .i64 E) ∧ StA N w' P l ∧ Below N w w'
theorem Decl.st {N : Nat} {O : Nat → Prop} {w w' : World} {P : Nat} {E : Int} {l : List Sa} {e : Ending} (h : Decl O w P E l e w') (hO : ∀ g, O g → N ≤ g) (hN : N ≤ w.heap.size) : DeclA N w P E l e w' := by
  obtain ⟨h1, vS, xs, h2, h3, h4⟩ := h
  refine ⟨h1, ⟨_, vS, xs, h2, h3, fun g hg => ?_⟩, h4.below hN hO⟩
  rcases hg with hg | hg
  · exact hO g hg
  · exact Nat.le_trans hN hg.1
theorem new_st (w : World) : Calls Tryz.prog 9 #[varsV] w fun e w' => ∃ P, e = .returned (.pointer (some ⟨P, 0, none⟩)) ∧ StA w.heap.size w' P [⟨[], []⟩] ∧ Below w.heap.size w w' :=
  (new_any w).mono fun _ _ ⟨P, vS, _, h1, h2, h3⟩ => ⟨P, h1, ⟨_, vS, _, h2, rfl, fun _ hg => hg.1⟩, h3⟩
theorem depth_st {N : Nat} {w : World} {P : Nat} {l : List Sa} (h : StA N w P l) (hn : l.length ≤ 1048576) : Calls Tryz.prog 13 #[.pointer (some ⟨P, 0, none⟩)] w fun e w' => e = .returned (.int .i64 ((l.length : Int) - 1)) ∧ w' = w := by
  obtain ⟨O, vS, xs, h1, rfl, h3⟩ := h
  rw [List.length_map] at hn ⊢
  exact depth_any w O P vS xs h1 hn
theorem open_st {N : Nat} {w : World} {P : Nat} {l : List Sa} (h : StA N w P l) (hN : N ≤ w.heap.size) (hn : l.length ≤ 1048576) : Calls Tryz.prog 12 #[.pointer (some ⟨P, 0, none⟩)] w (DeclA N w P (openE l) (openL l)) := by
  obtain ⟨O, vS, xs, h1, rfl, h3⟩ := h
  rw [List.length_map] at hn
  exact (sOpen_any w O P vS xs h1 hn).mono fun e w' hd => hd.st h3 hN
theorem each_small {xs : List ScC} {k : Nat} (h : (hypsA (xs.map absC)).length ≤ k) : ∀ x ∈ xs, x.hs.length ≤ k := fun x hx => by
  rw [← hyps_abs, List.length_map] at h
  unfold hypsC at h
  obtain ⟨s, t, e⟩ := List.append_of_mem hx
  rw [e, List.flatMap_append, List.flatMap_cons, List.length_append, List.length_append] at h
  omega
theorem float_st {N : Nat} {w : World} {P : Nat} {l : List Sa} (h : StA N w P l) (hN : N ≤ w.heap.size) (hl : SaOk l) (lab : ByteArray) (typ v : Int) (hlab : lab.size ≤ 281474976710656) (ht : wfN typ) (hv : wfN v) :
    Calls Tryz.prog 29 #[.pointer (some ⟨P, 0, none⟩), .string lab, .int .i64 typ, .int .i64 v] w (DeclA N w P (floatE l typ v) (floatL l lab typ v)) := by
  obtain ⟨O, vS, xs, h1, rfl, h3⟩ := h
  have n0 := hl.n0
  have n1 := hl.n1
  rw [List.length_map] at n0 n1
  exact (sFloat_any w O P vS xs lab typ v h1 n0 n1 (fun x hx => by have := each_small hl.h x hx; omega) hlab ht hv).mono fun e w' hd => hd.st h3 hN
theorem ess_st {N : Nat} {w : World} {P : Nat} {l : List Sa} (h : StA N w P l) (hN : N ≤ w.heap.size) (hl : SaOk l) (lab : ByteArray) (a : Option Addr) (n c : Nat) (e : List Int) (hlab : lab.size ≤ 281474976710656) (he : e.length = n) (hn : n ≤ 17592186043904) (hA : NsAt w a e) (hw : ∀ x ∈ e, wfN x) :
    Calls Tryz.prog 33 #[.pointer (some ⟨P, 0, none⟩), .string lab, .slice a n c] w (DeclA N w P (judgeE l e) (essL l lab e)) := by
  obtain ⟨O, vS, xs, h1, rfl, h3⟩ := h
  have n0 := hl.n0
  have n1 := hl.n1
  rw [List.length_map] at n0 n1
  exact (sEss_any w O P vS xs lab a n c e h1 n0 n1 (fun x hx => by have := each_small hl.h x hx; omega) hlab he hn hA hw).mono fun e w' hd => hd.st h3 hN
theorem dist_st {N : Nat} {w : World} {P : Nat} {l : List Sa} (h : StA N w P l) (hN : N ≤ w.heap.size) (hl : SaOk l) (a : Option Addr) (n c : Nat) (vs : List Int) (he : vs.length = n) (hn : n ≤ 1048576) (hA : NsAt w a vs) :
    Calls Tryz.prog 14 #[.pointer (some ⟨P, 0, none⟩), .slice a n c] w (DeclA N w P (distE l vs) (distL l vs)) := by
  obtain ⟨O, vS, xs, h1, rfl, h3⟩ := h
  have n0 := hl.n0
  have n1 := hl.n1
  have q := hl.q
  rw [List.length_map] at n0 n1
  rw [← aps_abs] at q
  exact (sDist_any w O P vS xs a n c vs h1 n0 n1 q he hn hA).mono fun e w' hd => hd.st h3 hN
/-- All that is active, told. -/
structure ScopeA (N : Nat) (W : World) (l : List Sa) (vh vp : Value) (ts : List HyC) (m : List Pp) : Prop where
  t : ToldH N W vh ts
  h : ts.map (·.h) = hypsA l
  n : IsNorm (apsA l) m
  p : W.ownsRow N 64 2 vp m.length (rowQ m)
theorem saOk_c {xs : List ScC} (hl : SaOk (xs.map absC)) : 0 < xs.length ∧ xs.length ≤ 1048576 ∧ (hypsC xs).length ≤ 1000000 ∧ (∀ x ∈ xs, ∀ y ∈ x.hs, y.h.ex.length ≤ 17592186044416) ∧ (apsC xs).length ≤ 1000000 ∧ ∀ p ∈ apsC xs, wfP p := by
  refine ⟨by simpa using hl.n0, by simpa using hl.n1, ?_, fun x hx y hy => ?_, by rw [aps_abs]; exact hl.q, by rw [aps_abs]; exact hl.w⟩
  · have h := hl.h
    rw [← hyps_abs, List.length_map] at h
    exact h
  · refine hl.e y.h ?_
    rw [← hyps_abs]
    exact List.mem_map.2 ⟨y, List.mem_flatMap.2 ⟨x, hx, hy⟩, rfl⟩
theorem scope_st {N : Nat} {w : World} {P : Nat} {l : List Sa} (h : StA N w P l) (hl : SaOk l) :
    Calls Tryz.prog 15 #[.pointer (some ⟨P, 0, none⟩)] w fun e w' => Below w.heap.size w w' ∧ ∃ vh vp ts m, e = .returned (.agg #[vh, vp]) ∧ ScopeA w.heap.size w' l vh vp ts m := by
  obtain ⟨O, vS, xs, h1, rfl, h3⟩ := h
  obtain ⟨n0, n1, a1, a2, a3, a4⟩ := saOk_c hl
  exact (scope_any w O P vS xs h1 n1 (by omega) a2 (by omega) a4).mono fun e w' ⟨hb, vh, vp, ts, m, he, hs⟩ => ⟨hb, vh, vp, ts, m, he, hs.t, hs.h.trans (hyps_abs xs), by rw [← aps_abs]; exact hs.n, hs.p⟩
/-- What a goal needs, told. -/
structure FrameA (N : Nat) (W : World) (l : List Sa) (goal : List Int) (vh vp vg : Value) (ts : List HyC) (mv : List Int) (m : List Pp) : Prop where
  v : IsVars (goal ++ essA (hypsA l)) mv
  t : ToldH N W vh ts
  h : ts.map (·.h) = wantA (fun fl var => mv.contains var || !fl) (hypsA l)
  n : IsNorm (onlyP (apsA l) mv) m
  p : W.ownsRow N 64 2 vp m.length (rowQ m)
  g : W.ownsRow N 3 1 vg goal.length (rowN goal)
  ga : ∀ y ∈ ts, ∀ b, y.ve.ownBlock = some b → vg.ownBlock ≠ some b
def FrameRes (w : World) (l : List Sa) (goal : List Int) (e : Ending) (w' : World) : Prop := Below w.heap.size w w' ∧ ((judgeE l goal ≠ 0 ∧ e = .returned (.tuple #[zeroFr, .int .i64 (judgeE l goal)])) ∨ (judgeE l goal = 0 ∧ ∃ vh vp vg ts mv m, e = .returned (.tuple #[.agg #[vh, vp, vg], .int .i64 0]) ∧ FrameA w.heap.size w' l goal vh vp vg ts mv m))
theorem frame_st {N : Nat} {w : World} {P : Nat} {l : List Sa} (h : StA N w P l) (hl : SaOk l) (a : Option Addr) (n c : Nat) (goal : List Int) (hg : goal.length = n) (hA : NsAt w a goal) (hw : ∀ x ∈ goal, wfN x) (hle : goal.length + (essA (hypsA l)).length ≤ 17592186043904) :
    Calls Tryz.prog 17 #[.pointer (some ⟨P, 0, none⟩), .slice a n c] w (FrameRes w l goal) := by
  obtain ⟨O, vS, xs, h1, rfl, h3⟩ := h
  obtain ⟨n0, n1, a1, a2, a3, a4⟩ := saOk_c hl
  refine (frame_any w O P vS xs a n c goal h1 n1 (by omega) a2 (by omega) a4 hg hA hw (by rw [ess_abs]; exact hle)).mono fun e w' ⟨hb, hc⟩ => ⟨hb, ?_⟩
  rcases hc with hc | ⟨h0, vh, vp, vg, ts, mv, m, he, hf⟩
  · exact .inl hc
  · exact .inr ⟨h0, vh, vp, vg, ts, mv, m, he, by rw [← ess_abs]; exact hf.v, hf.t, hf.h.trans (want_abs _ xs), by rw [← aps_abs]; exact hf.n, hf.p, hf.g, hf.ga⟩

theorem field0_run (a b : Option Addr) (n c k d : Nat) (w : World) : (Instr.field 37 (.agg #[.slice a n c, .slice b k d]) 0).run Tryz.prog w = .ok (.slice a n c) w := by kernel_rfl
theorem field1_run (a b : Option Addr) (n c k d : Nat) (w : World) : (Instr.field 37 (.agg #[.slice a n c, .slice b k d]) 1).run Tryz.prog w = .ok (.slice b k d) w := by kernel_rfl
def sVx : ByteArray := ⟨#[118, 120]⟩
def sVy : ByteArray := ⟨#[118, 121]⟩
def sE : ByteArray := ⟨#[101]⟩
def hVx : Hy := ⟨sVx, true, 100, [1, 100]⟩
def hVy : Hy := ⟨sVy, true, 101, [1, 101]⟩
def hE1 : Hy := ⟨sE, false, -1, [2, 100]⟩
theorem saOk_of {l : List Sa} (h0 : l.length = 1) (h1 : (hypsA l).length ≤ 1000) (h2 : ∀ y ∈ hypsA l, y.ex.length ≤ 1000) (h3 : apsA l = []) : SaOk l := ⟨by omega, by omega, by omega, fun y hy => by have := h2 y hy; omega, by rw [h3]; simp, by rw [h3]; simp⟩
theorem ns_block {w : World} {g : Nat} {cs : Array Value} {t : TypeId} {fr : Nat × Nat} (l : List Int) (h : w.heap[g]? = some (.cells cs t fr)) (hc : cs = (rowN l).toArray) : NsAt w (some ⟨g, 0, none⟩) l := fun i x hi => ⟨g, 0, rfl, by
  rw [Nat.zero_add, M.cell_whole h i, hc]
  simp [rowN, hi, nV]⟩

set_option maxRecDepth 100000 in
set_option maxHeartbeats 8000000 in
theorem alive_any (w : World) : Calls Tryz.prog 8 #[] w fun e w' => e = .returned (.bool true) ∧ Below w.heap.size w w' := by
  have NE : Hid _ := new_st w
  unfold varsV at NE
  obtain ⟨N, hN⟩ : ∃ N, w.heap.size = N := ⟨_, rfl⟩
  rw [hN] at NE ⊢
  have HN : Hid (N ≤ w.heap.size) := by show N ≤ _; omega
  clear hN
  go_enter Tryz.func8, Tryz.ntmps8
  go_wp2_with fail
  refine Calls.mono NE.out ?_
  rintro e w1 ⟨P, rfl, hS1, hb1⟩
  have B1 : Hid (Below N w w1 ∧ N ≤ w1.heap.size) := ⟨hb1, Nat.le_trans HN.out hb1.size⟩
  have F1 : Hid _ := float_st hS1 B1.out.2 (saOk_of rfl (by decide) (by decide) rfl) sVx 1 100 (by decide) (by unfold wfN; omega) (by unfold wfN; omega)
  rw [show floatE [⟨[], []⟩] 1 100 = 0 from rfl, show floatL [⟨[], []⟩] sVx 1 100 = [⟨[hVx], []⟩] from rfl] at F1
  unfold sVx at F1
  clear NE hS1 hb1
  go_wp2_with fail
  refine Calls.mono F1.out ?_
  rintro e w2 ⟨rfl, hS2, hb2⟩
  have B2 : Hid (Below N w w2 ∧ N ≤ w2.heap.size) := ⟨B1.out.1.trans hb2, Nat.le_trans B1.out.2 hb2.size⟩
  have F2 : Hid _ := float_st hS2 B2.out.2 (saOk_of rfl (by decide) (by decide) rfl) sVy 1 101 (by decide) (by unfold wfN; omega) (by unfold wfN; omega)
  rw [show floatE [⟨[hVx], []⟩] 1 101 = 0 from rfl, show floatL [⟨[hVx], []⟩] sVy 1 101 = [⟨[hVx, hVy], []⟩] from rfl] at F2
  unfold sVy at F2
  have NU : Hid _ := num_any w2 0
  clear F1 hS2 hb2 B1
  go_wp2_with fail
  refine Calls.mono NU.out ?_
  rintro e wz ⟨rfl, hwz⟩
  subst wz
  clear NU
  go_wp2_with fail
  refine Calls.mono F2.out ?_
  rintro e w3 ⟨rfl, hS3, hb3⟩
  have B3 : Hid (Below N w w3 ∧ N ≤ w3.heap.size) := ⟨B2.out.1.trans hb3, Nat.le_trans B2.out.2 hb3.size⟩
  have S3 : Hid (StA N w3 P [⟨[hVx, hVy], []⟩]) := hS3
  have NU : Hid _ := num_any w3 0
  clear F2 hS3 hb3 B2
  go_wp2_with fail
  refine Calls.mono NU.out ?_
  rintro e wz ⟨rfl, hwz⟩
  subst wz
  clear NU
  obtain ⟨wA, hwA⟩ : ∃ wA, wA = w3.alloc (.cells #[.int .i64 2, .int .i64 100] 3) := ⟨_, rfl⟩
  obtain ⟨G, hG⟩ : ∃ G, w3.heap.size = G := ⟨_, rfl⟩
  have bA : Below w3.heap.size w3 wA := by rw [hwA]; exact fr_below_alloc _ _
  have kA : wA.heap[G]? = some (.cells #[.int .i64 2, .int .i64 100] 3 (0, 0)) := by rw [hwA, ← hG]; exact heap_alloc_new w3 _
  have BA : Hid (Below N w wA ∧ N ≤ wA.heap.size) := ⟨B3.out.1.trans (bA.mono B3.out.2), Nat.le_trans B3.out.2 bA.size⟩
  have F3 : Hid _ := ess_st (S3.out.below bA) BA.out.2 (saOk_of rfl (by decide) (by decide) rfl) sE (some ⟨G, 0, none⟩) 2 2 [2, 100] (by decide) rfl (by decide) (ns_block [2, 100] kA rfl) (by intro x hx; unfold wfN; simp at hx; omega)
  rw [show judgeE [⟨[hVx, hVy], []⟩] [2, 100] = 0 from rfl, show essL [⟨[hVx, hVy], []⟩] sE [2, 100] = [⟨[hVx, hVy, hE1], []⟩] from rfl] at F3
  unfold sE at F3
  have HWA : Hid (wA = w3.alloc (.cells #[.int .i64 2, .int .i64 100] 3)) := hwA
  have HG : Hid (w3.heap.size = G) := hG
  clear hwA hG bA kA B3 S3
  go_wp2_with fail
  rw [← HWA.out, HG.out]
  refine Calls.mono F3.out ?_
  rintro e w4 ⟨rfl, hS4, hb4⟩
  have B4 : Hid (Below N w w4 ∧ N ≤ w4.heap.size) := ⟨BA.out.1.trans hb4, Nat.le_trans BA.out.2 hb4.size⟩
  have S4 : Hid (StA N w4 P [⟨[hVx, hVy, hE1], []⟩]) := hS4
  have NU : Hid _ := num_any w4 0
  clear F3 hS4 hb4 BA HWA HG
  go_wp2_with fail
  refine Calls.mono NU.out ?_
  rintro e wz ⟨rfl, hwz⟩
  subst wz
  clear NU
  obtain ⟨wB, hwB⟩ : ∃ wB, wB = w4.alloc (.cells #[.int .i64 3] 3) := ⟨_, rfl⟩
  obtain ⟨G2, hG2⟩ : ∃ G2, w4.heap.size = G2 := ⟨_, rfl⟩
  have bB : Below w4.heap.size w4 wB := by rw [hwB]; exact fr_below_alloc _ _
  have kB : wB.heap[G2]? = some (.cells #[.int .i64 3] 3 (0, 0)) := by rw [hwB, ← hG2]; exact heap_alloc_new w4 _
  have BB : Hid (Below N w wB ∧ N ≤ wB.heap.size) := ⟨B4.out.1.trans (bB.mono B4.out.2), Nat.le_trans B4.out.2 bB.size⟩
  have SB : Hid (StA N wB P [⟨[hVx, hVy, hE1], []⟩]) := S4.out.below bB
  have OK3 : Hid (SaOk [⟨[hVx, hVy, hE1], []⟩]) := saOk_of rfl (by decide) (by decide) rfl
  have FR : Hid _ := frame_st SB.out OK3.out (some ⟨G2, 0, none⟩) 1 1 [3] rfl (ns_block [3] kB rfl) (by intro x hx; unfold wfN; simp at hx; omega) (by decide)
  have HWB : Hid (wB = w4.alloc (.cells #[.int .i64 3] 3)) := hwB
  have HG2 : Hid (w4.heap.size = G2) := hG2
  clear hwB hG2 bB kB B4 S4
  go_wp2_with fail
  rw [← HWB.out, HG2.out]
  refine Calls.mono FR.out ?_
  rintro e w5 ⟨hb5, hcase⟩
  have hj : judgeE [⟨[hVx, hVy, hE1], []⟩] [3] = 0 := rfl
  rcases hcase with ⟨h, _⟩ | ⟨_, vh, vp, vg, ts, mv, m, rfl, hfr⟩
  · exact absurd hj h
  have hts : ts.map (·.h) = [hVx, hE1] := by
    rw [hfr.h]
    have c1 : mv.contains 100 = true := List.contains_iff_mem.2 ((hfr.v.mem 100).2 ⟨by decide, rfl⟩)
    have c2 : mv.contains 101 = false := by
      cases hc : mv.contains 101 with
      | false => rfl
      | true => exact absurd ((hfr.v.mem 101).1 (List.contains_iff_mem.1 hc)).1 (by decide)
    show ([hVx, hVy, hE1].filter fun h => mv.contains h.var || !h.fl) = _
    rw [List.filter_cons_of_pos (by show (mv.contains 100 || !true) = true; rw [c1]; rfl), List.filter_cons_of_neg (by show ¬ (mv.contains 101 || !true) = true; rw [c2]; decide), List.filter_cons_of_pos (by show (mv.contains (-1) || !false) = true; simp)]
    rfl
  obtain ⟨t0, t1, hts2, ht0, ht1⟩ : ∃ t0 t1 : HyC, ts = [t0, t1] ∧ t0.h = hVx ∧ t1.h = hE1 := by
    rcases ts with _ | ⟨t0, _ | ⟨t1, _ | ⟨t2, r⟩⟩⟩
    · cases hts
    · simp at hts
    · simp at hts; exact ⟨t0, t1, rfl, hts.1, hts.2⟩
    · simp at hts
  subst hts2
  obtain ⟨gh, ch, eh, _, _, _⟩ := M.own_some hfr.t.own (by simp)
  obtain ⟨ap, cp, ep, _⟩ := own_shape hfr.p
  obtain ⟨ag, cg, eg, _⟩ := own_shape hfr.g
  obtain ⟨np, hnp⟩ : ∃ np, m.length = np := ⟨_, rfl⟩
  have hrow := hfr.t.own
  rw [eh] at hrow ⊢
  rw [ep, eg, hnp]
  obtain ⟨w6, hw6⟩ : ∃ w6, w6 = w5.alloc (.cells #[.slice (some ⟨gh, 0, none⟩) 2 ch, .slice ap np cp, .slice ag 1 cg] 47) := ⟨_, rfl⟩
  obtain ⟨B6, hB6⟩ : ∃ B6, w5.heap.size = B6 := ⟨_, rfl⟩
  have b6 : Below w5.heap.size w5 w6 := by rw [hw6]; exact fr_below_alloc _ _
  have k6 : w6.heap[B6]? = some (.cells #[.slice (some ⟨gh, 0, none⟩) 2 ch, .slice ap np cp, .slice ag 1 cg] 47 (0, 0)) := by rw [hw6, ← hB6]; exact heap_alloc_new w5 _
  have z0 : w6.cell? ⟨B6, 0, none⟩ = some (.slice (some ⟨gh, 0, none⟩) 2 ch) := M.cell_whole k6 0
  have hrow6 := M.owns_ch hrow (M.Ch.of_below (X := fun _ => False) b6) fun _ _ e => e
  obtain ⟨y0, _, _, _⟩ := row_hy hrow6 0 t0 rfl
  obtain ⟨y4, _, y6, _⟩ := row_hy hrow6 1 t1 rfl
  rw [ht0] at y0
  rw [ht1] at y4 y6
  have v0 : w6.cell? ⟨gh, 0, none⟩ = some (.string ⟨#[118, 120]⟩) := y0
  have v4 : w6.cell? ⟨gh, 4, none⟩ = some (.string ⟨#[101]⟩) := y4
  have v6 : w6.cell? ⟨gh, 6, none⟩ = some (.int .i64 (-1)) := y6
  have S6 : Hid (StA N w6 P [⟨[hVx, hVy, hE1], []⟩]) := (SB.out.below hb5).below b6
  have BF : Hid (Below N w w6 ∧ N ≤ w6.heap.size) := by
    have h5 := hb5.mono BB.out.2
    have h6 := b6.mono (Nat.le_trans BB.out.2 hb5.size)
    exact ⟨(BB.out.1.trans h5).trans h6, Nat.le_trans (Nat.le_trans BB.out.2 hb5.size) b6.size⟩
  have SC : Hid _ := scope_st S6.out OK3.out
  have NU : Hid _ := num_any w6 0
  have HW6 : Hid (w6 = w5.alloc (.cells #[.slice (some ⟨gh, 0, none⟩) 2 ch, .slice ap np cp, .slice ag 1 cg] 47)) := hw6
  have HB6 : Hid (w5.heap.size = B6) := hB6
  clear hw6 hB6 b6 k6 y0 y4 y6 hrow hrow6 hfr hts ht0 ht1 eh ep eg hnp FR HWB HG2 SB BB hb5 hj S6
  go_upto_region 5 with fail
  rw [← HW6.out, HB6.out]
  clear HW6 HB6
  go_wp2_with fail
  refine Calls.mono NU.out ?_
  rintro e wz ⟨rfl, hwz⟩
  subst wz
  clear NU
  go_wp2_with fail
  refine Calls.mono SC.out ?_
  rintro e w7 ⟨hb7, vh2, vp2, ts2, m2, rfl, hsc⟩
  have hl2 : ts2.length = 3 := by
    have h := congrArg List.length hsc.h
    rw [List.length_map] at h
    exact h
  obtain ⟨a7, c7, e7, _⟩ := own_shape hsc.t.own
  obtain ⟨a8, c8, e8, _⟩ := own_shape hsc.p
  rw [e7, hl2, e8]
  have B7 : Hid (Below N w w7) := BF.out.1.trans (hb7.mono BF.out.2)
  clear hsc hl2 e7 e8 hb7 SC
  generalize m2.length = k8
  have RF : (Instr.field 37 (.agg #[.slice a7 3 c7, .slice a8 k8 c8]) 0).run Tryz.prog w7 = .ok (.slice a7 3 c7) w7 := field0_run _ _ _ _ _ _ _
  go_wp2
  go_ret
  exact ⟨rfl, B7.out⟩
end Go.Proofs.YtkejjiilcoacfaaGreat
