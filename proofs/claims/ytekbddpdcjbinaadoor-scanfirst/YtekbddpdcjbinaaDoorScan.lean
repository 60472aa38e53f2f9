/- What a scan answers, and that nothing that was there has turned. -/
import Derived.Test.YtekbddpdcjbinaaDoorLoop
import Derived.Deep.RegionHeld3
namespace Go.Proofs.YtekbddpdcjbinaaDoor
open Go.RowKit Go.Shelf
attribute [local go_sem] Oper.semAt_some

set_option maxHeartbeats 400000 in
theorem words_any (s : ByteArray) (w : World) :
    Calls Tryd.prog 25 #[.string s] w fun e w' => e = .returned (.func (.func 34) #[] #[.pointer (some ⟨w.heap.size, 0, none⟩)]) ∧ w' = w.alloc (.cells #[.string s] 9) := by
  go_enter Tryd.func25, Tryd.ntmps25
  go_wp2
  go_ret
  exact ⟨rfl, rfl⟩

/-- What a scan leaves: v holds the words, fv the fault. -/
def ScanOut (s : ByteArray) (N : Nat) (v fv : Value) (W : World) : Prop :=
  W.ownsRow N 37 4 v (scanF s).1.length (rowOf (scanF s).1) ∧
  match (scanF s).2 with
  | none => fv = .pointer none
  | some f => ∃ Bf, fv = .pointer (some ⟨Bf, 0, none⟩) ∧ N ≤ Bf ∧ FaultAt W Bf f.1 f.2
def ScanPost (s : ByteArray) (w : World) : Ending → World → Prop := fun e w' => ∃ v fv, e = .returned (.tuple #[v, fv]) ∧ ScanOut s w.heap.size v fv w' ∧ Below w.heap.size w w'

/-- Between two rounds. -/
def ScanI (w : World) (pre : List (Tok × Int)) (W : World) : Prop := ∃ r, runF rd0 pre = (r, none) ∧ r.told.length ≤ 16384 ∧ r.opn.text.size ≤ 65536 ∧ ReaderIs W (w.heap.size + 8) (w.heap.size + 2) r ∧
  W.heap[w.heap.size]? = some (.cells #[.slice none 0 0] 24 (0, 0)) ∧ W.heap[w.heap.size + 1]? = some (.cells #[.pointer none] 25 (0, 0)) ∧ Below w.heap.size w W
/-- Where a round has ended the scan. -/
def ScanX (w : World) (pre : List (Tok × Int)) (W : World) : Prop := ∃ r f v Bf, runF rd0 pre = (r, some f) ∧ W.heap[w.heap.size]? = some (.cells #[v] 24 (0, 0)) ∧ W.heap[w.heap.size + 1]? = some (.cells #[.pointer (some ⟨Bf, 0, none⟩)] 25 (0, 0)) ∧
  W.ownsRow (w.heap.size + 8) 37 4 v r.told.length (rowOf r.told) ∧ w.heap.size + 8 ≤ Bf ∧ FaultAt W Bf f.1 f.2 ∧ Below w.heap.size w W

theorem owns_block {W W' : World} {base e size : Nat} {v : Value} {n : Nat} {xs : List Value} (h : W.ownsRow base e size v n xs) (hb : ∀ g, g < W.heap.size → base ≤ g → W'.heap[g]? = W.heap[g]?) : W'.ownsRow base e size v n xs := by
  refine ⟨h.1, ?_⟩
  rcases h.2 with h0 | ⟨g, cap, cur, hv, hg, hh, hr⟩
  · exact .inl h0
  · exact .inr ⟨g, cap, cur, hv, hg, (hb g (Array.getElem?_eq_some_iff.1 hh).1 hg).trans hh, hr⟩
theorem owns_mono {W : World} {base base' e size : Nat} {v : Value} {n : Nat} {xs : List Value} (h : W.ownsRow base e size v n xs) (hb : base' ≤ base) : W.ownsRow base' e size v n xs := by
  refine ⟨h.1, ?_⟩
  rcases h.2 with h0 | ⟨g, cap, cur, hv, hg, hr⟩
  · exact .inl h0
  · exact .inr ⟨g, cap, cur, hv, by omega, hr⟩
theorem below_aside {w A A' : World} {D : Nat} (h : Below w.heap.size w A) (ha : Aside D A A') (hD : w.heap.size ≤ D) : Below w.heap.size w A' :=
  h.trans ⟨ha.os, ha.tape, ha.output, ha.size, fun k hk => ha.block k (by have := h.size; omega) (.inl (by omega))⟩
theorem below_keeps {w A A' : World} {base R : Nat} (h : Below w.heap.size w A) (ha : Keeps base R A A') (hD : w.heap.size ≤ base) (hR : w.heap.size ≤ R) : Below w.heap.size w A' :=
  h.trans ⟨ha.os, ha.tape, ha.output, ha.size, fun k hk => ha.block k (by omega) (by omega)⟩

theorem scanI_aside (w : World) (pre : List (Tok × Int)) (A A' : World) (h : ScanI w pre A) (ha : Aside (w.heap.size + 4) A A') : ScanI w pre A' := by
  obtain ⟨r, h1, h2, h3, ⟨v, hRd, hown⟩, h5, h6, h7⟩ := h
  refine ⟨r, h1, h2, h3, ⟨v, (ha.block _ hRd.lt (.inl (by omega))).trans hRd, owns_block hown fun g hg hb => ha.block g hg (.inr (by omega))⟩, ?_, ?_, below_aside h7 ha (by omega)⟩
  · exact (ha.block _ (Array.getElem?_eq_some_iff.1 h5).1 (.inl (by omega))).trans h5
  · exact (ha.block _ (Array.getElem?_eq_some_iff.1 h6).1 (.inl (by omega))).trans h6
theorem scanX_aside (w : World) (pre : List (Tok × Int)) (A A' : World) (h : ScanX w pre A) (ha : Aside (w.heap.size + 4) A A') : ScanX w pre A' := by
  obtain ⟨r, f, v, Bf, h1, h2, h3, h4, h5, h6, h7⟩ := h
  refine ⟨r, f, v, Bf, h1, ?_, ?_, owns_block h4 fun g hg hb => ha.block g hg (.inr (by omega)), h5, ?_, below_aside h7 ha (by omega)⟩
  · exact (ha.block _ (Array.getElem?_eq_some_iff.1 h2).1 (.inl (by omega))).trans h2
  · exact (ha.block _ (Array.getElem?_eq_some_iff.1 h3).1 (.inl (by omega))).trans h3
  · exact (ha.block _ (Array.getElem?_eq_some_iff.1 h6).1 (.inr (by omega))).trans h6
theorem rd0_is (W : World) (base R : Nat) (h : W.heap[R]? = some (.cells #[.slice none 0 0, .string ⟨#[]⟩, .int .i64 0, .int .i64 0, .int .i64 0] 52 (0, 0))) : ReaderIs W base R rd0 :=
  ⟨.slice none 0 0, h, World.ownsRow_nil W base 37 4⟩

theorem runF_ok {pre : List (Tok × Int)} {r : Rd} {t : Tok} (h : runF rd0 pre = (r, none)) (hC : (takeF r t).1 = 0) : runF rd0 (pre ++ [(t, 0)]) = ((takeF r t).2, none) := by
  rw [runF_append, h]; simp [runF, hC]
theorem runF_bad {pre : List (Tok × Int)} {r : Rd} {t : Tok} (h : runF rd0 pre = (r, none)) (hC : ¬ (takeF r t).1 = 0) : runF rd0 (pre ++ [(t, 0)]) = ((takeF r t).2, some (t, (takeF r t).1)) := by
  rw [runF_append, h]; simp [runF, hC]
theorem runF_byte {pre : List (Tok × Int)} {r : Rd} {t : Tok} {c : Int} (h : runF rd0 pre = (r, none)) (hc : ¬ c = 0) : runF rd0 (pre ++ [(t, c)]) = (r, some (t, c)) := by
  rw [runF_append, h]; simp [runF, hc]
theorem scanF_stop (s : ByteArray) (pre : List (Tok × Int)) (r : Rd) (f : Tok × Int) (hp : pre <+: events s) (h : runF rd0 pre = (r, some f)) : scanF s = (r.told, some f) := by
  obtain ⟨t, ht⟩ := hp
  unfold scanF
  rw [← ht, runF_append, h]
theorem scanF_open (s : ByteArray) (r : Rd) (h : runF rd0 (events s) = (r, none)) (hc : inCmt r = true) : scanF s = (r.told, some (r.opn, 12)) := by
  unfold scanF; rw [h]; simp only [hc, if_true]
theorem scanF_good (s : ByteArray) (r : Rd) (h : runF rd0 (events s) = (r, none)) (hc : inCmt r = false) : scanF s = (r.told, none) := by
  unfold scanF; rw [h]; simp [hc]
theorem heap_put {W : World} {j k : Nat} {O O' : Obj} (h : W.heap[k]? = some O') (hne : k ≠ j) : (W.putObj j O).heap[k]? = some O' := (World.putObj_heap_other hne).trans h
theorem cell_of_heap {W : World} {b : Nat} {v : Value} {t : TypeId} (h : W.heap[b]? = some (.cells #[v] t (0, 0))) : W.cell? ⟨b, 0, none⟩ = some v := by simp [World.cell?, h]
theorem free_of_heap {W : World} {b : Nat} {v : Value} {t : TypeId} (h : W.heap[b]? = some (.cells #[v] t (0, 0))) : W.frozen? ⟨b, 0, none⟩ = false := by simp [World.frozen?, h]
theorem below_put {w W : World} {j : Nat} {O : Obj} (h : Below w.heap.size w W) (hj : w.heap.size ≤ j) : Below w.heap.size w (W.putObj j O) :=
  h.trans ⟨rfl, rfl, rfl, by simp, fun k hk => World.putObj_heap_other (by omega)⟩
theorem two_stores {W : World} {N : Nat} {v0 f0 : Value} (v fv : Value) (h5 : W.heap[N]? = some (.cells #[v0] 24 (0, 0))) (h6 : W.heap[N + 1]? = some (.cells #[f0] 25 (0, 0))) :
    ((W.setCell ⟨N, 0, none⟩ v).setCell ⟨N + 1, 0, none⟩ fv).heap[N]? = some (.cells #[v] 24 (0, 0)) ∧ ((W.setCell ⟨N, 0, none⟩ v).setCell ⟨N + 1, 0, none⟩ fv).heap[N + 1]? = some (.cells #[fv] 25 (0, 0)) ∧
    (∀ k, k ≠ N → k ≠ N + 1 → ((W.setCell ⟨N, 0, none⟩ v).setCell ⟨N + 1, 0, none⟩ fv).heap[k]? = W.heap[k]?) ∧ ((W.setCell ⟨N, 0, none⟩ v).setCell ⟨N + 1, 0, none⟩ fv).heap.size = W.heap.size := by
  refine ⟨?_, ?_, fun k h1 h2 => ?_, by simp [World.setCell]⟩
  · rw [Below.heap_setCell _ _ _ N (by simp)]; exact heap_set_same h5
  · exact heap_set_same ((Below.heap_setCell _ _ _ (N + 1) (by simp)).trans h6)
  · rw [Below.heap_setCell _ _ _ k (by simpa using h2), Below.heap_setCell _ _ _ k (by simpa using h1)]
theorem below_stores {w W : World} (v fv : Value) (h : Below w.heap.size w W) : Below w.heap.size w ((W.setCell ⟨w.heap.size, 0, none⟩ v).setCell ⟨w.heap.size + 1, 0, none⟩ fv) :=
  (h.setCell (Nat.le_refl _) _).setCell (by simp) _
theorem after_fault {N : Nat} {W w2 : World} {v0 f0 u0 : Value} (hbel : Below W.drew.heap.size W.drew w2) (hlt : N + 2 < W.heap.size) (c0 : W.cell? ⟨N, 0, none⟩ = some v0) (z0 : W.frozen? ⟨N, 0, none⟩ = false) (c1 : W.cell? ⟨N + 1, 0, none⟩ = some f0) (z1 : W.frozen? ⟨N + 1, 0, none⟩ = false) (r0 : W.cell? ⟨N + 2, 0, none⟩ = some u0) :
    w2.cell? ⟨N, 0, none⟩ = some v0 ∧ w2.frozen? ⟨N, 0, none⟩ = false ∧ w2.cell? ⟨N + 1, 0, none⟩ = some f0 ∧ w2.frozen? ⟨N + 1, 0, none⟩ = false ∧ w2.cell? ⟨N + 2, 0, none⟩ = some u0 := by
  have hz : W.drew.heap.size = W.heap.size := rfl
  exact ⟨(hbel.cell (p := ⟨N, 0, none⟩) (by simp only [hz]; omega)).trans c0, (hbel.frozen (p := ⟨N, 0, none⟩) (by simp only [hz]; omega)).trans z0, (hbel.cell (p := ⟨N + 1, 0, none⟩) (by simp only [hz]; omega)).trans c1, (hbel.frozen (p := ⟨N + 1, 0, none⟩) (by simp only [hz]; omega)).trans z1, (hbel.cell (p := ⟨N + 2, 0, none⟩) (by simp only [hz]; omega)).trans r0⟩
/-- What the caller of a scan gets where it ended with a fault. -/
theorem scanPost_fault {s : ByteArray} {w W : World} {told : List Tok} {f : Tok × Int} {v : Value} {Bf : Nat} (hF : scanF s = (told, some f)) (hown : W.ownsRow (w.heap.size + 8) 37 4 v told.length (rowOf told)) (hB : w.heap.size ≤ Bf) (hf : FaultAt W Bf f.1 f.2) (hb : Below w.heap.size w W) :
    ScanPost s w (.returned (.tuple #[v, .pointer (some ⟨Bf, 0, none⟩)])) W :=
  ⟨_, _, rfl, by unfold ScanOut; rw [hF]; exact ⟨owns_mono hown (by omega), Bf, rfl, hB, hf⟩, hb⟩
theorem scanPost_good {s : ByteArray} {w W : World} {told : List Tok} {v : Value} (hF : scanF s = (told, none)) (hown : W.ownsRow (w.heap.size + 8) 37 4 v told.length (rowOf told)) (hb : Below w.heap.size w W) :
    ScanPost s w (.returned (.tuple #[v, .pointer none])) W :=
  ⟨_, _, rfl, by unfold ScanOut; rw [hF]; exact ⟨owns_mono hown (by omega), rfl⟩, hb⟩

/-- A round that has ended the scan. -/
theorem fault_done {w X w2 W2 : World} {pre : List (Tok × Int)} {r : Rd} {f : Tok × Int} {v v0 f0 : Value} {Bf : Nat} (hrun : runF rd0 pre = (r, some f)) (hown : X.ownsRow (w.heap.size + 8) 37 4 v r.told.length (rowOf r.told))
    (h5 : X.heap[w.heap.size]? = some (.cells #[v0] 24 (0, 0))) (h6 : X.heap[w.heap.size + 1]? = some (.cells #[f0] 25 (0, 0))) (h7 : Below w.heap.size w X) (hz : w.heap.size + 8 ≤ X.heap.size)
    (hbel : Below X.drew.heap.size X.drew w2) (hBf : X.drew.heap.size ≤ Bf) (hFa : FaultAt w2 Bf f.1 f.2) (hd : X.heap[w.heap.size + 4]? = W2.heap[w.heap.size + 4]?) (hl : X.heap[w.heap.size + 4 + 1]? = W2.heap[w.heap.size + 4 + 1]?) :
    ((w2.setCell ⟨w.heap.size, 0, none⟩ v).setCell ⟨w.heap.size + 1, 0, none⟩ (.pointer (some ⟨Bf, 0, none⟩))).heap[w.heap.size + 4 + 1]? = W2.heap[w.heap.size + 4 + 1]? ∧
    ((w2.setCell ⟨w.heap.size, 0, none⟩ v).setCell ⟨w.heap.size + 1, 0, none⟩ (.pointer (some ⟨Bf, 0, none⟩))).heap[w.heap.size + 4]? = W2.heap[w.heap.size + 4]? ∧
    ScanX w pre ((w2.setCell ⟨w.heap.size, 0, none⟩ v).setCell ⟨w.heap.size + 1, 0, none⟩ (.pointer (some ⟨Bf, 0, none⟩))) := by
  have hb : ∀ k, k < X.heap.size → w2.heap[k]? = X.heap[k]? := fun k hk => hbel.block k hk
  have hBf' : X.heap.size ≤ Bf := hBf
  obtain ⟨g0, g1, g2, g3⟩ := two_stores v (.pointer (some ⟨Bf, 0, none⟩)) ((hb _ (by omega)).trans h5) ((hb _ (by omega)).trans h6)
  refine ⟨(g2 _ (by omega) (by omega)).trans ((hb _ (by omega)).trans hl), (g2 _ (by omega) (by omega)).trans ((hb _ (by omega)).trans hd), r, f, v, Bf, hrun, g0, g1, ?_, by omega, (g2 Bf (by omega) (by omega)).trans hFa, below_stores _ _ (h7.trans ⟨hbel.os, hbel.tape, hbel.output, hbel.size, fun k hk => hb k (by omega)⟩)⟩
  exact owns_block hown fun g hg hb' => (g2 g (by omega) (by omega)).trans (hb g hg)

set_option maxRecDepth 100000 in
set_option maxHeartbeats 8000000 in
theorem scan_in (s : ByteArray) (w : World) (m : Int) (hs : s.size ≤ 281474976710656) (hKB : KB w) (hm : w.cell? ⟨1, 0, none⟩ = some (.int .i64 m)) :
    CallsIn Fence.wide 6 Tryd.prog 10 #[.string s] w (ScanPost s w) := by
  have lift : ∀ {m f : Nat} {args : Array Value} {w : World} {Q : Ending → World → Prop}, Calls Tryd.prog f args w Q → CallsIn Fence.wide m Tryd.prog f args w Q := fun h => callsIn_wide.2 h
  replace lift := show Hid _ from @lift
  have f25 : Fence.wide.fn 25 := trivial
  have f26 : Fence.wide.fn 26 := trivial
  have f27 : Fence.wide.fn 27 := trivial
  have f28 : Fence.wide.fn 28 := trivial
  have f34 : Fence.wide.fn 34 := trivial
  have hw1 : 1 < w.heap.size := World.block_lt_of_cell? _ _ hm
  refine callsIn_of_wp_marks Tryd.func10 rfl trivial ?_ rfl
  simp only [Tryd.ntmps10, List.size_toArray, List.length_cons, List.length_nil, Nat.reduceAdd, Nat.reduceSub, Array.replicate_succ, Array.replicate_zero, List.push_toArray, List.append_toArray, List.nil_append, List.cons_append]
  gi_wp2_with fail
  refine (lift.out (words_any s _)).mono ?_
  rintro e w' ⟨rfl, hw⟩
  subst hw
  gi_wp2_with fail
  obtain ⟨W0, hW0⟩ : ∃ W0, W0 = (((w.alloc (.cells #[.slice none 0 0] 24)).alloc (.cells #[.pointer none] 25)).alloc (.cells #[.slice none 0 0, .string ⟨#[]⟩, .int .i64 0, .int .i64 0, .int .i64 0] 52)).alloc (.cells #[.string s] 9) := ⟨_, rfl⟩
  have hs0 : W0.heap.size = w.heap.size + 4 := by rw [hW0]; simp
  have k0 : W0.heap[w.heap.size]? = some (.cells #[.slice none 0 0] 24 (0, 0)) := by
    rw [hW0]; exact (Below.heap_alloc _ _ _ (by simp; omega)).trans ((Below.heap_alloc _ _ _ (by simp; omega)).trans ((Below.heap_alloc _ _ _ (by simp)).trans (heap_new w _)))
  have k1 : W0.heap[w.heap.size + 1]? = some (.cells #[.pointer none] 25 (0, 0)) := by
    have := heap_new (w.alloc (.cells #[.slice none 0 0] 24)) (.cells #[.pointer none] 25)
    rw [World.size_alloc] at this
    rw [hW0]; exact (Below.heap_alloc _ _ _ (by simp)).trans ((Below.heap_alloc _ _ _ (by simp)).trans this)
  have k2 : W0.heap[w.heap.size + 2]? = some (.cells #[.slice none 0 0, .string ⟨#[]⟩, .int .i64 0, .int .i64 0, .int .i64 0] 52 (0, 0)) := by
    have := heap_new ((w.alloc (.cells #[.slice none 0 0] 24)).alloc (.cells #[.pointer none] 25)) (.cells #[.slice none 0 0, .string ⟨#[]⟩, .int .i64 0, .int .i64 0, .int .i64 0] 52)
    simp only [World.size_alloc] at this
    rw [hW0]; exact (Below.heap_alloc _ _ _ (by simp)).trans this
  have k3 : Boxed W0 (w.heap.size + 3) 9 (.string s) := by
    have := heap_new (((w.alloc (.cells #[.slice none 0 0] 24)).alloc (.cells #[.pointer none] 25)).alloc (.cells #[.slice none 0 0, .string ⟨#[]⟩, .int .i64 0, .int .i64 0, .int .i64 0] 52)) (.cells #[.string s] 9)
    simp only [World.size_alloc] at this
    rw [hW0]; exact this
  have hb0 : Below w.heap.size w W0 := by rw [hW0]; exact ((((Below.refl _ w).alloc (Nat.le_refl _) _).alloc (by simp) _).alloc (by simp; omega) _).alloc (by simp; omega) _
  rw [← hW0]
  clear hW0
  refine wpIn_words (by omega) s (w.heap.size + 3) (w.heap.size + 2) (w.heap.size + 4) hs0 rfl rfl (by omega) (by omega) (by omega) (by omega) (by omega) hs k3 (hKB.keep (hb0.block 0 (by omega))) (ScanI w) (ScanX w) (scanI_aside w) (scanX_aside w)
    ⟨rd0, rfl, by decide, by decide, rd0_is W0 _ _ k2, k0, k1, hb0⟩ ?round ?done ?stop
  case done =>
    rintro W ⟨r, h1, h2, h3, ⟨v, hRd, hown⟩, h5, h6, h7⟩ hd
    have IC := inComment_any (w.heap.size + 2) v r.opn W hRd
    obtain ⟨va, vc, hv, hvg⟩ := slice_form hown
    have c0 := cell_of_heap h5
    have z0 := free_of_heap h5
    have c1 := cell_of_heap h6
    have z1 := free_of_heap h6
    have rc := hRd.cells
    subst hv
    obtain ⟨r0, r1, r2, r3, r4⟩ := rc
    cases hc : inCmt r with
    | true =>
      have hF := scanF_open s r h1 hc
      have hc' : (!r.opn.text.toList.isEmpty) = true := hc
      rw [hc'] at IC
      replace IC := show Hid _ from IC
      have FA := fun wx => faultAt_any r.opn 12 wx h3
      unfold tokV at FA
      replace FA := show Hid _ from FA
      have hmx : Tryd.prog.follows .mixedOrders = true := by kernel_rfl
      have hlt := hRd.lt
      clear hc hc' h1
      gi_wp2_with fail
      refine (lift.out IC.out).mono ?_
      rintro e w' ⟨rfl, hw⟩
      have hw' := hw.symm
      subst hw'
      gi_wp2_with fail
      refine wpIn_mono ?_ NoPanic.imp
      refine wpIn_region_any (by assumption) ?_
      change wpAnyIn _ _ _ _ _ _ _ _ _ (World.drew _)
      refine wpAnyIn_take (i := 0) (v := .pointer (some ⟨w.heap.size + 1 + 1, 0, none⟩)) rfl rfl (by kernel_rfl) (by kernel_rfl) (by kernel_rfl) (fun _ _ _ h => h) ⟨Or.inl ⟨by kernel_rfl, fun w => by kernel_rfl⟩, fun _ => by kernel_rfl⟩ ?_
      refine wpAnyIn_take (i := 2) (v := .pointer (some ⟨w.heap.size + 1 + 1, 1, none⟩)) rfl rfl (by kernel_rfl) (by kernel_rfl) (by kernel_rfl) (fun _ _ _ h => h) ⟨Or.inl ⟨by kernel_rfl, fun w => by go_simp⟩, fun _ => by kernel_rfl⟩ ?_
      refine wpAnyIn_ready (rs := [1, 3]) (by kernel_rfl) (by simp) ?_
      refine AllReadyIn.cons rfl (fun K hK => ?_) (AllReadyIn.cons rfl (fun K hK => ?_) AllReadyIn.nil)
      case' refine_1 =>
        go_simp
        refine hK _ _ ?_
        clear hK K
        refine wpAnyIn_ready (rs := [3]) (by kernel_rfl) (by simp) ?_
        refine AllReadyIn.cons rfl (fun K hK => ?_) AllReadyIn.nil
        go_simp
        refine hK _ _ ?_
        clear hK K
        refine wpAnyIn_ready (rs := [4]) (by kernel_rfl) (by simp) ?_
        refine AllReadyIn.cons rfl (fun K hK => ?_) AllReadyIn.nil
        go_simp
        refine (lift.out (FA.out _)).mono ?_
        rintro e w2 ⟨Bf, rfl, hBf, hFa, hbel⟩
        obtain ⟨c0b, z0b, c1b, z1b, r0b⟩ := after_fault hbel hlt c0 z0 c1 z1 r0
        go_simp
        refine hK _ _ ?_
        clear hK K
      case' refine_2 =>
        go_simp
        refine hK _ _ ?_
        clear hK K
        refine wpAnyIn_ready (rs := [1, 4]) (by kernel_rfl) (by simp) ?_
        refine AllReadyIn.cons rfl (fun K hK => ?_) (AllReadyIn.cons rfl (fun K hK => ?_) AllReadyIn.nil)
      case' refine_2.refine_1 =>
        go_simp
        refine hK _ _ ?_
        clear hK K
        refine wpAnyIn_ready (rs := [4]) (by kernel_rfl) (by simp) ?_
        refine AllReadyIn.cons rfl (fun K hK => ?_) AllReadyIn.nil
        go_simp
        refine (lift.out (FA.out _)).mono ?_
        rintro e w2 ⟨Bf, rfl, hBf, hFa, hbel⟩
        obtain ⟨c0b, z0b, c1b, z1b, r0b⟩ := after_fault hbel hlt c0 z0 c1 z1 r0
        go_simp
        refine hK _ _ ?_
        clear hK K
      case' refine_2.refine_2 =>
        go_simp
        refine (lift.out (FA.out _)).mono ?_
        rintro e w2 ⟨Bf, rfl, hBf, hFa, hbel⟩
        obtain ⟨c0b, z0b, c1b, z1b, r0b⟩ := after_fault hbel hlt c0 z0 c1 z1 r0
        go_simp
        refine hK _ _ ?_
        clear hK K
        refine wpAnyIn_ready (rs := [1]) (by kernel_rfl) (by simp) ?_
        refine AllReadyIn.cons rfl (fun K hK => ?_) AllReadyIn.nil
        go_simp
        refine hK _ _ ?_
        clear hK K
      all_goals
        refine wpAnyIn_ready (rs := [5]) (by kernel_rfl) (by simp) ?_
        refine AllReadyIn.cons rfl (fun K hK => ?_) AllReadyIn.nil
        go_simp
        refine hK _ _ ?_
        clear hK K
        refine wpAnyIn_ready (rs := [6]) (by kernel_rfl) (by simp) ?_
        refine AllReadyIn.cons rfl (fun K hK => ?_) AllReadyIn.nil
        go_simp
        refine hK _ _ ?_
        clear hK K
        refine wpAnyIn_done (by kernel_rfl) ?_ _
        refine NoPanic.normal ?_
        have hdl := (Array.getElem?_eq_some_iff.1 hd).1
        have hz2 : W.heap.size ≤ w2.heap.size := hbel.size
        have hBf' : W.heap.size ≤ Bf := hBf
        have e5 := (hbel.block w.heap.size (by show _ < W.heap.size; omega)).trans h5
        have e6 := (hbel.block (w.heap.size + 1) (by show _ < W.heap.size; omega)).trans h6
        have ed := (hbel.block (w.heap.size + 4) (by show _ < W.heap.size; omega)).trans hd
        obtain ⟨g0, g1, g2, g3⟩ := two_stores (.slice va r.told.length vc) (.pointer (some ⟨Bf, 0, none⟩)) e5 e6
        have q0 := cell_of_heap (heap_put (O := .deferred none) (j := w.heap.size + 4) g0 (by omega))
        have q1 := cell_of_heap (heap_put (O := .deferred none) (j := w.heap.size + 4) g1 (by omega))
        have hd2 := (g2 (w.heap.size + 4) (by omega) (by omega)).trans ed
        have hb2 : Below w.heap.size w w2 := h7.trans (show Below w.heap.size W w2 from ⟨hbel.os, hbel.tape, hbel.output, hbel.size, fun k hk => hbel.block k (by show _ < W.heap.size; omega)⟩)
        have hfin : ScanPost s w (.returned (.tuple #[.slice va r.told.length vc, .pointer (some ⟨Bf, 0, none⟩)])) (((w2.setCell ⟨w.heap.size, 0, none⟩ (.slice va r.told.length vc)).setCell ⟨w.heap.size + 1, 0, none⟩ (.pointer (some ⟨Bf, 0, none⟩))).putObj (w.heap.size + 4) (.deferred none)) :=
          scanPost_fault hF (owns_block hown fun g hg hb => (World.putObj_heap_other (by omega)).trans ((g2 g (by omega) (by omega)).trans (hbel.block g hg))) (by omega) (((World.putObj_heap_other (by omega)).trans (g2 Bf (by omega) (by omega))).trans hFa) (below_put (below_stores _ _ hb2) (by omega))
        replace hfin := show Hid _ from hfin
        clear g0 g1 g2 g3 e5 e6 ed hb2
        gi_wp2
        refine ⟨by simp, .inl ⟨_, _, rfl, run_takeDeferred hd2, ?_⟩⟩
        refine ⟨.tuple #[.slice va r.told.length vc, .pointer (some ⟨Bf, 0, none⟩)], ?_, hfin.out⟩
        simp [results, Tryd.results10, go_sem, q0, q1]
    | false =>
      have hF := scanF_good s r h1 hc
      have hc' : (!r.opn.text.toList.isEmpty) = false := hc
      rw [hc'] at IC
      replace IC := show Hid _ from IC
      clear hc hc' h1
      gi_wp2_with fail
      refine (lift.out IC.out).mono ?_
      rintro e w' ⟨rfl, hw⟩
      have hw' := hw.symm
      subst hw'
      obtain ⟨g0, g1, g2, g3⟩ := two_stores (.slice va r.told.length vc) (.pointer none) h5 h6
      have q0 := cell_of_heap (heap_put (O := .deferred none) (j := w.heap.size + 4) g0 (by omega))
      have q1 := cell_of_heap (heap_put (O := .deferred none) (j := w.heap.size + 4) g1 (by omega))
      have hd2 := (g2 (w.heap.size + 4) (by omega) (by omega)).trans hd
      have hfin : ScanPost s w (.returned (.tuple #[.slice va r.told.length vc, .pointer none])) (((W.setCell ⟨w.heap.size, 0, none⟩ (.slice va r.told.length vc)).setCell ⟨w.heap.size + 1, 0, none⟩ (.pointer none)).putObj (w.heap.size + 4) (.deferred none)) :=
        scanPost_good hF (owns_block hown fun g _ hb => (World.putObj_heap_other (by omega)).trans (g2 g (by omega) (by omega))) (below_put (below_stores _ _ h7) (by omega))
      replace hfin := show Hid _ from hfin
      clear g0 g1 g2 g3
      gi_wp2
      refine ⟨by simp, .inl ⟨_, _, rfl, run_takeDeferred hd2, ?_⟩⟩
      refine ⟨.tuple #[.slice va r.told.length vc, .pointer none], ?_, hfin.out⟩
      simp [results, Tryd.results10, go_sem, q0, q1]
  case stop =>
    rintro pre W hpre ⟨r, f, v, Bf, h1, h2, h3, h4, h5, h6, h7⟩ hd
    have hF := scanF_stop s pre r f hpre h1
    have q2 := heap_put (O := .deferred none) (j := w.heap.size + 4) h2 (by omega)
    have q3 := heap_put (O := .deferred none) (j := w.heap.size + 4) h3 (by omega)
    have q6 := heap_put (O := .deferred none) (j := w.heap.size + 4) h6 (by omega)
    have q4 : (W.putObj (w.heap.size + 4) (.deferred none)).ownsRow (w.heap.size + 8) 37 4 v r.told.length (rowOf r.told) := owns_block h4 fun g _ hb => World.putObj_heap_other (by omega)
    obtain ⟨va, vc, hv, _⟩ := slice_form h4
    have c2 := cell_of_heap q2
    have c3 := cell_of_heap q3
    have hfin := scanPost_fault hF q4 (by omega) q6 (below_put h7 (by omega))
    replace hfin := show Hid _ from hfin
    rw [hv] at c2 hfin
    clear h1 h2 h3 h4 h5 h6 h7 q2 q3 q4 q6 hv hF hpre
    gi_wp2
    refine ⟨by simp, .inl ⟨_, _, rfl, run_takeDeferred hd, ?_⟩⟩
    refine ⟨.tuple #[.slice va r.told.length vc, .pointer (some ⟨Bf, 0, none⟩)], ?_, hfin.out⟩
    simp [results, Tryd.results10, go_sem, c2, c3]
  case round =>
    rintro pre ⟨t, c⟩ W hi hx hsz
    have g26 : (Fence.wide.inRound (w.heap.size + 4 + 1)).fn 26 := trivial
    have g27 : (Fence.wide.inRound (w.heap.size + 4 + 1)).fn 27 := trivial
    have hmx : Tryd.prog.follows .mixedOrders = true := by kernel_rfl
    dsimp only at hx
    unfold tokV
    gi_wp2
    refine ⟨Keeps.alloc (by omega) _, fun O => ?_⟩
    have hi2 := scanI_aside w pre _ _ (scanI_aside w pre _ _ hi (Aside.alloc (w.heap.size + 4) W (.cells #[.string t.text, .int .i64 t.off, .int .i64 t.line, .int .i64 t.col] 37))) (Aside.put (w.heap.size + 4) _ (w.heap.size + 4 + 1) O (by omega) (by omega))
    have bx := heap_put (O := O) (j := w.heap.size + 4 + 1) (heap_new W (.cells #[.string t.text, .int .i64 t.off, .int .i64 t.line, .int .i64 t.col] 37)) (by omega)
    have hz2 : ((W.alloc (.cells #[.string t.text, .int .i64 t.off, .int .i64 t.line, .int .i64 t.col] 37)).putObj (w.heap.size + 4 + 1) O).heap.size = W.heap.size + 1 := by simp
    obtain ⟨W2, hW2⟩ : ∃ W2, W2 = (W.alloc (.cells #[.string t.text, .int .i64 t.off, .int .i64 t.line, .int .i64 t.col] 37)).putObj (w.heap.size + 4 + 1) O := ⟨_, rfl⟩
    rw [← hW2] at hi2 bx hz2 ⊢
    obtain ⟨Bx, hBx⟩ : ∃ Bx, Bx = W.heap.size := ⟨_, rfl⟩
    rw [← hBx] at bx hz2 hsz ⊢
    clear hW2 hi hBx
    obtain ⟨r, h1, h2, h3, hRI, h5, h6, h7⟩ := hi2
    have b0 : W2.cell? ⟨Bx, 0, none⟩ = some (.string t.text) := by simp [World.cell?, bx]
    have b1 : W2.cell? ⟨Bx, 1, none⟩ = some (.int .i64 t.off) := by simp [World.cell?, bx]
    have b2 : W2.cell? ⟨Bx, 2, none⟩ = some (.int .i64 t.line) := by simp [World.cell?, bx]
    have b3 : W2.cell? ⟨Bx, 3, none⟩ = some (.int .i64 t.col) := by simp [World.cell?, bx]
    by_cases hc : c = 0
    · subst hc
      have hm2 : W2.cell? ⟨1, 0, none⟩ = some (.int .i64 m) := (h7.cell (p := ⟨1, 0, none⟩) hw1).trans hm
      have TK := take_any (w.heap.size + 2) (w.heap.size + 8) r t m W2 hRI (by omega) (by omega) hx hm2 h2
      unfold tokV at TK
      replace TK := show Hid _ from TK
      gi_wp2_with fail
      refine (CallsIn.inRound _ (lift.out TK.out)).mono ?_
      rintro e w3 ⟨rfl, hR3, hk3, hg3'⟩
      by_cases hC : (takeF r t).1 = 0
      · rw [hC]
        gi_wp2
        exact ⟨hk3, (takeF r t).2, runF_ok h1 hC, takeF_len r t h2, takeF_opn r t h3 hx, hR3, (hk3.block _ (by omega) (by omega)).trans h5, (hk3.block _ (by omega) (by omega)).trans h6, below_keeps h7 hk3 (by omega) (by omega)⟩
      · have hg3 := hg3' hC
        have q5 := (hk3.block w.heap.size (by omega) (by omega)).trans h5
        have q6 := (hk3.block (w.heap.size + 1) (by omega) (by omega)).trans h6
        have q7 := below_keeps h7 hk3 (by omega) (by omega)
        have hBx := (hg3.block Bx (by omega) (by intro e; cases e; omega)).trans bx
        have d0 : w3.cell? ⟨Bx, 0, none⟩ = some (.string t.text) := by simp [World.cell?, hBx]
        have d1 : w3.cell? ⟨Bx, 1, none⟩ = some (.int .i64 t.off) := by simp [World.cell?, hBx]
        have d2 : w3.cell? ⟨Bx, 2, none⟩ = some (.int .i64 t.line) := by simp [World.cell?, hBx]
        have d3 : w3.cell? ⟨Bx, 3, none⟩ = some (.int .i64 t.col) := by simp [World.cell?, hBx]
        have hrun := runF_bad h1 hC
        obtain ⟨v, hRd, hown⟩ := hR3
        obtain ⟨va, vc, hv, _⟩ := slice_form hown
        subst hv
        obtain ⟨C, hCC⟩ : ∃ C, C = (takeF r t).1 := ⟨_, rfl⟩
        obtain ⟨L, hLL⟩ : ∃ L, L = (takeF r t).2.told.length := ⟨_, rfl⟩
        have r0 := hRd.cells.1
        have hlt := hRd.lt
        have c0 := cell_of_heap q5
        have z0 := free_of_heap q5
        have c1 := cell_of_heap q6
        have z1 := free_of_heap q6
        have e1 := hk3.block (w.heap.size + 4) (by omega) (by omega)
        have e2 := hk3.block (w.heap.size + 4 + 1) (by omega) (by omega)
        have hz3 : w.heap.size + 8 ≤ w3.heap.size := by have := hk3.size; omega
        have fin := fun w2 Bf hbel hBf hFa => fault_done (w := w) (X := w3) (w2 := w2) (W2 := W2) (Bf := Bf) hrun hown q5 q6 q7 hz3 hbel hBf hFa e1 e2
        rw [← hCC] at hC fin ⊢
        rw [← hLL] at r0 fin
        have hC1 : (C != 0) = true := by simpa using hC
        have FA := fun wx => faultAt_any t C wx hx
        unfold tokV at FA
        replace FA := show Hid _ from FA
        replace fin := show Hid _ from fin
        clear hrun hCC hLL hg3 hg3' hBx hC hown hRd bx h1 h2 h3 h5 h6 h7 TK q5 q6 q7 e1 e2 b0 b1 b2 b3 hk3 hRI hm2
        gi_wp2_with fail
        gi_region_with_o (gi_at_call 27; refine (CallsIn.inRound _ (lift.out (FA.out _))).mono ?_; rintro e w2 ⟨Bf, rfl, hBf, hFa, hbel⟩; obtain ⟨c0b, z0b, c1b, z1b, r0b⟩ := after_fault hbel hlt c0 z0 c1 z1 r0)
        all_goals gi_wp2
        all_goals exact fin.out w2 Bf hbel hBf hFa
    · have hc1 : (c != 0) = true := by simpa using hc
      have hc2 : (c == 0) = false := by simpa using hc
      have hrun := runF_byte (t := t) h1 hc
      obtain ⟨v, hRd, hown⟩ := hRI
      obtain ⟨va, vc, hv, _⟩ := slice_form hown
      subst hv
      obtain ⟨L, hLL⟩ : ∃ L, L = r.told.length := ⟨_, rfl⟩
      have r0 := hRd.cells.1
      have hlt := hRd.lt
      have c0 := cell_of_heap h5
      have z0 := free_of_heap h5
      have c1 := cell_of_heap h6
      have z1 := free_of_heap h6
      have hz3 : w.heap.size + 8 ≤ W2.heap.size := by omega
      have fin := fun w2 Bf hbel hBf hFa => fault_done (w := w) (X := W2) (w2 := w2) (W2 := W2) (Bf := Bf) hrun hown h5 h6 h7 hz3 hbel hBf hFa rfl rfl
      rw [← hLL] at r0 fin
      have FA := fun wx => faultAt_any t c wx hx
      unfold tokV at FA
      replace FA := show Hid _ from FA
      replace fin := show Hid _ from fin
      clear hrun hLL hc hown hRd bx h1 h2 h3 h5 h6 h7
      gi_wp2_with fail
      gi_region_with_o (gi_at_call 27; refine (CallsIn.inRound _ (lift.out (FA.out _))).mono ?_; rintro e w2 ⟨Bf, rfl, hBf, hFa, hbel⟩; obtain ⟨c0b, z0b, c1b, z1b, r0b⟩ := after_fault hbel hlt c0 z0 c1 z1 r0)
      all_goals gi_wp2
      all_goals exact fin.out w2 Bf hbel hBf hFa
end Go.Proofs.YtekbddpdcjbinaaDoor
