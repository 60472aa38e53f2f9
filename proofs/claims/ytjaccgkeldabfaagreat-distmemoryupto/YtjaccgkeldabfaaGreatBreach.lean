/- Breach: the first of the pairs that a substitution breaks, where some pairs are had. -/
import Derived.Test.YtjaccgkeldabfaaGreatFirstB
import Derived.Test.YtjaccgkeldabfaaGreatCarry
namespace Go.Proofs.YtjaccgkeldabfaaGreat
open Go.RowKit

/-- Whether a pair is had. -/
def hadF (h : List Pr) (q : Pr) : Bool := decide (q.1 < q.2) && h.any fun r => decide (turnP r = q)
theorem had_iff {h : List Pr} {q : Pr} : hadF h q = true ↔ inN h q := by
  unfold hadF inN
  rw [Bool.and_eq_true, decide_eq_true_iff, List.any_eq_true]
  constructor
  · rintro ⟨h1, r, hr, e⟩
    exact ⟨h1, r, hr, of_decide_eq_true e⟩
  · rintro ⟨h1, r, hr, e⟩
    exact ⟨h1, r, hr, decide_eq_true e⟩
/-- A pair is broken where some are had. -/
def badH (bl : List (Int × List Int)) (p : Int → Bool) (h : List Pr) (q : Pr) : Bool := !eachB (hadF h) (vL bl p q.1) (vL bl p q.2)
theorem each_ext {f g : Pr → Bool} {l l' : List Int} (hw : ∀ x ∈ l, wfI x) (hw' : ∀ x ∈ l', wfI x) (h : ∀ q, wfP q → f q = g q) : eachB f l l' = eachB g l l' := by
  rw [Bool.eq_iff_iff, each_iff, each_iff]
  constructor
  · intro hf x hx y hy
    rw [← h _ (wf_turn ⟨hw x hx, hw' y hy⟩)]
    exact hf x hx y hy
  · intro hf x hx y hy
    rw [h _ (wf_turn ⟨hw x hx, hw' y hy⟩)]
    exact hf x hx y hy
theorem find_ext {l : List Pr} {f g : Pr → Bool} (h : ∀ q ∈ l, f q = g q) : l.find? f = l.find? g := by
  induction l with
  | nil => rfl
  | cons a l ih =>
    rw [List.find?_cons, List.find?_cons, h a (by simp), ih fun q hq => h q (by simp [hq])]
/-- What Breach answers. -/
def BreachIs (w w' : World) (e : Ending) (bl : List (Int × List Int)) (p : Int → Bool) (l hv : List Pr) : Prop :=
  e = .returned (.tuple #[encP ((l.find? (badH bl p hv)).getD (0, 0)), .bool (l.find? (badH bl p hv)).isSome]) ∧ Below w.heap.size w w'

set_option maxRecDepth 100000 in
set_option maxHeartbeats 8000000 in
theorem breach_any (w : World) (aL : Option Addr) (nL cL : Nat) (l : List Pr) (aS : Option Addr) (nS cS : Nat) (bl : List (Int × List Int)) (sl ss sh : Value) (m r : Int) (aH : Option Addr) (nH cH : Nat) (hv : List Pr) (hn : nS ≤ 4398046511000) (hbig : ∀ q ∈ bl, q.2.length ≤ 17592186043904) (hwb : ∀ q ∈ bl, ∀ x ∈ q.2, wfI x) (hm : wfI m) (hl : l.length = nL) (hnL : nL ≤ 2199023255000) (hwl : ∀ p ∈ l, wfP p) (hS : S.BindsAt w aS nS bl) (hL : PairsAt w aL l) (hlH : hv.length = nH) (hnH : nH ≤ 4398046511000) (hwH : ∀ p ∈ hv, wfP p) (hH : PairsAt w aH hv) :
    Calls Tryz.prog 11 #[.slice aL nL cL, .agg #[.slice aS nS cS], fnV (carried sl ss sh m r), .slice aH nH cH] w fun e w' => BreachIs w w' e bl (isV m r) l hv := by
  unfold BreachIs
  obtain ⟨KL, hKL⟩ : ∃ KL : List Int, KL = l.map (·.1) ++ l.map (·.2) := ⟨_, rfl⟩
  obtain ⟨kk, hkk⟩ : ∃ kk, kk = KL.length := ⟨_, rfl⟩
  have hkb : kk ≤ 4398046511000 := by rw [hkk, hKL]; simp; omega
  have hK : ∀ q ∈ l, q.1 ∈ KL ∧ q.2 ∈ KL := fun q hq => by
    rw [hKL]
    exact ⟨List.mem_append_left _ (List.mem_map.2 ⟨q, hq, rfl⟩), List.mem_append_right _ (List.mem_map.2 ⟨q, hq, rfl⟩)⟩
  have FIRST : Hid (∀ (W : World) (b Bh bh nh : Nat) (fs : Pr → Bool), S.BindsAt W aS nS bl → Rd W b kk bl (isV m r) KL → PairsAt W aL l → PSet W bh nh fs → W.cell? ⟨Bh, 0, none⟩ = some (.map (some bh)) → bh ≠ b → Calls Tryz.prog 32 #[readerV aS nS cS (fnV (carried sl ss sh m r)) b, .slice aL nL cL, .func (.func 38) #[] #[.pointer (some ⟨Bh, 0, none⟩)]] W fun e w' => FirstIs W w' e b kk bl (isV m r) KL l (fun q => !eachB fs (vL bl (isV m r) q.1) (vL bl (isV m r) q.2))) := fun W b Bh bh nh fs h1 h2 h3 h4 h5 h6 => first38_any W b kk aS nS cS bl sl ss sh m r aL nL cL l Bh bh nh fs KL hK (by omega) hn hbig hwb hm (by omega) hl hnL hwl h1 h2 h3 h4 h5 h6
  have EXT : Hid (∀ fs : Pr → Bool, (∀ q, wfP q → fs q = hadF hv q) → l.find? (fun q => !eachB fs (vL bl (isV m r) q.1) (vL bl (isV m r) q.2)) = l.find? (badH bl (isV m r) hv)) := fun fs hfs => find_ext fun q hq => by
    unfold badH
    rw [each_ext (fun x hx => str_wf hwb (hwl q hq).1 x (vL_mem.1 hx).1) (fun x hx => str_wf hwb (hwl q hq).2 x (vL_mem.1 hx).1) hfs]
  obtain ⟨ca, hca⟩ : ∃ ca, ca = carried sl ss sh m r := ⟨_, rfl⟩
  rw [← hca] at FIRST ⊢
  unfold fnV at *
  generalize isV m r = p at *
  unfold readerV at *
  obtain ⟨w6, hw6⟩ : ∃ w6, w6 = (((((w.alloc (.cells #[.slice aS nS cS] 27)).alloc (.cells #[.int .i64 0, .int .i64 0] 33)).alloc (.map #[] 0)).alloc (.cells #[.slice aS nS cS, .func (.func 10) #[ca] #[], .map (some (w.heap.size + 2))] 77)).alloc (.map #[] 0)).alloc (.cells #[.map (some (w.heap.size + 4))] 81) := ⟨_, rfl⟩
  have hs6 : w6.heap.size = w.heap.size + 6 := by rw [hw6]; simp
  have B6 : Hid (Below w.heap.size w w6) := by rw [hw6]; exact (((((below_alloc _ _).alloc (by simp) _).alloc (by simp; omega) _).alloc (by simp; omega) _).alloc (by simp; omega) _).alloc (by simp; omega) _
  have e3 : (((w.alloc (.cells #[.slice aS nS cS] 27)).alloc (.cells #[.int .i64 0, .int .i64 0] 33)).alloc (.map #[] 0)).heap.size = w.heap.size + 3 := by simp
  have e5 : (((((w.alloc (.cells #[.slice aS nS cS] 27)).alloc (.cells #[.int .i64 0, .int .i64 0] 33)).alloc (.map #[] 0)).alloc (.cells #[.slice aS nS cS, .func (.func 10) #[ca] #[], .map (some (w.heap.size + 2))] 77)).alloc (.map #[] 0)).heap.size = w.heap.size + 5 := by simp
  have KS : Hid (w6.cell? ⟨w.heap.size + 3, 0, none⟩ = some (.slice aS nS cS) ∧ w6.cell? ⟨w.heap.size + 3, 1, none⟩ = some (.func (.func 10) #[ca] #[]) ∧ w6.cell? ⟨w.heap.size + 3, 2, none⟩ = some (.map (some (w.heap.size + 2))) ∧ w6.cell? ⟨w.heap.size + 5, 0, none⟩ = some (.map (some (w.heap.size + 4)))) := by
    refine ⟨?_, ?_, ?_, ?_⟩
    · rw [hw6, World.cell?_alloc_old _ _ _ (by simp), World.cell?_alloc_old _ _ _ (by simp), ← e3]; exact World.cell?_alloc_new _ _ _ _
    · rw [hw6, World.cell?_alloc_old _ _ _ (by simp), World.cell?_alloc_old _ _ _ (by simp), ← e3]; exact World.cell?_alloc_new _ _ _ _
    · rw [hw6, World.cell?_alloc_old _ _ _ (by simp), World.cell?_alloc_old _ _ _ (by simp), ← e3]; exact World.cell?_alloc_new _ _ _ _
    · rw [hw6, ← e5]; exact World.cell?_alloc_new _ _ _ _
  have K1 : Hid (w6.heap[w.heap.size + 1]? = some (.cells #[.int .i64 0, .int .i64 0] 33 (0, 0))) := by
    have e1 : (w.alloc (.cells #[.slice aS nS cS] 27)).heap.size = w.heap.size + 1 := by simp
    rw [hw6, Below.heap_alloc _ _ _ (by simp; try omega), Below.heap_alloc _ _ _ (by simp; try omega), Below.heap_alloc _ _ _ (by simp; try omega), Below.heap_alloc _ _ _ (by simp; try omega), ← e1]
    exact World.alloc_heap_new _ _
  have R6 : Rd w6 (w.heap.size + 2) kk bl p KL := by
    have e2 : ((w.alloc (.cells #[.slice aS nS cS] 27)).alloc (.cells #[.int .i64 0, .int .i64 0] 33)).heap.size = w.heap.size + 2 := by simp
    have h := Rd.made ((w.alloc (.cells #[.slice aS nS cS] 27)).alloc (.cells #[.int .i64 0, .int .i64 0] 33)) bl p KL
    rw [e2] at h
    have hb : Below ((((w.alloc (.cells #[.slice aS nS cS] 27)).alloc (.cells #[.int .i64 0, .int .i64 0] 33)).alloc (.map #[] 0))).heap.size ((((w.alloc (.cells #[.slice aS nS cS] 27)).alloc (.cells #[.int .i64 0, .int .i64 0] 33)).alloc (.map #[] 0))) w6 := by rw [hw6]; exact ((below_alloc _ _).alloc (by simp) _).alloc (by simp) _
    exact (h.up (Nat.zero_le _)).kept (hb.block _ (by simp)) (sub_below hb)
  have P6 : PS w6 (w.heap.size + 4) 0 (fun _ => False) := by
    have e4 : ((((w.alloc (.cells #[.slice aS nS cS] 27)).alloc (.cells #[.int .i64 0, .int .i64 0] 33)).alloc (.map #[] 0)).alloc (.cells #[.slice aS nS cS, .func (.func 10) #[ca] #[], .map (some (w.heap.size + 2))] 77)).heap.size = w.heap.size + 4 := by simp
    have h := PSet.made ((((w.alloc (.cells #[.slice aS nS cS] 27)).alloc (.cells #[.int .i64 0, .int .i64 0] 33)).alloc (.map #[] 0)).alloc (.cells #[.slice aS nS cS, .func (.func 10) #[ca] #[], .map (some (w.heap.size + 2))] 77))
    rw [e4] at h
    have h2 : PS ((((((w.alloc (.cells #[.slice aS nS cS] 27)).alloc (.cells #[.int .i64 0, .int .i64 0] 33)).alloc (.map #[] 0)).alloc (.cells #[.slice aS nS cS, .func (.func 10) #[ca] #[], .map (some (w.heap.size + 2))] 77)).alloc (.map #[] 0))) (w.heap.size + 4) 0 (fun _ => False) := ⟨_, h, fun q _ => by simp⟩
    rw [hw6]
    exact h2.kept (Below.heap_alloc _ _ _ (by simp))
  have C37 : Hid _ := add_any w6 (w.heap.size + 4) 0 _ aH cH hv nH hlH hnH (by omega) hwH (hH.sub (sub_below B6.out)) P6
  have HSt : Hid (S.BindsAt w6 aS nS bl) := hS.sub (sub_below B6.out)
  have HPL : Hid (PairsAt w6 aL l) := hL.sub (sub_below B6.out)
  have HR6 : Hid (Rd w6 (w.heap.size + 2) kk bl p KL) := R6
  have HP6 : Hid (PS w6 (w.heap.size + 4) 0 (fun _ => False)) := P6
  have HS6 : Hid (w6.heap.size = w.heap.size + 6) := hs6
  obtain ⟨k0, k1, k2, k5⟩ := KS.out
  rw [hw6] at k0 k1 k2 k5
  clear hn hbig hwb hm hl hwl hS hL R6 P6 hca hs6 hKL hkk hK e3 e5 hlH hnH hwH hH
  generalize hB : w.heap.size = B at *
  have HB : Hid (w.heap.size = B) := hB
  clear hB
  have hmm := @run_makeMap Tryz.prog
  go_enter Tryz.func11, Tryz.ntmps11
  go_wp2_with fail
  rw [HB.out]
  rw [← hw6]
  clear hmm
  refine Calls.mono C37.out ?_
  rintro e w7 ⟨rfl, hP7, hT7⟩
  have S67 : Sub w6 w7 := hT7.sub HP6.out.isM
  have S7 : Hid (Sub w6 w7) := S67
  have R7 : Rd w7 (B + 2) kk bl p KL := HR6.out.kept (hT7.block _ HR6.out.low (by omega)) S67
  have B7 : Hid (Below B w w7) := B6.out.trans (hT7.below (by have := HS6.out; omega) (by omega))
  obtain ⟨f, hPf, hf⟩ := hP7
  have EX : Hid _ := EXT.out f fun q hq => by
    rw [Bool.eq_iff_iff, hf q hq, had_iff]
    simp
  have K7 : Hid (w7.heap[B + 1]? = some (.cells #[.int .i64 0, .int .i64 0] 33 (0, 0))) := (hT7.block _ (by have := HS6.out; omega) (by omega)).trans K1.out
  have C32 : Hid _ := FIRST.out w7 (B + 2) (B + 5) (B + 4) _ f (HSt.out.sub S67) R7 (HPL.out.sub S67) hPf (S67 _ _ KS.out.2.2.2) (by omega)
  have hsz7 : B + 6 ≤ w7.heap.size := by have := hT7.size; rw [HS6.out] at this; exact this
  have HSZ7 : Hid (B + 6 ≤ w7.heap.size) := hsz7
  have j0 : w7.cell? ⟨B + 3, 0, none⟩ = some (.slice aS nS cS) := S67 _ _ KS.out.1
  have j1 : w7.cell? ⟨B + 3, 1, none⟩ = some (.func (.func 10) #[ca] #[]) := S67 _ _ KS.out.2.1
  have j2 : w7.cell? ⟨B + 3, 2, none⟩ = some (.map (some (B + 2))) := S67 _ _ KS.out.2.2.1
  clear C37 hT7 S67 R7 hPf hf k0 k1 k2 k5 hw6 hsz7
  go_wp2_with fail
  refine Calls.mono C32.out ?_
  rintro e w8 ⟨rfl, hT8, hS8, _⟩
  have B8 : Below B w w8 := B7.out.trans (hT8.below (by have := HSZ7.out; omega) (by omega))
  have K8 : w8.heap[B + 1]? = some (.cells #[.int .i64 0, .int .i64 0] 33 (0, 0)) := (hT8.block _ (by have := HSZ7.out; omega) (by omega)).trans K7.out
  rw [EX.out]
  obtain ⟨⟨x, y⟩, hxy⟩ : ∃ q, (l.find? (badH bl p hv)).getD (0, 0) = q := ⟨_, rfl⟩
  have HXY : Hid ((l.find? (badH bl p hv)).getD (0, 0) = (x, y)) := hxy
  rw [hxy]
  obtain ⟨fb, hfb⟩ : ∃ fb, (l.find? (badH bl p hv)).isSome = fb := ⟨_, rfl⟩
  have HFB : Hid ((l.find? (badH bl p hv)).isSome = fb) := hfb
  rw [hfb]
  have m0 : w8.cell? ⟨B + 1, 0, none⟩ = some (.int .i64 0) := by simp [World.cell?, K8]
  have m1 : w8.cell? ⟨B + 1, 1, none⟩ = some (.int .i64 0) := by simp [World.cell?, K8]
  have q0 : w8.frozen? ⟨B + 1, 0, none⟩ = false := by simp [World.frozen?, K8]
  have q1 : w8.frozen? ⟨B + 1, 1, none⟩ = false := by simp [World.frozen?, K8]
  obtain ⟨wE, hwE⟩ : ∃ wE, wE = (w8.setCell ⟨B + 1, 0, none⟩ (.int .i64 x)).setCell ⟨B + 1, 1, none⟩ (.int .i64 y) := ⟨_, rfl⟩
  have t1 : Turn (B + 1) w8 wE := by rw [hwE]; exact (turn_setCell _ _ _ _).trans (turn_setCell _ _ _ _)
  have BE : Hid (Below B w wE) := B8.trans (t1.below (by have := B8.size; have := HB.out; omega) (by omega))
  have kw0 : wE.cell? ⟨B + 1, 0, none⟩ = some (.int .i64 x) := by rw [hwE, World.cell?_setCell_other _ _ _ _ (by simp)]; exact World.cell?_setCell_same _ _ _ m0
  have kw1 : wE.cell? ⟨B + 1, 1, none⟩ = some (.int .i64 y) := by rw [hwE]; exact World.cell?_setCell_same _ _ _ ((World.cell?_setCell_other _ _ _ _ (by simp)).trans m1)
  unfold encP
  clear C32 hT8 hS8 B8 K8 hxy hfb t1 j0 j1 j2
  go_wp2
  rw [← hwE]
  clear hwE m0 m1 q0 q1
  refine bodyPost_ret (v := .tuple #[.agg #[.int .i64 x, .int .i64 y], .bool fb]) (by simp [results, Tryz.results11, go_sem, kw0, kw1]) rfl ?_
  exact ⟨by rw [HXY.out, HFB.out]; rfl, BE.out⟩
end Go.Proofs.YtjaccgkeldabfaaGreat
