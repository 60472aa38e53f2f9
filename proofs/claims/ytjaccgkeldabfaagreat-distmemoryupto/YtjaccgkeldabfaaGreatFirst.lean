/- first: the first pair of a list of which the variables of the two strings are bad together. -/
import Derived.Test.YtjaccgkeldabfaaGreatSetHas
namespace Go.Proofs.YtjaccgkeldabfaaGreat
open Go.RowKit

theorem turn_eq {q p : Pr} : turnP q = turnP p ↔ (q.1 = p.1 ∧ q.2 = p.2) ∨ (q.1 = p.2 ∧ q.2 = p.1) := by
  unfold turnP
  rw [Prod.mk.injEq]
  omega
theorem meet_iff {l l' : List Int} : meetB l l' = true ↔ ∃ x, x ∈ l ∧ x ∈ l' := by
  unfold meetB
  rw [List.any_eq_true]
  constructor
  · rintro ⟨x, h1, h2⟩
    exact ⟨x, h1, List.contains_iff_mem.1 h2⟩
  · rintro ⟨x, h1, h2⟩
    exact ⟨x, h1, List.contains_iff_mem.2 h2⟩
theorem meet_comm (l l' : List Int) : meetB l l' = meetB l' l := by
  rw [Bool.eq_iff_iff, meet_iff, meet_iff]
  constructor <;> (rintro ⟨x, h1, h2⟩; exact ⟨x, h2, h1⟩)
theorem symB33 {bl : List (Int × List Int)} {p : Int → Bool} (q q' : Pr) (h : turnP q = turnP q') : meetB (vL bl p q.1) (vL bl p q.2) = meetB (vL bl p q'.1) (vL bl p q'.2) := by
  rcases turn_eq.1 h with ⟨h1, h2⟩ | ⟨h1, h2⟩
  · rw [h1, h2]
  · rw [h1, h2, meet_comm]
theorem find_at {l : List Pr} {bad : Pr → Bool} {j : Nat} {q : Pr} (hx : l[j]? = some q) (hq : bad q = true) (hok : ∀ r ∈ l.take j, bad r = false) : l.find? bad = some q := by
  obtain ⟨hj, rfl⟩ := List.getElem?_eq_some_iff.1 hx
  rw [List.find?_eq_some_iff_getElem]
  refine ⟨hq, j, hj, rfl, fun k hk => ?_⟩
  have hm : l[k] ∈ l.take j := by
    rw [List.mem_iff_getElem]
    exact ⟨k, by rw [List.length_take]; omega, by rw [List.getElem_take]⟩
  rw [hok _ hm]; rfl
theorem find_none {l : List Pr} {bad : Pr → Bool} (hok : ∀ r ∈ l, bad r = false) : l.find? bad = none := List.find?_eq_none.2 fun r hr => by rw [hok r hr]; simp
theorem take_pair {l : List Pr} {j : Nat} {q : Pr} (h : l[j]? = some q) : l.take (j + 1) = l.take j ++ [q] := by rw [List.take_add_one, h]; rfl
/-- What first leaves: where none is bad, the lists that were read stay. -/
def FirstIs (w w' : World) (e : Ending) (b kk : Nat) (bl : List (Int × List Int)) (p : Int → Bool) (K : List Int) (l : List Pr) (bad : Pr → Bool) : Prop :=
  e = .returned (.tuple #[encP ((l.find? bad).getD (0, 0)), .bool (l.find? bad).isSome]) ∧ Turn b w w' ∧ Sub w w' ∧ (l.find? bad = none → Rd w' b kk bl p K)
/-- first along its loop. -/
structure FInv (w w3 : World) (b b6 bg kk : Nat) (bl : List (Int × List Int)) (p : Int → Bool) (K : List Int) (l : List Pr) (bad : Pr → Bool) (j : Nat) (wx : World) : Prop where
  rd : Rd wx b kk bl p K
  ps : PS wx bg j (fun q => ∃ q' ∈ l.take j, turnP q' = q)
  ok : ∀ q ∈ l.take j, bad q = false
  turn : Turn b w wx
  sub : Sub w wx
  sub3 : Sub w3 wx
  res : wx.heap[b6]? = some (.cells #[.int .i64 0, .int .i64 0] 33 (0, 0))
theorem FInv.below {w w3 wx wy : World} {b b6 bg kk : Nat} {bl : List (Int × List Int)} {p : Int → Bool} {K : List Int} {l : List Pr} {bad : Pr → Bool} {j : Nat} (h : FInv w w3 b b6 bg kk bl p K l bad j wx) (hb : Below wx.heap.size wx wy) : FInv w w3 b b6 bg kk bl p K l bad j wy :=
  ⟨h.rd.kept (hb.block _ h.rd.low) (sub_below hb), h.ps.kept (hb.block _ h.ps.low), h.ok, h.turn.trans (Turn.of_below hb), h.sub.trans (sub_below hb), h.sub3.trans (sub_below hb), (hb.block _ (Array.getElem?_eq_some_iff.1 h.res).1).trans h.res⟩
/-- .. amid a round. -/
structure FMid (w w3 : World) (b b6 bg kk : Nat) (bl : List (Int × List Int)) (p : Int → Bool) (K : List Int) (l : List Pr) (j : Nat) (wx : World) : Prop where
  rd : Rd wx b kk bl p K
  ps : PS wx bg j (fun q => ∃ q' ∈ l.take j, turnP q' = q)
  turn : Turn b w wx
  sub : Sub w wx
  sub3 : Sub w3 wx
  res : wx.heap[b6]? = some (.cells #[.int .i64 0, .int .i64 0] 33 (0, 0))
theorem isM_ne {W : World} {b b6 : Nat} {o : Array Value} {t : TypeId} {z : Nat × Nat} (h : IsM W b) (hc : W.heap[b6]? = some (.cells o t z)) : b6 ≠ b := fun e => by
  obtain ⟨es, clock, hh⟩ := h
  subst e
  rw [hh] at hc
  cases hc
theorem Turn.far {b bg : Nat} {w v v' : World} (h : Turn b w v) (g : Turn bg v v') (hbg : w.heap.size ≤ bg) : Turn b w v' :=
  ⟨g.os.trans h.os, g.tape.trans h.tape, g.output.trans h.output, Nat.le_trans h.size g.size, fun i hi hne => (g.block i (Nat.lt_of_lt_of_le hi h.size) (by omega)).trans (h.block i hi hne)⟩
theorem FInv.mid {w w3 W0 v2 v3 : World} {b b6 bg kk : Nat} {bl : List (Int × List Int)} {p : Int → Bool} {K : List Int} {l : List Pr} {bad : Pr → Bool} {j : Nat} (h : FInv w w3 b b6 bg kk bl p K l bad j W0) (hne : bg ≠ b) (ht : Turn b W0 v2) (hr : Rd v2 b kk bl p K) (tt : Turn b w v2) (hs : Sub w v2) (hb : Below v2.heap.size v2 v3) : FMid w w3 b b6 bg kk bl p K l j v3 := by
  have h6 : b6 ≠ b := isM_ne h.rd.isM h.res
  have h6l : b6 < W0.heap.size := (Array.getElem?_eq_some_iff.1 h.res).1
  have e6 : v2.heap[b6]? = W0.heap[b6]? := ht.block b6 h6l h6
  have eg : v2.heap[bg]? = W0.heap[bg]? := ht.block bg h.ps.low hne
  exact ⟨hr.kept (hb.block _ hr.low) (sub_below hb), h.ps.kept ((hb.block _ (Nat.lt_of_lt_of_le h.ps.low ht.size)).trans eg), tt.trans (Turn.of_below hb), hs.trans (sub_below hb), (h.sub3.trans (ht.sub h.rd.isM)).trans (sub_below hb), ((hb.block _ (Nat.lt_of_lt_of_le h6l ht.size)).trans e6).trans h.res⟩
theorem FMid.next {w w3 v v' : World} {b b6 bg kk : Nat} {bl : List (Int × List Int)} {p : Int → Bool} {K : List Int} {l : List Pr} {bad : Pr → Bool} {j B : Nat} {q : Pr} (h : FMid w w3 b b6 bg kk bl p K l j v) (ok : ∀ q ∈ l.take j, bad q = false) (hx : l[j]? = some q) (hq : bad q = false) (hp : PS v' bg (j + 1) (fun z => z = turnP q ∨ ∃ q' ∈ l.take j, turnP q' = z)) (ht : Turn bg v v') (hbB : b < B) (hB : w.heap.size ≤ bg) (hBB : B ≤ bg) : FInv w w3 b b6 bg kk bl p K l bad (j + 1) v' := by
  have h6 : b6 ≠ bg := isM_ne h.ps.isM h.res
  have hs : Sub v v' := ht.sub h.ps.isM
  refine ⟨h.rd.kept (ht.block b h.rd.low (by omega)) hs, hp.same fun z => ?_, fun r hr => ?_, h.turn.far ht hB, h.sub.trans hs, h.sub3.trans hs, (ht.block b6 (Array.getElem?_eq_some_iff.1 h.res).1 h6).trans h.res⟩
  · rw [take_pair hx]
    constructor
    · rintro (rfl | ⟨q', h1, h2⟩)
      · exact ⟨q, by simp, rfl⟩
      · exact ⟨q', by simp [h1], h2⟩
    · rintro ⟨q', h1, h2⟩
      rcases List.mem_append.1 h1 with h1 | h1
      · exact .inr ⟨q', h1, h2⟩
      · simp at h1; subst h1; exact .inl h2.symm
  · rw [take_pair hx] at hr
    rcases List.mem_append.1 hr with hr | hr
    · exact ok r hr
    · simp at hr; subst hr; exact hq
theorem FInv.again {w w3 wx : World} {b b6 bg kk : Nat} {bl : List (Int × List Int)} {p : Int → Bool} {K : List Int} {l : List Pr} {bad : Pr → Bool} {j : Nat} {q : Pr} (h : FInv w w3 b b6 bg kk bl p K l bad j wx) (hx : l[j]? = some q) (ht : ∃ q' ∈ l.take j, turnP q' = turnP q) (sym : ∀ q q' : Pr, turnP q = turnP q' → bad q = bad q') : FInv w w3 b b6 bg kk bl p K l bad (j + 1) wx := by
  obtain ⟨q', hq', e⟩ := ht
  refine ⟨h.rd, (h.ps.up (by omega)).same fun z => ?_, fun r hr => ?_, h.turn, h.sub, h.sub3, h.res⟩
  · rw [take_pair hx]
    constructor
    · rintro ⟨r, h1, h2⟩
      exact ⟨r, by simp [h1], h2⟩
    · rintro ⟨r, h1, h2⟩
      rcases List.mem_append.1 h1 with h1 | h1
      · exact ⟨r, h1, h2⟩
      · simp at h1; subst h1; exact ⟨q', hq', e.trans h2⟩
  · rw [take_pair hx] at hr
    rcases List.mem_append.1 hr with hr | hr
    · exact h.ok r hr
    · simp at hr; subst hr; rw [← sym q' r e]; exact h.ok q' hq'
theorem sub_set {w : World} {a : Addr} {u : Value} (h : w.cell? a = some u) : Sub w (w.setCell a u) := fun q v hv => by
  by_cases e : a = q
  · subst e
    rw [World.cell?_setCell_same _ _ _ h, ← h, hv]
  · rw [World.cell?_setCell_other _ _ _ _ e, hv]
theorem far_set2 {b b6 : Nat} {w v : World} (h : Turn b w v) (hs : Sub w v) (hb : w.heap.size ≤ b6) (u0 u1 : Value) : Turn b w ((v.setCell ⟨b6, 0, none⟩ u0).setCell ⟨b6, 1, none⟩ u1) ∧ Sub w ((v.setCell ⟨b6, 0, none⟩ u0).setCell ⟨b6, 1, none⟩ u1) := by
  refine ⟨(h.far (turn_setCell _ _ _ _) hb).far (turn_setCell _ _ _ _) hb, fun q x hq => ?_⟩
  have hl := World.block_lt_of_cell? _ _ hq
  have e : q.block ≠ b6 := by omega
  rw [World.cell?_setCell_far _ _ _ _ (fun h => e h.symm), World.cell?_setCell_far _ _ _ _ (fun h => e h.symm)]
  exact hs q x hq
theorem FInv.done {w w3 wx : World} {b b6 bg kk : Nat} {bl : List (Int × List Int)} {p : Int → Bool} {K : List Int} {l : List Pr} {bad : Pr → Bool} {j : Nat} (h : FInv w w3 b b6 bg kk bl p K l bad j wx) (hb : w.heap.size ≤ b6) :
    Turn b w ((wx.setCell ⟨b6, 0, none⟩ (.int .i64 0)).setCell ⟨b6, 1, none⟩ (.int .i64 0)) ∧ Sub w ((wx.setCell ⟨b6, 0, none⟩ (.int .i64 0)).setCell ⟨b6, 1, none⟩ (.int .i64 0)) ∧ Rd ((wx.setCell ⟨b6, 0, none⟩ (.int .i64 0)).setCell ⟨b6, 1, none⟩ (.int .i64 0)) b kk bl p K := by
  obtain ⟨h1, h2⟩ := far_set2 h.turn h.sub hb (.int .i64 0) (.int .i64 0)
  have c0 : wx.cell? ⟨b6, 0, none⟩ = some (.int .i64 0) := by simp [World.cell?, h.res]
  have c1 : wx.cell? ⟨b6, 1, none⟩ = some (.int .i64 0) := by simp [World.cell?, h.res]
  have s1 := sub_set c0
  have s2 := sub_set (s1 _ _ c1)
  have h6 : b6 ≠ b := isM_ne h.rd.isM h.res
  have t1 := turn_setCell wx b6 0 (.int .i64 0)
  have t2 := turn_setCell (wx.setCell ⟨b6, 0, none⟩ (.int .i64 0)) b6 1 (.int .i64 0)
  exact ⟨h1, h2, h.rd.kept ((t1.trans t2).block b h.rd.low (fun e => h6 e.symm)) (s1.trans s2)⟩

set_option maxRecDepth 100000 in
set_option maxHeartbeats 8000000 in
theorem first33_any (w : World) (b kk : Nat) (aS : Option Addr) (nS cS : Nat) (bl : List (Int × List Int)) (sl ss sh : Value) (m r : Int) (aL : Option Addr) (nL cL : Nat) (l : List Pr) (KL : List Int) (hK : ∀ q ∈ l, q.1 ∈ KL ∧ q.2 ∈ KL) (hKk : KL.length ≤ kk) (hn : nS ≤ 4398046511000) (hbig : ∀ q ∈ bl, q.2.length ≤ 17592186043904) (hwb : ∀ q ∈ bl, ∀ x ∈ q.2, wfI x) (hm : wfI m) (hk : kk ≤ 2305843009213693952) (hl : l.length = nL) (hnL : nL ≤ 2199023255000) (hwl : ∀ p ∈ l, wfP p) (hS : S.BindsAt w aS nS bl) (hR : Rd w b kk bl (isV m r) KL) (hL : PairsAt w aL l) :
    Calls Tryz.prog 32 #[readerV aS nS cS (fnV (carried sl ss sh m r)) b, .slice aL nL cL, .func (.func 33) #[] #[]] w fun e w' => FirstIs w w' e b kk bl (isV m r) KL l (fun q => meetB (vL bl (isV m r) q.1) (vL bl (isV m r) q.2)) := by
  unfold FirstIs
  have VARS : Hid (∀ (W : World) (v : Int), v ∈ KL → wfI v → S.BindsAt W aS nS bl → Rd W b kk bl (isV m r) KL → Calls Tryz.prog 34 #[readerV aS nS cS (fnV (carried sl ss sh m r)) b, .int .i64 v] W fun e w' => VarsIs W w' e b kk bl (isV m r) KL v) := fun W v h1 h2 h3 h4 => variables_any W b kk aS nS cS bl sl ss sh m r v KL h1 hKk hn hbig hwb h2 hm (by omega) h3 h4
  have VLN : Hid (∀ v, (vL bl (isV m r) v).length ≤ 17592186043904) := fun v => Nat.le_trans (vL_len _ _ _) (str_len hbig v)
  have VWF : Hid (∀ v, wfI v → ∀ x ∈ vL bl (isV m r) v, wfI x) := fun v hv x hx => str_wf hwb hv x (vL_mem.1 hx).1
  obtain ⟨fv, hfv⟩ : ∃ fv, fv = fnV (carried sl ss sh m r) := ⟨_, rfl⟩
  rw [← hfv] at VARS ⊢
  generalize isV m r = p at *
  unfold readerV at *
  obtain ⟨bad, hbad⟩ : ∃ bad : Pr → Bool, bad = (fun q => meetB (vL bl p q.1) (vL bl p q.2)) := ⟨_, rfl⟩
  rw [← hbad]
  have SYM : Hid (∀ q q' : Pr, turnP q = turnP q' → bad q = bad q') := fun q q' h => by rw [hbad]; exact symB33 _ _ h
  have HBAD : Hid (bad = (fun q => meetB (vL bl p q.1) (vL bl p q.2))) := hbad
  obtain ⟨w3, hw3⟩ : ∃ w3, w3 = ((w.alloc (.cells #[.slice aS nS cS, fv, .map (some b)] 77)).alloc (.cells #[.int .i64 0, .int .i64 0] 33)).alloc (.map #[] 0) := ⟨_, rfl⟩
  have hs3 : w3.heap.size = w.heap.size + 3 := by rw [hw3]; simp
  have B3 : Hid (Below w.heap.size w w3) := by rw [hw3]; exact ((below_alloc _ _).alloc (by simp) _).alloc (by simp; omega) _
  have KS : Hid (w3.cell? ⟨w.heap.size, 0, none⟩ = some (.slice aS nS cS) ∧ w3.cell? ⟨w.heap.size, 1, none⟩ = some fv ∧ w3.cell? ⟨w.heap.size, 2, none⟩ = some (.map (some b))) := by
    refine ⟨?_, ?_, ?_⟩ <;> (rw [hw3, World.cell?_alloc_old _ _ _ (by simp; omega), World.cell?_alloc_old _ _ _ (by simp)]; exact World.cell?_alloc_new w _ _ _)
  have K6 : Hid (w3.heap[w.heap.size + 1]? = some (.cells #[.int .i64 0, .int .i64 0] 33 (0, 0))) := by
    have e1 : (w.alloc (.cells #[.slice aS nS cS, fv, .map (some b)] 77)).heap.size = w.heap.size + 1 := by simp
    rw [hw3, Below.heap_alloc _ _ _ (by simp), ← e1]
    exact World.alloc_heap_new _ _
  have PS0 : PS w3 (w.heap.size + 2) 0 (fun q => ∃ q' ∈ l.take 0, turnP q' = q) := by
    have h := PSet.made ((w.alloc (.cells #[.slice aS nS cS, fv, .map (some b)] 77)).alloc (.cells #[.int .i64 0, .int .i64 0] 33))
    rw [← hw3] at h
    have e2 : ((w.alloc (.cells #[.slice aS nS cS, fv, .map (some b)] 77)).alloc (.cells #[.int .i64 0, .int .i64 0] 33)).heap.size = w.heap.size + 2 := by simp
    rw [e2] at h
    exact ⟨_, h, fun q _ => by simp⟩
  have R3 : Rd w3 b kk bl p KL := hR.kept (B3.out.block b hR.low) (sub_below B3.out)
  have hbl : b < w.heap.size := hR.low
  have HLB : Hid (b < w.heap.size) := hbl
  have INV0 : Hid (FInv w w3 b (w.heap.size + 1) (w.heap.size + 2) kk bl p KL l bad 0 w3) := ⟨R3, PS0, fun q hq => by simp at hq, Turn.of_below B3.out, sub_below B3.out, Sub.refl _, K6.out⟩
  have HSt : Hid (S.BindsAt w aS nS bl) := hS
  have HPL : Hid (PairsAt w aL l) := hL
  have HLL : Hid (l.length = nL) := hl
  have HKL : Hid (∀ q ∈ l, q.1 ∈ KL ∧ q.2 ∈ KL) := hK
  have HWL : Hid (∀ q ∈ l, wfP q) := hwl
  have HS3 : Hid (w3.heap.size = w.heap.size + 3) := hs3
  clear hK hKk hn hbig hwb hm hl hwl hS hR hL R3 PS0 hbl hfv K6 B3 hs3 hbad
  generalize hB : w.heap.size = B at *
  have HB : Hid (w.heap.size = B) := hB
  clear hB
  have hmm := @run_makeMap Tryz.prog
  go_enter Tryz.func32, Tryz.ntmps32
  go_wp2_with fail
  clear hmm
  rw [HB.out]
  rw [← hw3]
  clear hw3
  go_loopw [14] (fun i wx => ∃ j : Nat, j ≤ nL ∧ i = .int .i64 j ∧ Hid (FInv w w3 b (B + 1) (B + 2) kk bl p KL l bad j wx)) (fun i _ => nL - (intOf i).toNat)
  case atStart => exact ⟨0, Nat.zero_le _, rfl, INV0.out⟩
  case round =>
    obtain ⟨j, hj, rfl, INV⟩ := hrel
    clear INV0
    by_cases hlt : j < nL
    · have n1 : (j : Int) < (nL : Int) := by omega
      obtain ⟨⟨x, y⟩, hx⟩ : ∃ x, l[j]? = some x := ⟨l[j]'(by rw [HLL.out]; exact hlt), List.getElem?_eq_getElem _⟩
      obtain ⟨b1, o1, rfl, c1, d1⟩ := HPL.out.sub INV.out.sub j _ hx
      have HX : Hid (l[j]? = some (x, y)) := hx
      have WX : Hid (wfP (x, y)) := HWL.out _ (List.mem_of_getElem? hx)
      have KX : Hid (x ∈ KL ∧ y ∈ KL) := HKL.out _ (List.mem_of_getElem? hx)
      obtain ⟨w4, hw4⟩ : ∃ w4, w4 = wr.alloc (.cells #[.int .i64 x, .int .i64 y] 33) := ⟨_, rfl⟩
      have B4 : Hid (Below wr.heap.size wr w4) := by rw [hw4]; exact below_alloc _ _
      have Z0 : w4.cell? ⟨wr.heap.size, 0, none⟩ = some (.int .i64 x) := by rw [hw4]; exact World.cell?_alloc_new wr _ _ 0
      have Z1 : w4.cell? ⟨wr.heap.size, 1, none⟩ = some (.int .i64 y) := by rw [hw4]; exact World.cell?_alloc_new wr _ _ 1
      obtain ⟨f, hPf, hf⟩ := INV.out.ps
      have C55 : Hid _ := hasS_any w4 (B + 2) j f (x, y) WX.out (hPf.kept (B4.out.block _ hPf.low))
      have HF : Hid (f (turnP (x, y)) = true ↔ ∃ q' ∈ l.take j, turnP q' = turnP (x, y)) := hf _ (wf_turn WX.out)
      obtain ⟨fb, hfb⟩ : ∃ fb, f (turnP (x, y)) = fb := ⟨_, rfl⟩
      rw [hfb] at C55 HF
      unfold encP at C55
      dsimp only at C55
      clear hx hPf hf hfb
      go_wp2_with fail
      rw [← hw4]
      clear hw4 c1 d1
      refine Calls.mono C55.out ?_
      rintro e w5 ⟨rfl, hb5⟩
      have B5 : Hid (Below wr.heap.size wr w5) := B4.out.trans (hb5.mono B4.out.size)
      have SS : Hid (∀ w', Sub w5 w' → w'.cell? ⟨B, 0, none⟩ = some (.slice aS nS cS) ∧ w'.cell? ⟨B, 1, none⟩ = some fv ∧ w'.cell? ⟨B, 2, none⟩ = some (.map (some b)) ∧ w'.cell? ⟨wr.heap.size, 0, none⟩ = some (.int .i64 x) ∧ w'.cell? ⟨wr.heap.size, 1, none⟩ = some (.int .i64 y)) := fun w' h => by
        have s1 : Sub w3 w' := INV.out.sub3.trans ((sub_below B5.out).trans h)
        have s2 : Sub w4 w' := (sub_below hb5).trans h
        exact ⟨s1 _ _ KS.out.1, s1 _ _ KS.out.2.1, s1 _ _ KS.out.2.2, s2 _ _ Z0, s2 _ _ Z1⟩
      have I5 : Hid (FInv w w3 b (B + 1) (B + 2) kk bl p KL l bad j w5) := INV.out.below B5.out
      generalize hB10 : wr.heap.size = B10 at *
      clear hb5 C55 Z0 Z1 B4 hB10 INV B5
      rcases fb
      · have FF : Hid (¬ ∃ q' ∈ l.take j, turnP q' = turnP (x, y)) := fun h => by cases HF.out.2 h
        clear HF
        obtain ⟨W5, hW5⟩ : ∃ W5, W5 = w5.drew := ⟨_, rfl⟩
        have I5d : Hid (FInv w w3 b (B + 1) (B + 2) kk bl p KL l bad j w5.drew) := I5.out.below ⟨rfl, rfl, rfl, Nat.le_refl _, fun _ _ => rfl⟩
        have S_0 : Hid (Sub w5 w5.drew) := fun _ _ h => h
        clear hW5 W5
        go_wp2_with fail
        refine wp_region_held_drew (S := fun w' => w'.cell? ⟨B, 0, none⟩ = some (.slice aS nS cS) ∧ w'.cell? ⟨B, 1, none⟩ = some fv ∧ w'.cell? ⟨B, 2, none⟩ = some (.map (some b)) ∧ w'.cell? ⟨B10, 0, none⟩ = some (.int .i64 x) ∧ w'.cell? ⟨B10, 1, none⟩ = some (.int .i64 y)) (by kernel_rfl) ?_ (fun hHeld => ?_)
        · exact SS.out _ S_0.out
        have RD0 : Hid (Rd w5.drew b kk bl p KL) := I5d.out.rd
        have TT0 : Hid (Turn b w w5.drew) := I5d.out.turn
        have HSU0 : Hid (Sub w w5.drew) := I5d.out.sub
        have TB0 : Hid (Turn b w5.drew w5.drew) := Turn.refl _ _
        refine wpAnyH_take (i := 0) (oi := { dst := some 21, op := Op.move (Operand.tmp 2), type := 79, pos := "dist.go:157", after := #[], guard := none }) (v := ?_) rfl (by kernel_rfl) (by kernel_rfl) (by kernel_rfl) (fun _ _ _ h => h) (Or.inl ⟨by rfl, ?_⟩) hHeld ?_
        rotate_left
        · (intro w hSw; (try dsimp only at hSw); go_simp; try with_reducible rfl)
        try simp only [Act.put, List.setIfInBounds_toArray, List.set_cons_zero, List.set_cons_succ]
        refine wpAnyH_take (i := 1) (oi := { dst := some 22, op := Op.load 77 (Operand.tmp 3), type := 77, pos := "dist.go:157", after := #[], guard := none }) (v := ?_) rfl (by kernel_rfl) (by kernel_rfl) (by kernel_rfl) (fun _ _ _ h => h) (Or.inl ⟨by rfl, ?_⟩) hHeld ?_
        rotate_left
        · (intro w hSw; (try dsimp only at hSw); go_simp; try with_reducible rfl)
        try simp only [Act.put, List.setIfInBounds_toArray, List.set_cons_zero, List.set_cons_succ]
        refine wpAnyH_take (i := 2) (oi := { dst := some 23, op := Op.fieldAddr 33 (Operand.tmp 10) 0, type := 0, pos := "dist.go:157", after := #[], guard := none }) (v := ?_) rfl (by kernel_rfl) (by kernel_rfl) (by kernel_rfl) (fun _ _ _ h => h) (Or.inl ⟨by rfl, ?_⟩) hHeld ?_
        rotate_left
        · (intro w hSw; (try dsimp only at hSw); go_simp; try with_reducible rfl)
        try simp only [Act.put, List.setIfInBounds_toArray, List.set_cons_zero, List.set_cons_succ]
        refine wpAnyH_take (i := 3) (oi := { dst := some 24, op := Op.load 3 (Operand.tmp 23), type := 3, pos := "dist.go:157", after := #[{ on := 2, ground := Ground.data }], guard := none }) (v := ?_) rfl (by kernel_rfl) (by kernel_rfl) (by kernel_rfl) (fun _ _ _ h => h) (Or.inl ⟨by rfl, ?_⟩) hHeld ?_
        rotate_left
        · (intro w hSw; (try dsimp only at hSw); go_simp; try with_reducible rfl)
        try simp only [Act.put, List.setIfInBounds_toArray, List.set_cons_zero, List.set_cons_succ]
        refine wpAnyH_take (i := 5) (oi := { dst := some 26, op := Op.load 77 (Operand.tmp 3), type := 77, pos := "dist.go:157", after := #[], guard := none }) (v := ?_) rfl (by kernel_rfl) (by kernel_rfl) (by kernel_rfl) (fun _ _ _ h => h) (Or.inl ⟨by rfl, ?_⟩) hHeld ?_
        rotate_left
        · (intro w hSw; (try dsimp only at hSw); go_simp; try with_reducible rfl)
        try simp only [Act.put, List.setIfInBounds_toArray, List.set_cons_zero, List.set_cons_succ]
        refine wpAnyH_take (i := 6) (oi := { dst := some 27, op := Op.fieldAddr 33 (Operand.tmp 10) 1, type := 0, pos := "dist.go:157", after := #[], guard := none }) (v := ?_) rfl (by kernel_rfl) (by kernel_rfl) (by kernel_rfl) (fun _ _ _ h => h) (Or.inl ⟨by rfl, ?_⟩) hHeld ?_
        rotate_left
        · (intro w hSw; (try dsimp only at hSw); go_simp; try with_reducible rfl)
        try simp only [Act.put, List.setIfInBounds_toArray, List.set_cons_zero, List.set_cons_succ]
        refine wpAnyH_take (i := 7) (oi := { dst := some 28, op := Op.load 3 (Operand.tmp 27), type := 3, pos := "dist.go:157", after := #[{ on := 6, ground := Ground.data }], guard := none }) (v := ?_) rfl (by kernel_rfl) (by kernel_rfl) (by kernel_rfl) (fun _ _ _ h => h) (Or.inl ⟨by rfl, ?_⟩) hHeld ?_
        rotate_left
        · (intro w hSw; (try dsimp only at hSw); go_simp; try with_reducible rfl)
        try simp only [Act.put, List.setIfInBounds_toArray, List.set_cons_zero, List.set_cons_succ]
        refine wpAnyH_ready (rs := [4]) (by kernel_rfl) (by simp) ?_
        refine AllReadyH.cons (o := { dst := some 25, op := Op.call { callee := Callee.value (Operand.func 34), args := #[Operand.tmp 22, Operand.tmp 24], argTypes := #[77, 3] }, type := 44, pos := "dist.go:157", after := #[{ on := 1, ground := Ground.data }, { on := 3, ground := Ground.data }], guard := none }) rfl (fun K hK => ?_) AllReadyH.nil
        have CN : Hid _ := VARS.out w5.drew x KX.out.1 WX.out.1 (HSt.out.sub (HSU0.out)) RD0.out
        unfold VarsIs at CN
        go_simp
        go_at_call 34
        refine Calls.mono CN.out ?_
        rintro e v1w ⟨a1, c1, rfl, hI, hR, hT, hs⟩
        have RD1 : Hid (Rd v1w b kk bl p KL) := hR
        have TT1 : Hid (Turn b w v1w) := TT0.out.trans hT
        have HSU1 : Hid (Sub w v1w) := HSU0.out.trans hs
        have S_1 : Hid (Sub w5 v1w) := S_0.out.trans hs
        have TB1 : Hid (Turn b w5.drew v1w) := TB0.out.trans hT
        have IX : Hid (∀ w', Sub v1w w' → IntsAt w' a1 (vL bl p x)) := fun w' h => hI.sub h
        obtain ⟨nx, hnx⟩ : ∃ n, (vL bl p x).length = n := ⟨_, rfl⟩
        have NX : Hid ((vL bl p x).length = nx) := hnx
        rw [hnx]
        have hs_1 : Hid True := trivial
        clear CN hI hR hT hs hnx hs_1
        try go_wp2_with fail
        refine hK.out _ _ ?_ (fun hHeld_4 => ?_)
        · exact SS.out _ S_1.out
        clear hK K
        try simp only [Act.put, List.setIfInBounds_toArray, List.set_cons_zero, List.set_cons_succ]
        refine wpAnyH_ready (rs := [8]) (by kernel_rfl) (by simp) ?_
        refine AllReadyH.cons (o := { dst := some 29, op := Op.call { callee := Callee.value (Operand.func 34), args := #[Operand.tmp 26, Operand.tmp 28], argTypes := #[77, 3] }, type := 44, pos := "dist.go:157", after := #[{ on := 5, ground := Ground.data }, { on := 7, ground := Ground.data }, { on := 4, ground := Ground.chain }], guard := none }) rfl (fun K hK => ?_) AllReadyH.nil
        have CN : Hid _ := VARS.out v1w y KX.out.2 WX.out.2 (HSt.out.sub (HSU1.out)) RD1.out
        unfold VarsIs at CN
        go_simp
        go_at_call 34
        refine Calls.mono CN.out ?_
        rintro e v2w ⟨a2, c2, rfl, hI, hR, hT, hs⟩
        have RD2 : Hid (Rd v2w b kk bl p KL) := hR
        have TT2 : Hid (Turn b w v2w) := TT1.out.trans hT
        have HSU2 : Hid (Sub w v2w) := HSU1.out.trans hs
        have S_2 : Hid (Sub w5 v2w) := S_1.out.trans hs
        have TB2 : Hid (Turn b w5.drew v2w) := TB1.out.trans hT
        have IY : Hid (IntsAt v2w a2 (vL bl p y)) := hI
        have IXX : Hid (IntsAt v2w a1 (vL bl p x)) := IX.out _ hs
        obtain ⟨ny, hny⟩ : ∃ n, (vL bl p y).length = n := ⟨_, rfl⟩
        have NY : Hid ((vL bl p y).length = ny) := hny
        rw [hny]
        clear CN hI hR hT hs hny
        try go_wp2_with fail
        refine hK.out _ _ ?_ (fun hHeld_8 => ?_)
        · exact SS.out _ S_2.out
        clear hK K
        try simp only [Act.put, List.setIfInBounds_toArray, List.set_cons_zero, List.set_cons_succ]
        refine wpAnyH_ready (rs := [9]) (by kernel_rfl) (by simp) ?_
        refine AllReadyH.cons (o := { dst := some 30, op := Op.call { callee := Callee.value (Operand.tmp 21), args := #[Operand.tmp 25, Operand.tmp 29], argTypes := #[44, 44] }, type := 4, pos := "dist.go:157", after := #[{ on := 0, ground := Ground.data }, { on := 4, ground := Ground.data }, { on := 8, ground := Ground.data }, { on := 8, ground := Ground.chain }], guard := none }) rfl (fun K hK => ?_) AllReadyH.nil
        have CN : Hid _ := meet_any v2w a1 a2 nx c1 ny c2 (vL bl p x) (vL bl p y) NX.out (by rw [← NX.out]; exact VLN.out x) NY.out (by rw [← NY.out]; exact VLN.out y) ((vL_up bl p y).imp fun h => Int.le_of_lt h) IXX.out IY.out
        have EB : Hid (bad (x, y) = (fun q => meetB (vL bl p q.1) (vL bl p q.2)) (x, y)) := by show _ = _; rw [HBAD.out]
        have EB2 := EB.out
        dsimp only at EB2
        rw [← EB2] at CN
        obtain ⟨jb, hjb⟩ : ∃ jb, bad (x, y) = jb := ⟨_, rfl⟩
        have HJ : Hid (bad (x, y) = jb) := hjb
        rw [hjb] at CN
        clear EB EB2 hjb
        go_simp
        go_at_call 33
        refine Calls.mono CN.out ?_
        rintro e v3w ⟨rfl, hb⟩
        have S_3 : Hid (Sub w5 v3w) := S_2.out.trans (sub_below hb)
        have I6 : Hid (FMid w w3 b (B + 1) (B + 2) kk bl p KL l j v3w) := I5d.out.mid (by have := HLB.out; omega) TB2.out RD2.out TT2.out HSU2.out hb
        clear CN hb
        try go_wp2_with fail
        refine hK.out _ _ ?_ (fun hHeld_9 => ?_)
        · exact SS.out _ S_3.out
        clear hK K
        try simp only [Act.put, List.setIfInBounds_toArray, List.set_cons_zero, List.set_cons_succ]
        refine wpAnyH_done (by kernel_rfl) ?_ _
        clear IX IXX IY NX NY RD0 RD1 RD2 TT0 TT1 TT2 HSU0 HSU1 HSU2 S_0 S_1 S_2 TB0 TB1 TB2 I5d
        obtain ⟨l0, l1, l2, z0, z1⟩ := SS.out _ S_3.out
        rcases jb
        · have C35 : Hid _ := put_any v3w (B + 2) j _ (x, y) (by omega) WX.out I6.out.ps
          unfold encP at C35
          dsimp only at C35
          go_wp2_with fail
          refine Calls.mono C35.out ?_
          rintro e w6 ⟨rfl, hP6, hT6⟩
          have INV2 : Hid (FInv w w3 b (B + 1) (B + 2) kk bl p KL l bad (j + 1) w6) := I6.out.next I5.out.ok HX.out HJ.out hP6 hT6 HLB.out (by rw [HB.out]; omega) (by omega)
          clear C35 hP6 hT6
          go_wp2
          go_roundw
          case rel => exact ⟨j + 1, by omega, by go_num, INV2.out⟩
          case measure => simp [intOf]; omega
        · have HFd : Hid (l.find? bad = some (x, y)) := find_at HX.out HJ.out I5.out.ok
          have k6 := I6.out.res
          have m0 : v3w.cell? ⟨B + 1, 0, none⟩ = some (.int .i64 0) := by simp [World.cell?, k6]
          have m1 : v3w.cell? ⟨B + 1, 1, none⟩ = some (.int .i64 0) := by simp [World.cell?, k6]
          have q0 : v3w.frozen? ⟨B + 1, 0, none⟩ = false := by simp [World.frozen?, k6]
          have q1 : v3w.frozen? ⟨B + 1, 1, none⟩ = false := by simp [World.frozen?, k6]
          have HW : Hid (Turn b w ((v3w.setCell ⟨B + 1, 0, none⟩ (.int .i64 x)).setCell ⟨B + 1, 1, none⟩ (.int .i64 y)) ∧ Sub w ((v3w.setCell ⟨B + 1, 0, none⟩ (.int .i64 x)).setCell ⟨B + 1, 1, none⟩ (.int .i64 y))) := far_set2 I6.out.turn I6.out.sub (by rw [HB.out]; omega) _ _
          clear k6
          obtain ⟨wE, hwE⟩ : ∃ wE, wE = (v3w.setCell ⟨B + 1, 0, none⟩ (.int .i64 x)).setCell ⟨B + 1, 1, none⟩ (.int .i64 y) := ⟨_, rfl⟩
          rw [← hwE] at HW
          have kw0 : wE.cell? ⟨B + 1, 0, none⟩ = some (.int .i64 x) := by rw [hwE, World.cell?_setCell_other _ _ _ _ (by simp)]; exact World.cell?_setCell_same _ _ _ m0
          have kw1 : wE.cell? ⟨B + 1, 1, none⟩ = some (.int .i64 y) := by rw [hwE]; exact World.cell?_setCell_same _ _ _ ((World.cell?_setCell_other _ _ _ _ (by simp)).trans m1)
          go_wp2
          rw [← hwE]
          clear hwE m0 m1 q0 q1
          refine bodyPost_ret (v := .tuple #[.agg #[.int .i64 x, .int .i64 y], .bool true]) (by simp [results, Tryz.results32, go_sem, kw0, kw1]) rfl ?_
          rw [HFd.out]
          exact ⟨rfl, HW.out.1, HW.out.2, fun h => by cases h⟩
      · have TR : Hid (∃ q' ∈ l.take j, turnP q' = turnP (x, y)) := HF.out.1 rfl
        have INV2 : Hid (FInv w w3 b (B + 1) (B + 2) kk bl p KL l bad (j + 1) w5) := I5.out.again HX.out TR.out SYM.out
        clear HF SS I5 TR
        go_wp2
        go_roundw
        case rel => exact ⟨j + 1, by omega, by go_num, INV2.out⟩
        case measure => simp [intOf]; omega
    · have n1 : ¬ (j : Int) < (nL : Int) := by omega
      have HFd : Hid (l.find? bad = none) := find_none (by have h := INV.out.ok; rw [List.take_of_length_le (by rw [HLL.out]; omega)] at h; exact h)
      have k6 := INV.out.res
      have m0 : wr.cell? ⟨B + 1, 0, none⟩ = some (.int .i64 0) := by simp [World.cell?, k6]
      have m1 : wr.cell? ⟨B + 1, 1, none⟩ = some (.int .i64 0) := by simp [World.cell?, k6]
      have q0 : wr.frozen? ⟨B + 1, 0, none⟩ = false := by simp [World.frozen?, k6]
      have q1 : wr.frozen? ⟨B + 1, 1, none⟩ = false := by simp [World.frozen?, k6]
      have HW : Hid (Turn b w ((wr.setCell ⟨B + 1, 0, none⟩ (.int .i64 0)).setCell ⟨B + 1, 1, none⟩ (.int .i64 0)) ∧ Sub w ((wr.setCell ⟨B + 1, 0, none⟩ (.int .i64 0)).setCell ⟨B + 1, 1, none⟩ (.int .i64 0)) ∧ Rd ((wr.setCell ⟨B + 1, 0, none⟩ (.int .i64 0)).setCell ⟨B + 1, 1, none⟩ (.int .i64 0)) b kk bl p KL) := INV.out.done (by rw [HB.out]; omega)
      clear k6 INV
      obtain ⟨wE, hwE⟩ : ∃ wE, wE = (wr.setCell ⟨B + 1, 0, none⟩ (.int .i64 0)).setCell ⟨B + 1, 1, none⟩ (.int .i64 0) := ⟨_, rfl⟩
      rw [← hwE] at HW
      have kw0 : wE.cell? ⟨B + 1, 0, none⟩ = some (.int .i64 0) := by rw [hwE, World.cell?_setCell_other _ _ _ _ (by simp)]; exact World.cell?_setCell_same _ _ _ m0
      have kw1 : wE.cell? ⟨B + 1, 1, none⟩ = some (.int .i64 0) := by rw [hwE]; exact World.cell?_setCell_same _ _ _ ((World.cell?_setCell_other _ _ _ _ (by simp)).trans m1)
      go_wp2
      rw [← hwE]
      clear hwE m0 m1 q0 q1
      refine bodyPost_ret (v := .tuple #[.agg #[.int .i64 0, .int .i64 0], .bool false]) (by simp [results, Tryz.results32, go_sem, kw0, kw1]) rfl ?_
      rw [HFd.out]
      exact ⟨rfl, HW.out.1, HW.out.2.1, fun _ => HW.out.2.2⟩
end Go.Proofs.YtjaccgkeldabfaaGreat
