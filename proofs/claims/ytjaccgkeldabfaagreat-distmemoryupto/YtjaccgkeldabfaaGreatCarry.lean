/- Carry: which pairs a substitution asks for. -/
import Derived.Test.YtjaccgkeldabfaaGreatFirst
import Derived.Test.YtjaccgkeldabfaaGreatUnion
import Derived.Laws.EntriesVeiled
namespace Go.Proofs.YtjaccgkeldabfaaGreat
open Go.RowKit

/-- A pair is broken outright: a variable stands on both sides. -/
def badM (bl : List (Int × List Int)) (p : Int → Bool) (q : Pr) : Bool := meetB (vL bl p q.1) (vL bl p q.2)
/-- What is asked for of pairs in order. -/
def askS (bl : List (Int × List Int)) (p : Int → Bool) (mn : List Pr) (q : Pr) : Prop := ∃ pr ∈ mn, ∃ a ∈ vL bl p pr.1, ∃ b ∈ vL bl p pr.2, q = turnP (a, b)
/-- What Carry answers. -/
def CarryIs (w w' : World) (e : Ending) (bl : List (Int × List Int)) (p : Int → Bool) (l : List Pr) : Prop := Below w.heap.size w w' ∧
  ((∃ q, l.find? (badM bl p) = some q ∧ e = .returned (.tuple #[.slice none 0 0, encP q, .bool false])) ∨
   (l.find? (badM bl p) = none ∧ ∃ v mm mn, e = .returned (.tuple #[v, encP (0, 0), .bool true]) ∧ IsNorm l mn ∧ Told (askS bl p mn) mm ∧ mm.length ≤ 1099511627776 ∧ w'.ownsRow w.heap.size 33 2 v mm.length (rowP mm)))
/-- Carry along its loops: what is asked for so far. -/
structure CInv (w w8 : World) (B bA kk : Nat) (bl : List (Int × List Int)) (p : Int → Bool) (KL : List Int) (L : List Pr) (S : Pr → Prop) (wx : World) : Prop where
  rd : Rd wx (B + 2) kk bl p KL
  ps : PS wx bA L.length S
  cin : ∀ q, S q → q ∈ L
  sub : Sub w8 wx
  below : Below B w wx
  res : wx.heap[B + 1]? = some (.cells #[.int .i64 0, .int .i64 0] 33 (0, 0))
section
variable {w w8 wx wy : World} {B bA kk : Nat} {bl : List (Int × List Int)} {p : Int → Bool} {KL : List Int} {L : List Pr} {S S' : Pr → Prop}
theorem CInv.of_below (h : CInv w w8 B bA kk bl p KL L S wx) (hB : w.heap.size = B) (hb : Below wx.heap.size wx wy) : CInv w w8 B bA kk bl p KL L S wy :=
  ⟨h.rd.kept (hb.block _ h.rd.low) (sub_below hb), h.ps.kept (hb.block _ h.ps.low), h.cin, h.sub.trans (sub_below hb), h.below.trans (hb.mono (by have := h.below.size; omega)), (hb.block _ (Array.getElem?_eq_some_iff.1 h.res).1).trans h.res⟩
theorem CInv.of_vars (h : CInv w w8 B bA kk bl p KL L S wx) (hB : w.heap.size = B) (hA : bA ≠ B + 2) (ht : Turn (B + 2) wx wy) (hr : Rd wy (B + 2) kk bl p KL) (hs : Sub wx wy) : CInv w w8 B bA kk bl p KL L S wy :=
  ⟨hr, h.ps.kept (ht.block _ h.ps.low hA), h.cin, h.sub.trans hs, h.below.trans (ht.below (by have := h.below.size; omega) (by omega)), (ht.block _ (Array.getElem?_eq_some_iff.1 h.res).1 (by omega)).trans h.res⟩
theorem CInv.of_put {q : Pr} (h : CInv w w8 B bA kk bl p KL L S wx) (hB : w.heap.size = B) (hA : B + 2 < bA) (ht : Turn bA wx wy) (hp : PS wy bA (L.length + 1) (fun z => z = turnP q ∨ S z)) (hq : turnP q ∈ L) : CInv w w8 B bA kk bl p KL L (fun z => z = turnP q ∨ S z) wy := by
  have hs : Sub wx wy := ht.sub h.ps.isM
  have hc : ∀ z, (z = turnP q ∨ S z) → z ∈ L := fun z hz => by
    rcases hz with rfl | hz
    · exact hq
    · exact h.cin z hz
  exact ⟨h.rd.kept (ht.block _ h.rd.low (by omega)) hs, hp.tight L fun z _ hz => hc z hz, hc, h.sub.trans hs, h.below.trans (ht.below (by have := h.below.size; omega) (by omega)), (ht.block _ (Array.getElem?_eq_some_iff.1 h.res).1 (by omega)).trans h.res⟩
theorem CInv.same (h : CInv w w8 B bA kk bl p KL L S wx) (he : ∀ q, S q ↔ S' q) : CInv w w8 B bA kk bl p KL L S' wx :=
  ⟨h.rd, h.ps.same he, fun q hq => h.cin q ((he q).2 hq), h.sub, h.below, h.res⟩
end
/-- .. amid the loops: the first i pairs, of the next one the first j variables on the left, of the next one the first k on the right. -/
def askA (bl : List (Int × List Int)) (p : Int → Bool) (mn : List Pr) (i : Nat) (la lb : List Int) (j : Nat) (q : Pr) : Prop := askS bl p (mn.take i) q ∨ ∃ a ∈ la.take j, ∃ b ∈ lb, q = turnP (a, b)
def askB (bl : List (Int × List Int)) (p : Int → Bool) (mn : List Pr) (i : Nat) (la lb : List Int) (j : Nat) (a : Int) (k : Nat) (q : Pr) : Prop := askA bl p mn i la lb j q ∨ ∃ b ∈ lb.take k, q = turnP (a, b)
theorem take_int {l : List Int} {j : Nat} {x : Int} (h : l[j]? = some x) : l.take (j + 1) = l.take j ++ [x] := by rw [List.take_add_one, h]; rfl
theorem askA_zero {bl : List (Int × List Int)} {p : Int → Bool} {mn : List Pr} {i : Nat} {la lb : List Int} (q : Pr) : askS bl p (mn.take i) q ↔ askA bl p mn i la lb 0 q := by
  unfold askA
  simp
theorem askA_all {bl : List (Int × List Int)} {p : Int → Bool} {mn : List Pr} {i n : Nat} {x y : Int} (hx : mn[i]? = some (x, y)) (hn : (vL bl p x).length ≤ n) (q : Pr) : askA bl p mn i (vL bl p x) (vL bl p y) n q ↔ askS bl p (mn.take (i + 1)) q := by
  unfold askA askS
  rw [List.take_of_length_le hn, take_pair hx]
  constructor
  · rintro (⟨pr, h1, h2⟩ | ⟨a, ha, b, hb, e⟩)
    · exact ⟨pr, by simp [h1], h2⟩
    · exact ⟨(x, y), by simp, a, ha, b, hb, e⟩
  · rintro ⟨pr, h1, h2⟩
    rcases List.mem_append.1 h1 with h1 | h1
    · exact .inl ⟨pr, h1, h2⟩
    · simp at h1; subst h1; exact .inr h2
theorem askB_zero {bl : List (Int × List Int)} {p : Int → Bool} {mn : List Pr} {i j : Nat} {la lb : List Int} {a : Int} (q : Pr) : askA bl p mn i la lb j q ↔ askB bl p mn i la lb j a 0 q := by
  unfold askB
  simp
theorem askB_all {bl : List (Int × List Int)} {p : Int → Bool} {mn : List Pr} {i j n : Nat} {la lb : List Int} {a : Int} (ha : la[j]? = some a) (hn : lb.length ≤ n) (q : Pr) : askB bl p mn i la lb j a n q ↔ askA bl p mn i la lb (j + 1) q := by
  unfold askB askA
  rw [List.take_of_length_le hn, take_int ha]
  constructor
  · rintro ((h | ⟨a', h1, h2⟩) | ⟨b, hb, e⟩)
    · exact .inl h
    · exact .inr ⟨a', by simp [h1], h2⟩
    · exact .inr ⟨a, by simp, b, hb, e⟩
  · rintro (h | ⟨a', h1, h2⟩)
    · exact .inl (.inl h)
    · rcases List.mem_append.1 h1 with h1 | h1
      · exact .inl (.inr ⟨a', h1, h2⟩)
      · simp at h1; subst h1; exact .inr h2
theorem askB_next {bl : List (Int × List Int)} {p : Int → Bool} {mn : List Pr} {i j k : Nat} {la lb : List Int} {a b : Int} (hb : lb[k]? = some b) (q : Pr) : (q = turnP (a, b) ∨ askB bl p mn i la lb j a k q) ↔ askB bl p mn i la lb j a (k + 1) q := by
  unfold askB
  rw [take_int hb]
  constructor
  · rintro (h | h | ⟨b', h1, h2⟩)
    · exact .inr ⟨b, by simp, h⟩
    · exact .inl h
    · exact .inr ⟨b', by simp [h1], h2⟩
  · rintro (h | ⟨b', h1, h2⟩)
    · exact .inr (.inl h)
    · rcases List.mem_append.1 h1 with h1 | h1
      · exact .inr (.inr ⟨b', h1, h2⟩)
      · simp at h1; subst h1; exact .inl h2
/-- All pairs of some numbers. -/
def boxP (U : List Int) : List Pr := U.flatMap fun a => U.map fun b => turnP (a, b)
theorem box_mem {U : List Int} {a b : Int} (ha : a ∈ U) (hb : b ∈ U) : turnP (a, b) ∈ boxP U := List.mem_flatMap.2 ⟨a, ha, List.mem_map.2 ⟨b, hb, rfl⟩⟩
theorem sum_const (n : Nat) : ∀ V : List Int, (V.map fun _ => n).sum = V.length * n
  | [] => by simp
  | a :: V => by rw [List.map_cons, List.sum_cons, sum_const n V, List.length_cons, Nat.add_mul, Nat.one_mul, Nat.add_comm]
theorem box_len (U : List Int) : (boxP U).length = U.length * U.length := by
  unfold boxP
  rw [List.length_flatMap]
  simp only [List.length_map]
  exact sum_const _ U
theorem owns_kept {W W' : World} {base : Nat} {e : TypeId} {size : Nat} {v : Value} {n : Nat} {xs : List Value} (h : W.ownsRow base e size v n xs) (hg : ∀ g, v.ownBlock = some g → W'.heap[g]? = W.heap[g]?) : W'.ownsRow base e size v n xs := by
  refine ⟨h.1, ?_⟩
  rcases h.2 with h0 | ⟨g, cap, cur, hv, hb, hh, hr⟩
  · exact .inl h0
  · exact .inr ⟨g, cap, cur, hv, hb, (hg g (by rw [hv]; rfl)).trans hh, hr⟩

set_option maxRecDepth 100000 in
set_option maxHeartbeats 16000000 in
theorem carry_any (w : World) (aL : Option Addr) (nL cL : Nat) (l : List Pr) (aS : Option Addr) (nS cS : Nat) (bl : List (Int × List Int)) (sl ss sh : Value) (m r : Int) (U : List Int) (hn : nS ≤ 4398046511000) (hbig : ∀ q ∈ bl, q.2.length ≤ 17592186043904) (hwb : ∀ q ∈ bl, ∀ x ∈ q.2, wfI x) (hm : wfI m) (hl : l.length = nL) (hnL : nL ≤ 2199023255000) (hwl : ∀ p ∈ l, wfP p) (hS : S.BindsAt w aS nS bl) (hL : PairsAt w aL l)
    (hU : ∀ q ∈ l, (∀ x ∈ strOf bl q.1, x ∈ U) ∧ ∀ x ∈ strOf bl q.2, x ∈ U) (hUl : U.length ≤ 1048576) :
    Calls Tryz.prog 9 #[.slice aL nL cL, .agg #[.slice aS nS cS], fnV (carried sl ss sh m r)] w fun e w' => CarryIs w w' e bl (isV m r) l := by
  unfold CarryIs
  obtain ⟨KL, hKL⟩ : ∃ KL : List Int, KL = l.map (·.1) ++ l.map (·.2) := ⟨_, rfl⟩
  obtain ⟨kk, hkk⟩ : ∃ kk, kk = KL.length := ⟨_, rfl⟩
  have hkb : kk ≤ 4398046511000 := by rw [hkk, hKL]; simp; omega
  have hK : ∀ q ∈ l, q.1 ∈ KL ∧ q.2 ∈ KL := fun q hq => by
    rw [hKL]
    exact ⟨List.mem_append_left _ (List.mem_map.2 ⟨q, hq, rfl⟩), List.mem_append_right _ (List.mem_map.2 ⟨q, hq, rfl⟩)⟩
  have VARS : Hid (∀ (W : World) (b : Nat) (v : Int), v ∈ KL → wfI v → S.BindsAt W aS nS bl → Rd W b kk bl (isV m r) KL → Calls Tryz.prog 34 #[readerV aS nS cS (fnV (carried sl ss sh m r)) b, .int .i64 v] W fun e w' => VarsIs W w' e b kk bl (isV m r) KL v) := fun W b v h1 h2 h3 h4 => variables_any W b kk aS nS cS bl sl ss sh m r v KL h1 (by omega) hn hbig hwb h2 hm (by omega) h3 h4
  have FIRST : Hid (∀ (W : World) (b : Nat), S.BindsAt W aS nS bl → Rd W b kk bl (isV m r) KL → PairsAt W aL l → Calls Tryz.prog 32 #[readerV aS nS cS (fnV (carried sl ss sh m r)) b, .slice aL nL cL, .func (.func 33) #[] #[]] W fun e w' => FirstIs W w' e b kk bl (isV m r) KL l (badM bl (isV m r))) := fun W b h1 h2 h3 => first33_any W b kk aS nS cS bl sl ss sh m r aL nL cL l KL hK (by omega) hn hbig hwb hm (by omega) hl hnL hwl h1 h2 h3
  have VLN : Hid (∀ v, (vL bl (isV m r) v).length ≤ 17592186043904) := fun v => Nat.le_trans (vL_len _ _ _) (str_len hbig v)
  have VWF : Hid (∀ v, wfI v → ∀ x ∈ vL bl (isV m r) v, wfI x) := fun v hv x hx => str_wf hwb hv x (vL_mem.1 hx).1
  have VU : Hid (∀ mn, IsNorm l mn → ∀ q ∈ mn, (∀ x ∈ vL bl (isV m r) q.1, x ∈ U) ∧ (∀ x ∈ vL bl (isV m r) q.2, x ∈ U) ∧ q.1 ∈ KL ∧ q.2 ∈ KL) := fun mn hmn q hq => by
    obtain ⟨_, q0, hq0, e0⟩ := (hmn.mem q).1 hq
    have e1 : turnP q0 = turnP q := by rw [e0]; exact (turn_id (by have := ((hmn.mem q).1 hq).1; omega)).symm
    obtain ⟨u1, u2⟩ := hU q0 hq0
    obtain ⟨k1, k2⟩ := hK q0 hq0
    rcases turn_eq.1 e1 with ⟨h1, h2⟩ | ⟨h1, h2⟩
    · rw [← h1, ← h2]
      exact ⟨fun x hx => u1 x (vL_mem.1 hx).1, fun x hx => u2 x (vL_mem.1 hx).1, k1, k2⟩
    · rw [← h1, ← h2]
      exact ⟨fun x hx => u2 x (vL_mem.1 hx).1, fun x hx => u1 x (vL_mem.1 hx).1, k2, k1⟩
  have LB : Hid ((boxP U).length ≤ 1099511627776) := by
    show _ ≤ _
    rw [box_len]
    exact Nat.mul_le_mul hUl hUl
  obtain ⟨ca, hca⟩ : ∃ ca, ca = carried sl ss sh m r := ⟨_, rfl⟩
  rw [← hca] at VARS FIRST ⊢
  unfold fnV at *
  generalize isV m r = p at *
  unfold readerV at *
  obtain ⟨w4, hw4⟩ : ∃ w4, w4 = (((w.alloc (.cells #[.slice aS nS cS] 27)).alloc (.cells #[.int .i64 0, .int .i64 0] 33)).alloc (.map #[] 0)).alloc (.cells #[.slice aS nS cS, .func (.func 10) #[ca] #[], .map (some (w.heap.size + 2))] 77) := ⟨_, rfl⟩
  have hs4 : w4.heap.size = w.heap.size + 4 := by rw [hw4]; simp
  have B4 : Hid (Below w.heap.size w w4) := by rw [hw4]; exact (((below_alloc _ _).alloc (by simp) _).alloc (by simp; omega) _).alloc (by simp; omega) _
  have KS : Hid (w4.cell? ⟨w.heap.size + 3, 0, none⟩ = some (.slice aS nS cS) ∧ w4.cell? ⟨w.heap.size + 3, 1, none⟩ = some (.func (.func 10) #[ca] #[]) ∧ w4.cell? ⟨w.heap.size + 3, 2, none⟩ = some (.map (some (w.heap.size + 2)))) := by
    have e1 : (((w.alloc (.cells #[.slice aS nS cS] 27)).alloc (.cells #[.int .i64 0, .int .i64 0] 33)).alloc (.map #[] 0)).heap.size = w.heap.size + 3 := by simp
    refine ⟨?_, ?_, ?_⟩ <;> (rw [hw4, ← e1]; exact World.cell?_alloc_new _ _ _ _)
  have K6 : Hid (w4.heap[w.heap.size + 1]? = some (.cells #[.int .i64 0, .int .i64 0] 33 (0, 0))) := by
    have e1 : (w.alloc (.cells #[.slice aS nS cS] 27)).heap.size = w.heap.size + 1 := by simp
    rw [hw4, Below.heap_alloc _ _ _ (by simp), Below.heap_alloc _ _ _ (by simp), ← e1]
    exact World.alloc_heap_new _ _
  have R4 : Rd w4 (w.heap.size + 2) kk bl p KL := by
    have e2 : ((w.alloc (.cells #[.slice aS nS cS] 27)).alloc (.cells #[.int .i64 0, .int .i64 0] 33)).heap.size = w.heap.size + 2 := by simp
    have h := Rd.made ((w.alloc (.cells #[.slice aS nS cS] 27)).alloc (.cells #[.int .i64 0, .int .i64 0] 33)) bl p KL
    rw [e2] at h
    rw [hw4]
    exact (h.up (Nat.zero_le _)).kept (Below.heap_alloc _ _ _ (by simp)) (sub_below (below_alloc _ _))
  have C32 : Hid _ := FIRST.out w4 (w.heap.size + 2) (hS.sub (sub_below B4.out)) R4 (hL.sub (sub_below B4.out))
  have HSt : Hid (S.BindsAt w4 aS nS bl) := hS.sub (sub_below B4.out)
  have HPL : Hid (PairsAt w4 aL l) := hL.sub (sub_below B4.out)
  have HLL : Hid (l.length = nL) := hl
  have HWL : Hid (∀ q ∈ l, wfP q) := hwl
  have HS4 : Hid (w4.heap.size = w.heap.size + 4) := hs4
  clear hn hbig hwb hm hl hwl hS hL R4 hca hs4 hU hUl hKL hkk hK FIRST
  generalize hB : w.heap.size = B at *
  have HB : Hid (w.heap.size = B) := hB
  clear hB
  have hmm := @run_makeMap Tryz.prog
  go_enter Tryz.func9, Tryz.ntmps9
  go_wp2_with fail
  rw [HB.out]
  rw [← hw4]
  clear hw4
  refine Calls.mono C32.out ?_
  rintro e w5 ⟨rfl, hT5, hS5, hR5⟩
  have B5 : Hid (Below B w w5) := B4.out.trans (hT5.below (by have := HS4.out; omega) (by omega))
  have S5 : Hid (Sub w4 w5) := hS5
  have R5 : Hid (w5.heap[B + 1]? = some (.cells #[.int .i64 0, .int .i64 0] 33 (0, 0))) := (hT5.block (B + 1) (by rw [HS4.out]; omega) (by omega)).trans K6.out
  have hsz5 : B + 4 ≤ w5.heap.size := by have := hT5.size; rw [HS4.out] at this; exact this
  have HSZ5 : Hid (B + 4 ≤ w5.heap.size) := hsz5
  rcases hf : l.find? (badM bl p) with _ | ⟨x, y⟩
  rotate_left
  · have HF : Hid (l.find? (badM bl p) = some (x, y)) := hf
    obtain ⟨w6, hw6⟩ : ∃ w6, w6 = w5.alloc (.cells #[.int .i64 x, .int .i64 y] 33) := ⟨_, rfl⟩
    have B6 : Hid (Below B w w6) := by rw [hw6]; exact B5.out.alloc (by have := HSZ5.out; omega) _
    have z0 : w6.drew.cell? ⟨w5.heap.size, 0, none⟩ = some (.int .i64 x) := by rw [hw6]; exact World.cell?_alloc_new w5 _ _ 0
    have z1 : w6.drew.cell? ⟨w5.heap.size, 1, none⟩ = some (.int .i64 y) := by rw [hw6]; exact World.cell?_alloc_new w5 _ _ 1
    have R6 : w6.heap[B + 1]? = some (.cells #[.int .i64 0, .int .i64 0] 33 (0, 0)) := by rw [hw6]; exact (Below.heap_alloc _ _ _ (by omega)).trans R5.out
    have m0 : w6.cell? ⟨B + 1, 0, none⟩ = some (.int .i64 0) := by simp [World.cell?, R6]
    have m1 : w6.cell? ⟨B + 1, 1, none⟩ = some (.int .i64 0) := by simp [World.cell?, R6]
    have q0 : w6.frozen? ⟨B + 1, 0, none⟩ = false := by simp [World.frozen?, R6]
    have q1 : w6.frozen? ⟨B + 1, 1, none⟩ = false := by simp [World.frozen?, R6]
    obtain ⟨wE, hwE⟩ : ∃ wE, wE = ((w6.setCell ⟨B + 1, 0, none⟩ (.int .i64 x)).setCell ⟨B + 1, 1, none⟩ (.int .i64 y)).drew := ⟨_, rfl⟩
    have BE : Hid (Below B w wE) := by
      have t1 : Turn (B + 1) w6 ((w6.setCell ⟨B + 1, 0, none⟩ (.int .i64 x)).setCell ⟨B + 1, 1, none⟩ (.int .i64 y)) := (turn_setCell _ _ _ _).trans (turn_setCell _ _ _ _)
      have b6 := B6.out.trans (t1.below (N := B) (by have := B6.out.size; have := HB.out; omega) (by omega))
      rw [hwE]
      exact ⟨b6.os, b6.tape, b6.output, b6.size, b6.block⟩
    have kw0 : wE.cell? ⟨B + 1, 0, none⟩ = some (.int .i64 x) := by rw [hwE]; exact (World.cell?_setCell_other _ _ _ _ (by simp)).trans (World.cell?_setCell_same _ _ _ m0)
    have kw1 : wE.cell? ⟨B + 1, 1, none⟩ = some (.int .i64 y) := by rw [hwE]; exact World.cell?_setCell_same _ _ _ ((World.cell?_setCell_other _ _ _ _ (by simp)).trans m1)
    clear hR5 hT5 hS5 hf R6
    unfold encP
    simp only [Option.getD_some, Option.isSome_some]
    go_wp2_with fail
    rw [← hw6]
    clear hw6
    generalize hB10 : w5.heap.size = B10 at *
    clear hB10
    refine wp_region_held_drew (S := fun w' => w'.cell? ⟨B10, 0, none⟩ = some (.int .i64 x) ∧ w'.cell? ⟨B10, 1, none⟩ = some (.int .i64 y)) (by kernel_rfl) ?_ (fun hHeld => ?_)
    · exact ⟨z0, z1⟩
    have ZE : Hid (wE.cell? ⟨B10, 0, none⟩ = some (.int .i64 x) ∧ wE.cell? ⟨B10, 1, none⟩ = some (.int .i64 y)) := by
      have hne : B10 ≠ B + 1 := by omega
      rw [hwE]
      exact ⟨((World.cell?_setCell_far _ _ _ _ (fun h => hne h.symm)).trans (World.cell?_setCell_far _ _ _ _ (fun h => hne h.symm))).trans z0, ((World.cell?_setCell_far _ _ _ _ (fun h => hne h.symm)).trans (World.cell?_setCell_far _ _ _ _ (fun h => hne h.symm))).trans z1⟩
    refine wpAnyH_take (i := 0) (oi := { dst := some 30, op := Op.load 33 (Operand.tmp 10), type := 33, pos := "dist.go:69", after := #[{ on := 1, ground := Ground.gcOnly Departure.lateStores }], guard := none }) (v := ?_) rfl (by kernel_rfl) (by kernel_rfl) (by kernel_rfl) (fun _ _ _ h => h) (Or.inl ⟨by rfl, ?_⟩) hHeld ?_
    rotate_left
    · (intro w hSw; (try dsimp only at hSw); go_simp; try with_reducible rfl)
    try simp only [Act.put, List.setIfInBounds_toArray, List.set_cons_zero, List.set_cons_succ]
    refine wpAnyH_take (i := 1) (oi := { dst := some 6, op := Op.assign (Operand.const (Value.slice none 0 0)), type := 22, pos := "dist.go:69", after := #[{ on := 0, ground := Ground.textOnly Departure.lateStores }], guard := none }) (v := ?_) rfl (by kernel_rfl) (by kernel_rfl) (by kernel_rfl) (fun _ _ _ h => h) (Or.inl ⟨by rfl, ?_⟩) hHeld ?_
    rotate_left
    · (intro w hSw; (try dsimp only at hSw); go_simp; try with_reducible rfl)
    try simp only [Act.put, List.setIfInBounds_toArray, List.set_cons_zero, List.set_cons_succ]
    refine wpAnyH_ready (rs := [2]) (by kernel_rfl) (by simp) ?_
    refine AllReadyH.cons (o := { dst := none, op := Op.store 33 (Operand.tmp 7) (Operand.tmp 30), type := 0, pos := "dist.go:69", after := #[{ on := 0, ground := Ground.data }, { on := 1, ground := Ground.chain }, { on := 0, ground := Ground.phase }, { on := 1, ground := Ground.phase }], guard := none }) rfl (fun K hK => ?_) AllReadyH.nil
    go_simp
    rw [← hwE]
    try go_wp2_with fail
    refine hK.out _ _ ?_ (fun hHeld_2 => ?_)
    · exact ZE.out
    clear hK K
    try simp only [Act.put, List.setIfInBounds_toArray, List.set_cons_zero, List.set_cons_succ]
    refine wpAnyH_take (i := 3) (oi := { dst := some 8, op := Op.assign (Operand.const (Value.bool false)), type := 4, pos := "dist.go:69", after := #[{ on := 2, ground := Ground.chain }, { on := 0, ground := Ground.phase }, { on := 1, ground := Ground.phase }, { on := 2, ground := Ground.phase }], guard := none }) (v := ?_) rfl (by kernel_rfl) (by kernel_rfl) (by kernel_rfl) (fun _ _ _ h => h) (Or.inl ⟨by rfl, ?_⟩) hHeld_2 ?_
    rotate_left
    · (intro w hSw; (try dsimp only at hSw); go_simp; try with_reducible rfl)
    try simp only [Act.put, List.setIfInBounds_toArray, List.set_cons_zero, List.set_cons_succ]
    refine wpAnyH_done (by kernel_rfl) ?_ _
    go_wp2
    clear hwE m0 m1 q0 q1
    refine bodyPost_ret (v := .tuple #[.slice none 0 0, .agg #[.int .i64 x, .int .i64 y], .bool false]) (by simp [results, Tryz.results9, go_sem, kw0, kw1]) rfl ?_
    exact ⟨BE.out, .inl ⟨(x, y), HF.out, rfl⟩⟩
  · have HF : Hid (l.find? (badM bl p) = none) := hf
    obtain ⟨w6, hw6⟩ : ∃ w6, w6 = w5.alloc (.cells #[.int .i64 0, .int .i64 0] 33) := ⟨_, rfl⟩
    obtain ⟨w7, hw7⟩ : ∃ w7, w7 = w6.alloc (.map #[] 0) := ⟨_, rfl⟩
    have b57 : Below w5.heap.size w5 w7 := by rw [hw7, hw6]; exact ((below_alloc _ _).alloc (by simp) _)
    have hs6 : w6.heap.size = w5.heap.size + 1 := by rw [hw6]; simp
    have PS7 : PS w7 (w5.heap.size + 1) (boxP U).length (askS bl p []) := by
      have h := PSet.made w6
      rw [← hw7, hs6] at h
      have h2 : PS w7 (w5.heap.size + 1) 0 (askS bl p []) := ⟨_, h, fun q _ => by simp [askS]⟩
      exact h2.up (Nat.zero_le _)
    have RD7 : Rd w7 (B + 2) kk bl p KL := (hR5 hf).kept (b57.block _ (hR5 hf).low) (sub_below b57)
    have I7 : Hid (CInv w w4 B (w5.heap.size + 1) kk bl p KL (boxP U) (askS bl p []) w7) := ⟨RD7, PS7, fun q hq => by simp [askS] at hq, S5.out.trans (sub_below b57), B5.out.trans (b57.mono (by omega)), (b57.block _ (by omega)).trans R5.out⟩
    have C19 : Hid _ := norm_any w7 aL cL l nL HLL.out hnL HWL.out (HPL.out.sub I7.out.sub)
    clear hR5 hT5 hS5 hf b57 PS7 RD7
    unfold encP
    simp only [Option.getD_none, Option.isSome_none]
    go_wp2_with fail
    rw [← hw6, ← hw7]
    clear hw6 hw7 hs6 hmm
    refine Calls.mono C19.out ?_
    rintro e w8 ⟨v8, mn, rfl, hN, hr8, hb8⟩
    have I8 : Hid (CInv w w8 B (w5.heap.size + 1) kk bl p KL (boxP U) (askS bl p (mn.take 0)) w8) := by
      have h := I7.out.of_below HB.out hb8
      exact ⟨h.rd, h.ps, h.cin, Sub.refl _, h.below, h.res⟩
    have S48 : Hid (Sub w4 w8) := I7.out.sub.trans (sub_below hb8)
    have NN : Hid (IsNorm l mn) := hN
    obtain ⟨qn, hqn⟩ : ∃ q, mn.length = q := ⟨_, rfl⟩
    have QN : Hid (mn.length = qn) := hqn
    have hq2 : qn ≤ 2199023255000 := by rw [← hqn]; exact Nat.le_trans (norm_len hN) (by rw [HLL.out]; exact hnL)
    rw [hqn] at hr8
    obtain ⟨an, cn, rfl, _⟩ := own_shape hr8
    have PN : Hid (PairsAt w8 an mn) := own_pairs hr8
    have WN : Hid (∀ q ∈ mn, wfP q) := norm_wf hN HWL.out
    have UN : Hid _ := VU.out mn hN
    generalize hbA : w5.heap.size + 1 = bA at *
    have HbA : Hid (B + 2 < bA) := by show _ < _; omega
    clear hN hqn hr8 hb8 C19 I7 hbA hsz5
    go_wp2_with fail
    go_loopw [35] (fun iv wx => ∃ i : Nat, i ≤ qn ∧ iv = .int .i64 i ∧ Hid (CInv w w8 B bA kk bl p KL (boxP U) (askS bl p (mn.take i)) wx)) (fun iv _ => qn - (intOf iv).toNat)
    case atStart => exact ⟨0, Nat.zero_le _, rfl, I8.out⟩
    case round =>
      obtain ⟨i, hi, rfl, INV⟩ := hrel
      clear I8
      by_cases hlt : i < qn
      · have n1 : (i : Int) < (qn : Int) := by omega
        obtain ⟨⟨x, y⟩, hx⟩ : ∃ x, mn[i]? = some x := ⟨mn[i]'(by rw [QN.out]; exact hlt), List.getElem?_eq_getElem _⟩
        obtain ⟨b1, o1, rfl, c1, d1⟩ := PN.out.sub INV.out.sub i _ hx
        have HX : Hid (mn[i]? = some (x, y)) := hx
        have WX : Hid (wfP (x, y)) := WN.out _ (List.mem_of_getElem? hx)
        have UX : Hid _ := UN.out _ (List.mem_of_getElem? hx)
        obtain ⟨wA, hwA⟩ : ∃ wA, wA = wr.alloc (.cells #[.int .i64 x, .int .i64 y] 33) := ⟨_, rfl⟩
        have BA : Below wr.heap.size wr wA := by rw [hwA]; exact below_alloc _ _
        have Z0 : w8 = w8 := rfl
        have z0 : wA.cell? ⟨wr.heap.size, 0, none⟩ = some (.int .i64 x) := by rw [hwA]; exact World.cell?_alloc_new wr _ _ 0
        have z1 : wA.cell? ⟨wr.heap.size, 1, none⟩ = some (.int .i64 y) := by rw [hwA]; exact World.cell?_alloc_new wr _ _ 1
        have IA : Hid (CInv w w8 B bA kk bl p KL (boxP U) (askS bl p (mn.take i)) wA) := INV.out.of_below HB.out BA
        have KA : Hid (∀ w', Sub wA w' → w'.cell? ⟨B + 3, 0, none⟩ = some (.slice aS nS cS) ∧ w'.cell? ⟨B + 3, 1, none⟩ = some (.func (.func 10) #[ca] #[]) ∧ w'.cell? ⟨B + 3, 2, none⟩ = some (.map (some (B + 2))) ∧ w'.cell? ⟨wr.heap.size, 0, none⟩ = some (.int .i64 x) ∧ w'.cell? ⟨wr.heap.size, 1, none⟩ = some (.int .i64 y)) := fun w' h => by
          have s4 : Sub w4 w' := (S48.out.trans IA.out.sub).trans h
          exact ⟨s4 _ _ KS.out.1, s4 _ _ KS.out.2.1, s4 _ _ KS.out.2.2, h _ _ z0, h _ _ z1⟩
        have C34 : Hid _ := VARS.out wA (B + 2) x UX.out.2.2.1 WX.out.1 (HSt.out.sub (S48.out.trans IA.out.sub)) IA.out.rd
        unfold VarsIs at C34
        rw [hwA] at KA
        obtain ⟨k0, k1, k2, k3, k4⟩ := KA.out _ (Sub.refl _)
        rw [← hwA] at KA
        generalize hB14 : wr.heap.size = B14 at *
        clear hx Z0 z0 z1 BA
        go_wp2_with fail
        rw [← hwA]
        clear hwA hB14 c1 d1 k0 k1 k2 k3 k4
        refine Calls.mono C34.out ?_
        rintro e wB ⟨aa, ca, rfl, hIa, hRb, hTb, hSb⟩
        have IB : Hid (CInv w w8 B bA kk bl p KL (boxP U) (askA bl p mn i (vL bl p x) (vL bl p y) 0) wB) := (IA.out.of_vars HB.out (by have := HbA.out; omega) hTb hRb hSb).same fun q => askA_zero q
        have SB : Hid (Sub wA wB) := hSb
        have LA : Hid (IntsAt wB aa (vL bl p x)) := hIa
        obtain ⟨na, hna⟩ : ∃ n, (vL bl p x).length = n := ⟨_, rfl⟩
        have NA : Hid ((vL bl p x).length = na) := hna
        have hna2 : na ≤ 17592186043904 := by rw [← hna]; exact VLN.out x
        rw [hna]
        clear C34 hIa hRb hTb hSb hna
        go_wp2_with fail
        go_loopw [44] (fun iv wx => ∃ j : Nat, j ≤ na ∧ iv = .int .i64 j ∧ Hid (CInv w w8 B bA kk bl p KL (boxP U) (askA bl p mn i (vL bl p x) (vL bl p y) j) wx ∧ Sub wB wx)) (fun iv _ => na - (intOf iv).toNat)
        case atStart => exact ⟨0, Nat.zero_le _, rfl, IB.out, Sub.refl _⟩
        case round =>
          obtain ⟨j, hj, rfl, INV2⟩ := hrel
          clear INV IA
          by_cases hlt2 : j < na
          · have n2 : (j : Int) < (na : Int) := by omega
            obtain ⟨a, ha⟩ : ∃ a, (vL bl p x)[j]? = some a := ⟨(vL bl p x)[j]'(by rw [NA.out]; exact hlt2), List.getElem?_eq_getElem _⟩
            obtain ⟨b2, o2, rfl, c2⟩ := LA.out.sub INV2.out.2 j _ ha
            have HA : Hid ((vL bl p x)[j]? = some a) := ha
            have WA : Hid (wfI a) := VWF.out x WX.out.1 a (List.mem_of_getElem? ha)
            have AU : Hid (a ∈ U) := UX.out.1 a (List.mem_of_getElem? ha)
            obtain ⟨k0, k1, k2, k3, k4⟩ := KA.out wr (SB.out.trans INV2.out.2)
            have C34 : Hid _ := VARS.out wr (B + 2) y UX.out.2.2.2 WX.out.2 (HSt.out.sub (S48.out.trans INV2.out.1.sub)) INV2.out.1.rd
            unfold VarsIs at C34
            clear ha
            go_wp2_with fail
            clear k0 k1 k2 k3 k4 c2
            refine Calls.mono C34.out ?_
            rintro e wC ⟨ab, cb, rfl, hIb, hRc, hTc, hSc⟩
            have IC : Hid (CInv w w8 B bA kk bl p KL (boxP U) (askB bl p mn i (vL bl p x) (vL bl p y) j a 0) wC) := (INV2.out.1.of_vars HB.out (by have := HbA.out; omega) hTc hRc hSc).same fun q => askB_zero q
            have SC : Hid (Sub wB wC) := INV2.out.2.trans hSc
            have LBb : Hid (IntsAt wC ab (vL bl p y)) := hIb
            obtain ⟨nb, hnb⟩ : ∃ n, (vL bl p y).length = n := ⟨_, rfl⟩
            have NB : Hid ((vL bl p y).length = nb) := hnb
            have hnb2 : nb ≤ 17592186043904 := by rw [← hnb]; exact VLN.out y
            rw [hnb]
            clear C34 hIb hRc hTc hSc hnb INV2
            go_wp2_with fail
            go_loopw [53] (fun iv wx => ∃ k : Nat, k ≤ nb ∧ iv = .int .i64 k ∧ Hid (CInv w w8 B bA kk bl p KL (boxP U) (askB bl p mn i (vL bl p x) (vL bl p y) j a k) wx ∧ Sub wC wx)) (fun iv _ => nb - (intOf iv).toNat)
            case atStart => exact ⟨0, Nat.zero_le _, rfl, IC.out, Sub.refl _⟩
            case round =>
              obtain ⟨k, hk, rfl, INV3⟩ := hrel
              clear IC
              by_cases hlt3 : k < nb
              · have n3 : (k : Int) < (nb : Int) := by omega
                obtain ⟨b, hb⟩ : ∃ b, (vL bl p y)[k]? = some b := ⟨(vL bl p y)[k]'(by rw [NB.out]; exact hlt3), List.getElem?_eq_getElem _⟩
                obtain ⟨b3, o3, rfl, c3⟩ := LBb.out.sub INV3.out.2 k _ hb
                have HBb : Hid ((vL bl p y)[k]? = some b) := hb
                have WB : Hid (wfI b) := VWF.out y WX.out.2 b (List.mem_of_getElem? hb)
                have BU : Hid (b ∈ U) := UX.out.2.1 b (List.mem_of_getElem? hb)
                have C35 : Hid _ := put_any wr bA (boxP U).length _ (a, b) (by have := LB.out; omega) ⟨WA.out, WB.out⟩ INV3.out.1.ps
                unfold encP at C35
                dsimp only at C35
                clear hb
                go_wp2_with fail
                refine Calls.mono C35.out ?_
                rintro e wD ⟨rfl, hPd, hTd⟩
                have INV4 : Hid (CInv w w8 B bA kk bl p KL (boxP U) (askB bl p mn i (vL bl p x) (vL bl p y) j a (k + 1)) wD ∧ Sub wC wD) := ⟨(INV3.out.1.of_put HB.out HbA.out hTd hPd (box_mem AU.out BU.out)).same fun q => askB_next HBb.out q, INV3.out.2.trans (hTd.sub INV3.out.1.ps.isM)⟩
                clear C35 hPd hTd c3 INV3
                go_wp2
                go_roundw
                case rel => exact ⟨k + 1, by omega, by go_num, INV4.out⟩
                case measure => simp [intOf]; omega
              · have n3 : ¬ (k : Int) < (nb : Int) := by omega
                have INV4 : Hid (CInv w w8 B bA kk bl p KL (boxP U) (askA bl p mn i (vL bl p x) (vL bl p y) (j + 1)) wr ∧ Sub wB wr) := ⟨INV3.out.1.same fun q => askB_all HA.out (by rw [NB.out]; omega) q, SC.out.trans INV3.out.2⟩
                clear INV3
                go_wp2
                go_roundw
                case rel => exact ⟨j + 1, by omega, by go_num, INV4.out⟩
                case measure => simp [intOf]; omega
          · have n2 : ¬ (j : Int) < (na : Int) := by omega
            have INV4 : Hid (CInv w w8 B bA kk bl p KL (boxP U) (askS bl p (mn.take (i + 1))) wr) := INV2.out.1.same fun q => askA_all HX.out (by rw [NA.out]; omega) q
            clear INV2
            go_wp2
            go_roundw
            case rel => exact ⟨i + 1, by omega, by go_num, INV4.out⟩
            case measure => simp [intOf]; omega
      · have n1 : ¬ (i : Int) < (qn : Int) := by omega
        have PSE : Hid (PS wr bA (boxP U).length (askS bl p mn)) := by have h := INV.out.ps; rw [List.take_of_length_le (by rw [QN.out]; omega)] at h; exact h
        have C36 : Hid _ := inOrder_any wr bA (boxP U).length (askS bl p mn) PSE.out (by have := LB.out; omega)
        go_wp2_with fail
        refine Calls.mono C36.out ?_
        rintro e w9 ⟨v9, mm, rfl, hTo, hml, hr9, hb9⟩
        have hsz : B + 1 < wr.heap.size := (Array.getElem?_eq_some_iff.1 INV.out.res).1
        have R9 : w9.heap[B + 1]? = some (.cells #[.int .i64 0, .int .i64 0] 33 (0, 0)) := (hb9.block _ hsz).trans INV.out.res
        have m0 : w9.cell? ⟨B + 1, 0, none⟩ = some (.int .i64 0) := by simp [World.cell?, R9]
        have m1 : w9.cell? ⟨B + 1, 1, none⟩ = some (.int .i64 0) := by simp [World.cell?, R9]
        have q0 : w9.frozen? ⟨B + 1, 0, none⟩ = false := by simp [World.frozen?, R9]
        have q1 : w9.frozen? ⟨B + 1, 1, none⟩ = false := by simp [World.frozen?, R9]
        obtain ⟨wE, hwE⟩ : ∃ wE, wE = (w9.setCell ⟨B + 1, 0, none⟩ (.int .i64 0)).setCell ⟨B + 1, 1, none⟩ (.int .i64 0) := ⟨_, rfl⟩
        have t1 : Turn (B + 1) w9 wE := by rw [hwE]; exact (turn_setCell _ _ _ _).trans (turn_setCell _ _ _ _)
        have B9 : Below B w w9 := INV.out.below.trans (hb9.mono (by omega))
        have HZ : Hid (Below B w wE ∧ Told (askS bl p mn) mm ∧ mm.length ≤ 1099511627776 ∧ wE.ownsRow B 33 2 v9 mm.length (rowP mm)) := by
          refine ⟨B9.trans (t1.below (by have := hb9.size; omega) (by omega)), hTo, Nat.le_trans hml LB.out, owns_kept (hr9.mono (by omega)) fun g hg => ?_⟩
          have h1 := own_ge hr9 g hg
          exact t1.block g (own_low hr9 g hg) (by omega)
        have kw0 : wE.cell? ⟨B + 1, 0, none⟩ = some (.int .i64 0) := by rw [hwE, World.cell?_setCell_other _ _ _ _ (by simp)]; exact World.cell?_setCell_same _ _ _ m0
        have kw1 : wE.cell? ⟨B + 1, 1, none⟩ = some (.int .i64 0) := by rw [hwE]; exact World.cell?_setCell_same _ _ _ ((World.cell?_setCell_other _ _ _ _ (by simp)).trans m1)
        clear C36 hTo hml hr9 hb9 R9 t1 B9 hsz
        go_wp2
        rw [← hwE]
        clear hwE m0 m1 q0 q1
        refine bodyPost_ret (v := .tuple #[v9, .agg #[.int .i64 0, .int .i64 0], .bool true]) (by simp [results, Tryz.results9, go_sem, kw0, kw1]) rfl ?_
        exact ⟨HZ.out.1, .inr ⟨HF.out, v9, mm, mn, rfl, NN.out, HZ.out.2.1, HZ.out.2.2.1, HZ.out.2.2.2⟩⟩
end Go.Proofs.YtjaccgkeldabfaaGreat
