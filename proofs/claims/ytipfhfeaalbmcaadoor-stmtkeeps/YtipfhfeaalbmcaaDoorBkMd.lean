/- Laid together: BkPlan, BkMade. -/
import Derived.Test.YtipfhfeaalbmcaaDoorBkPlanA
import Derived.Test.YtipfhfeaalbmcaaDoorBkPlanB
import Derived.Test.YtipfhfeaalbmcaaDoorBkPlanC
import Derived.Test.YtipfhfeaalbmcaaDoorRTold
import Derived.Test.YtipfhfeaalbmcaaDoorPrint
namespace Go.Proofs.YtipfhfeaalbmcaaDoor
open Go.RowKit

theorem plan_any (w : World) (p : Pln) (aW : Option Addr) (nW cW : Nat) (aP : Option Addr) (nP cP : Nat) (hlW : p.ws.length = nW) (hlP : p.ps.length = nP) (hnP : nP ≤ 1099511627776) (hnW : nW ≤ 1099511627776) (hW : NumsAt w aW p.ws) (hP : NumsAt w aP p.ps) (r1 : -9223372036854775808 ≤ p.kd ∧ p.kd ≤ 9223372036854775807) (r2 : -9223372036854775808 ≤ p.lb ∧ p.lb ≤ 9223372036854775807) (r3 : ∀ x ∈ p.ws, -9223372036854775808 ≤ x ∧ x ≤ 9223372036854775807) (r4 : ∀ x ∈ p.ps, -9223372036854775808 ≤ x ∧ x ≤ 9223372036854775807) :
    Calls Tryd.prog 37 #[.agg #[.int .i64 p.kd, .int .i64 p.lb, .slice aW nW cW, .slice aP nP cP]] w (PlPost w p) := by
  obtain ⟨k0, k10⟩ := plK_range p
  by_cases h7 : plK p = 7
  · exact plan_B w p aW nW cW aP nP cP hlW hlP hnP hnW hW hP r1 r2 r3 r4 h7
  · by_cases h8 : plK p = 8 ∨ plK p = 9
    · exact plan_A w p aW nW cW aP nP cP hlW hlP hnP hnW hW hP r1 r2 r3 r4 h8
    · exact plan_C w p aW nW cW aP nP cP hlW hlP hnP hnW hW hP r1 r2 r3 r4 (by omega)
end Go.Proofs.YtipfhfeaalbmcaaDoor

namespace Go.Proofs.YtipfhfeaalbmcaaDoor
open Go.RowKit

/-- What plans are made into: as many as surely are no longer than a text may be. -/
def madeF : Nat → List Pln → List Stm
  | _, [] => []
  | n, p :: r => if 5000 < n + (plW p).length + (plP p).length + 5 then [] else plS p :: madeF (n + (plW p).length + (plP p).length + 5) r
/-- The rows of a statement. -/
structure ItR (W : World) (H : Nat → Prop) (x : Itm) : Prop where
  w : M.RowIn W H x.vw x.s.words.length (rowT x.s.words)
  p : M.RowIn W H x.vp x.s.proof.length (rowT x.s.proof)
theorem ItR.ch {W W' : World} {H H' X : Nat → Prop} {x : Itm} (h : ItR W H x) (hc : M.Ch X W W') (hx : ∀ g, H g → ¬ X g) (hp : ∀ g, H g → H' g) : ItR W' H' x := ⟨h.w.ch hc hx hp, h.p.ch hc hx hp⟩
/-- The law's own list of statements. -/
structure MdSt (N : Nat) (W : World) (v : Value) (its : List Itm) (H : Nat → Prop) : Prop where
  own : W.ownsRow N 36 16 v its.length (rowS its)
  all : ∀ x ∈ its, ItR W H x
  held : ∀ g, H g → g < W.heap.size ∧ v.ownBlock ≠ some g
section
variable {N : Nat} {W W1 W2 : World} {v v' : Value} {its : List Itm} {H Hx : Nat → Prop} {x : Itm}
theorem MdSt.under (h : MdSt N W v its H) (hb : Below W.heap.size W W1) : MdSt N W1 v its H :=
  have hc : M.Ch (fun _ => False) W W1 := M.Ch.of_below hb
  ⟨M.owns_ch h.own hc fun _ _ e => e, fun x hx => (h.all x hx).ch hc (fun _ _ e => e) fun _ e => e, fun g hg => ⟨Nat.lt_of_lt_of_le (h.held g hg).1 hb.size, (h.held g hg).2⟩⟩
theorem MdSt.more (h : MdSt N W v its H) (hg : W.grownBy W2 v.ownBlock) (hx : ItR W Hx x) (hH : ∀ g, Hx g → g < W.heap.size ∧ v.ownBlock ≠ some g) (ho : W2.ownsRow N 36 16 v' (its.length + 1) (rowS its ++ (itmS x).toList)) (hl : ∀ b, v'.ownBlock = some b → v.ownBlock = some b ∨ W.heap.size ≤ b) : MdSt N W2 v' (its ++ [x]) (fun g => H g ∨ Hx g) := by
  have cg := M.Ch.of_grown hg
  have all : ∀ g, (H g ∨ Hx g) → g < W.heap.size ∧ v.ownBlock ≠ some g := fun g e => e.elim (h.held g) (hH g)
  refine ⟨?_, fun y hy => ?_, fun g e => ⟨Nat.lt_of_lt_of_le (all g e).1 hg.size, fun e2 => ?_⟩⟩
  · have e1 : rowS (its ++ [x]) = rowS its ++ (itmS x).toList := by unfold rowS; simp
    rw [List.length_append, e1]
    exact ho
  · rcases List.mem_append.1 hy with hy | hy
    · exact (h.all y hy).ch cg (fun g hg' e => (h.held g hg').2 e) fun g e => .inl e
    · rw [List.mem_singleton.1 hy]; exact hx.ch cg (fun g hg' e => (hH g hg').2 e) fun g e => .inr e
  · rcases hl g e2 with e2 | e2
    · exact (all g e).2 e2
    · have := (all g e).1; omega
end
theorem rowS_at : ∀ (l : List Itm) (i j : Nat) (x : Itm), l[i]? = some x → j < 16 → (rowS l)[i * 16 + j]? = (itmS x)[j]?
  | [], i, j, x, h, _ => by simp at h
  | y :: r, 0, j, x, h, hj => by
    simp at h; subst h
    have e : rowS (y :: r) = (itmS y).toList ++ rowS r := rfl
    rw [e, Nat.zero_mul, Nat.zero_add, List.getElem?_append_left (by simp [itmS, stmA]; omega), Array.getElem?_toList]
  | y :: r, i + 1, j, x, h, hj => by
    have e : rowS (y :: r) = (itmS y).toList ++ rowS r := rfl
    have h2 : r[i]? = some x := by simpa using h
    rw [e, List.getElem?_append_right (by simp [itmS, stmA]; omega)]
    have e2 : (i + 1) * 16 + j - (itmS y).toList.length = i * 16 + j := by simp [itmS, stmA]; omega
    rw [e2]
    exact rowS_at r i j x h2 hj
theorem toks_rowin {W : World} {Pr : Nat → Prop} {v : Value} {n : Nat} {ts : List Tok} (h : M.RowIn W Pr v n (rowT ts)) : ∃ a c, v = .slice a n c ∧ n ≤ c ∧ ToksAt W a ts := by
  obtain ⟨a, c, rfl, hc, hcell⟩ := h
  refine ⟨a, c, rfl, hc, fun i t ht => ?_⟩
  have k0 := rowT_at ts i 0 t ht (by omega)
  have k1 := rowT_at ts i 1 t ht (by omega)
  have k2 := rowT_at ts i 2 t ht (by omega)
  have k3 := rowT_at ts i 3 t ht (by omega)
  obtain ⟨g, rfl, _, _, h0⟩ := hcell _ _ k0
  obtain ⟨_, e, _, _, h1⟩ := hcell _ _ k1
  cases e
  obtain ⟨_, e, _, _, h2⟩ := hcell _ _ k2
  cases e
  obtain ⟨_, e, _, _, h3⟩ := hcell _ _ k3
  cases e
  refine ⟨g, 0, rfl, ?_, ?_, ?_, ?_⟩ <;> rw [Nat.zero_add] <;> assumption
theorem stmts_own {W : World} {N : Nat} {H : Nat → Prop} {v : Value} {its : List Itm} (h : W.ownsRow N 36 16 v its.length (rowS its)) (hi : ∀ x ∈ its, ItR W H x) : ∃ a c, v = .slice a its.length c ∧ StmtsAt W a (its.map (·.s)) := by
  obtain ⟨a, c, e, hc, hcell⟩ := M.own_cell h
  refine ⟨a, c, e, fun i s hs => ?_⟩
  rw [List.getElem?_map] at hs
  obtain ⟨x, hx, rfl⟩ := Option.map_eq_some_iff.1 hs
  have hm := hi x (List.mem_of_getElem? hx)
  obtain ⟨aw, cw, ew, hcw, hw⟩ := toks_rowin hm.w
  obtain ⟨ap, cp, ep, hcp, hp⟩ := toks_rowin hm.p
  obtain ⟨g, rfl, _⟩ := hcell (i * 16 + 0) _ ((rowS_at its i 0 x hx (by omega)).trans rfl)
  refine ⟨g, 0, aw, cw, ap, cp, rfl, fun j u hu => ?_, hw, hp, hcw, hcp⟩
  rw [← ew, ← ep] at hu
  have hu' : (itmS x)[j]? = some u := hu
  have hj : j < 16 := (Array.getElem?_eq_some_iff.1 hu').1
  obtain ⟨_, e', hc'⟩ := hcell (i * 16 + j) u ((rowS_at its i j x hx hj).trans hu')
  cases e'
  rw [Nat.zero_add]
  exact hc'
/-- A plan may be. -/
structure PlnOk (p : Pln) : Prop where
  r1 : -9223372036854775808 ≤ p.kd ∧ p.kd ≤ 9223372036854775807
  r2 : -9223372036854775808 ≤ p.lb ∧ p.lb ≤ 9223372036854775807
  r3 : ∀ x ∈ p.ws, -9223372036854775808 ≤ x ∧ x ≤ 9223372036854775807
  r4 : ∀ x ∈ p.ps, -9223372036854775808 ≤ x ∧ x ≤ 9223372036854775807
  n3 : p.ws.length ≤ 1099511627776
  n4 : p.ps.length ≤ 1099511627776
/-- Plans in memory. -/
def PlansAt (w : World) (a : Option Addr) (l : List Pln) : Prop := ∀ (i : Nat) (p : Pln), l[i]? = some p → ∃ b off aW cW aP cP, a = some ⟨b, off, none⟩ ∧ w.cell? ⟨b, off + i * 4, none⟩ = some (.int .i64 p.kd) ∧ w.cell? ⟨b, off + i * 4 + 1, none⟩ = some (.int .i64 p.lb) ∧ w.cell? ⟨b, off + i * 4 + 2, none⟩ = some (.slice aW p.ws.length cW) ∧ w.cell? ⟨b, off + i * 4 + 3, none⟩ = some (.slice aP p.ps.length cP) ∧ NumsAt w aW p.ws ∧ NumsAt w aP p.ps
theorem PlansAt.under {w w' : World} {a : Option Addr} {l : List Pln} (h : PlansAt w a l) (hb : Below w.heap.size w w') : PlansAt w' a l := fun i p hi => by
  obtain ⟨b, off, aW, cW, aP, cP, e, h0, h1, h2, h3, h4, h5⟩ := h i p hi
  have hlt : b < w.heap.size := World.block_lt_of_cell? _ _ h0
  exact ⟨b, off, aW, cW, aP, cP, e, (hb.cell (p := ⟨b, _, none⟩) hlt).trans h0, (hb.cell (p := ⟨b, _, none⟩) hlt).trans h1, (hb.cell (p := ⟨b, _, none⟩) hlt).trans h2, (hb.cell (p := ⟨b, _, none⟩) hlt).trans h3, h4.under hb, h5.under hb⟩
/-- The plans that are made into statements, and how many words they have. -/
def sumP : List Pln → Nat
  | [] => 0
  | p :: r => (plW p).length + (plP p).length + 5 + sumP r
theorem madeF_stop : ∀ (l m : List Pln) (p : Pln) (n : Nat), n + sumP l ≤ 5000 → 5000 < n + sumP l + ((plW p).length + (plP p).length + 5) → madeF n (l ++ p :: m) = l.map plS
  | [], m, p, n, _, h => by
    rw [List.nil_append, madeF, if_pos (by unfold sumP at h; omega)]; rfl
  | q :: l, m, p, n, h1, h2 => by
    unfold sumP at h1 h2
    rw [List.cons_append, madeF, if_neg (by omega), madeF_stop l m p _ (by omega) (by omega), List.map_cons]
theorem madeF_all : ∀ (l : List Pln) (n : Nat), n + sumP l ≤ 5000 → madeF n l = l.map plS
  | [], _, _ => rfl
  | q :: l, n, h => by
    unfold sumP at h
    rw [madeF, if_neg (by omega), madeF_all l _ (by omega), List.map_cons]
theorem sumP_snoc (l : List Pln) (p : Pln) : sumP (l ++ [p]) = sumP l + ((plW p).length + (plP p).length + 5) := by
  induction l with
  | nil => rw [List.nil_append, sumP, sumP, sumP]; omega
  | cons q l ih => rw [List.cons_append, sumP, ih, sumP]; omega
theorem sumP_len (l : List Pln) : 5 * l.length ≤ sumP l := by
  induction l with
  | nil => exact Nat.zero_le _
  | cons q l ih => rw [sumP, List.length_cons]; omega
def MdPost (w : World) (l : List Stm) (e : Ending) (w' : World) : Prop := ∃ a c, e = .returned (.slice a l.length c) ∧ StmtsAt w' a l ∧ Below w.heap.size w w'
set_option maxRecDepth 100000 in
set_option maxHeartbeats 16000000 in
theorem made_pl (w : World) (a : Option Addr) (n c : Nat) (l : List Pln) (hl : l.length = n) (hn : n ≤ 1099511627776) (hA : PlansAt w a l) (hok : ∀ p ∈ l, PlnOk p) : Calls Tryd.prog 20 #[.slice a n c] w (MdPost w (madeF 0 l)) := by
  obtain ⟨iS, hiS, iSz, iSs, iSb⟩ := info_parts infoSM
  have HL : Hid (l.length = n) := hl
  have HA : Hid (PlansAt w a l) := hA
  have HOK : Hid (∀ p ∈ l, PlnOk p) := hok
  obtain ⟨N, hN⟩ : ∃ N, w.heap.size = N := ⟨_, rfl⟩
  have HN : Hid (w.heap.size = N) := hN
  have DONE : Hid (∀ (wx : World) (v : Value) (its : List Itm) (H : Nat → Prop), MdSt N wx v its H → Below N w wx → its.map (·.s) = madeF 0 l → MdPost w (madeF 0 l) (.returned v) wx) := fun wx v its H h hb he => by
    obtain ⟨a', c', e, hs⟩ := stmts_own h.own h.all
    rw [he] at hs
    have hln : its.length = (madeF 0 l).length := by rw [← he, List.length_map]
    rw [hln] at e
    exact ⟨a', c', by rw [e], hs, by rw [hN]; exact hb⟩
  clear hl hA hok hN
  go_enter Tryd.func20, Tryd.ntmps20
  go_wp2_with fail
  go_loopw [5, 4, 3] (fun v5 v4 v3 wx => ∃ (j : Nat) (its : List Itm) (H : Nat → Prop) (av : Option Addr) (cv : Nat), j ≤ n ∧ v5 = .int .i64 j ∧ v4 = .int .i64 (sumP (l.take j) : Nat) ∧ v3 = .slice av j cv ∧ sumP (l.take j) ≤ 5000 ∧ Hid (MdSt N wx (.slice av j cv) its H) ∧ Hid (its.map (·.s) = (l.take j).map plS) ∧ Hid (Below N w wx)) (fun v5 _ _ _ => n - (intOf v5).toNat)
  case atStart => exact ⟨0, [], fun _ => False, none, 0, Nat.zero_le _, rfl, rfl, rfl, Nat.zero_le _, ⟨World.ownsRow_nil _ _ _ _, (fun x h => by cases h), fun g e => e.elim⟩, rfl, Below.refl _ _⟩
  case round =>
    obtain ⟨j, its, H, av, cv, hj, rfl, rfl, rfl, hsum, hM, hI, hB⟩ := hrel
    obtain ⟨sm, hsm⟩ : ∃ sm, sumP (l.take j) = sm := ⟨_, rfl⟩
    rw [hsm] at hsum
    rw [hsm]
    have HSM : Hid (sumP (l.take j) = sm) := hsm
    have HIL : Hid (its.length = j) := by have h := congrArg List.length hI.out; rw [List.length_map, List.length_map, List.length_take, HL.out] at h; show _ = _; omega
    have hj5 : 5 * j ≤ 5000 := by have h := sumP_len (l.take j); rw [List.length_take, HL.out, hsm] at h; omega
    clear hsm
    by_cases hlt : j < n
    · have n1 : (j : Int) < (n : Int) := by omega
      obtain ⟨p, hp⟩ : ∃ p, l[j]? = some p := ⟨l[j]'(by rw [HL.out]; exact hlt), List.getElem?_eq_getElem _⟩
      have ok := HOK.out p (List.mem_of_getElem? hp)
      obtain ⟨b, off, aW, cW, aP, cP, rfl, q0, q1, q2, q3, q4, q5⟩ := HA.out j p hp
      have HTK : Hid (l.take (j + 1) = l.take j ++ [p] ∧ l = l.take j ++ p :: l.drop (j + 1)) := ⟨by rw [List.take_add_one, hp]; rfl, by have hlt' : j < l.length := (by rw [HL.out]; exact hlt); have e := List.getElem?_eq_getElem hlt'; rw [hp] at e; have hp' := Option.some.inj e; conv => lhs; rw [← List.take_append_drop j l, List.drop_eq_getElem_cons hlt', ← hp']⟩
      have hbN : b < N := by have h := World.block_lt_of_cell? _ _ q0; rw [HN.out] at h; exact h
      have cc : ∀ {i : Nat} {v : Value}, w.cell? ⟨b, i, none⟩ = some v → wr.cell? ⟨b, i, none⟩ = some v := fun h => (hB.out.cell (p := ⟨b, _, none⟩) hbN).trans h
      have x0 := cc q0
      have x1 := cc q1
      have x2 := cc q2
      have x3 := cc q3
      obtain ⟨nW, hnW⟩ : ∃ nW, p.ws.length = nW := ⟨_, rfl⟩
      obtain ⟨nP, hnP⟩ : ∃ nP, p.ps.length = nP := ⟨_, rfl⟩
      rw [hnW] at x2
      rw [hnP] at x3
      have hBw : Below w.heap.size w wr := by rw [HN.out]; exact hB.out
      have PA : Hid (Calls Tryd.prog 37 #[.agg #[.int .i64 p.kd, .int .i64 p.lb, .slice aW nW cW, .slice aP nP cP]] wr (PlPost wr p)) := plan_any wr p aW nW cW aP nP cP hnW hnP (by rw [← hnP]; exact ok.n4) (by rw [← hnW]; exact ok.n3) (q4.under hBw) (q5.under hBw) ok.r1 ok.r2 ok.r3 ok.r4
      have HPN : Hid ((plP p).length ≤ 1099511627776 ∧ (plW p).length ≤ 40) := ⟨by unfold plP; split; rw [List.length_map]; exact ok.n4; exact Nat.zero_le _, by
        unfold plW
        split
        · exact Nat.zero_le _
        · rw [List.length_append]
          split
          · simp
          · rw [List.length_map, List.length_take]; simp; omega⟩
      clear hp ok q0 q1 q2 q3 q4 q5 cc hnW hnP hBw
      go_wp2_with fail
      refine Calls.mono PA.out ?_
      rintro e w4 ⟨vw, vp, rfl, hpl⟩
      obtain ⟨aw, cw, ew⟩ : ∃ a c, vw = .slice a (plW p).length c := by obtain ⟨a, c, e, _⟩ := own_shape hpl.ow; exact ⟨a, c, e⟩
      obtain ⟨ap, cp, ep⟩ : ∃ a c, vp = .slice a (plP p).length c := by obtain ⟨a, c, e, _⟩ := own_shape hpl.op; exact ⟨a, c, e⟩
      obtain ⟨nw, hnw⟩ : ∃ nw, (plW p).length = nw := ⟨_, rfl⟩
      obtain ⟨np, hnp⟩ : ∃ np, (plP p).length = np := ⟨_, rfl⟩
      rw [hnw] at ew
      rw [hnp] at ep
      subst ew ep
      obtain ⟨kk, hkk⟩ : ∃ kk, plK p = kk := ⟨_, rfl⟩
      obtain ⟨lt, hl0⟩ : ∃ lt, (plLab p).text = lt := ⟨_, rfl⟩
      obtain ⟨l1, hl1⟩ : ∃ l1, (plLab p).off = l1 := ⟨_, rfl⟩
      obtain ⟨l2, hl2⟩ : ∃ l2, (plLab p).line = l2 := ⟨_, rfl⟩
      obtain ⟨l3, hl3⟩ : ∃ l3, (plLab p).col = l3 := ⟨_, rfl⟩
      have HSA : Hid (stmA (plK p : Nat) (plLab p) zTok zTok false (.slice aw nw cw) (.slice ap np cp) = #[.int .i64 (kk : Nat), .string lt, .int .i64 l1, .int .i64 l2, .int .i64 l3, .string ⟨#[]⟩, .int .i64 0, .int .i64 0, .int .i64 0, .bool false, .slice aw nw cw, .slice ap np cp, .string ⟨#[]⟩, .int .i64 0, .int .i64 0, .int .i64 0]) := by show _ = _; unfold stmA; rw [hkk, hl0, hl1, hl2, hl3]; rfl
      rw [HSA.out]
      have HPL : Hid (PlIs wr w4 p (.slice aw nw cw) (.slice ap np cp)) := hpl
      have HNW : Hid ((plW p).length = nw ∧ (plP p).length = np) := ⟨hnw, hnp⟩
      have hnwb : nw ≤ 40 := by rw [← hnw]; exact HPN.out.2
      have hnpb : np ≤ 1099511627776 := by rw [← hnp]; exact HPN.out.1
      obtain ⟨w5, hw5⟩ : ∃ w5, w5 = w4.alloc (.cells #[.int .i64 (kk : Nat), .string lt, .int .i64 l1, .int .i64 l2, .int .i64 l3, .string ⟨#[]⟩, .int .i64 0, .int .i64 0, .int .i64 0, .bool false, .slice aw nw cw, .slice ap np cp, .string ⟨#[]⟩, .int .i64 0, .int .i64 0, .int .i64 0] 36) := ⟨_, rfl⟩
      have B5 : Hid (Below wr.heap.size wr w5) := by rw [hw5]; exact hpl.bel.alloc hpl.bel.size _
      have K5 : Hid (w5.heap[w4.heap.size]? = some (.cells #[.int .i64 (kk : Nat), .string lt, .int .i64 l1, .int .i64 l2, .int .i64 l3, .string ⟨#[]⟩, .int .i64 0, .int .i64 0, .int .i64 0, .bool false, .slice aw nw cw, .slice ap np cp, .string ⟨#[]⟩, .int .i64 0, .int .i64 0, .int .i64 0] 36 (0, 0))) := by show _ = _; rw [hw5]; exact heap_alloc_new w4 _
      have B45 : Hid (Below w4.heap.size w4 w5) := by rw [hw5]; exact below_alloc _ _
      obtain ⟨D, hD⟩ : ∃ D, w4.heap.size = D := ⟨_, rfl⟩
      have HW5 : Hid (w5 = w4.alloc (.cells #[.int .i64 (kk : Nat), .string lt, .int .i64 l1, .int .i64 l2, .int .i64 l3, .string ⟨#[]⟩, .int .i64 0, .int .i64 0, .int .i64 0, .bool false, .slice aw nw cw, .slice ap np cp, .string ⟨#[]⟩, .int .i64 0, .int .i64 0, .int .i64 0] 36)) := hw5
      have HDD : Hid (w4.heap.size = D) := hD
      rw [hD] at K5
      clear PA hpl hnw hnp hkk hl0 hl1 hl2 hl3 hw5 hD x0 x1 x2 x3
      go_upto_region 7 with fail
      rw [← HW5.out, HDD.out]
      clear HW5
      have y0 : w5.cell? ⟨D, 0, none⟩ = some (.int .i64 (kk : Nat)) := M.cell_whole K5.out 0
      have y1 : w5.cell? ⟨D, 1, none⟩ = some (.string lt) := M.cell_whole K5.out 1
      have y2 : w5.cell? ⟨D, 2, none⟩ = some (.int .i64 l1) := M.cell_whole K5.out 2
      have y3 : w5.cell? ⟨D, 3, none⟩ = some (.int .i64 l2) := M.cell_whole K5.out 3
      have y4 : w5.cell? ⟨D, 4, none⟩ = some (.int .i64 l3) := M.cell_whole K5.out 4
      have y5 : w5.cell? ⟨D, 5, none⟩ = some (.string ⟨#[]⟩) := M.cell_whole K5.out 5
      have y6 : w5.cell? ⟨D, 6, none⟩ = some (.int .i64 0) := M.cell_whole K5.out 6
      have y7 : w5.cell? ⟨D, 7, none⟩ = some (.int .i64 0) := M.cell_whole K5.out 7
      have y8 : w5.cell? ⟨D, 8, none⟩ = some (.int .i64 0) := M.cell_whole K5.out 8
      have y9 : w5.cell? ⟨D, 9, none⟩ = some (.bool false) := M.cell_whole K5.out 9
      have y10 : w5.cell? ⟨D, 10, none⟩ = some (.slice aw nw cw) := M.cell_whole K5.out 10
      have y11 : w5.cell? ⟨D, 11, none⟩ = some (.slice ap np cp) := M.cell_whole K5.out 11
      have y12 : w5.cell? ⟨D, 12, none⟩ = some (.string ⟨#[]⟩) := M.cell_whole K5.out 12
      have y13 : w5.cell? ⟨D, 13, none⟩ = some (.int .i64 0) := M.cell_whole K5.out 13
      have y14 : w5.cell? ⟨D, 14, none⟩ = some (.int .i64 0) := M.cell_whole K5.out 14
      have y15 : w5.cell? ⟨D, 15, none⟩ = some (.int .i64 0) := M.cell_whole K5.out 15
      have e1 : IntKind.i64.wrap ((sm : Int) + (nw : Int)) = (sm : Int) + (nw : Int) := wrap64_id _ (by omega) (by omega)
      have e2 : IntKind.i64.wrap ((sm : Int) + (nw : Int) + (np : Int)) = (sm : Int) + (nw : Int) + (np : Int) := wrap64_id _ (by omega) (by omega)
      have e3 : IntKind.i64.wrap ((sm : Int) + (nw : Int) + (np : Int) + 5) = (sm : Int) + (nw : Int) + (np : Int) + 5 := wrap64_id _ (by omega) (by omega)
      have hjb : j ≤ 1048576 := by omega
      by_cases hbig : 5000 < sm + nw + np + 5
      · have g1 : (5000 : Int) < (sm : Int) + (nw : Int) + (np : Int) + 5 := by omega
        have FIN : Hid (MdPost w (madeF 0 l) (.returned (.slice av j cv)) w5) := DONE.out _ _ _ _ (hM.out.under B5.out) (hB.out.trans (B5.out.mono (by have := hB.out.size; rw [HN.out] at this; exact this))) (by
          rw [hI.out]
          conv => rhs; rw [HTK.out.2]
          rw [madeF_stop _ _ _ _ (by rw [HSM.out]; omega) (by rw [HSM.out, HNW.out.1, HNW.out.2]; omega)])
        clear hbig
        go_wp2
        go_ret
        exact FIN.out
      · have g1 : ¬ (5000 : Int) < (sm : Int) + (nw : Int) + (np : Int) + 5 := by omega
        have M5 : Hid (MdSt N w5 (.slice av j cv) its H) := hM.out.under B5.out
        have BN5 : Hid (Below N w w5) := hB.out.trans (B5.out.mono (by have := hB.out.size; rw [HN.out] at this; exact this))
        have HN5 : Hid (N ≤ w5.heap.size) := Nat.le_trans (Nat.le_of_eq HN.out.symm) BN5.out.size
        have OW : Hid (w5.ownsRow N 36 16 (.slice av j cv) j (rowS its)) := by have h := M5.out.own; rw [HIL.out] at h; exact h
        have ONE : Hid (∀ u ∈ (#[.int .i64 (kk : Nat), .string lt, .int .i64 l1, .int .i64 l2, .int .i64 l3, .string ⟨#[]⟩, .int .i64 0, .int .i64 0, .int .i64 0, .bool false, .slice aw nw cw, .slice ap np cp, .string ⟨#[]⟩, .int .i64 0, .int .i64 0, .int .i64 0] : Array Value).toList, u.oneCell' = true) := fun u hu => by
          simp at hu
          rcases hu with rfl | rfl | rfl | rfl | rfl | rfl | rfl | rfl | rfl | rfl | rfl | rfl | rfl | rfl | rfl | rfl <;> rfl
        have HX : Hid (ItR w5 (fun g => (Value.slice aw nw cw).ownBlock = some g ∨ (Value.slice ap np cp).ownBlock = some g) ⟨plS p, 0, .slice aw nw cw, .slice ap np cp⟩ ∧ ∀ g, ((Value.slice aw nw cw).ownBlock = some g ∨ (Value.slice ap np cp).ownBlock = some g) → wr.heap.size ≤ g ∧ g < w5.heap.size) := by
          have hc : M.Ch (fun _ => False) w4 w5 := M.Ch.of_below B45.out
          have o1 := M.owns_ch HPL.out.ow hc fun _ _ e => e
          have o2 := M.owns_ch HPL.out.op hc fun _ _ e => e
          exact ⟨⟨M.RowIn.own o1 fun g e => .inl e, M.RowIn.own o2 fun g e => .inr e⟩, fun g e => e.elim (fun e => ⟨M.own_ge' o1 g e, M.own_lt o1 g e⟩) fun e => ⟨M.own_ge' o2 g e, M.own_lt o2 g e⟩⟩
        clear hbig
        go_wp2_with (at_builtin; (refine wpList_append_lies (w5.alloc (.cells #[.int .i64 (kk : Nat), .string lt, .int .i64 l1, .int .i64 l2, .int .i64 l3, .string ⟨#[]⟩, .int .i64 0, .int .i64 0, .int .i64 0, .bool false, .slice aw nw cw, .slice ap np cp, .string ⟨#[]⟩, .int .i64 0, .int .i64 0, .int .i64 0] 36)) rfl _ _ _ rfl N 36 iS _ 16 184 Tryd.underlying22 hiS iSz iSs iSb rfl (by omega) _ j (rowS its) (by rfl) (by exact (M.owns_alloc OW.out _)) ⟨w5.heap.size, 0, none⟩ 1 1 (#[.int .i64 (kk : Nat), .string lt, .int .i64 l1, .int .i64 l2, .int .i64 l3, .string ⟨#[]⟩, .int .i64 0, .int .i64 0, .int .i64 0, .bool false, .slice aw nw cw, .slice ap np cp, .string ⟨#[]⟩, .int .i64 0, .int .i64 0, .int .i64 0] : Array Value).toList (by rfl) (by rfl) (fun j' u hu => World.news_of_block (cs := #[.int .i64 (kk : Nat), .string lt, .int .i64 l1, .int .i64 l2, .int .i64 l3, .string ⟨#[]⟩, .int .i64 0, .int .i64 0, .int .i64 0, .bool false, .slice aw nw cw, .slice ap np cp, .string ⟨#[]⟩, .int .i64 0, .int .i64 0, .int .i64 0]) (t := 36) (fr := (0, 0)) (heap_alloc_new w5 _) j' u hu) (fun u hu => ONE.out u hu) (by omega) (by unfold maxLen; omega) (by omega) (by have := HN5.out; simp; omega) _ rfl ?_; intro gg cap' w7 hown7 hgrow hat hlt7; have M7 : Hid (MdSt N w7 (.slice (some ⟨gg, 0, none⟩) (j + 1) cap') (its ++ [⟨plS p, 0, .slice aw nw cw, .slice ap np cp⟩]) (fun g => H g ∨ ((Value.slice aw nw cw).ownBlock = some g ∨ (Value.slice ap np cp).ownBlock = some g)) ∧ Below N w w7) := (by have h9 : Below w5.heap.size w5 (w5.alloc (.cells #[.int .i64 (kk : Nat), .string lt, .int .i64 l1, .int .i64 l2, .int .i64 l3, .string ⟨#[]⟩, .int .i64 0, .int .i64 0, .int .i64 0, .bool false, .slice aw nw cw, .slice ap np cp, .string ⟨#[]⟩, .int .i64 0, .int .i64 0, .int .i64 0] 36)) := below_alloc _ _; refine ⟨MdSt.more (x := ⟨plS p, 0, .slice aw nw cw, .slice ap np cp⟩) (M5.out.under h9) hgrow (HX.out.1.ch (M.Ch.of_below (X := fun _ => False) h9) (fun _ _ e => e) fun _ e => e) (fun g e => ⟨Nat.lt_of_lt_of_le (HX.out.2 g e).2 h9.size, fun e2 => by have h1 := (HX.out.2 g e).1; have h2 := M.own_lt hM.out.own g e2; omega⟩) ?_ (fun b e => M.loc_of hat b e), BN5.out.trans ((h9.mono HN5.out).trans ((M.Ch.of_grown hgrow).below (Nat.le_trans HN5.out h9.size) fun b e => M.own_ge' OW.out b e))⟩; rw [HIL.out]; have ei : (itmS ⟨plS p, 0, .slice aw nw cw, .slice ap np cp⟩).toList = (#[.int .i64 (kk : Nat), .string lt, .int .i64 l1, .int .i64 l2, .int .i64 l3, .string ⟨#[]⟩, .int .i64 0, .int .i64 0, .int .i64 0, .bool false, .slice aw nw cw, .slice ap np cp, .string ⟨#[]⟩, .int .i64 0, .int .i64 0, .int .i64 0] : Array Value).toList := (by have h := HSA.out; rw [← h]; rfl); rw [ei]; exact hown7); clear hgrow hat hown7 hlt7))
        go_wp2
        exact ⟨⟨j + 1, _, _, _, _, by omega, by go_num, by rw [HTK.out.1, sumP_snoc, HSM.out, HNW.out.1, HNW.out.2]; go_num, rfl, by rw [HTK.out.1, sumP_snoc, HSM.out, HNW.out.1, HNW.out.2]; omega, M7.out.1, by show _ = _; rw [List.map_append, hI.out, HTK.out.1, List.map_append]; rfl, M7.out.2⟩, by simp [intOf]; omega⟩
    · have n1 : ¬ (j : Int) < (n : Int) := by omega
      have FIN : Hid (MdPost w (madeF 0 l) (.returned (.slice av j cv)) wr) := DONE.out _ _ _ _ hM.out hB.out (by
        have e : l.take j = l := List.take_of_length_le (by rw [HL.out]; omega)
        rw [hI.out, e, madeF_all _ _ (by have h := HSM.out; rw [e] at h; omega)])
      go_wp2
      go_ret
      exact FIN.out
end Go.Proofs.YtipfhfeaalbmcaaDoor
