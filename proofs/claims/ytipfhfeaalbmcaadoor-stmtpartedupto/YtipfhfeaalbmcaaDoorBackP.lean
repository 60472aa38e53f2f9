/- For every list of plans and every string that are together of bulk at most 1048576 the law that what is printed is read back (StmtBack) returns true and leaves its arguments as they were. The card ties the tables of bytes and of kinds to the text of this seat. -/
import Derived.Test.YtipfhfeaalbmcaaDoorBkMd
import Derived.Test.YtipfhfeaalbmcaaDoorShapesOf
import Derived.Test.YtipfhfeaalbmcaaDoorBackW
import Derived.Test.YtipfhfeaalbmcaaDoorRdLaid
import Derived.Test.YtipfhfeaalbmcaaDoorTie
import Derived.Test.YtipfhfeaalbmcaaDoorCards
import Derived.LaidOnce
import Derived.SizedLaws
import Derived.SevenTiedAt
import Derived.Deep.DeepHandedRow
namespace Go.Proofs.YtipfhfeaalbmcaaDoor
open Go.ChangeShapes Go.WideShapes Go.ChangeAt Go.RowKit Go.Deep

theorem cells59 : Tryd.prog.cellsOf 59 = 1 := by kernel_rfl
theorem cells96 : Tryd.prog.cellsOf 96 = 4 := by kernel_rfl
theorem bulk_pos {H : Type} (d : DataW H) : 1 ≤ Rows.uptoBulk d := by
  cases d with
  | lit l => cases l <;> simp [Rows.uptoBulk]
  | _ => simp [Rows.uptoBulk]
theorem bulkAll_len {H : Type} : ∀ l : List (DataW H), l.length ≤ Rows.uptoBulkAll l
  | [] => Nat.zero_le _
  | d :: r => by
    have h1 := bulkAll_len r
    have h2 := bulk_pos d
    simp only [List.length_cons, Rows.uptoBulkAll]
    omega
/-- Numbers that came in. -/
theorem nums_in {H : Type} {enc : TypeId × Value → H} {W : World} {fuel : Nat} {v : Value} {x : DataW H × List MemPlace}
    (h : DataW.trod enc Tryd.prog W 0 (fun _ => true) true fuel 59 [v] = some x) :
    ∃ (a0 : Option Addr) (l : List Int) (cap : Nat), v = .slice a0 l.length cap ∧ NumsAt W a0 l ∧ (∀ y ∈ l, -9223372036854775808 ≤ y ∧ y ≤ 9223372036854775807) ∧ l.length ≤ Rows.uptoBulk x.1 := by
  rcases open_ints Tryd.underlying59 Tryd.underlying3 cells3 h with ⟨hcs, hx⟩ | ⟨a, len', cap', zs, hcs, _, hl, hm, hz, hx, hcell, hws⟩
  · simp at hcs
    exact ⟨none, [], 0, hcs, (fun i s hi => by simp at hi), (fun y hy => by cases hy), Nat.zero_le _⟩
  · simp at hcs
    simp only [if_true] at hz
    have hlen : (zs.take len').length = len' := by rw [List.length_take]; omega
    refine ⟨some a, zs.take len', cap', by rw [hlen]; exact hcs, fun i y hi => ?_, fun y hy => bounds_i64 (hws y (List.mem_of_mem_take hy)), ?_⟩
    · obtain ⟨b, off, spot⟩ := a
      have hlt : i < len' := by
        have := (List.getElem?_eq_some_iff.1 hi).1
        rw [List.length_take] at this; omega
      have hspot : spot = none := by simpa [Addr.add] using World.cell?_spot (hcell 0 (by omega))
      subst hspot
      have hc := hcell i (by omega)
      rw [Addr.add_lit] at hc
      refine ⟨b, off, rfl, ?_⟩
      rw [hc]
      rw [List.getElem?_take, if_pos hlt] at hi
      rw [List.getD, hi]; rfl
    · rw [hx, hlen]
      have h2 := bulkAll_len (lits (H := H) .i64 (zs.take len'))
      simp only [lits, List.length_map, hlen] at h2
      simp only [Rows.uptoBulk, lits]
      omega
/-- A plan that came in. -/
theorem pln_in {H : Type} {enc : TypeId × Value → H} {W : World} {fuel : Nat} {cs : List Value} {x : DataW H × List MemPlace}
    (h : DataW.trod enc Tryd.prog W 0 (fun _ => true) true fuel 96 cs = some x) :
    ∃ (p : Pln) (aw : Option Addr) (cw : Nat) (ap : Option Addr) (cp : Nat), cs = [.int .i64 p.kd, .int .i64 p.lb, .slice aw p.ws.length cw, .slice ap p.ps.length cp] ∧ NumsAt W aw p.ws ∧ NumsAt W ap p.ps ∧ (-9223372036854775808 ≤ p.kd ∧ p.kd ≤ 9223372036854775807) ∧ (-9223372036854775808 ≤ p.lb ∧ p.lb ≤ 9223372036854775807) ∧ (∀ y ∈ p.ws, -9223372036854775808 ≤ y ∧ y ≤ 9223372036854775807) ∧ (∀ y ∈ p.ps, -9223372036854775808 ≤ y ∧ y ≤ 9223372036854775807) ∧ p.ws.length + p.ps.length + 1 ≤ Rows.uptoBulk x.1 := by
  obtain ⟨xs, n, _, hx, hl, hlen, hf⟩ := DataW.trod_struct Tryd.underlying96 h
  rw [cells96] at hl
  obtain ⟨c0, c1, c2, c3, rfl⟩ := four hl
  match xs, hlen with
  | [y0, y1, y2, y3], _ =>
    have h0 : DataW.trod enc Tryd.prog W 0 (fun _ => true) true n 3 (List.take (Tryd.prog.cellsOf 3) (List.drop 0 [c0, c1, c2, c3])) = some y0 := hf 0 _ rfl
    have h1 : DataW.trod enc Tryd.prog W 0 (fun _ => true) true n 3 (List.take (Tryd.prog.cellsOf 3) (List.drop 1 [c0, c1, c2, c3])) = some y1 := hf 1 _ rfl
    have h2 : DataW.trod enc Tryd.prog W 0 (fun _ => true) true n 59 (List.take (Tryd.prog.cellsOf 59) (List.drop 2 [c0, c1, c2, c3])) = some y2 := hf 2 _ rfl
    have h3 : DataW.trod enc Tryd.prog W 0 (fun _ => true) true n 59 (List.take (Tryd.prog.cellsOf 59) (List.drop 3 [c0, c1, c2, c3])) = some y3 := hf 3 _ rfl
    rw [cells3] at h0 h1
    rw [cells59] at h2 h3
    obtain ⟨k, e0, _, q0⟩ := DataW.trod_int Tryd.underlying3 h0
    obtain ⟨l, e1, _, q1⟩ := DataW.trod_int Tryd.underlying3 h1
    obtain ⟨aw, ws, cw, e2, t2, z2, b2⟩ := nums_in h2
    obtain ⟨ap, ps, cp, e3, t3, z3, b3⟩ := nums_in h3
    simp at e0 e1 e2 e3
    subst e0 e1 e2 e3
    refine ⟨⟨k, l, ws, ps⟩, aw, cw, ap, cp, rfl, t2, t3, bounds_i64 q0, bounds_i64 q1, z2, z3, ?_⟩
    have hxx : x.1 = .agg [y0.1, y1.1, y2.1, y3.1] := by rw [hx]; rfl
    rw [hxx]
    simp only [Rows.uptoBulk, Rows.uptoBulkAll]
    omega
/-- Plans that came in. -/
theorem plans_in {H : Type} {enc : TypeId × Value → H} {W : World} {fuel : Nat} {a0 : Option Addr} {len cap : Nat} {x : DataW H × List MemPlace}
    (h : DataW.trod enc Tryd.prog W 0 (fun _ => true) true fuel 58 [.slice a0 len cap] = some x) :
    ∃ l : List Pln, l.length = len ∧ PlansAt W a0 l ∧ len ≤ Rows.uptoBulk x.1 ∧ (Rows.uptoBulk x.1 ≤ 1048576 → ∀ p ∈ l, PlnOk p) := by
  rcases open_slice Tryd.underlying58 h with ⟨hcs, _⟩ | ⟨a, len', cap', m, n, D, Pl, hcs, _, hl, hm, hmm, hx, hel⟩
  · simp at hcs
    obtain ⟨rfl, rfl, rfl⟩ := hcs
    exact ⟨[], rfl, (fun i s hi => by simp at hi), by simp, fun _ p hp => by cases hp⟩
  · simp at hcs
    obtain ⟨rfl, rfl, rfl⟩ := hcs
    simp only [if_true] at hmm
    have key : ∀ i, i < len → ∃ q : Pln × Option Addr × Nat × Option Addr × Nat, (∀ j, j < 4 → W.cell? (a.add (i * 4 + j)) = [Value.int .i64 q.1.kd, .int .i64 q.1.lb, .slice q.2.1 q.1.ws.length q.2.2.1, .slice q.2.2.2.1 q.1.ps.length q.2.2.2.2][j]?) ∧ NumsAt W q.2.1 q.1.ws ∧ NumsAt W q.2.2.2.1 q.1.ps ∧ ((-9223372036854775808 ≤ q.1.kd ∧ q.1.kd ≤ 9223372036854775807) ∧ (-9223372036854775808 ≤ q.1.lb ∧ q.1.lb ≤ 9223372036854775807) ∧ (∀ y ∈ q.1.ws, -9223372036854775808 ≤ y ∧ y ≤ 9223372036854775807) ∧ (∀ y ∈ q.1.ps, -9223372036854775808 ≤ y ∧ y ≤ 9223372036854775807)) ∧ q.1.ws.length + q.1.ps.length + 1 ≤ Rows.uptoBulk (D i) := by
      intro i hi
      obtain ⟨cs', hc, ht⟩ := hel i (by omega)
      rw [cells96] at hc
      obtain ⟨p, aw, cw, ap, cp, e1, t1, t2, r1, r2, r3, r4, z⟩ := pln_in ht
      obtain ⟨_, _, hcell⟩ := World.cells?_some hc
      refine ⟨⟨p, aw, cw, ap, cp⟩, fun j hj => ?_, t1, t2, ⟨r1, r2, r3, r4⟩, z⟩
      have h0 := hcell j hj
      rw [add_add, e1] at h0
      exact h0
    have inh : Inhabited (Pln × Option Addr × Nat × Option Addr × Nat) := ⟨⟨⟨0, 0, [], []⟩, none, 0, none, 0⟩⟩
    obtain ⟨F, hF⟩ := choose_lt key
    have h1 : ∀ L : List Nat, (∀ i ∈ L, i < len) → L.length ≤ Rows.uptoBulkAll (L.map D) ∧ ∀ i ∈ L, Rows.uptoBulk (D i) ≤ Rows.uptoBulkAll (L.map D) := by
      intro L
      induction L with
      | nil => intro _; exact ⟨by simp, fun i hi => by cases hi⟩
      | cons i r ih =>
        intro h
        obtain ⟨h2, h4⟩ := ih fun j hj => h j (by simp [hj])
        have h3 := (hF i (h i (by simp))).2.2.2.2
        simp only [List.map_cons, Rows.uptoBulkAll, List.length_cons]
        refine ⟨by omega, fun j hj => ?_⟩
        rcases List.mem_cons.1 hj with rfl | hj
        · omega
        · have := h4 j hj; omega
    obtain ⟨h2, h4⟩ := h1 (List.range len) fun i hi => List.mem_range.1 hi
    have hbx : Rows.uptoBulkAll ((List.range len).map D) ≤ Rows.uptoBulk x.1 := by rw [hx]; simp only [Rows.uptoBulk]; omega
    refine ⟨(List.range len).map fun i => (F i).1, by simp, fun i s hi => ?_, ?_, fun hb p hp => ?_⟩
    · have hlt : i < len := by
        have := (List.getElem?_eq_some_iff.1 hi).1
        rwa [List.length_map, List.length_range] at this
      obtain ⟨h0, t1, t2, _⟩ := hF i hlt
      obtain ⟨b, off, spot⟩ := a
      have hspot : spot = none := by
        have := World.cell?_spot (((hF 0 (by omega)).1 0 (by omega)).trans (rfl : _ = some (Value.int .i64 (F 0).1.kd)))
        simpa [Addr.add] using this
      subst hspot
      rw [List.getElem?_map, List.getElem?_range hlt] at hi
      cases hi
      have c : ∀ j, j < 4 → W.cell? ⟨b, off + i * 4 + j, none⟩ = [Value.int .i64 (F i).1.kd, .int .i64 (F i).1.lb, .slice (F i).2.1 (F i).1.ws.length (F i).2.2.1, .slice (F i).2.2.2.1 (F i).1.ps.length (F i).2.2.2.2][j]? := fun j hj => by have := h0 j hj; rw [Addr.add_lit] at this; rw [Nat.add_assoc]; exact this
      exact ⟨b, off, (F i).2.1, (F i).2.2.1, (F i).2.2.2.1, (F i).2.2.2.2, rfl, c 0 (by omega), c 1 (by omega), c 2 (by omega), c 3 (by omega), t1, t2⟩
    · rw [List.length_range] at h2; omega
    · obtain ⟨i, hi, rfl⟩ := List.mem_map.1 hp
      obtain ⟨_, _, _, ⟨r1, r2, r3, r4⟩, z⟩ := hF i (List.mem_range.1 hi)
      have h5 := h4 i hi
      exact ⟨r1, r2, r3, r4, by omega, by omega⟩
end Go.Proofs.YtipfhfeaalbmcaaDoor

namespace Go.Proofs.YtipfhfeaalbmcaaDoor
open Go.ChangeShapes Go.WideShapes Go.ChangeAt Go.RowKit Go.Deep Go.Shelf Go.Lib
open Go.ChangeMaps (open_string shut_string)

theorem back_reads (os : Os) {H : Type} (enc : TypeId × Value → H) : ∃ places, DataW.whole enc Tryd.prog ((World.doorLaid Tryd.prog 400 os).forCall (fun _ _ => 0) ⟨#[], #[.slice none 0 0, .string ⟨#[]⟩], []⟩).memory Tryd.f8.params.toList Rows.stmtBackSpec.vars false #[Value.slice none 0 0, Value.string ⟨#[]⟩].toList 8 = some ([.nil, .lit (.string [])], [], places) :=
  ⟨[], by kernel_rfl⟩

set_option maxRecDepth 100000 in
theorem back_lifted (os : Os) (started : os.Started) (H : Type) (enc : TypeId × Value → H) (F : Stop.Interp) :
    ReturnsInHanded {} Tryd.checked os 8 .any ((Rows.OpenSpec.upto Rows.stmtBackSpec).preRow enc Tryd.prog Tryd.f8 Rows.stmtBackUptoRow.domain false Rows.stmtBackUptoRow.laid) (((Rows.OpenSpec.upto Rows.stmtBackSpec).at F).post enc Tryd.prog Tryd.f8 false true false false) := by
  obtain ⟨places, hx⟩ := back_reads os enc
  refine returnsInHanded_of_row (C := Tryd.checked) (s := Rows.OpenSpec.upto Rows.stmtBackSpec) rown started (by kernel_rfl) Tryd.func8
    (witness_row_at (enc := enc) (C := Tryd.checked) false (World.doorLaid Tryd.prog 400 os) #[.slice none 0 0, .string ⟨#[]⟩] rfl (by kernel_rfl) (by kernel_rfl) (by kernel_rfl)
      (OpenSpec.preRow_of_cond 8 hx (by kernel_rfl) (fun k hk => by cases hk; kernel_rfl) (by kernel_rfl) (door_met os _))) ?_
  intro W base args ds gs before hval0 hW _ hcond _ hL hsh _
  have hk := hcond _ rfl
  have hval : ∀ (j : Nat) t v, Tryd.f8.params[j]? = some t → args[j]? = some v → Value.okWide Tryd.prog W .any base t v := hval0
  have hW' := hW
  obtain ⟨p, q, hA0, hV, rfl, hfz, hnd⟩ := hW
  have hA : DataW.TrodAll enc Tryd.prog W 0 (fun _ => true) true Tryd.f8.params.toList args.toList ds p := hA0
  rw [Tryd.params8] at hA hval
  obtain ⟨v0, v1, d0, d1, p0, p1, rfl, rfl, rfl, h0, h1⟩ := trodAll_two hA
  obtain ⟨rfl, rfl⟩ := trodVars_none hV
  obtain ⟨wa0, wn0, wc0, rfl⟩ := okWide_slice Tryd.underlying58 (hval 0 58 v0 rfl rfl)
  obtain ⟨s, rfl, rfl, rfl, hs⟩ := open_string Tryd.underlying9 (hval 1 9 v1 rfl rfl) h1
  have hk0 := h0
  obtain ⟨f0, hf0⟩ := h0
  simp only [List.append_nil] at hW' hk
  have hbulk : Rows.uptoBulkAll (H := H) [d0, .lit (.string s.data.toList)] ≤ 1048576 := of_decide_eq_true hk
  simp only [Rows.uptoBulkAll, Rows.uptoBulk] at hbulk
  have hl0 : ∀ x ∈ p0, x.block < W.heap.size := fun x hx => by simpa using hW'.lt x (by simp [hx])
  obtain ⟨l, hll, hS, hz, hpo⟩ := plans_in hf0
  have hz' : wn0 ≤ Rows.uptoBulk d0 := hz
  have hsz : s.size ≤ 140737488355328 := by
    have h2 : s.data.toList.length = s.size := rfl
    omega
  refine (back_walk W wa0 wn0 wc0 l s hll (by omega) hS (hpo (by show Rows.uptoBulk d0 ≤ _; omega)) hsz (rdw_of_laid hL hsh)).mono fun e W' ⟨he, bel⟩ => ?_
  subst he
  exact ⟨_, rfl, _, _, _, [], _, [], hW', trodAll_mk1 (shut_bool Tryd.underlying4 _), trodAll_mk2 (Below.trod rlaidOut (by kernel_rfl) (of_decide_eq_true (by kernel_rfl)) hk0 bel hl0) (shut_string Tryd.underlying9 hs), rfl, bel.frame _, fun h => by cases h⟩

theorem back_row : Rows.StmtBackUptoSaid :=
  OpenClaim.holds_of_cond 8 Tryd.f8 rfl rfl rfl rfl rfl rfl rfl ⟨rfl, rfl, rfl, rfl, rfl⟩ rfl rfl rfl rfl rfl (by kernel_rfl) Tryd.func8 (by kernel_rfl)
    (of_decide_eq_true (by kernel_rfl)) (by unfold Func.isWrapper; first | (rw [if_pos (by decide +kernel)]; kernel_rfl) | (rw [if_neg (by decide +kernel)]; exact ⟨rfl, rfl⟩))
    (fun os started H enc _ F => by rw [OpenClaim.pre_eq_preRow]; exact back_lifted os started H enc F)

theorem back_holds : Rows.StmtBackUptoCardSaid :=
  Claim7.holds_tied_plain_at .later [] _ _ _ _ back_row (fun _ h => by cases h) (by kernel_rfl) (fun _ h => by cases h) stmtBackUpto_row_tie rfl ⟨rfl, rfl⟩ (by kernel_rfl) rfl
    (fun f fn hf hfn => by
      obtain rfl : f = 8 := Option.some.inj ((show Tryd.prog.funcNamed "lemma/lemmalaw06.StmtBack" = some 8 by kernel_rfl).symm.trans hf) |>.symm
      obtain rfl : fn = Tryd.f8 := (Option.some.inj (Tryd.func8.symm.trans hfn)).symm
      exact ⟨by kernel_rfl, fun j t ht => by
        rw [Tryd.params8] at ht
        have hm : t ∈ [58, 9] := by simpa using Array.mem_of_getElem? ht
        have hall : ([58, 9].all fun u => !Tryd.prog.wantsStandIn u) = true := by kernel_rfl
        exact (show Tryd.prog.wantsStandIn t = false by simpa using List.all_eq_true.1 hall t hm)⟩)
    (by kernel_rfl)
#print axioms back_holds
end Go.Proofs.YtipfhfeaalbmcaaDoor
