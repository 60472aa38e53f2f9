/- For every two lists of pairs, every pair, every list of variables, every list of binds and every two numbers that say which symbols are variables, together of bulk at most 1048576, the law that writes over all that All, Norm, Union, Only and Carry answer (DistMemory) returns true and leaves its arguments as they were. -/
import Derived.Test.YtjaccgkeldabfaaGreatRows
import Derived.Test.YtjaccgkeldabfaaGreatMemoryWalk
import Derived.Test.YtjaccgkeldabfaaGreatAll
import Derived.Test.YtjaccgkeldabfaaGreatHas
import Derived.Test.YtjaccgkeldabfaaGreatBreach
import Derived.Test.YtjaccgkeldabfaaGreatBreaksBase
import Derived.Test.YtjaccgkeldabfaaGreatThenIn
import Derived.ProofKit
import Derived.OpenShut
import Derived.JoinedCond
import Derived.Deep.DeepHandedRow
import Derived.SliceStrings
import Derived.ChangeSlices
import Derived.Carry
namespace Go.Proofs.YtjaccgkeldabfaaGreat
open Go.ChangeShapes Go.WideShapes Go.ChangeAt Go.RowKit Go.Deep

theorem own : ownKnob Tryz.prog.godebug = none := by kernel_rfl
theorem cells50 : Tryz.prog.cellsOf 50 = 5 := by kernel_rfl
theorem cells33 : Tryz.prog.cellsOf 33 = 2 := by kernel_rfl
theorem cells44 : Tryz.prog.cellsOf 44 = 1 := by kernel_rfl
theorem cells25 : Tryz.prog.cellsOf 25 = 5 := by kernel_rfl
theorem cells22 : Tryz.prog.cellsOf 22 = 1 := by kernel_rfl
theorem cells23 : Tryz.prog.cellsOf 23 = 1 := by kernel_rfl
theorem arr5 {cs : Array Value} (h : cs.size = 5) : ∃ a b c d e, cs = #[a, b, c, d, e] := by
  obtain ⟨l⟩ := cs
  match l, h with
  | [a, b, c, d, e], _ => exact ⟨a, b, c, d, e, rfl⟩
theorem mem_bound : ∀ {bl : List (Int × List Int)} {q : Int × List Int}, q ∈ bl → q.2.length ≤ (bl.flatMap (·.2)).length
  | [], _, h => by simp at h
  | a :: bl, q, h => by
    rw [List.flatMap_cons, List.length_append]
    rcases List.mem_cons.1 h with rfl | h
    · omega
    · have := mem_bound h
      omega
theorem pairs_cap {H : Type} {enc : TypeId × Value → H} {W : World} {fuel : Nat} {a : Option Addr} {n c : Nat} {x : DataW H × List MemPlace}
    (h : DataW.trod enc Tryz.prog W 0 (fun _ => true) true fuel 22 [.slice a n c] = some x) : n ≤ c := by
  rcases open_slice Tryz.underlying22 h with ⟨hcs, hx⟩ | ⟨a', len, cap, m, k, D, Pl, hcs, _, hl, _⟩
  · simp at hcs
    omega
  · simp at hcs
    omega
theorem binds_shape {H : Type} {enc : TypeId × Value → H} {W : World} {fuel : Nat} {v : Value} {x : DataW H × List MemPlace}
    (h : DataW.trod enc Tryz.prog W 0 (fun _ => true) true fuel 23 [v] = some x) : ∃ (a0 : Option Addr) (len cap : Nat), v = .slice a0 len cap := by
  rcases open_slice Tryz.underlying23 h with ⟨hcs, hx⟩ | ⟨a, len', cap', m, n, D, Pl, hcs, _⟩
  · simp at hcs; exact ⟨_, _, _, hcs⟩
  · simp at hcs; exact ⟨_, _, _, hcs⟩
theorem int_open {H : Type} {enc : TypeId × Value → H} {W : World} {fuel : Nat} {v : Value} {x : DataW H × List MemPlace}
    (h : DataW.trod enc Tryz.prog W 0 (fun _ => true) true fuel 3 [v] = some x) : ∃ k : Int, v = .int .i64 k ∧ wfI k := by
  obtain ⟨k, e, w, _⟩ := DataW.trod_int Tryz.underlying3 h
  simp at e
  exact ⟨k, e, by assumption⟩
/-- What came in, part by part. -/
theorem carried_open {H : Type} {enc : TypeId × Value → H} {W : World} {fuel : Nat} {c0 c1 c2 c3 c4 : Value} {x : DataW H × List MemPlace}
    (h : DataW.trod enc Tryz.prog W 0 (fun _ => true) true fuel 25 [c0, c1, c2, c3, c4] = some x) :
    ∃ (y0 y1 y2 y3 y4 : DataW H × List MemPlace) (n : Nat), x.1 = .agg [y0.1, y1.1, y2.1, y3.1, y4.1] ∧ DataW.trod enc Tryz.prog W 0 (fun _ => true) true n 22 [c0] = some y0 ∧ DataW.trod enc Tryz.prog W 0 (fun _ => true) true n 23 [c1] = some y1 ∧ DataW.trod enc Tryz.prog W 0 (fun _ => true) true n 22 [c2] = some y2 ∧ DataW.trod enc Tryz.prog W 0 (fun _ => true) true n 3 [c3] = some y3 ∧ DataW.trod enc Tryz.prog W 0 (fun _ => true) true n 3 [c4] = some y4 := by
  obtain ⟨xs, n, _, hx, _, hlen, hf⟩ := DataW.trod_struct Tryz.underlying25 h
  match xs, hlen with
  | [y0, y1, y2, y3, y4], _ =>
    have h0 : DataW.trod enc Tryz.prog W 0 (fun _ => true) true n 22 (List.take (Tryz.prog.cellsOf 22) (List.drop 0 [c0, c1, c2, c3, c4])) = some y0 := hf 0 _ rfl
    have h1 : DataW.trod enc Tryz.prog W 0 (fun _ => true) true n 23 (List.take (Tryz.prog.cellsOf 23) (List.drop 1 [c0, c1, c2, c3, c4])) = some y1 := hf 1 _ rfl
    have h2 : DataW.trod enc Tryz.prog W 0 (fun _ => true) true n 22 (List.take (Tryz.prog.cellsOf 22) (List.drop 2 [c0, c1, c2, c3, c4])) = some y2 := hf 2 _ rfl
    have h3 : DataW.trod enc Tryz.prog W 0 (fun _ => true) true n 3 (List.take (Tryz.prog.cellsOf 3) (List.drop 3 [c0, c1, c2, c3, c4])) = some y3 := hf 3 _ rfl
    have h4 : DataW.trod enc Tryz.prog W 0 (fun _ => true) true n 3 (List.take (Tryz.prog.cellsOf 3) (List.drop 4 [c0, c1, c2, c3, c4])) = some y4 := hf 4 _ rfl
    rw [cells22] at h0 h2
    rw [cells23] at h1
    rw [cells3] at h3 h4
    exact ⟨y0, y1, y2, y3, y4, n, congrArg Prod.fst hx, h0, h1, h2, h3, h4⟩
theorem lists_open {H : Type} {enc : TypeId × Value → H} {W : World} {fuel : Nat} {c0 c1 c2 c3 c4 : Value} {x : DataW H × List MemPlace}
    (h : DataW.trod enc Tryz.prog W 0 (fun _ => true) true fuel 50 [c0, c1, c2, c3, c4] = some x) :
    ∃ (y0 y1 y2 y3 : DataW H × List MemPlace) (n : Nat), x.1 = .agg [y0.1, y1.1, y2.1, y3.1] ∧ DataW.trod enc Tryz.prog W 0 (fun _ => true) true n 22 [c0] = some y0 ∧ DataW.trod enc Tryz.prog W 0 (fun _ => true) true n 22 [c1] = some y1 ∧ DataW.trod enc Tryz.prog W 0 (fun _ => true) true n 33 [c2, c3] = some y2 ∧ DataW.trod enc Tryz.prog W 0 (fun _ => true) true n 44 [c4] = some y3 := by
  obtain ⟨xs, n, _, hx, _, hlen, hf⟩ := DataW.trod_struct Tryz.underlying50 h
  match xs, hlen with
  | [y0, y1, y2, y3], _ =>
    have h0 : DataW.trod enc Tryz.prog W 0 (fun _ => true) true n 22 (List.take (Tryz.prog.cellsOf 22) (List.drop 0 [c0, c1, c2, c3, c4])) = some y0 := hf 0 _ rfl
    have h1 : DataW.trod enc Tryz.prog W 0 (fun _ => true) true n 22 (List.take (Tryz.prog.cellsOf 22) (List.drop 1 [c0, c1, c2, c3, c4])) = some y1 := hf 1 _ rfl
    have h2 : DataW.trod enc Tryz.prog W 0 (fun _ => true) true n 33 (List.take (Tryz.prog.cellsOf 33) (List.drop 2 [c0, c1, c2, c3, c4])) = some y2 := hf 2 _ rfl
    have h3 : DataW.trod enc Tryz.prog W 0 (fun _ => true) true n 44 (List.take (Tryz.prog.cellsOf 44) (List.drop 4 [c0, c1, c2, c3, c4])) = some y3 := hf 3 _ rfl
    rw [cells22] at h0 h1
    rw [cells33] at h2
    rw [cells44] at h3
    exact ⟨y0, y1, y2, y3, n, congrArg Prod.fst hx, h0, h1, h2, h3⟩
theorem pair_open {H : Type} {enc : TypeId × Value → H} {W : World} {fuel : Nat} {c0 c1 : Value} {x : DataW H × List MemPlace}
    (h : DataW.trod enc Tryz.prog W 0 (fun _ => true) true fuel 33 [c0, c1] = some x) : ∃ p0 p1 : Int, c0 = .int .i64 p0 ∧ c1 = .int .i64 p1 := by
  obtain ⟨y0, y1, n2, hd, hlen, t0, t1⟩ := trod_struct2 Tryz.underlying33 h
  obtain ⟨k0, e0, _, _⟩ := DataW.trod_int Tryz.underlying3 t0
  obtain ⟨k1, e1, _, _⟩ := DataW.trod_int Tryz.underlying3 t1
  dsimp only at e0 e1
  rw [cells3] at e0 e1
  simp at e0 e1
  exact ⟨k0, k1, e0, e1⟩
open Classical in
/-- The list that Norm tells of pairs. -/
noncomputable def theNorm (l : List Pr) : List Pr := if h : ∃ m, IsNorm l m then h.choose else []
theorem theNorm_eq {l m : List Pr} (h : IsNorm l m) : theNorm l = m := by
  have hx : ∃ m, IsNorm l m := ⟨m, h⟩
  unfold theNorm
  rw [dif_pos hx]
  exact norm_one hx.choose_spec h
theorem theNorm_len (l : List Pr) : (theNorm l).length ≤ l.length := by
  unfold theNorm
  split
  · rename_i h
    exact norm_len h.choose_spec
  · simp
/-- What Carry tells of pairs. -/
def AskedIs (bl : List (Int × List Int)) (p : Int → Bool) (l mm : List Pr) : Prop := l.find? (badM bl p) = none ∧ mm.length ≤ 1099511627776 ∧ ∃ mn, IsNorm l mn ∧ Told (askS bl p mn) mm
open Classical in
noncomputable def theAsked (bl : List (Int × List Int)) (p : Int → Bool) (l : List Pr) : List Pr := if h : ∃ m, AskedIs bl p l m then h.choose else []
theorem asked_one {bl : List (Int × List Int)} {p : Int → Bool} {l m m' : List Pr} (h : AskedIs bl p l m) (h' : AskedIs bl p l m') : m = m' := by
  obtain ⟨_, _, mn, hn, ht⟩ := h
  obtain ⟨_, _, mn', hn', ht'⟩ := h'
  obtain rfl := norm_one hn hn'
  refine up_eq ht.up ht'.up fun q => ⟨fun hq => (ht'.mem q (ht.wf q hq)).2 ((ht.mem q (ht.wf q hq)).1 hq), fun hq => (ht.mem q (ht'.wf q hq)).2 ((ht'.mem q (ht'.wf q hq)).1 hq)⟩
theorem theAsked_eq {bl : List (Int × List Int)} {p : Int → Bool} {l m : List Pr} (h : AskedIs bl p l m) : theAsked bl p l = m := by
  have hx : ∃ m, AskedIs bl p l m := ⟨m, h⟩
  unfold theAsked
  rw [dif_pos hx]
  exact asked_one hx.choose_spec h
theorem theAsked_none {bl : List (Int × List Int)} {p : Int → Bool} {l : List Pr} {q : Pr} (h : l.find? (badM bl p) = some q) : theAsked bl p l = [] := by
  unfold theAsked
  rw [dif_neg]
  rintro ⟨m, h1, _⟩
  rw [h] at h1
  cases h1
theorem theAsked_len (bl : List (Int × List Int)) (p : Int → Bool) (l : List Pr) : (theAsked bl p l).length ≤ 1099511627776 := by
  unfold theAsked
  split
  · rename_i h
    exact h.choose_spec.2.1
  · simp
def theAll (vl : List Int) : List Pr := if vl.length ≤ 512 ∧ vl.Nodup then allP (riseL vl) else []
theorem frontP_len (m : List Int) : ∀ i, i ≤ m.length → (frontP m i).length ≤ i * m.length
  | 0, _ => by simp [frontP]
  | i + 1, h => by
    rw [frontP_succ, List.length_append, List.length_map, List.length_drop, Nat.add_mul]
    have := frontP_len m i (by omega)
    omega
theorem theAll_len (vl : List Int) : (theAll vl).length ≤ 1099511627776 := by
  unfold theAll
  split
  · rename_i h
    have h1 := (rise_once vl).len
    have h2 := frontP_len (riseL vl) _ (Nat.le_refl _)
    have h3 : (riseL vl).length * (riseL vl).length ≤ 512 * 512 := Nat.mul_le_mul (by omega) (by omega)
    show (frontP _ _).length ≤ _
    omega
  · simp
theorem rowIs_nil (w w' : World) (l : List Pr) (hl : l = []) (hb : Below w.heap.size w w') : RowIs w w' (.slice none 0 0) l := by
  subst hl
  exact ⟨hb, World.ownsRow_nil _ _ _ _⟩
/-- The five lists. -/
noncomputable def fiveL (lA lB lL : List Pr) (vl : List Int) (p : Int → Bool) (s : List (Int × List Int)) : Nat → List Pr
  | 0 => theAll vl
  | 1 => theNorm lA
  | 2 => theNorm (lA ++ lB)
  | 3 => theNorm (onlyP lA vl)
  | 4 => theAsked s p lL
  | _ => []
theorem NormIs.row {w w' : World} {e : Ending} {l : List Pr} (h : NormIs w w' e l) : ∃ v, e = .returned v ∧ RowIs w w' v (theNorm l) := by
  obtain ⟨v, m, he, hm, ho, hb⟩ := h
  rw [theNorm_eq hm]
  exact ⟨v, he, hb, ho⟩

set_option maxRecDepth 100000 in
theorem memory_lifted (os : Os) (started : os.Started) (H : Type) (enc : TypeId × Value → H) (F : Stop.Interp) :
    ReturnsInHanded {} Tryz.checked os 5 .any ((Rows.OpenSpec.upto Rows.distMemorySpec).pre6 enc Tryz.prog Tryz.f5 Rows.distMemoryUptoRow.domain false)
      (((Rows.OpenSpec.upto Rows.distMemorySpec).at F).post enc Tryz.prog Tryz.f5 false true false false) := by
  refine returnsInHanded_of_cond (C := Tryz.checked) (s := Rows.OpenSpec.upto Rows.distMemorySpec) (k := Rows.uptoSmall) rfl own started (by kernel_rfl) Tryz.func5
    (OpenSpec.witness (enc := enc) (C := Tryz.checked) (s := Rows.OpenSpec.upto Rows.distMemorySpec) (k := Rows.uptoSmall) rfl false ⟨#[], #[.agg #[.slice none 0 0, .slice none 0 0, .int .i64 0, .int .i64 0, .slice none 0 0], .agg #[.slice none 0 0, .slice none 0 0, .slice none 0 0, .int .i64 0, .int .i64 0]], []⟩ 8 (by kernel_rfl) (by kernel_rfl) (by kernel_rfl)
      (x := ([.agg [.nil, .nil, .agg [.lit (.int .i64 0), .lit (.int .i64 0)], .nil], .agg [.nil, .nil, .nil, .lit (.int .i64 0), .lit (.int .i64 0)]], [], [])) (by kernel_rfl) rfl (by kernel_rfl)) ?_
  intro W base args ds gs before hval0 hW _ hk _
  have hval : ∀ (j : Nat) t v, Tryz.f5.params[j]? = some t → args[j]? = some v → Value.okWide Tryz.prog W .any base t v := hval0
  have hW' := hW
  obtain ⟨p, q, hA0, hV, rfl, hfz, hnd⟩ := hW
  have hA : DataW.TrodAll enc Tryz.prog W 0 (fun _ => true) true Tryz.f5.params.toList args.toList ds p := hA0
  rw [Tryz.params5] at hA hval
  obtain ⟨v0, v1, d0, d1, p0, p1, rfl, rfl, rfl, h0, h1⟩ := trodAll_two hA
  obtain ⟨rfl, rfl⟩ := trodVars_none hV
  obtain ⟨cs, rfl, hcs⟩ := okWide_struct Tryz.underlying50 (hval 0 50 v0 rfl rfl)
  obtain ⟨b0', b1', b2', b3', b4', rfl⟩ := arr5 (hcs.trans cells50)
  obtain ⟨cs, rfl, hcs⟩ := okWide_struct Tryz.underlying25 (hval 1 25 v1 rfl rfl)
  obtain ⟨c0, c1, c2, c3, c4, rfl⟩ := arr5 (hcs.trans cells25)
  have hk0 := h0
  have hk1 := h1
  obtain ⟨f0, hf0⟩ := h0
  obtain ⟨f1, hf1⟩ := h1
  simp only [List.append_nil] at hW' hk
  have hbulk : Rows.uptoBulkAll [d0, d1] ≤ 1048576 := of_decide_eq_true hk
  have hl0 : ∀ x ∈ p0, x.block < W.heap.size := fun x hx => by simpa using hW'.lt x (by simp [hx])
  have hl1 : ∀ x ∈ p1, x.block < W.heap.size := fun x hx => by simpa using hW'.lt x (by simp [hx])
  have hf0' : DataW.trod enc Tryz.prog W 0 (fun _ => true) true f0 50 [b0', b1', b2', b3', b4'] = some (d0, p0) := hf0
  have hf1' : DataW.trod enc Tryz.prog W 0 (fun _ => true) true f1 25 [c0, c1, c2, c3, c4] = some (d1, p1) := hf1
  obtain ⟨x0, x1, x2, x3, fx, hdx, s0, s1, s2, s3⟩ := lists_open hf0'
  obtain ⟨y0, y1, y2, y3, y4, fu, hd, t0, t1, t2, t3, t4⟩ := carried_open hf1'
  have hdx' : d0 = .agg [x0.1, x1.1, x2.1, x3.1] := hdx
  subst hdx'
  have hd' : d1 = .agg [y0.1, y1.1, y2.1, y3.1, y4.1] := hd
  subst hd'
  simp only [Rows.uptoBulkAll, Rows.uptoBulk] at hbulk
  obtain ⟨aA, lA, cA, rfl, gA, wA, hAt⟩ := pairs_full s0
  obtain ⟨aB, lB, cB, rfl, gB, wB, hBt⟩ := pairs_full s1
  obtain ⟨q0, q1, rfl, rfl⟩ := pair_open s2
  obtain ⟨aV, vl, cV, hcv, gV, wV, hVt⟩ := ints_full s3
  obtain rfl : b4' = .slice aV vl.length cV := by simpa using hcv
  obtain ⟨aL, l, cL, rfl, gl, wl, hL⟩ := pairs_full t0
  obtain ⟨a0, n0, e0, rfl⟩ := binds_shape t1
  obtain ⟨vs0, b0, eb, r0, m0, w0, g0⟩ := binds_full t1
  obtain ⟨aH, hv, cH, rfl, gh, wh, hH⟩ := pairs_full t2
  obtain ⟨m, rfl, wm⟩ := int_open t3
  obtain ⟨r, rfl, _⟩ := int_open t4
  have hbig : ∀ q ∈ b0, q.2.length ≤ 1048576 := fun q hq => Nat.le_trans (mem_bound hq) (by omega)
  have hD : Dat l hv b0 (l.map (·.1) ++ l.map (·.2) ++ b0.flatMap (·.2)) m 0 := by
    refine ⟨wl, wh, fun q hq => (w0 q hq).2, wm, rfl, fun q hq => ?_, fun q hq x hx => ?_, hbig, ?_⟩
    · have m1 : q.1 ∈ l.map (·.1) := List.mem_map.2 ⟨q, hq, rfl⟩
      have m2 : q.2 ∈ l.map (·.2) := List.mem_map.2 ⟨q, hq, rfl⟩
      simp only [List.mem_append]
      exact ⟨.inl (.inl m1), .inl (.inr m2)⟩
    · simp only [List.mem_append]
      exact .inr (List.mem_flatMap.2 ⟨q, hq, hx⟩)
    · simp only [List.length_append, List.length_map]
      omega
  have hUl : (l.map (·.1) ++ l.map (·.2) ++ b0.flatMap (·.2)).length ≤ 1048576 := by
    simp only [List.length_append, List.length_map]
    omega
  have hwalk := memory_walk W aA aB aV aL a0 aH lA.length cA lB.length cB vl.length cV l.length cL n0 e0 hv.length cH lA lB l vl q0 q1 m r rfl (by omega) hAt rfl (by omega) hBt rfl (by omega) hL rfl (by omega) hVt
    (fun s W a n _ => s.length = n ∧ n ≤ 1048576 ∧ S.BindsC W a n s ∧ ∀ q ∈ s, q ∈ b0) (fun s W W' a n c h hb => ⟨h.1, h.2.1, h.2.2.1.under hb, h.2.2.2⟩)
    (fiveL lA lB l vl (isV m r)) (fun s i => by
      match i with
      | 0 => exact theAll_len vl
      | 1 => exact Nat.le_trans (theNorm_len _) (by omega)
      | 2 => exact Nat.le_trans (theNorm_len _) (by rw [List.length_append]; omega)
      | 3 => exact Nat.le_trans (theNorm_len _) (Nat.le_trans (onlyP_len _ _) (by omega))
      | 4 => exact theAsked_len _ _ _
      | _ + 5 => simp [fiveL])
    (fun wx hx => (newU2 wx a0 n0 e0 vs0 b0 eb (by omega) (fun q hq => by have := hbig q hq; omega) (r0.under hx) (m0.under hx)).mono fun e w' ⟨hb, sl, a1, c1, er, he, hC, hcase⟩ => ⟨hb, sl, a1, sl.length, c1, er, he, hcase.imp (fun h => h.1) fun h => ⟨h.1, rfl, by rw [h.2.1.length_eq]; omega, hC, fun q hq => h.2.1.mem_iff.1 hq⟩⟩)
    (fun wx => (newE wx).mono fun e w' ⟨hb, a1, c1, he⟩ => ⟨hb, [], a1, 0, c1, he, fun W => ⟨rfl, by omega, bindsC_none W a1, by simp⟩⟩)
    (fun wx a c s hI => (all_any wx a c vl vl.length rfl (by omega) hI).mono fun e w' ⟨hb, h⟩ => by
      show ∃ v er, _ ∧ RowIs wx w' v (theAll vl)
      rcases h with ⟨h1, he⟩ | ⟨h1, h2, he⟩ | ⟨h1, h2, v, mm, h3, he, ho⟩
      · exact ⟨_, _, he, rowIs_nil _ _ _ (by unfold theAll; rw [if_neg]; omega) hb⟩
      · exact ⟨_, _, he, rowIs_nil _ _ _ (by unfold theAll; rw [if_neg]; exact fun h => h2 h.2) hb⟩
      · refine ⟨v, 0, he, hb, ?_⟩
        unfold theAll
        rw [if_pos ⟨h1, h2⟩, ← once_rise h3]
        exact ho)
    (fun wx aa ca s a7 n7 c7 hs hP => (carry_any wx aa l.length ca l a7 n7 c7 s (.slice aL l.length cL) (.slice a0 n0 e0) (.slice aH hv.length cH) m r _ (by have := hs.2.1; omega) (fun q hq => by have := hbig q (hs.2.2.2 q hq); omega) (fun q hq => (w0 q (hs.2.2.2 q hq)).2) wm rfl (by omega) wl (S.BindsC.sub hs.2.2.1 (Below.refl _ _)) hP (hD.inn hs.2.2.2) hUl).mono fun e w' ⟨hb, h⟩ => by
      show ∃ v z1 z2 b, _ ∧ RowIs wx w' v (theAsked s (isV m r) l)
      rcases h with ⟨q, hq, he⟩ | ⟨hn, v, mm, mn, he, h1, h2, h3, h4⟩
      · exact ⟨_, _, _, _, he, rowIs_nil _ _ _ (theAsked_none hq) hb⟩
      · refine ⟨v, _, _, _, he, hb, ?_⟩
        rw [theAsked_eq ⟨hn, h3, mn, h1, h2⟩]
        exact h4)
    (fun wx aa ca s hP => (norm_any wx aa ca lA lA.length rfl (by omega) wA hP).mono fun e w' h => h.row)
    (fun wx aa ca ab cb s hP hQ => (union_any wx aa ab ca cb lA lB lA.length lB.length rfl rfl (by omega) (by omega) wA wB hP hQ).mono fun e w' h => h.row)
    (fun wx aa ca ab cb s hP hQ => (only_any wx aa ab ca cb lA vl lA.length vl.length rfl rfl (by omega) (by omega) wA hP hQ).mono fun e w' h => h.row)
    (fun wx aa ca hP => (has_any wx aa ca lA.length lA (q0, q1) rfl (by omega) hP).mono fun e w' h => ⟨⟨_, h.1⟩, h.2⟩)
    (fun wx aa ca s a7 n7 c7 ab cb hs hP hQ => (breach_any wx aa l.length ca l a7 n7 c7 s (.slice aL l.length cL) (.slice a0 n0 e0) (.slice aH hv.length cH) m r ab lA.length cb lA (by have := hs.2.1; omega) (fun q hq => by have := hbig q (hs.2.2.2 q hq); omega) (fun q hq => (w0 q (hs.2.2.2 q hq)).2) wm rfl (by omega) wl (S.BindsC.sub hs.2.2.1 (Below.refl _ _)) hP rfl (by omega) wA hQ).mono fun e w' h => ⟨⟨_, _, _, h.1⟩, h.2⟩)
    (fun wx a b ca cb ll n hl hn hP hQ => same_eq wx a b ca cb ll n hl (by omega) hP hQ)
    (fun wx => alive_any wx)
  refine hwalk.mono fun e W' ⟨he, bel⟩ => ?_
  subst he
  exact ⟨_, rfl, _, _, _, [], _, [], hW', trodAll_mk1 (shut_bool Tryz.underlying4 _), trodAll_mk2 (Below.trod laidOut (by kernel_rfl) (of_decide_eq_true (by kernel_rfl)) hk0 bel hl0) (Below.trod laidOut (by kernel_rfl) (of_decide_eq_true (by kernel_rfl)) hk1 bel hl1), rfl, bel.frame _, fun h => by cases h⟩

theorem memory_holds : Rows.DistMemoryUptoSaid :=
  OpenClaim.holds_of_cond 5 Tryz.f5 rfl rfl rfl rfl rfl rfl rfl ⟨rfl, rfl, rfl, rfl, rfl⟩ rfl rfl rfl rfl rfl (by kernel_rfl) Tryz.func5 (by kernel_rfl)
    (of_decide_eq_true (by kernel_rfl)) (by unfold Func.isWrapper; first | (rw [if_pos (by decide +kernel)]; kernel_rfl) | (rw [if_neg (by decide +kernel)]; exact ⟨rfl, rfl⟩))
    (fun os started H enc _ F => memory_lifted os started H enc F)
#print axioms memory_holds
end Go.Proofs.YtjaccgkeldabfaaGreat
