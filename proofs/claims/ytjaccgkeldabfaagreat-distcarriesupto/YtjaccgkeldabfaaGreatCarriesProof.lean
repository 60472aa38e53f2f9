/- For every list of pairs, every list of binds, every list of pairs that are had and every two numbers that say which symbols are variables, together of bulk at most 1048576, the law that holds Carry and Breach against the document's answers (DistCarries) returns true and leaves its arguments as they were. -/
import Derived.Test.YtjaccgkeldabfaaGreatRows
import Derived.Test.YtjaccgkeldabfaaGreatCarriesWalk
import Derived.Test.YtjaccgkeldabfaaGreatThenIn
import Derived.ProofKit
import Derived.OpenShut
import Derived.JoinedCond
import Derived.Deep.DeepHandedRow
import Derived.SliceStrings
import Derived.ChangeSlices
import Derived.Carry
namespace Go.Proofs.YtjaccgkeldabfaaGreat
open Go.ChangeShapes Go.WideShapes Go.ChangeAt Go.RowKit Go.Deep

theorem own : ownKnob Tryz.prog.godebug = none := by kernel_rfl
theorem cells25 : Tryz.prog.cellsOf 25 = 5 := by kernel_rfl
theorem cells22 : Tryz.prog.cellsOf 22 = 1 := by kernel_rfl
theorem cells23 : Tryz.prog.cellsOf 23 = 1 := by kernel_rfl
theorem arr5 {cs : Array Value} (h : cs.size = 5) : ∃ a b c d e, cs = #[a, b, c, d, e] := by
  obtain ⟨l⟩ := cs
  match l, h with
  | [a, b, c, d, e], _ => exact ⟨a, b, c, d, e, rfl⟩
theorem mem_bound : ∀ {bl : List (Int × List Int)} {q : Int × List Int}, q ∈ bl → q.2.length ≤ (bl.flatMap (·.2)).length
  | [], _, h => by simp at h
  | a :: bl, q, h => by
    rw [List.flatMap_cons, List.length_append]
    rcases List.mem_cons.1 h with rfl | h
    · omega
    · have := mem_bound h
      omega
theorem pairs_cap {H : Type} {enc : TypeId × Value → H} {W : World} {fuel : Nat} {a : Option Addr} {n c : Nat} {x : DataW H × List MemPlace}
    (h : DataW.trod enc Tryz.prog W 0 (fun _ => true) true fuel 22 [.slice a n c] = some x) : n ≤ c := by
  rcases open_slice Tryz.underlying22 h with ⟨hcs, hx⟩ | ⟨a', len, cap, m, k, D, Pl, hcs, _, hl, _⟩
  · simp at hcs
    omega
  · simp at hcs
    omega
theorem binds_shape {H : Type} {enc : TypeId × Value → H} {W : World} {fuel : Nat} {v : Value} {x : DataW H × List MemPlace}
    (h : DataW.trod enc Tryz.prog W 0 (fun _ => true) true fuel 23 [v] = some x) : ∃ (a0 : Option Addr) (len cap : Nat), v = .slice a0 len cap := by
  rcases open_slice Tryz.underlying23 h with ⟨hcs, hx⟩ | ⟨a, len', cap', m, n, D, Pl, hcs, _⟩
  · simp at hcs; exact ⟨_, _, _, hcs⟩
  · simp at hcs; exact ⟨_, _, _, hcs⟩
theorem int_open {H : Type} {enc : TypeId × Value → H} {W : World} {fuel : Nat} {v : Value} {x : DataW H × List MemPlace}
    (h : DataW.trod enc Tryz.prog W 0 (fun _ => true) true fuel 3 [v] = some x) : ∃ k : Int, v = .int .i64 k ∧ wfI k := by
  obtain ⟨k, e, w, _⟩ := DataW.trod_int Tryz.underlying3 h
  simp at e
  exact ⟨k, e, by assumption⟩
/-- What came in, part by part. -/
theorem carried_open {H : Type} {enc : TypeId × Value → H} {W : World} {fuel : Nat} {c0 c1 c2 c3 c4 : Value} {x : DataW H × List MemPlace}
    (h : DataW.trod enc Tryz.prog W 0 (fun _ => true) true fuel 25 [c0, c1, c2, c3, c4] = some x) :
    ∃ (y0 y1 y2 y3 y4 : DataW H × List MemPlace) (n : Nat), x.1 = .agg [y0.1, y1.1, y2.1, y3.1, y4.1] ∧ DataW.trod enc Tryz.prog W 0 (fun _ => true) true n 22 [c0] = some y0 ∧ DataW.trod enc Tryz.prog W 0 (fun _ => true) true n 23 [c1] = some y1 ∧ DataW.trod enc Tryz.prog W 0 (fun _ => true) true n 22 [c2] = some y2 ∧ DataW.trod enc Tryz.prog W 0 (fun _ => true) true n 3 [c3] = some y3 ∧ DataW.trod enc Tryz.prog W 0 (fun _ => true) true n 3 [c4] = some y4 := by
  obtain ⟨xs, n, _, hx, _, hlen, hf⟩ := DataW.trod_struct Tryz.underlying25 h
  match xs, hlen with
  | [y0, y1, y2, y3, y4], _ =>
    have h0 : DataW.trod enc Tryz.prog W 0 (fun _ => true) true n 22 (List.take (Tryz.prog.cellsOf 22) (List.drop 0 [c0, c1, c2, c3, c4])) = some y0 := hf 0 _ rfl
    have h1 : DataW.trod enc Tryz.prog W 0 (fun _ => true) true n 23 (List.take (Tryz.prog.cellsOf 23) (List.drop 1 [c0, c1, c2, c3, c4])) = some y1 := hf 1 _ rfl
    have h2 : DataW.trod enc Tryz.prog W 0 (fun _ => true) true n 22 (List.take (Tryz.prog.cellsOf 22) (List.drop 2 [c0, c1, c2, c3, c4])) = some y2 := hf 2 _ rfl
    have h3 : DataW.trod enc Tryz.prog W 0 (fun _ => true) true n 3 (List.take (Tryz.prog.cellsOf 3) (List.drop 3 [c0, c1, c2, c3, c4])) = some y3 := hf 3 _ rfl
    have h4 : DataW.trod enc Tryz.prog W 0 (fun _ => true) true n 3 (List.take (Tryz.prog.cellsOf 3) (List.drop 4 [c0, c1, c2, c3, c4])) = some y4 := hf 4 _ rfl
    rw [cells22] at h0 h2
    rw [cells23] at h1
    rw [cells3] at h3 h4
    exact ⟨y0, y1, y2, y3, y4, n, congrArg Prod.fst hx, h0, h1, h2, h3, h4⟩
set_option maxRecDepth 100000 in
theorem carries_lifted (os : Os) (started : os.Started) (H : Type) (enc : TypeId × Value → H) (F : Stop.Interp) :
    ReturnsInHanded {} Tryz.checked os 6 .any ((Rows.OpenSpec.upto Rows.distCarriesSpec).pre6 enc Tryz.prog Tryz.f6 Rows.distCarriesUptoRow.domain false)
      (((Rows.OpenSpec.upto Rows.distCarriesSpec).at F).post enc Tryz.prog Tryz.f6 false true false false) := by
  refine returnsInHanded_of_cond (C := Tryz.checked) (s := Rows.OpenSpec.upto Rows.distCarriesSpec) (k := Rows.uptoSmall) rfl own started (by kernel_rfl) Tryz.func6
    (OpenSpec.witness (enc := enc) (C := Tryz.checked) (s := Rows.OpenSpec.upto Rows.distCarriesSpec) (k := Rows.uptoSmall) rfl false ⟨#[], #[.agg #[.slice none 0 0, .slice none 0 0, .slice none 0 0, .int .i64 0, .int .i64 0]], []⟩ 8 (by kernel_rfl) (by kernel_rfl) (by kernel_rfl)
      (x := ([.agg [.nil, .nil, .nil, .lit (.int .i64 0), .lit (.int .i64 0)]], [], [])) (by kernel_rfl) rfl (by kernel_rfl)) ?_
  intro W base args ds gs before hval0 hW _ hk _
  have hval : ∀ (j : Nat) t v, Tryz.f6.params[j]? = some t → args[j]? = some v → Value.okWide Tryz.prog W .any base t v := hval0
  have hW' := hW
  obtain ⟨p, q, hA0, hV, rfl, hfz, hnd⟩ := hW
  have hA : DataW.TrodAll enc Tryz.prog W 0 (fun _ => true) true Tryz.f6.params.toList args.toList ds p := hA0
  rw [Tryz.params6] at hA hval
  obtain ⟨v0, d0, rfl, rfl, h0⟩ := trodAll_one hA
  obtain ⟨rfl, rfl⟩ := trodVars_none hV
  obtain ⟨cs, rfl, hcs⟩ := okWide_struct Tryz.underlying25 (hval 0 25 v0 rfl rfl)
  obtain ⟨c0, c1, c2, c3, c4, rfl⟩ := arr5 (hcs.trans cells25)
  have hk0 := h0
  obtain ⟨f0, hf0⟩ := h0
  simp only [List.append_nil] at hW' hk
  have hbulk : Rows.uptoBulkAll [d0] ≤ 1048576 := of_decide_eq_true hk
  have hl0 : ∀ x ∈ p, x.block < W.heap.size := fun x hx => by simpa using hW'.lt x (by simp [hx])
  have hf0' : DataW.trod enc Tryz.prog W 0 (fun _ => true) true f0 25 [c0, c1, c2, c3, c4] = some (d0, p) := hf0
  obtain ⟨y0, y1, y2, y3, y4, fu, hd, t0, t1, t2, t3, t4⟩ := carried_open hf0'
  have hd' : d0 = .agg [y0.1, y1.1, y2.1, y3.1, y4.1] := hd
  subst hd'
  simp only [Rows.uptoBulkAll, Rows.uptoBulk] at hbulk
  obtain ⟨aL, l, cL, rfl, gl, wl, hL⟩ := pairs_full t0
  obtain ⟨a0, n0, e0, rfl⟩ := binds_shape t1
  obtain ⟨vs0, b0, eb, r0, m0, w0, g0⟩ := binds_full t1
  obtain ⟨aH, hv, cH, rfl, gh, wh, hH⟩ := pairs_full t2
  obtain ⟨m, rfl, wm⟩ := int_open t3
  obtain ⟨r, rfl, _⟩ := int_open t4
  have hbig : ∀ q ∈ b0, q.2.length ≤ 1048576 := fun q hq => Nat.le_trans (mem_bound hq) (by omega)
  have hD : Dat l hv b0 (l.map (·.1) ++ l.map (·.2) ++ b0.flatMap (·.2)) m 0 := by
    refine ⟨wl, wh, fun q hq => (w0 q hq).2, wm, rfl, fun q hq => ?_, fun q hq x hx => ?_, hbig, ?_⟩
    · have m1 : q.1 ∈ l.map (·.1) := List.mem_map.2 ⟨q, hq, rfl⟩
      have m2 : q.2 ∈ l.map (·.2) := List.mem_map.2 ⟨q, hq, rfl⟩
      simp only [List.mem_append]
      exact ⟨.inl (.inl m1), .inl (.inr m2)⟩
    · simp only [List.mem_append]
      exact .inr (List.mem_flatMap.2 ⟨q, hq, hx⟩)
    · simp only [List.length_append, List.length_map]
      omega
  have hwalk := carries_walk W aL l.length cL l a0 n0 e0 vs0 b0 aH hv.length cH hv m r _ rfl (by omega) eb (by omega) rfl (by omega) hL r0 m0 hH hD
  refine hwalk.mono fun e W' ⟨he, bel⟩ => ?_
  subst he
  exact ⟨_, rfl, _, _, _, [], _, [], hW', trodAll_mk1 (shut_bool Tryz.underlying4 _), trodAll_mk1 (Below.trod laidOut (by kernel_rfl) (of_decide_eq_true (by kernel_rfl)) hk0 bel hl0), rfl, bel.frame _, fun h => by cases h⟩

theorem carries_holds : Rows.DistCarriesUptoSaid :=
  OpenClaim.holds_of_cond 6 Tryz.f6 rfl rfl rfl rfl rfl rfl rfl ⟨rfl, rfl, rfl, rfl, rfl⟩ rfl rfl rfl rfl rfl (by kernel_rfl) Tryz.func6 (by kernel_rfl)
    (of_decide_eq_true (by kernel_rfl)) (by unfold Func.isWrapper; first | (rw [if_pos (by decide +kernel)]; kernel_rfl) | (rw [if_neg (by decide +kernel)]; exact ⟨rfl, rfl⟩))
    (fun os started H enc _ F => carries_lifted os started H enc F)
#print axioms carries_holds
end Go.Proofs.YtjaccgkeldabfaaGreat
