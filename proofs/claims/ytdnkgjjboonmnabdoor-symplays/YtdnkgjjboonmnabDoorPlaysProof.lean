/- For every script the law on any calls of a table (SymPlays) returns true and leaves its argument as it was, where the table of the bytes holds what the program's text lays in it. -/
import Derived.Test.YtdnkgjjboonmnabDoorLaid
import Derived.Test.YtdnkgjjboonmnabDoorPlaysWalk
import Derived.Test.YtdnkgjjboonmnabDoorTie
import Derived.Test.YtdnkgjjboonmnabDoorCards
import Derived.Deep.Strs
import Derived.SizedLaws
import Derived.ChangeArms
import Derived.ChangeSlices
import Derived.SevenTiedAt
import Derived.Deep.DeepHandedRow
import Derived.Carry
namespace Go.Proofs.YtdnkgjjboonmnabDoor.Plays
open Go.ChangeShapes Go.WideShapes Go.ChangeAt Go.RowKit Go.Deep

theorem cells29 : Tryd.prog.cellsOf 29 = 3 := by kernel_rfl
theorem cells9 : Tryd.prog.cellsOf 9 = 1 := by kernel_rfl
theorem cells3 : Tryd.prog.cellsOf 3 = 1 := by kernel_rfl
theorem bytes29 : Tryd.prog.bytesOf 29 = 32 := by kernel_rfl

theorem script_in {H : Type} {enc : TypeId × Value → H} {W : World} {fuel : Nat} {a0 : Option Addr} {len cap : Nat} {x : DataW H × List MemPlace}
    (h : DataW.trod enc Tryd.prog W 0 (fun _ => true) true fuel 22 [.slice a0 len cap] = some x) (hsz : ∀ elems spare, x.1 = .slice elems spare → (elems.length + spare.length) * 32 ≤ reachBytes) :
    len ≤ 4398046510976 ∧ ∃ K S M, R.ScriptIs W a0 len K S M := by
  rcases open_slice Tryd.underlying22 h with ⟨hcs, _⟩ | ⟨a, len', cap', m, n, D, Pl, hcs, _, hl, hm, hmm, hx, hel⟩
  · simp at hcs
    obtain ⟨rfl, rfl, rfl⟩ := hcs
    exact ⟨by omega, fun _ => 0, fun _ => ⟨#[]⟩, fun _ => 0, fun i hi => by omega⟩
  · simp at hcs
    obtain ⟨rfl, rfl, rfl⟩ := hcs
    simp only [if_true] at hmm
    have h2 := hsz _ _ (by rw [hx])
    simp only [List.length_map, List.length_range, reachBytes] at h2
    refine ⟨by omega, ?_⟩
    have key : ∀ i, i < len → ∃ q : Int × ByteArray × Int, W.cell? (a.add (i * 3)) = some (.int .i64 q.1) ∧ W.cell? (a.add (i * 3 + 1)) = some (.string q.2.1) ∧ W.cell? (a.add (i * 3 + 2)) = some (.int .i64 q.2.2) ∧ q.2.1.size ≤ maxLen := by
      intro i hi
      obtain ⟨cs', hc, ht⟩ := hel i (by omega)
      rw [cells29] at hc
      obtain ⟨y0, y1, y2, n2, _, hlen, t0, t1, t2⟩ := trod_struct3 Tryd.underlying29 ht
      obtain ⟨k, e0, _, _⟩ := DataW.trod_int Tryd.underlying3 t0
      obtain ⟨s, e1, _, hs⟩ := DataW.trod_string Tryd.underlying9 t1
      obtain ⟨mm, e2, _, _⟩ := DataW.trod_int Tryd.underlying3 t2
      dsimp only at e0 e1 e2
      rw [cells3] at e0 e2
      rw [cells9] at e1
      rw [cells29] at hlen
      match cs', hlen with
      | [u0, u1, u2], _ =>
        simp at e0 e1 e2
        subst e0 e1 e2
        obtain ⟨_, _, hcell⟩ := World.cells?_some hc
        have h0 := hcell 0 (by omega)
        have h1 := hcell 1 (by omega)
        have h2' := hcell 2 (by omega)
        rw [add_add] at h0 h1 h2'
        exact ⟨(k, s, mm), h0, h1, h2', hs⟩
    obtain ⟨F, hF⟩ := choose_lt key
    refine ⟨fun i => (F i).1, fun i => (F i).2.1, fun i => (F i).2.2, fun i hi => ?_⟩
    obtain ⟨h0, h1, h2', hs⟩ := hF i hi
    obtain ⟨b, off, spot⟩ := a
    have hspot : spot = none := by
      have := World.cell?_spot (hF 0 (by omega)).1
      simpa [Addr.add] using this
    subst hspot
    rw [add_plain] at h0 h1 h2'
    exact ⟨b, off, rfl, h0, by rw [Nat.add_assoc]; exact h1, by rw [Nat.add_assoc]; exact h2', hs⟩

set_option maxRecDepth 100000 in
theorem plays_lifted (os : Os) (started : os.Started) (H : Type) (enc : TypeId × Value → H) :
    ReturnsInHanded {} Tryd.checked os 3 .any (fun w args => (Rows.symPlaysSpec.pre enc Tryd.prog Tryd.f3 [] false w args ∧ laidMetH Tryd.prog laid1 w) ∧ sizedMet enc Tryd.prog Tryd.f3 (OpenSpec.ofChange Rows.symPlaysSpec) false w args)
      (Rows.symPlaysSpec.post enc Tryd.prog Tryd.f3 false true false false) := by
  refine returnsInHanded_of_row (C := Tryd.checked) (s := OpenSpec.ofChange Rows.symPlaysSpec) (F := default) (laid := laid1) (conds := []) own started (by kernel_rfl) Tryd.func3
    (ChangeSpec.witness_shaped (enc := enc) (C := Tryd.checked) (os := os) (s := Rows.symPlaysSpec) (X := fun w _ => laidMetH Tryd.prog laid1 w) false (World.doorLaid Tryd.prog 400 os) #[.slice none 0 0] 8 rfl (World.shaped_of_RefB (by kernel_rfl) (by kernel_rfl)) (by kernel_rfl) (by kernel_rfl) (by kernel_rfl) (door_met os _)) ?_
  intro W base args ds gs before hval0 hW _ _ hsz0 hL hsh _
  have hval : ∀ (j : Nat) t v, Tryd.f3.params[j]? = some t → args[j]? = some v → Value.okWide Tryd.prog W .any base t v := hval0
  have hsz : (DataW.weightsEach Tryd.prog (Tryd.f3.params.toList ++ Rows.symPlaysSpec.plain.varTypes Tryd.prog) (ds ++ gs)).all (· ≤ reachBytes) = true := hsz0
  have hW' := hW
  obtain ⟨p, q, hA0, hV, rfl, hfz, hnd⟩ := hW
  have hA : DataW.TrodAll enc Tryd.prog W 0 (fun _ => true) true Tryd.f3.params.toList args.toList ds p := hA0
  rw [Tryd.params3] at hA hval hsz
  obtain ⟨v0, d0, rfl, rfl, h0⟩ := trodAll_one hA
  obtain ⟨rfl, rfl⟩ := trodVars_none hV
  obtain ⟨wa0, wn0, wc0, rfl⟩ := okWide_slice Tryd.underlying22 (hval 0 22 v0 rfl rfl)
  have hk0 := h0
  obtain ⟨f0, hf0⟩ := h0
  simp only [List.append_nil] at hW'
  have hlt0 : ∀ x ∈ p, x.block < W.heap.size := fun x hx => by simpa using hW'.lt x (by simp [hx])
  have hargs0 : ∀ (W' : World), Below W.heap.size W W' → DataW.Trod enc Tryd.prog W' 0 (fun b => decide (b < W.heap.size)) true 22 (.slice wa0 wn0 wc0) d0 p :=
    fun W' hn => Below.trod laidOut (by kernel_rfl) (of_decide_eq_true (by kernel_rfl)) hk0 hn (fun x hx => hlt0 x hx)
  obtain ⟨hwn0, K0, S0, M0, hS0⟩ := script_in hf0 (fun elems spare e => by
    have := sized_slice hsz (j := 0) (t := 22) (e := 29) rfl (by rw [← e]; rfl) Tryd.underlying22
    rwa [bytes29] at this)
  refine (R.plays_walk W wa0 wn0 wc0 K0 S0 M0 hwn0 hS0 (kb_of_laid hL)).mono fun e W' ⟨he, bel⟩ => ?_
  subst he
  exact ⟨_, rfl, _, _, _, [], _, [], hW', trodAll_mk1 (shut_bool Tryd.underlying4 _), trodAll_mk1 (hargs0 _ bel), rfl, bel.frame _, fun h => by cases h⟩

theorem plays_row : Rows.SymPlaysSaid :=
  OpenClaim.holds_of_wide 3 Tryd.f3 rfl rfl rfl rfl rfl rfl rfl ⟨rfl, rfl, rfl, rfl, rfl⟩ rfl rfl rfl rfl rfl (by kernel_rfl) Tryd.func3 (by kernel_rfl)
    (of_decide_eq_true (by kernel_rfl)) (by unfold Func.isWrapper; first | (rw [if_pos (by decide +kernel)]; kernel_rfl) | (rw [if_neg (by decide +kernel)]; exact ⟨rfl, rfl⟩))
    (fun os started H enc _ => plays_lifted os started H enc)

theorem plays_card : Rows.SymPlaysCardSaid :=
  Claim7.holds_tied_plain_at .later [] _ _ _ _ plays_row (fun _ h => by cases h) (by kernel_rfl) (fun _ h => by cases h) symPlays_row_tie rfl ⟨rfl, rfl⟩ (by kernel_rfl) rfl
    (fun f fn hf hfn => by
      obtain rfl : f = 3 := Option.some.inj ((show Tryd.prog.funcNamed "lemma/lemmalaw02.SymPlays" = some 3 by kernel_rfl).symm.trans hf) |>.symm
      obtain rfl : fn = Tryd.f3 := (Option.some.inj (Tryd.func3.symm.trans hfn)).symm
      exact ⟨by kernel_rfl, fun j t ht => by
        rw [Tryd.params3] at ht
        have hm : t ∈ [22] := by simpa using Array.mem_of_getElem? ht
        have hall : ([22].all fun u => !Tryd.prog.wantsStandIn u) = true := by kernel_rfl
        exact (show Tryd.prog.wantsStandIn t = false by simpa using List.all_eq_true.1 hall t hm)⟩)
    (by kernel_rfl)
end Go.Proofs.YtdnkgjjboonmnabDoor.Plays
namespace Go.Proofs.YtdnkgjjboonmnabDoor
theorem plays_holds : Rows.SymPlaysCardSaid := Plays.plays_card
#print axioms plays_holds
end Go.Proofs.YtdnkgjjboonmnabDoor
