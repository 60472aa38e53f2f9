/- Steps that came in, opened; how long they are by their bulk. -/
import Derived.Test.YtkejjiilcoacfaaGreatRows
import Derived.Test.YtkejjiilcoacfaaGreatNeedsW
import Derived.Deep.Slices
import Derived.SizedLaws
import Derived.ChangeSame
import Derived.ChangeArms
import Derived.ChangeSlices
import Derived.Deep.DeepHandedRow
import Derived.Carry
import Derived.OpenShut
namespace Go.Proofs.YtkejjiilcoacfaaGreat
open Go.ChangeShapes Go.WideShapes Go.ChangeAt Go.RowKit Go.Deep

theorem cells9 : Tryz.prog.cellsOf 9 = 1 := by kernel_rfl
theorem cells32 : Tryz.prog.cellsOf 32 = 1 := by kernel_rfl
theorem cells45 : Tryz.prog.cellsOf 45 = 5 := by kernel_rfl
/-- How long what was read is. -/
def lenD {H : Type} : DataW H → Nat
  | .slice elems _ => elems.length
  | _ => 0
theorem ns_open {H : Type} {enc : TypeId × Value → H} {W : World} {fuel : Nat} {cs : List Value} {x : DataW H × List MemPlace}
    (h : DataW.trod enc Tryz.prog W 0 (fun _ => true) true fuel 32 cs = some x) :
    ∃ (a0 : Option Addr) (l : List Int) (cap : Nat), cs = [.slice a0 l.length cap] ∧ lenD x.1 = l.length ∧ NsAt W a0 l ∧ ∀ n ∈ l, wfN n := by
  rcases open_ints Tryz.underlying32 Tryz.underlying3 cells3 h with ⟨hcs, hx⟩ | ⟨a, len', cap', zs, hcs, _, hl, hm, hz, hx, hcell, hws⟩
  · exact ⟨none, [], 0, hcs, by rw [hx]; rfl, fun i x hi => by simp at hi, by simp⟩
  · simp only [if_true] at hz
    have hlen : (zs.take len').length = len' := by rw [List.length_take]; omega
    refine ⟨some a, zs.take len', cap', by rw [hlen]; exact hcs, by rw [hx]; simp [lenD, lits], fun i x hi => ?_, fun n hn => ?_⟩
    · obtain ⟨b, off, spot⟩ := a
      have hlt : i < len' := by
        have := (List.getElem?_eq_some_iff.1 hi).1
        rw [List.length_take] at this; omega
      have hspot : spot = none := by simpa [Addr.add] using World.cell?_spot (hcell 0 (by omega))
      subst hspot
      have hc := hcell i (by omega)
      rw [add_plain] at hc
      refine ⟨b, off, rfl, ?_⟩
      rw [hc]
      rw [List.getElem?_take, if_pos hlt] at hi
      rw [List.getD, hi]; rfl
    · have h1 := hws n (List.mem_of_mem_take hn)
      exact bounds_i64 h1
theorem five {cs : List Value} (h : cs.length = 5) : ∃ a b c d e, cs = [a, b, c, d, e] := by
  match cs, h with
  | [a, b, c, d, e], _ => exact ⟨a, b, c, d, e, rfl⟩
instance : Inhabited OpC := ⟨⟨⟨0, ⟨#[]⟩, 0, 0, []⟩, none, 0⟩⟩
/-- A step's cells. -/
def opV (x : OpC) : List Value := [.int .i64 x.o.k, .string x.o.lab, .int .i64 x.o.a, .int .i64 x.o.b, .slice x.ea x.o.e.length x.ec]
theorem op_open {H : Type} {enc : TypeId × Value → H} {W : World} {fuel : Nat} {cs : List Value} {y : DataW H × List MemPlace}
    (h : DataW.trod enc Tryz.prog W 0 (fun _ => true) true fuel 45 cs = some y) : ∃ x : OpC, cs = opV x ∧ NsAt W x.ea x.o.e ∧ wfN x.o.a ∧ wfN x.o.b ∧ (∀ v ∈ x.o.e, wfN v) ∧ ∃ d4, y.1 = .agg [.lit (.int .i64 x.o.k), .lit (.string x.o.lab.data.toList), .lit (.int .i64 x.o.a), .lit (.int .i64 x.o.b), d4] ∧ lenD d4 = x.o.e.length := by
  obtain ⟨xs, n, _, hx, hl, hlen, hf⟩ := DataW.trod_struct Tryz.underlying45 h
  rw [cells45] at hl
  obtain ⟨c0, c1, c2, c3, c4, rfl⟩ := five hl
  match xs, hlen with
  | [y0, y1, y2, y3, y4], _ =>
    have h0 : DataW.trod enc Tryz.prog W 0 (fun _ => true) true n 3 (List.take (Tryz.prog.cellsOf 3) (List.drop 0 [c0, c1, c2, c3, c4])) = some y0 := hf 0 _ rfl
    have h1 : DataW.trod enc Tryz.prog W 0 (fun _ => true) true n 9 (List.take (Tryz.prog.cellsOf 9) (List.drop 1 [c0, c1, c2, c3, c4])) = some y1 := hf 1 _ rfl
    have h2 : DataW.trod enc Tryz.prog W 0 (fun _ => true) true n 3 (List.take (Tryz.prog.cellsOf 3) (List.drop 2 [c0, c1, c2, c3, c4])) = some y2 := hf 2 _ rfl
    have h3 : DataW.trod enc Tryz.prog W 0 (fun _ => true) true n 3 (List.take (Tryz.prog.cellsOf 3) (List.drop 3 [c0, c1, c2, c3, c4])) = some y3 := hf 3 _ rfl
    have h4 : DataW.trod enc Tryz.prog W 0 (fun _ => true) true n 32 (List.take (Tryz.prog.cellsOf 32) (List.drop 4 [c0, c1, c2, c3, c4])) = some y4 := hf 4 _ rfl
    rw [cells3] at h0 h2 h3
    rw [cells9] at h1
    rw [cells32] at h4
    obtain ⟨k, e0, r0, w0⟩ := DataW.trod_int Tryz.underlying3 h0
    obtain ⟨s, e1, r1, _⟩ := DataW.trod_string Tryz.underlying9 h1
    obtain ⟨a, e2, r2, w2⟩ := DataW.trod_int Tryz.underlying3 h2
    obtain ⟨b, e3, r3, w3⟩ := DataW.trod_int Tryz.underlying3 h3
    obtain ⟨ea, l, ec, e4, hln, hns, hwf⟩ := ns_open h4
    simp at e0 e1 e2 e3 e4
    subst e0 e1 e2 e3 e4
    refine ⟨⟨⟨k, s, a, b, l⟩, ea, ec⟩, rfl, hns, bounds_i64 w2, bounds_i64 w3, hwf, y4.1, ?_, hln⟩
    rw [hx]
    simp only [List.map_cons, List.map_nil, r0, r1, r2, r3]
theorem bulk_mem {H : Type} : ∀ {l : List (DataW H)} {d : DataW H}, d ∈ l → Rows.uptoBulk d ≤ Rows.uptoBulkAll l
  | x :: r, d, h => by
    simp only [Rows.uptoBulkAll]
    rcases List.mem_cons.1 h with rfl | h
    · omega
    · have := bulk_mem h; omega
  | [], _, h => by simp at h
theorem bulk_pos {H : Type} (x : DataW H) : 1 ≤ Rows.uptoBulk x := by
  cases x with
  | lit l => cases l <;> simp [Rows.uptoBulk]
  | nil => simp [Rows.uptoBulk]
  | ptr d => simp [Rows.uptoBulk]
  | slice elems spare => simp [Rows.uptoBulk]
  | agg parts => simp [Rows.uptoBulk]
  | iface t d => simp [Rows.uptoBulk]
  | map entries => simp [Rows.uptoBulk]
  | held h => simp [Rows.uptoBulk]
theorem bulkAll_len {H : Type} (l : List (DataW H)) : l.length ≤ Rows.uptoBulkAll l := by
  induction l with
  | nil => simp [Rows.uptoBulkAll]
  | cons x r ih =>
    have := bulk_pos x
    simp only [Rows.uptoBulkAll, List.length_cons]; omega
theorem lenD_bulk {H : Type} (d : DataW H) : lenD d ≤ Rows.uptoBulk d := by
  cases d with
  | slice elems spare =>
    have := bulkAll_len elems
    simp only [lenD, Rows.uptoBulk]; omega
  | _ => simp [lenD]
theorem op_bulk {H : Type} (x : OpC) (d4 : DataW H) (h : lenD d4 = x.o.e.length) : x.o.lab.size + x.o.e.length + 4 ≤ Rows.uptoBulk (.agg [.lit (.int .i64 x.o.k), .lit (.string x.o.lab.data.toList), .lit (.int .i64 x.o.a), .lit (.int .i64 x.o.b), d4] : DataW H) := by
  have h1 := lenD_bulk d4
  have e : x.o.lab.data.toList.length = x.o.lab.size := rfl
  simp only [Rows.uptoBulk, Rows.uptoBulkAll]
  omega
theorem bulk_times {H : Type} {l : List (DataW H)} (h : ∀ d ∈ l, 4 ≤ Rows.uptoBulk d) : l.length * 4 ≤ Rows.uptoBulkAll l := by
  induction l with
  | nil => simp
  | cons x r ih =>
    have h1 := h x (by simp)
    have h2 := ih fun d hd => h d (by simp [hd])
    simp only [Rows.uptoBulkAll, List.length_cons]
    omega
set_option maxRecDepth 100000 in
theorem ops_open {H : Type} {enc : TypeId × Value → H} {W : World} {fuel : Nat} {v : Value} {x : DataW H × List MemPlace}
    (h : DataW.trod enc Tryz.prog W 0 (fun _ => true) true fuel 40 [v] = some x) (hB : Rows.uptoBulk x.1 ≤ 1048576) :
    ∃ (a0 : Option Addr) (len cap : Nat) (os : List OpC), v = .slice a0 len cap ∧ os.length = len ∧ OpsAt W a0 os ∧ OpsOk os ∧ len ≤ 262144 := by
  rcases open_slice Tryz.underlying40 h with ⟨hcs, hx⟩ | ⟨a, len', cap', m, n, D, Pl, hcs, _, hl, hm, hmm, hx, hel⟩
  · simp at hcs
    exact ⟨none, 0, 0, [], hcs, rfl, fun i x hi => by simp at hi, ⟨by simp, by simp, by simp⟩, by omega⟩
  · simp at hcs
    simp only [if_true] at hmm
    have key : ∀ i, i < len' → ∃ q : OpC, (∀ (j : Nat) (u : Value), (opV q)[j]? = some u → W.cell? (a.add (i * 5 + j)) = some u) ∧ NsAt W q.ea q.o.e ∧ wfN q.o.a ∧ wfN q.o.b ∧ (∀ v ∈ q.o.e, wfN v) ∧ q.o.lab.size + q.o.e.length + 4 ≤ Rows.uptoBulk (D i) := by
      intro i hi
      obtain ⟨cs', hc, ht⟩ := hel i (by omega)
      rw [cells45] at hc
      obtain ⟨q, e0, h1, h2, h3, h4, d4, h5, h6⟩ := op_open ht
      have h5' : D i = _ := h5
      refine ⟨q, fun j u hu => ?_, h1, h2, h3, h4, by rw [h5']; exact op_bulk q d4 h6⟩
      obtain ⟨hcl, _, hcell⟩ := World.cells?_some hc
      have hj : j < 5 := (List.getElem?_eq_some_iff.1 hu).1
      have h7 := hcell j (by omega)
      rw [add_add] at h7
      rw [h7, e0]
      exact hu
    obtain ⟨F, hF⟩ := choose_lt key
    have hbl : Rows.uptoBulkAll ((List.range len').map D) ≤ 1048576 := by
      rw [hx] at hB
      simp only [Rows.uptoBulk] at hB
      omega
    have hDm : ∀ i, i < len' → D i ∈ (List.range len').map D := fun i hi => List.mem_map.2 ⟨i, List.mem_range.2 hi, rfl⟩
    have hmem : ∀ q ∈ (List.range len').map F, ∃ i, i < len' ∧ F i = q := fun q hq => by
      obtain ⟨i, hi, rfl⟩ := List.mem_map.1 hq
      exact ⟨i, List.mem_range.1 hi, rfl⟩
    have h262 : len' ≤ 262144 := by
      have h1 := bulk_times (l := (List.range len').map D) fun d hd => by
        obtain ⟨i, hi, rfl⟩ := List.mem_map.1 hd
        have := (hF i (List.mem_range.1 hi)).2.2.2.2.2
        omega
      simp at h1
      omega
    refine ⟨some a, len', cap', (List.range len').map F, hcs, by simp, ?_, ⟨?_, ?_, ?_⟩, h262⟩
    · intro i q hi
      rw [List.getElem?_map] at hi
      obtain ⟨j, hj, rfl⟩ := Option.map_eq_some_iff.1 hi
      have hlt := (List.getElem?_eq_some_iff.1 hj).1
      rw [List.length_range] at hlt
      rw [List.getElem?_range hlt] at hj
      cases hj
      obtain ⟨h0, h1, _⟩ := hF i hlt
      obtain ⟨b, off, spot⟩ := a
      have hspot : spot = none := by
        have := World.cell?_spot ((hF 0 (by omega)).1 0 _ rfl)
        simpa [Addr.add] using this
      subst hspot
      have c : ∀ (j : Nat) (u : Value), (opV (F i))[j]? = some u → W.cell? ⟨b, off + (i * 5 + j), none⟩ = some u := fun j u hu => by
        have h2 := h0 j u hu
        rw [add_plain] at h2
        exact h2
      refine ⟨b, off, rfl, ?_, ?_, ?_, ?_, ?_, h1⟩
      · exact c 0 _ rfl
      · rw [Nat.add_assoc]; exact c 1 _ rfl
      · rw [Nat.add_assoc]; exact c 2 _ rfl
      · rw [Nat.add_assoc]; exact c 3 _ rfl
      · rw [Nat.add_assoc]; exact c 4 _ rfl
    · simp
      omega
    · intro q hq
      obtain ⟨i, hi, rfl⟩ := hmem q hq
      obtain ⟨_, _, h2, h3, h4, h5⟩ := hF i hi
      exact ⟨h2, h3, h4, by have := bulk_mem (hDm i hi); omega⟩
    · intro q hq
      obtain ⟨i, hi, rfl⟩ := hmem q hq
      have h5 := (hF i hi).2.2.2.2.2
      have := bulk_mem (hDm i hi)
      omega
end Go.Proofs.YtkejjiilcoacfaaGreat
