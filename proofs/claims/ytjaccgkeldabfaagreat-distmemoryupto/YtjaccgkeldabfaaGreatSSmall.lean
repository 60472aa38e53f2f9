/- What came in is small: how long lists are by their bulk. -/
import Derived.Test.YtjaccgkeldabfaaGreatRows
import Derived.Test.YtjaccgkeldabfaaGreatSIn
namespace Go.Proofs.YtjaccgkeldabfaaGreat.S
open Go.ChangeShapes Go.WideShapes Go.ChangeAt Go.RowKit Go.Deep

theorem bulk_mem {H : Type} : ∀ {l : List (DataW H)} {d : DataW H}, d ∈ l → Rows.uptoBulk d ≤ Rows.uptoBulkAll l
  | x :: r, d, h => by
    simp only [Rows.uptoBulkAll]
    rcases List.mem_cons.1 h with rfl | h
    · omega
    · have := bulk_mem h; omega
  | [], _, h => by simp at h
theorem bulk_pos {H : Type} (x : DataW H) : 1 ≤ Rows.uptoBulk x := by
  cases x with
  | lit l => cases l <;> simp [Rows.uptoBulk]
  | nil => simp [Rows.uptoBulk]
  | ptr d => simp [Rows.uptoBulk]
  | slice elems spare => simp [Rows.uptoBulk]
  | agg parts => simp [Rows.uptoBulk]
  | iface t d => simp [Rows.uptoBulk]
  | map entries => simp [Rows.uptoBulk]
  | held h => simp [Rows.uptoBulk]
theorem bulkAll_len {H : Type} (l : List (DataW H)) : l.length ≤ Rows.uptoBulkAll l := by
  induction l with
  | nil => simp [Rows.uptoBulkAll]
  | cons x r ih =>
    have := bulk_pos x
    simp only [Rows.uptoBulkAll, List.length_cons]; omega
theorem lenD_bulk {H : Type} (d : DataW H) : lenD d ≤ Rows.uptoBulk d := by
  cases d with
  | slice elems spare =>
    have := bulkAll_len elems
    simp only [lenD, Rows.uptoBulk]; omega
  | _ => simp [lenD]
theorem inner_bulk {H : Type} {d : DataW H} {elems spare : List (DataW H)} {d0 d1 : DataW H} (h1 : d = .slice elems spare) (h2 : .agg [d0, d1] ∈ elems) : lenD d1 ≤ Rows.uptoBulk d := by
  subst h1
  have h3 := bulk_mem h2
  have h4 := lenD_bulk d1
  simp only [Rows.uptoBulk, Rows.uptoBulkAll] at h3 ⊢
  omega
/-- Binds that came in, of bulk at most B. -/
theorem binds_small {H : Type} {enc : TypeId × Value → H} {W : World} {fuel : Nat} {v : Value} {x : DataW H × List MemPlace} {B : Nat}
    (h : DataW.trod enc Tryz.prog W 0 (fun _ => true) true fuel 23 [v] = some x) (hB : Rows.uptoBulk x.1 ≤ B) :
    ∃ (a0 : Option Addr) (len cap : Nat), v = .slice a0 len cap ∧ len ≤ B ∧ len ≤ cap ∧ ∃ (vs : List (Int × Value)) (bl : List (Int × List Int)), bl.length = len ∧ RowAt W a0 (rowB vs) ∧ Matches W vs bl ∧ ∀ p ∈ bl, p.2.length ≤ B := by
  have hv : ∃ (a0 : Option Addr) (len cap : Nat), v = .slice a0 len cap := by
    rcases open_slice Tryz.underlying23 h with ⟨hcs, hx⟩ | ⟨a, len', cap', m, n, D, Pl, hcs, _⟩
    · simp at hcs; exact ⟨_, _, _, hcs⟩
    · simp at hcs; exact ⟨_, _, _, hcs⟩
  obtain ⟨a0, len, cap, rfl⟩ := hv
  obtain ⟨hc, vs, bl, e1, hR, hM, hln, hin⟩ := binds_open h
  refine ⟨a0, len, cap, rfl, ?_, hc, vs, bl, e1, hR, hM, fun p hp => ?_⟩
  · have := lenD_bulk x.1
    omega
  · obtain ⟨elems, spare, d0, d1, g1, g2, g3⟩ := hin p hp
    have := inner_bulk g1 g2
    omega
theorem ints_small {H : Type} {enc : TypeId × Value → H} {W : World} {fuel : Nat} {v : Value} {x : DataW H × List MemPlace} {B : Nat}
    (h : DataW.trod enc Tryz.prog W 0 (fun _ => true) true fuel 44 [v] = some x) (hB : Rows.uptoBulk x.1 ≤ B) :
    ∃ (a0 : Option Addr) (l : List Int) (cap : Nat), v = .slice a0 l.length cap ∧ l.length ≤ B ∧ l.length ≤ cap ∧ IntsAt W a0 l := by
  obtain ⟨a0, l, cap, e, hc, hln, hI⟩ := ints_open h
  simp at e
  have := lenD_bulk x.1
  exact ⟨a0, l, cap, e, by omega, hc, hI⟩
theorem arr3 {cs : Array Value} (h : cs.size = 3) : ∃ a b c, cs = #[a, b, c] := by
  obtain ⟨l⟩ := cs
  match l, h with
  | [a, b, c], _ => exact ⟨a, b, c, rfl⟩
end Go.Proofs.YtjaccgkeldabfaaGreat.S
