/- Whether a set has a pair. -/
import Derived.Test.YtjaccgkeldabfaaGreatVars
namespace Go.Proofs.YtjaccgkeldabfaaGreat
open Go.Maps Go.RowKit Go.WideMaps

theorem zero100 (w : World) : (zeroValue 100).run Tryz.prog w = .ok (.agg #[]) w := by kernel_rfl
theorem PSet.look {W : World} {b n : Nat} {f : Pr → Bool} (h : PSet W b n f) (p : Pr) (hp : wfP p) :
    (Instr.lookup 81 (.map (some b)) (encP p) true).run Tryz.prog W = .ok (.tuple #[.agg #[], .bool (f p)]) W := by
  obtain ⟨D, hown, hf⟩ := h
  obtain ⟨v, ps, hrun, hv⟩ := hown.look_ok K24 Tryz.underlying81 (zero100 W) (unitElem_mk (H := Unit)) (keyOf_mk hp)
  obtain ⟨rfl, _⟩ := unitElem_inv hv
  rw [hrun, hf p hp]
theorem PSet.low {W : World} {b n : Nat} {f : Pr → Bool} (h : PSet W b n f) : b < W.heap.size := by
  obtain ⟨D, ho, _⟩ := h
  exact ho.lt
set_option maxHeartbeats 1000000 in
theorem hasS_any (w : World) (b n : Nat) (f : Pr → Bool) (p : Pr) (hp : wfP p) (h : PSet w b n f) :
    Calls Tryz.prog 55 #[.map (some b), encP p] w fun e w' => e = .returned (.bool (f (turnP p))) ∧ Below w.heap.size w w' := by
  obtain ⟨w1, hw1⟩ : ∃ w1, w1 = w.alloc (.cells #[.int .i64 p.1, .int .i64 p.2] 33) := ⟨_, rfl⟩
  have hb1 : Below w.heap.size w w1 := by rw [hw1]; exact below_alloc _ _
  have C : Hid _ := turned_any p w1
  have NEXT : Hid (∀ w2, Below w1.heap.size w1 w2 → (Instr.lookup 81 (.map (some b)) (encP (turnP p)) true).run Tryz.prog w2 = .ok (.tuple #[.agg #[], .bool (f (turnP p))]) w2 ∧ Below w.heap.size w (w2.alloc (.cells #[] 100))) := fun w2 hb2 => by
    have hb : Below w.heap.size w w2 := hb1.trans (hb2.mono hb1.size)
    exact ⟨(h.kept (hb.block b h.low)).look (turnP p) (wf_turn hp), hb.alloc hb.size _⟩
  rw [hw1] at C NEXT
  clear hb1 h hp hw1 w1
  obtain ⟨q, hq⟩ : ∃ q, turnP p = q := ⟨_, rfl⟩
  rw [hq] at C NEXT ⊢
  obtain ⟨x, y⟩ := p
  obtain ⟨qx, qy⟩ := q
  obtain ⟨fb, hfb⟩ : ∃ fb, f (qx, qy) = fb := ⟨_, rfl⟩
  rw [hfb] at NEXT ⊢
  clear hq hfb
  unfold encP at *
  dsimp only at *
  go_enter Tryz.func55, Tryz.ntmps55
  go_wp2_with fail
  refine Calls.mono C.out ?_
  rintro e w2 ⟨rfl, hb2⟩
  obtain ⟨hrun, hbb⟩ := NEXT.out w2 hb2
  have HB : Hid (Below w.heap.size w (w2.alloc (.cells #[] 100))) := hbb
  clear C NEXT hb2 hbb
  go_wp2
  go_ret
  exact ⟨rfl, HB.out⟩
end Go.Proofs.YtjaccgkeldabfaaGreat
