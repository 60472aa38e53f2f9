/- still: all lists have their marks. -/
import Derived.Test.YteiaobeklahifaaFill
namespace Go.Proofs.Yteiaobeklahifaa
open Go.RowKit

set_option maxRecDepth 100000 in
set_option maxHeartbeats 8000000 in
theorem still_any (w : World) (av : Option Addr) (k cap : Nat) (vs gs : List Value) (m : Int) (base N b2 : Nat) (hk : vs.length = k) (hg : gs.length = k) (hk2 : k ≤ 8388608) (hbig : ∀ v ∈ vs, lenV v ≤ 17592186043900)
    (hR : w.ownsRow b2 74 3 (.slice av k cap) k (rowT m vs gs)) (hF : Half2 base N m vs gs w) :
    Calls Try.prog 29 #[.slice av k cap] w fun e w' => e = .returned (.bool true) ∧ ∃ d, w' = w.drewN d := by
  have HR : Hid (w.ownsRow b2 74 3 (.slice av k cap) k (rowT m vs gs)) := hR
  have HF : Hid (Half2 base N m vs gs w) := hF
  have HK : Hid (vs.length = k) := hk
  have HG : Hid (gs.length = k) := hg
  have HB : Hid (∀ v ∈ vs, lenV v ≤ 17592186043900) := hbig
  clear hR hF hk hg hbig
  go_enter Try.func29, Try.ntmps29
  go_wp2_with fail
  go_loopw [3, 4] (fun i _ wx => ∃ j d : Nat, j ≤ k ∧ i = .int .i64 j ∧ wx = w.drewN d) (fun i _ _ => k - (intOf i).toNat)
  case atStart => exact ⟨0, 0, Nat.zero_le _, rfl, rfl⟩
  case round =>
    obtain ⟨j, d, hj, rfl, rfl⟩ := hrel
    by_cases hlt : j < k
    · have n1 : (j : Int) < (k : Int) := by omega
      obtain ⟨v, hv⟩ : ∃ v, vs[j]? = some v := ⟨vs[j]'(by rw [HK.out]; exact hlt), List.getElem?_eq_getElem _⟩
      obtain ⟨g, hgg⟩ : ∃ g, gs[j]? = some g := ⟨gs[j]'(by rw [HG.out]; exact hlt), List.getElem?_eq_getElem _⟩
      have hvm := List.mem_of_getElem? hv
      have h1 := (HF.out j v hv).1
      obtain ⟨h2, h3, _⟩ := (HF.out j v hv).2 g hgg
      unfold Full at h1 h3
      obtain ⟨a1, c1, ev, _⟩ := own_shape h1
      obtain ⟨a2, c2, eg, _⟩ := own_shape h3
      have hq := HB.out v hvm
      obtain ⟨q, hqe⟩ : ∃ q, lenV v = q := ⟨_, rfl⟩
      rw [hqe] at ev h1 h2 hq
      rw [h2] at eg h3
      subst ev
      subst eg
      obtain ⟨go, cap', ego, _, _⟩ := HR.out.form (by omega)
      cases ego
      obtain ⟨r0, r1, r2⟩ := rowT_at m vs gs j _ hv
      rw [show gs.getD j (Value.slice none 0 0) = .slice a2 (q + 2) c2 by rw [List.getD_eq_getElem?_getD, hgg]; rfl] at r1
      have d0 : w.cell? ⟨go, j * 3, none⟩ = some (.slice a1 q c1) := row_cells HR.out _ _ r0
      have d1 : w.cell? ⟨go, j * 3 + 1, none⟩ = some (.slice a2 (q + 2) c2) := row_cells HR.out _ _ r1
      have d2 : w.cell? ⟨go, j * 3 + 2, none⟩ = some (.int .i64 (m - (j : Int))) := row_cells HR.out _ _ r2
      have H1 : Hid (w.ownsRow base 3 1 (.slice a1 q c1) q (List.replicate q (intV (m - (j : Int))))) := h1
      have H3 : Hid (w.ownsRow base 3 1 (.slice a2 (q + 2) c2) (q + 2) (List.replicate (q + 2) (intV (m - (j : Int))))) := h3
      clear h1 h3 hv hgg hvm r0 r1 r2 hqe h2
      go_wp2_with fail
      go_loopw [4] (fun i wx => ∃ t d : Nat, t ≤ q + 2 ∧ i = .int .i64 t ∧ wx = w.drewN d) (fun i _ => q + 2 - (intOf i).toNat)
      case atStart => exact ⟨0, d, Nat.zero_le _, rfl, rfl⟩
      case round =>
        obtain ⟨t, d, ht, rfl, rfl⟩ := hrel
        by_cases hlt2 : t < q + 2
        · have n2 : (t : Int) < ((q + 2 : Nat) : Int) := by omega
          obtain ⟨gg, cg, eg2, _, _⟩ := H3.out.form (by omega)
          cases eg2
          have e1 : w.cell? ⟨gg, t, none⟩ = some (.int .i64 (m - (j : Int))) := row_cells H3.out t _ (by rw [List.getElem?_replicate, if_pos hlt2]; rfl)
          by_cases hlt3 : t < q
          · have n3 : (t : Int) < (q : Int) := by omega
            obtain ⟨gv, cv, eg3, _, _⟩ := H1.out.form (by omega)
            cases eg3
            have e2 : w.cell? ⟨gv, t, none⟩ = some (.int .i64 (m - (j : Int))) := row_cells H1.out t _ (by rw [List.getElem?_replicate, if_pos hlt3]; rfl)
            go_wp2_with fail
            go_quiet (fail)
            go_wp2
            exact ⟨⟨t + 1, _, by omega, by go_num, rfl⟩, by simp [intOf]; omega⟩
          · have n3 : decide ((t : Int) < (q : Int)) = false := decide_eq_false (by omega)
            have n4 : (t < q) = False := eq_false hlt3
            go_wp2_with fail
            go_quiet (fail)
            go_wp2
            exact ⟨⟨t + 1, _, by omega, by go_num, rfl⟩, by simp [intOf]; omega⟩
        · have n2 : ¬ (t : Int) < ((q + 2 : Nat) : Int) := by omega
          go_wp2
          exact ⟨⟨j + 1, _, by omega, by go_num, rfl⟩, by simp [intOf]; omega⟩
    · have n1 : ¬ (j : Int) < (k : Int) := by omega
      go_wp2
      go_ret
      exact ⟨rfl, _, rfl⟩
end Go.Proofs.Yteiaobeklahifaa
