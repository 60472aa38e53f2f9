/- The pairs that are active. -/
import Derived.Test.YtkejjiilcoacfaaGreatFrO
namespace Go.Proofs.YtkejjiilcoacfaaGreat
open Go.Maps Go.RowKit Go.WideMaps

/-- The pairs that are active. -/
def apsC (xs : List ScC) : List Pp := xs.flatMap (·.ps)
def apsA (l : List Sa) : List Pp := l.flatMap (·.ps)
theorem aps_abs (xs : List ScC) : apsC xs = apsA (xs.map absC) := by unfold apsC apsA; rw [List.flatMap_map]; rfl
theorem rowQ_append (l m : List Pp) : rowQ (l ++ m) = rowQ l ++ rowQ m := by unfold rowQ; rw [List.flatMap_append]
theorem rowQ_len (l : List Pp) : (rowQ l).length = l.length * 2 := by
  induction l with
  | nil => rfl
  | cons x l ih =>
    have e : rowQ (x :: l) = [.int .i64 x.1, .int .i64 x.2] ++ rowQ l := rfl
    rw [e, List.length_append, ih, List.length_cons]; simp; omega
theorem rowQ_one (l : List Pp) : ∀ u ∈ rowQ l, u.oneCell' = true := fun u hu => by
  unfold rowQ at hu
  obtain ⟨p, _, hp⟩ := List.mem_flatMap.1 hu
  simp at hp
  rcases hp with rfl | rfl <;> rfl
theorem own_cells {W : World} {base e size n : Nat} {a : Option Addr} {c : Nat} {xs : List Value} (h : W.ownsRow base e size (.slice a n c) n xs) : ∀ (j : Nat) (u : Value), xs[j]? = some u → ∃ ad, a = some ad ∧ W.cell? (ad.add j) = some u := fun j u hu => by
  obtain ⟨a', c', e', _, hcell⟩ := M.own_cell h
  cases e'
  obtain ⟨g, rfl, h0⟩ := hcell j u hu
  exact ⟨_, rfl, by rw [Addr.add_lit, Nat.zero_add]; exact h0⟩
theorem aps_le (xs : List ScC) (j : Nat) : (apsC (xs.take j)).length ≤ (apsC xs).length := by
  unfold apsC
  conv => rhs; rw [← List.take_append_drop j xs, List.flatMap_append, List.length_append]
  omega

set_option maxRecDepth 100000 in
set_option maxHeartbeats 8000000 in
theorem activePairs_any (w : World) (O : Nat → Prop) (P : Nat) (vS : Value) (xs : List ScC) (h : StackAt O w P vS xs) (hn : xs.length ≤ 1048576) (hp : (apsC xs).length ≤ 1048576) :
    Calls Tryz.prog 41 #[.pointer (some ⟨P, 0, none⟩)] w fun e w' => Below w.heap.size w w' ∧ ∃ v, e = .returned v ∧ w'.ownsRow w.heap.size 64 2 v (apsC xs).length (rowQ (apsC xs)) := by
  obtain ⟨iQ, hiQ, iQz, iQs, iQb⟩ := info_parts infoQq
  obtain ⟨a, c, rfl, _⟩ := own_shape h.row
  have x1 := h.cells.2
  obtain ⟨n, hl⟩ : ∃ n, xs.length = n := ⟨_, rfl⟩
  rw [hl] at x1 hn
  have HL : Hid (xs.length = n) := hl
  have HS : Hid (StackAt O w P (.slice a n c) xs) := by have h' := h; rw [hl] at h'; exact h'
  have HP : Hid ((apsC xs).length ≤ 1048576) := hp
  obtain ⟨N, hN⟩ : ∃ N, w.heap.size = N := ⟨_, rfl⟩
  have HN : Hid (w.heap.size = N) := hN
  rw [hN]
  clear h hl hp hN
  go_enter Tryz.func41, Tryz.ntmps41
  go_wp2_with fail
  go_loopw [3, 11] (fun v3 v11 wx => ∃ j k : Nat, j ≤ n ∧ k ≤ 1048576 ∧ v11 = .int .i64 j ∧ Hid ((apsC (xs.take j)).length = k) ∧ Hid (wx.ownsRow N 64 2 v3 k (rowQ (apsC (xs.take j)))) ∧ Hid (Below N w wx)) (fun _ v11 _ => n - (intOf v11).toNat)
  case atStart => exact ⟨0, 0, Nat.zero_le _, Nat.zero_le _, rfl, rfl, World.ownsRow_nil _ _ _ _, Below.refl _ _⟩
  case round =>
    obtain ⟨j, k, hj, hk, rfl, hK, hO, hB⟩ := hrel
    have B0 : Hid (Below w.heap.size w wr) := by show Below _ _ _; rw [HN.out]; exact hB.out
    by_cases hlt : j < n
    · have n1 : (j : Int) < (n : Int) := by omega
      obtain ⟨x, hx⟩ : ∃ x, xs[j]? = some x := ⟨_, List.getElem?_eq_getElem (by rw [HL.out]; exact hlt)⟩
      have hS := HS.out.below B0.out
      have hrow := hS.row
      rw [HL.out] at hrow
      obtain ⟨g, c', e, _, _, _⟩ := M.own_some hrow (by omega)
      cases e
      obtain ⟨y0, y1, y2⟩ := row_sc hrow j x hx
      have hok := hS.each x (List.mem_of_getElem? hx)
      obtain ⟨al, cl, el, _⟩ := own_shape hok.l
      obtain ⟨ap, cp, ep, _⟩ := own_shape hok.p
      rw [el] at y0
      rw [ep] at y2
      have hpo := hok.p
      rw [ep] at hpo
      have htk : apsC (xs.take (j + 1)) = apsC (xs.take j) ++ x.ps := by unfold apsC; rw [List.take_add_one, hx, List.flatMap_append]; simp
      have hle := aps_le xs (j + 1)
      have hpb := HP.out
      obtain ⟨nh, hnh⟩ : ∃ nh, x.hs.length = nh := ⟨_, rfl⟩
      obtain ⟨np, hnp⟩ : ∃ np, x.ps.length = np := ⟨_, rfl⟩
      obtain ⟨mb, hmb⟩ : ∃ mb, x.mb = mb := ⟨_, rfl⟩
      rw [hnh] at y0
      rw [hmb] at y1
      rw [hnp] at y2 hpo
      rw [htk, List.length_append, hK.out, hnp] at hle
      have hkn : k + np ≤ 1048576 := by omega
      have K2 : Hid ((apsC (xs.take (j + 1))).length = k + np) := by show _ = _; rw [htk, List.length_append, hK.out, hnp]
      have HF : Hid (rowQ (apsC (xs.take (j + 1))) = rowQ (apsC (xs.take j)) ++ rowQ x.ps) := by show _ = _; rw [htk, rowQ_append]
      obtain ⟨wa, hwa⟩ : ∃ wa, wa = wr.alloc (.cells #[.slice al nh cl, .map (some mb), .slice ap np cp] 83) := ⟨_, rfl⟩
      have HWA : Hid (wa = wr.alloc (.cells #[.slice al nh cl, .map (some mb), .slice ap np cp] 83)) := hwa
      have ba : Below wr.heap.size wr wa := by rw [hwa]; exact fr_below_alloc _ _
      have ka : wa.heap[wr.heap.size]? = some (.cells #[.slice al nh cl, .map (some mb), .slice ap np cp] 83 (0, 0)) := by rw [hwa]; exact heap_alloc_new wr _
      have z2 : wa.cell? ⟨wr.heap.size, 2, none⟩ = some (.slice ap np cp) := M.cell_whole ka 2
      have PA : Hid (wa.ownsRow 0 64 2 (.slice ap np cp) np (rowQ x.ps)) := M.owns_ch hpo (M.Ch.of_below (X := fun _ => False) ba) fun _ _ e => e
      have OA : Hid (wa.ownsRow N 64 2 u3 k (rowQ (apsC (xs.take j)))) := M.owns_ch hO.out (M.Ch.of_below (X := fun _ => False) ba) fun _ _ e => e
      have BA : Hid (Below N w wa ∧ N ≤ wa.heap.size) := by
        have h1 : Below N w wa := hB.out.trans (ba.mono (by have h1 := hB.out.size; have h2 := HN.out; omega))
        exact ⟨h1, by have h1 := h1.size; have h2 := HN.out; omega⟩
      have HNP : Hid (x.ps.length = np) := hnp
      obtain ⟨Bx, hBx⟩ : ∃ Bx, wr.heap.size = Bx := ⟨_, rfl⟩
      rw [hBx] at z2
      have HBX : Hid (wr.heap.size = Bx) := hBx
      clear hS hrow hok hx ba ka hwa el ep hpo htk hle hO hK hnh hnp hmb hpb hB hBx
      go_upto_region 5 with fail
      rw [← HWA.out, HBX.out]
      clear HWA y0 y1 y2
      go_wp2_with (at_builtin; refine wpList_append_more (w := wa) rfl _ _ 35 rfl N 64 iQ _ 2 16 Tryz.underlying35 hiQ iQz iQs iQb rfl (by decide) _ k (rowQ (apsC (xs.take j))) (by rfl) OA.out ap np cp (rowQ x.ps) (by rfl) (by rw [rowQ_len, HNP.out]) (own_cells PA.out) (rowQ_one _) (by unfold maxLen; omega) (by omega) BA.out.2 ?_; intro a8 c8 w8 ho8 hb8; have O8 : Hid (w8.ownsRow N 64 2 (.slice a8 (k + np) c8) (k + np) (rowQ (apsC (xs.take (j + 1))))) := (by show World.ownsRow _ _ _ _ _ _ _; rw [HF.out]; exact ho8); have B8 : Hid (Below N w w8) := BA.out.1.trans hb8; clear ho8 hb8)
      exact ⟨⟨j + 1, k + np, by omega, by omega, by go_num, K2.out, O8.out, B8.out⟩, by simp [intOf]; omega⟩
    · have n1 : ¬ (j : Int) < (n : Int) := by omega
      have hall : xs.take j = xs := List.take_of_length_le (by rw [HL.out]; omega)
      have HF : Hid (wr.ownsRow N 64 2 u3 (apsC xs).length (rowQ (apsC xs))) := by
        have h := hO.out
        rw [← hK.out, hall] at h
        exact h
      clear hO hK hall
      go_wp2
      go_ret
      exact ⟨hB.out, _, rfl, HF.out⟩
end Go.Proofs.YtkejjiilcoacfaaGreat
