/- Laid together: RfG, RfH, RfI, RfJ, RfK, RfL, RfM, RfN. -/
import Derived.Test.YtkejjiilcoacfaaGreatRfQa
namespace Go.Proofs.YtkejjiilcoacfaaGreat
open Go.Maps Go.RowKit Go.WideMaps

def pairR (x y : Int) : Pp := if x < y then (x, y) else (y, x)
set_option maxRecDepth 100000 in
set_option maxHeartbeats 8000000 in
theorem pair_any (w : World) (x y : Int) : Calls Tryz.prog 88 #[.int .i64 x, .int .i64 y] w fun e w' => e = .returned (.agg #[.int .i64 (pairR x y).1, .int .i64 (pairR x y).2]) ∧ Below w.heap.size w w' := by
  obtain ⟨T, hT⟩ : ∃ T, w.heap.size = T := ⟨_, rfl⟩
  have HT : Hid (w.heap.size = T) := hT
  by_cases h : x < y
  · have HP : Hid (pairR x y = (x, y)) := by show _ = _; unfold pairR; rw [if_pos h]
    obtain ⟨w1, hw1⟩ : ∃ w1, w1 = w.alloc (.cells #[.int .i64 x, .int .i64 y] 64) := ⟨_, rfl⟩
    have HW1 : Hid (w1 = w.alloc (.cells #[.int .i64 x, .int .i64 y] 64)) := hw1
    have k1 : w1.heap[T]? = some (.cells #[.int .i64 x, .int .i64 y] 64 (0, 0)) := by rw [hw1, ← hT]; exact heap_alloc_new w _
    have B1 : Hid (Below T w w1) := by rw [hw1, ← hT]; exact fr_below_alloc _ _
    have x0 := M.cell_whole k1 0
    have x1 := M.cell_whole k1 1
    simp only [List.getElem?_toArray, List.getElem?_cons_zero, List.getElem?_cons_succ] at x0 x1
    clear hw1 k1 hT
    go_enter Tryz.func88, Tryz.ntmps88
    go_wp2_with fail
    rw [← HW1.out, HT.out]
    clear HW1
    refine bodyPost_ret (by simp [results, Tryz.results88, go_sem, x0, x1]; try rfl) rfl ?_
    rw [HP.out]
    exact ⟨rfl, B1.out⟩
  · have HP : Hid (pairR x y = (y, x)) := by show _ = _; unfold pairR; rw [if_neg h]
    obtain ⟨w1, hw1⟩ : ∃ w1, w1 = w.alloc (.cells #[.int .i64 y, .int .i64 x] 64) := ⟨_, rfl⟩
    have HW1 : Hid (w1 = w.alloc (.cells #[.int .i64 y, .int .i64 x] 64)) := hw1
    have k1 : w1.heap[T]? = some (.cells #[.int .i64 y, .int .i64 x] 64 (0, 0)) := by rw [hw1, ← hT]; exact heap_alloc_new w _
    have B1 : Hid (Below T w w1) := by rw [hw1, ← hT]; exact fr_below_alloc _ _
    have x0 := M.cell_whole k1 0
    have x1 := M.cell_whole k1 1
    simp only [List.getElem?_toArray, List.getElem?_cons_zero, List.getElem?_cons_succ] at x0 x1
    clear hw1 k1 hT
    go_enter Tryz.func88, Tryz.ntmps88
    go_wp2_with fail
    rw [← HW1.out, HT.out]
    clear HW1
    refine bodyPost_ret (by simp [results, Tryz.results88, go_sem, x0, x1]; try rfl) rfl ?_
    rw [HP.out]
    exact ⟨rfl, B1.out⟩

def inQ (l : List Pp) (p : Pp) : Bool := decide (p ∈ l)
set_option maxRecDepth 100000 in
set_option maxHeartbeats 8000000 in
theorem rhas_any (w : World) (a : Option Addr) (n c : Nat) (l : List Pp) (x y : Int) (hl : l.length = n) (hn : n ≤ 1000000000) (hA : PairsAt w a l) :
    Calls Tryz.prog 89 #[.slice a n c, .agg #[.int .i64 x, .int .i64 y]] w fun e w' => e = .returned (.bool (inQ l (x, y))) ∧ Below w.heap.size w w' := by
  obtain ⟨T, hT⟩ : ∃ T, w.heap.size = T := ⟨_, rfl⟩
  obtain ⟨w1, hw1⟩ : ∃ w1, w1 = w.alloc (.cells #[.int .i64 x, .int .i64 y] 64) := ⟨_, rfl⟩
  have HW1 : Hid (w1 = w.alloc (.cells #[.int .i64 x, .int .i64 y] 64) ∧ w.heap.size = T) := ⟨hw1, hT⟩
  have b1 : Below w.heap.size w w1 := by rw [hw1]; exact fr_below_alloc _ _
  have B1 : Hid (Below w.heap.size w w1) := b1
  have K1 : Hid (w1.heap[T]? = some (.cells #[.int .i64 x, .int .i64 y] 64 (0, 0))) := by rw [hw1, ← hT]; exact heap_alloc_new w _
  have HA : Hid (PairsAt w1 a l) := hA.under b1
  have HL : Hid (l.length = n) := hl
  clear hA hl hw1 hT b1
  go_enter Tryz.func89, Tryz.ntmps89
  go_upto_region 1 with fail
  rw [← HW1.out.1, HW1.out.2]
  clear HW1
  go_wp2_with fail
  go_loopw [5] (fun v5 wx => ∃ j : Nat, j ≤ n ∧ v5 = .int .i64 j ∧ Hid (inQ (l.take j) (x, y) = false) ∧ Hid (Below w1.heap.size w1 wx)) (fun v5 _ => n - (intOf v5).toNat)
  case atStart => exact ⟨0, Nat.zero_le _, rfl, rfl, Below.refl _ _⟩
  case round =>
    obtain ⟨j, hj, rfl, hI, hB⟩ := hrel
    by_cases hlt : j < n
    · have n1 : (j : Int) < (n : Int) := by omega
      obtain ⟨⟨px, py⟩, hx⟩ : ∃ p, l[j]? = some p := ⟨_, List.getElem?_eq_getElem (by rw [HL.out]; exact hlt)⟩
      obtain ⟨ga, oa, ea, ca, da⟩ := (HA.out.under hB.out) j _ hx
      subst ea
      have HX : Hid (l[j]? = some (px, py)) := hx
      have kx := (hB.out.block T (Array.getElem?_eq_some_iff.1 K1.out).1).trans K1.out
      have x0 := M.cell_whole kx 0
      have x1 := M.cell_whole kx 1
      simp only [List.getElem?_toArray, List.getElem?_cons_zero, List.getElem?_cons_succ] at x0 x1
      dsimp only at ca da
      clear hx kx
      by_cases hpx : px = x
      · subst hpx
        by_cases hpy : py = y
        · subst hpy
          have HR : Hid (inQ l (px, py) = true) := decide_eq_true (List.mem_of_getElem? HX.out)
          clear hI
          go_upto_region 4 with fail
          go_quiet (fail)
          go_wp2
          go_ret
          rw [HR.out]
          exact ⟨rfl, B1.out.trans ((fr_below_drewN hB.out _).mono B1.out.size)⟩
        · have hpy2 : (py == y) = false := by simpa using hpy
          have HI2 : Hid (inQ (l.take (j + 1)) (px, y) = false) := by
            have h := hI.out
            show _ = _
            unfold inQ at h ⊢
            rw [decide_eq_false_iff_not] at h ⊢
            rw [List.take_add_one, HX.out]
            intro h2
            rcases List.mem_append.1 h2 with h3 | h3
            · exact h h3
            · simp at h3; exact hpy h3.symm
          clear hI
          go_upto_region 4 with fail
          go_quiet (fail)
          go_wp2
          exact ⟨⟨j + 1, by omega, by go_num, HI2.out, fr_below_drewN hB.out _⟩, by simp [intOf]; omega⟩
      · have hpx2 : (px == x) = false := by simpa using hpx
        have HI2 : Hid (inQ (l.take (j + 1)) (x, y) = false) := by
          have h := hI.out
          show _ = _
          unfold inQ at h ⊢
          rw [decide_eq_false_iff_not] at h ⊢
          rw [List.take_add_one, HX.out]
          intro h2
          rcases List.mem_append.1 h2 with h3 | h3
          · exact h h3
          · simp at h3; exact hpx h3.1.symm
        clear hI
        go_upto_region 4 with fail
        go_quiet (fail)
        go_wp2
        exact ⟨⟨j + 1, by omega, by go_num, HI2.out, fr_below_drewN hB.out _⟩, by simp [intOf]; omega⟩
    · have n1 : ¬ (j : Int) < (n : Int) := by omega
      have HR : Hid (inQ l (x, y) = false) := by have h := hI.out; rw [List.take_of_length_le (by rw [HL.out]; omega)] at h; exact h
      clear hI
      go_wp2
      go_ret
      rw [HR.out]
      exact ⟨rfl, B1.out.trans (hB.out.mono B1.out.size)⟩
end Go.Proofs.YtkejjiilcoacfaaGreat

namespace Go.Proofs.YtkejjiilcoacfaaGreat
open Go.Maps Go.RowKit Go.WideMaps

def lt2 (q p : Pp) : Bool := decide (q.1 < p.1) || (decide (q.1 = p.1) && decide (q.2 < p.2))
def goF (l : List Pp) (j : Nat) (p : Pp) : Bool := match l[j]? with | some q => lt2 q p | none => false
theorem lt2_iff (q p : Pp) : lt2 q p = true ↔ ltP q p := by simp [lt2, ltP]
theorem rQ_snoc (l : List Pp) (p : Pp) : rowQ (l ++ [p]) = rowQ l ++ [.int .i64 p.1, .int .i64 p.2] := by unfold rowQ; rw [List.flatMap_append]; rfl
theorem rQ_app (l m : List Pp) : rowQ (l ++ m) = rowQ l ++ rowQ m := by unfold rowQ; rw [List.flatMap_append]
theorem rQ_len : ∀ l : List Pp, (rowQ l).length = l.length * 2
  | [] => rfl
  | x :: l => by
    have e : rowQ (x :: l) = [.int .i64 x.1, .int .i64 x.2] ++ rowQ l := rfl
    rw [e, List.length_append, rQ_len l, List.length_cons]
    simp; omega
theorem rQ_one (l : List Pp) : ∀ u ∈ rowQ l, u.oneCell' = true := fun u hu => by
  unfold rowQ at hu
  obtain ⟨x, _, hu⟩ := List.mem_flatMap.1 hu
  simp only [List.mem_cons, List.not_mem_nil, or_false] at hu
  rcases hu with rfl | rfl <;> rfl
theorem rQ_at : ∀ (l : List Pp) (j : Nat) (u : Value), (rowQ l)[j]? = some u → ∃ q p, l[q]? = some p ∧ ((j = q * 2 ∧ u = .int .i64 p.1) ∨ (j = q * 2 + 1 ∧ u = .int .i64 p.2))
  | [], j, u, h => by simp [rowQ] at h
  | x :: l, 0, u, h => ⟨0, x, rfl, .inl ⟨rfl, by simpa [rowQ] using h.symm⟩⟩
  | x :: l, 1, u, h => ⟨0, x, rfl, .inr ⟨rfl, by simpa [rowQ] using h.symm⟩⟩
  | x :: l, j + 2, u, h => by
    have e : rowQ (x :: l) = [.int .i64 x.1, .int .i64 x.2] ++ rowQ l := rfl
    rw [e, List.getElem?_append_right (by simp)] at h
    obtain ⟨q, p, h1, h2⟩ := rQ_at l j u (by simpa using h)
    exact ⟨q + 1, p, by simpa using h1, by rcases h2 with ⟨rfl, h2⟩ | ⟨rfl, h2⟩; exact .inl ⟨by omega, h2⟩; exact .inr ⟨by omega, h2⟩⟩
theorem pairs_news {w : World} {a : Option Addr} {l : List Pp} (h : PairsAt w a l) (j : Nat) : ∀ i u, (rowQ (l.drop j))[i]? = some u → ∃ ad, Option.map (fun x => Addr.add x (j * 2)) a = some ad ∧ w.cell? (ad.add i) = some u := fun i u hu => by
  obtain ⟨q, p, h1, h2⟩ := rQ_at _ _ _ hu
  rw [List.getElem?_drop] at h1
  obtain ⟨b', off', e, c1, c2⟩ := h _ _ h1
  subst e
  refine ⟨_, rfl, ?_⟩
  dsimp only
  rw [Addr.add_lit, Addr.add_lit]
  rcases h2 with ⟨rfl, rfl⟩ | ⟨rfl, rfl⟩
  · rw [show off' + j * 2 + q * 2 = off' + (j + q) * 2 by omega]; exact c1
  · rw [show off' + j * 2 + (q * 2 + 1) = off' + (j + q) * 2 + 1 by omega]; exact c2
def PutPost (w : World) (n : Nat) (l : List Pp) (p : Pp) (e : Ending) (w' : World) : Prop := ∃ (a' : Option Addr) (c' j : Nat), e = .returned (.slice a' (n + 1) c') ∧ j ≤ n ∧ (∀ q ∈ l.take j, ltP q p) ∧ (∀ q, l[j]? = some q → ¬ ltP q p) ∧ w'.ownsRow w.heap.size 64 2 (.slice a' (n + 1) c') (n + 1) (rowQ (l.take j ++ p :: l.drop j)) ∧ Below w.heap.size w w'
set_option maxRecDepth 100000 in
set_option maxHeartbeats 16000000 in
theorem rput_any (w : World) (a : Option Addr) (n c : Nat) (l : List Pp) (x y : Int) (hl : l.length = n) (hn : n ≤ 1000000000) (hA : PairsAt w a l) (hc : n ≤ c) :
    Calls Tryz.prog 92 #[.slice a n c, .agg #[.int .i64 x, .int .i64 y]] w (PutPost w n l (x, y)) := by
  obtain ⟨iM, hiM, iMz, iMs, iMb⟩ := info_parts infoQq
  obtain ⟨T, hT⟩ : ∃ T, w.heap.size = T := ⟨_, rfl⟩
  obtain ⟨w1, hw1⟩ : ∃ w1, w1 = w.alloc (.cells #[.int .i64 x, .int .i64 y] 64) := ⟨_, rfl⟩
  have HW1 : Hid (w1 = w.alloc (.cells #[.int .i64 x, .int .i64 y] 64) ∧ w.heap.size = T) := ⟨hw1, hT⟩
  have b1 : Below T w w1 := by rw [hw1, ← hT]; exact fr_below_alloc _ _
  have B1 : Hid (Below T w w1) := b1
  have s1 : w1.heap.size = T + 1 := by rw [hw1, al_size, hT]
  have K1 : Hid (w1.heap[T]? = some (.cells #[.int .i64 x, .int .i64 y] 64 (0, 0)) ∧ w1.heap.size = T + 1) := ⟨by rw [hw1, ← hT]; exact heap_alloc_new w _, s1⟩
  have HA : Hid (PairsAt w1 a l) := hA.under (by rw [hT]; exact b1)
  have HL : Hid (l.length = n) := hl
  clear hA hl hw1 hT b1 s1
  have hc' : (n : Int) ≤ (c : Int) := by omega
  go_enter Tryz.func92, Tryz.ntmps92
  go_upto_region 1 with fail
  rw [← HW1.out.1, HW1.out.2]
  go_wp2_with fail
  go_loopw [5, 6] (fun v5 v6 wx => ∃ (j : Nat) (a5 : Option Addr) (c5 : Nat), j ≤ n ∧ v5 = .slice a5 j c5 ∧ v6 = .int .i64 j ∧ Hid ((∀ q ∈ l.take j, ltP q (x, y)) ∧ wx.ownsRow (T + 1) 64 2 (.slice a5 j c5) j (rowQ (l.take j)) ∧ Below w1.heap.size w1 wx)) (fun _ v6 _ => n - (intOf v6).toNat)
  case atStart => exact ⟨0, none, 0, Nat.zero_le _, rfl, rfl, by simp, World.ownsRow_nil _ _ _ _, Below.refl _ _⟩
  case round =>
    obtain ⟨j, a5, c5, hj, rfl, rfl, hI⟩ := hrel
    have HI : Hid ((∀ q ∈ l.take j, ltP q (x, y)) ∧ wr.ownsRow (T + 1) 64 2 (.slice a5 j c5) j (rowQ (l.take j)) ∧ Below w1.heap.size w1 wr) := hI
    have kx := (hI.out.2.2.block T (Array.getElem?_eq_some_iff.1 K1.out.1).1).trans K1.out.1
    have KX : Hid (wr.heap[T]? = some (.cells #[.int .i64 x, .int .i64 y] 64 (0, 0))) := kx
    have x0 := M.cell_whole kx 0
    have x1 := M.cell_whole kx 1
    simp only [List.getElem?_toArray, List.getElem?_cons_zero, List.getElem?_cons_succ] at x0 x1
    clear hI kx
    have LT : Hid (j < n → ∃ px py b off, l[j]? = some (px, py) ∧ a = some ⟨b, off, none⟩ ∧ wr.cell? ⟨b, off + j * 2, none⟩ = some (.int .i64 px) ∧ wr.cell? ⟨b, off + j * 2 + 1, none⟩ = some (.int .i64 py)) := fun hlt => by
      obtain ⟨⟨px, py⟩, hx⟩ : ∃ p, l[j]? = some p := ⟨_, List.getElem?_eq_getElem (by rw [HL.out]; exact hlt)⟩
      obtain ⟨b, off, e, c1, c2⟩ := (HA.out.under HI.out.2.2) j _ hx
      exact ⟨px, py, b, off, hx, e, c1, c2⟩
    obtain ⟨GO, hGO⟩ : ∃ GO, goF l j (x, y) = GO := ⟨_, rfl⟩
    have HGO : Hid (goF l j (x, y) = GO) := hGO
    clear hGO
    go_upto_region 3 with fail
    go_cut [40] (fun v40 wx => v40 = .bool GO ∧ Hid (∃ k, wx = wr.drewN k))
    case first =>
      by_cases hlt : j < n
      · have n1 : (j : Int) < (n : Int) := by omega
        obtain ⟨px, py, b, off, hx, e, c1, c2⟩ := LT.out hlt
        subst e
        have HG2 : Hid (lt2 (px, py) (x, y) = GO) := by rw [← HGO.out]; show _ = _; unfold goF; rw [hx]
        clear hx
        by_cases h1 : px < x
        · have HV : Hid (GO = true) := by show _ = _; rw [← HG2.out]; simp [lt2, h1]
          go_quiet (fail)
          go_wp2_with fail
          go_meet
          exact ⟨by rw [HV.out], _, rfl⟩
        · by_cases h2 : px = x
          · subst h2
            by_cases h3 : py < y
            · have HV : Hid (GO = true) := by show _ = _; rw [← HG2.out]; simp [lt2, h3]
              go_quiet (fail)
              go_wp2_with fail
              go_meet
              exact ⟨by rw [HV.out], _, rfl⟩
            · have HV : Hid (GO = false) := by show _ = _; rw [← HG2.out]; simp [lt2]; omega
              go_quiet (fail)
              go_wp2_with fail
              go_meet
              exact ⟨by rw [HV.out], _, rfl⟩
          · have h2b : (px == x) = false := by simpa using h2
            have HV : Hid (GO = false) := by show _ = _; rw [← HG2.out]; simp [lt2, h2]; omega
            go_quiet (fail)
            go_wp2_with fail
            go_meet
            exact ⟨by rw [HV.out], _, rfl⟩
      · have n1 : ¬ (j : Int) < (n : Int) := by omega
        have HV : Hid (GO = false) := by show _ = _; rw [← HGO.out]; unfold goF; rw [List.getElem?_eq_none (by rw [HL.out]; omega)]
        go_quiet (fail)
        go_wp2_with fail
        go_meet
        exact ⟨by rw [HV.out], _, rfl⟩
    case rest =>
      obtain ⟨rfl, hk⟩ := hcut
      obtain ⟨k, hk⟩ := hk.out
      have BC : Hid (Below w1.heap.size w1 wc) := by show Below _ _ _; rw [hk]; exact fr_below_drewN HI.out.2.2 k
      have OC : Hid (wc.ownsRow (T + 1) 64 2 (.slice a5 j c5) j (rowQ (l.take j))) := by show World.ownsRow _ _ _ _ _ _ _; rw [hk]; exact HI.out.2.1
      have PC : Hid (∀ q ∈ l.take j, ltP q (x, y)) := HI.out.1
      have KC : Hid (wc.heap[T]? = some (.cells #[.int .i64 x, .int .i64 y] 64 (0, 0))) := by show _ = _; rw [hk]; exact KX.out
      have C0 : Hid (∀ b off, wr.cell? ⟨b, off, none⟩ = wc.cell? ⟨b, off, none⟩) := fun b off => by rw [hk]; rfl
      clear hk HI KX x0 x1
      cases GO with
      | true =>
        have hlt : j < n := Nat.lt_of_not_le fun h => by
          have h2 := HGO.out
          unfold goF at h2
          rw [List.getElem?_eq_none (by rw [HL.out]; omega)] at h2
          cases h2
        have n1 : (j : Int) < (n : Int) := by omega
        obtain ⟨px, py, b, off, hx, e, c1, c2⟩ := LT.out hlt
        rw [C0.out] at c1 c2
        subst e
        have kA := heap_alloc_new wc (.cells #[.int .i64 px, .int .i64 py] 64)
        have bA : Below wc.heap.size wc (wc.alloc (.cells #[.int .i64 px, .int .i64 py] 64)) := fr_below_alloc _ _
        have sb := BC.out.size
        obtain ⟨a6, c6, w6, hr6, ho6, hc6, _⟩ := run_append_ch (P := Tryz.prog) (w := wc.alloc (.cells #[.int .i64 px, .int .i64 py] 64)) 35 35 (T + 1) 64 iM _ 2 16 Tryz.underlying35 hiM iMz iMs iMb rfl (by decide) (.slice a5 j c5) j (rowQ (l.take j)) (M.owns_alloc OC.out _) (some ⟨wc.heap.size, 0, none⟩) 1 1 (rowQ [(px, py)]) rfl (fun j' u hu => ⟨_, rfl, World.news_of_block (cs := #[.int .i64 px, .int .i64 py]) (t := 64) (fr := (0, 0)) kA j' u hu⟩) (rQ_one _) (by unfold maxLen; omega) (by omega) (by have := K1.out.2; have := bA.size; omega)
        have R6 : Hid _ := hr6
        have H6 : Hid ((∀ q ∈ l.take (j + 1), ltP q (x, y)) ∧ w6.ownsRow (T + 1) 64 2 (.slice a6 (j + 1) c6) (j + 1) (rowQ (l.take (j + 1))) ∧ Below w1.heap.size w1 w6) := by
          refine ⟨fun q hq => ?_, ?_, (BC.out.trans (bA.mono sb)).trans (hc6.below (by have := bA.size; omega) fun g e => by have := M.own_ge' OC.out g e; have := K1.out.2; omega)⟩
          · rw [List.take_add_one, hx] at hq
            rcases List.mem_append.1 hq with h3 | h3
            · exact PC.out q h3
            · have e : q = (px, py) := by simpa using h3
              subst e
              have h4 := HGO.out
              unfold goF at h4
              rw [hx] at h4
              exact (lt2_iff _ _).1 h4
          · rw [List.take_add_one, hx]; exact (by rw [rQ_app]; exact ho6)
        clear hr6 ho6 hc6 kA bA hx
        go_upto_region 5 with (at_builtin; refine M.wpList_append_run rfl _ _ 35 rfl _ _ _ _ (by rfl) (by rfl) R6.out ?_)
        go_wp2
        exact ⟨⟨j + 1, a6, c6, by omega, rfl, by go_num, H6.out⟩, by simp [intOf]; omega⟩
      | false =>
        have kx := KC.out
        have x0 := M.cell_whole kx 0
        have x1 := M.cell_whole kx 1
        simp only [List.getElem?_toArray, List.getElem?_cons_zero, List.getElem?_cons_succ] at x0 x1
        have hns : ∀ q, l[j]? = some q → ¬ ltP q (x, y) := fun q hq h => by
          have h2 := HGO.out
          unfold goF at h2
          rw [hq] at h2
          have h3 : lt2 q (x, y) = false := h2
          rw [(lt2_iff _ _).2 h] at h3
          cases h3
        have HNS : Hid (∀ q, l[j]? = some q → ¬ ltP q (x, y)) := hns
        have kA := heap_alloc_new wc (.cells #[.int .i64 x, .int .i64 y] 64)
        have bA : Below wc.heap.size wc (wc.alloc (.cells #[.int .i64 x, .int .i64 y] 64)) := fr_below_alloc _ _
        have sb := BC.out.size
        obtain ⟨a6, c6, w6, hr6, ho6, hc6, _⟩ := run_append_ch (P := Tryz.prog) (w := wc.alloc (.cells #[.int .i64 x, .int .i64 y] 64)) 35 35 (T + 1) 64 iM _ 2 16 Tryz.underlying35 hiM iMz iMs iMb rfl (by decide) (.slice a5 j c5) j (rowQ (l.take j)) (M.owns_alloc OC.out _) (some ⟨wc.heap.size, 0, none⟩) 1 1 (rowQ [(x, y)]) rfl (fun j' u hu => ⟨_, rfl, World.news_of_block (cs := #[.int .i64 x, .int .i64 y]) (t := 64) (fr := (0, 0)) kA j' u hu⟩) (rQ_one _) (by unfold maxLen; omega) (by omega) (by have := K1.out.2; have := bA.size; omega)
        have b6 : Below w1.heap.size w1 w6 := (BC.out.trans (bA.mono sb)).trans (hc6.below (by have := bA.size; omega) fun g e => by have := M.own_ge' OC.out g e; have := K1.out.2; omega)
        rw [← rQ_app] at ho6
        have APP : ∀ (x0 : Option Addr) (cc : Nat), (∀ i u, (rowQ (l.drop j))[i]? = some u → ∃ ad, x0 = some ad ∧ w6.cell? (ad.add i) = some u) → ∃ a7 c7 w7, (Builtin.append_ #[35, 35] 35 #[.slice a6 (j + 1) c6, .slice x0 (n - j) cc]).run Tryz.prog w6 = .ok (.slice a7 (n + 1) c7) w7 ∧ PutPost w n l (x, y) (.returned (.slice a7 (n + 1) c7)) w7 := fun x0 cc hx0 => by
          obtain ⟨a7, c7, w7, hr7, ho7, hc7, _⟩ := run_append_ch (P := Tryz.prog) (w := w6) 35 35 (T + 1) 64 iM _ 2 16 Tryz.underlying35 hiM iMz iMs iMb rfl (by decide) (.slice a6 (j + 1) c6) (j + 1) (rowQ (l.take j ++ [(x, y)])) ho6 x0 (n - j) cc (rowQ (l.drop j)) (by rw [rQ_len, List.length_drop, HL.out]) hx0 (rQ_one _) (by unfold maxLen; omega) (by omega) (by have := K1.out.2; have := b6.size; omega)
          rw [show j + 1 + (n - j) = n + 1 by omega] at hr7 ho7
          rw [← rQ_app, List.append_assoc, List.singleton_append] at ho7
          refine ⟨a7, c7, w7, hr7, a7, c7, j, rfl, hj, PC.out, HNS.out, M.owns_mono ho7 (by have := HW1.out.2; omega), ?_⟩
          have hb7 : Below T w w7 := B1.out.trans ((b6.mono (by have := K1.out.2; omega)).trans (hc7.below (by have := K1.out.2; have := b6.size; omega) fun g e => by have := M.own_ge' ho6 g e; omega))
          have := HW1.out.2
          subst this
          exact hb7
        have R6 : Hid _ := hr6
        have A6 : Hid (PairsAt w6 a l) := HA.out.under b6
        have APH : Hid _ := APP
        clear hr6 ho6 hc6 kA bA hns kx APP b6 sb
        have hjn : (j : Int) ≤ (n : Int) := by omega
        go_upto_region 7 with (at_builtin; refine M.wpList_append_run rfl _ _ 35 rfl _ _ _ _ (by rfl) (by rfl) R6.out ?_)
        by_cases hcj : c = j
        · have hjn2 : j = n := by omega
          subst hjn2
          subst hcj
          obtain ⟨a7, c7, w7, hr7, hp7⟩ := APH.out a 0 (fun i u hu => by rw [List.drop_of_length_le (by rw [HL.out]; exact Nat.le_refl _)] at hu; simp [rowQ] at hu)
          rw [Nat.sub_self] at hr7
          have R7 : Hid _ := hr7
          have P7 : Hid (PutPost w c l (x, y) (.returned (.slice a7 (c + 1) c7)) w7) := hp7
          clear hr7 hp7 APH
          go_wp2_with (at_builtin; refine M.wpList_append_run rfl _ _ 35 rfl _ _ _ _ (by rfl) (by rfl) R7.out ?_)
          go_ret
          exact P7.out
        · have hcj2 : ¬ (c : Int) = (j : Int) := by omega
          obtain ⟨a7, c7, w7, hr7, hp7⟩ := APH.out _ (c - j) (pairs_news A6.out j)
          have R7 : Hid _ := hr7
          have P7 : Hid (PutPost w n l (x, y) (.returned (.slice a7 (n + 1) c7)) w7) := hp7
          clear hr7 hp7 APH
          go_wp2_with (at_builtin; refine M.wpList_append_run rfl _ _ 35 rfl _ _ _ _ (by rfl) (by rfl) R7.out ?_)
          go_ret
          exact P7.out
end Go.Proofs.YtkejjiilcoacfaaGreat

namespace Go.Proofs.YtkejjiilcoacfaaGreat
open Go.Maps Go.RowKit Go.WideMaps

theorem put_up {l : List Pp} {p : Pp} {j : Nat} (hu : Up l) (h1 : ∀ q ∈ l.take j, ltP q p) (h2 : ∀ q, l[j]? = some q → ¬ ltP q p) (hp : p ∉ l) : Up (l.take j ++ p :: l.drop j) := by
  have hd : ∀ q ∈ l.drop j, ltP p q := fun q hq => by
    cases hj : l[j]? with
    | none => rw [List.drop_of_length_le (List.getElem?_eq_none_iff.1 hj)] at hq; cases hq
    | some z =>
      have hz := h2 z hj
      have hzm : z ∈ l := List.mem_of_getElem? hj
      have h3 : ltP p z := by
        rcases ltP_total (p := p) (q := z) (fun e => hp (by rw [e]; exact hzm)) with h | h
        · exact h
        · exact absurd h hz
      obtain ⟨hlt, e⟩ := List.getElem?_eq_some_iff.1 hj
      rw [List.drop_eq_getElem_cons hlt, e] at hq
      rcases List.mem_cons.1 hq with h4 | h4
      · rw [h4]; exact h3
      · have h5 : (l.drop j).Pairwise ltP := hu.sublist (List.drop_sublist _ _)
        rw [List.drop_eq_getElem_cons hlt, e] at h5
        exact ltP_trans h3 ((List.pairwise_cons.1 h5).1 q h4)
  refine List.pairwise_append.2 ⟨hu.sublist (List.take_sublist _ _), List.pairwise_cons.2 ⟨hd, hu.sublist (List.drop_sublist _ _)⟩, fun a ha b hb => ?_⟩
  rcases List.mem_cons.1 hb with h4 | h4
  · rw [h4]; exact h1 a ha
  · exact ltP_trans (h1 a ha) (hd b h4)
theorem put_mem {l : List Pp} {p q : Pp} (j : Nat) : q ∈ l.take j ++ p :: l.drop j ↔ q ∈ l ∨ q = p := by
  have h := List.take_append_drop j l
  constructor
  · intro h1
    rcases List.mem_append.1 h1 with h2 | h2
    · exact .inl (List.mem_of_mem_take h2)
    · rcases List.mem_cons.1 h2 with h3 | h3
      · exact .inr h3
      · exact .inl (List.mem_of_mem_drop h3)
  · rintro (h1 | h1)
    · rw [← h] at h1
      rcases List.mem_append.1 h1 with h2 | h2
      · exact List.mem_append.2 (.inl h2)
      · exact List.mem_append.2 (.inr (List.mem_cons_of_mem _ h2))
    · rw [h1]; exact List.mem_append.2 (.inr List.mem_cons_self)
def apR (xs : List Sd) : List Pp := (xs.filter (·.pd)).map (·.p)
theorem apR_in {xs : List Sd} {j : Nat} {x : Sd} (hx : xs[j]? = some x) (h : x.pd = true) : apR (xs.take (j + 1)) = apR (xs.take j) ++ [x.p] := by
  unfold apR
  rw [List.take_add_one, hx, List.filter_append, List.map_append]
  simp [h]
theorem apR_out {xs : List Sd} {j : Nat} {x : Sd} (hx : xs[j]? = some x) (h : x.pd = false) : apR (xs.take (j + 1)) = apR (xs.take j) := by
  unfold apR
  rw [List.take_add_one, hx, List.filter_append, List.map_append]
  simp [h]
/-- In order, each once, just those of a list. -/
structure Sorted2 (l m : List Pp) : Prop where
  up : Up m
  mem : ∀ p, p ∈ m ↔ p ∈ l
theorem Sorted2.len {l m : List Pp} (h : Sorted2 l m) : m.length ≤ l.length := nodup_le (up_nodup h.up) fun x hx => (h.mem x).1 hx
def PairsPost (w : World) (xs : List Sd) (e : Ending) (w' : World) : Prop := ∃ (a' : Option Addr) (m c' : Nat) (out : List Pp), e = .returned (.slice a' m c') ∧ out.length = m ∧ m ≤ c' ∧ Sorted2 (apR xs) out ∧ w'.ownsRow w.heap.size 64 2 (.slice a' m c') m (rowQ out) ∧ Below w.heap.size w w'
set_option maxRecDepth 100000 in
set_option maxHeartbeats 16000000 in
theorem rpairs_any (w : World) (O : Nat → Prop) (P : Nat) (xs : List Sd) (D : Nat) (h : RfO O w P xs D) (hn : xs.length ≤ 1000000000) :
    Calls Tryz.prog 70 #[.pointer (some ⟨P, 0, none⟩)] w (PairsPost w xs) := by
  obtain ⟨vL, h⟩ := h
  obtain ⟨a, c, rfl, _⟩ := own_shape h.row
  obtain ⟨n, hl⟩ : ∃ n, xs.length = n := ⟨_, rfl⟩
  rw [hl] at hn h
  have HL : Hid (xs.length = n) := hl
  have HS : Hid (RfAt O w P (.slice a n c) xs D) := h
  clear h hl
  go_enter Tryz.func70, Tryz.ntmps70
  go_wp2_with fail
  go_loopw [3, 4] (fun v3 v4 wx => ∃ (j : Nat) (a3 : Option Addr) (m3 c3 : Nat), j ≤ n ∧ m3 ≤ n ∧ v3 = .slice a3 m3 c3 ∧ v4 = .int .i64 j ∧ Hid (∃ out, out.length = m3 ∧ m3 ≤ c3 ∧ Sorted2 (apR (xs.take j)) out ∧ wx.ownsRow w.heap.size 64 2 (.slice a3 m3 c3) m3 (rowQ out) ∧ Below w.heap.size w wx)) (fun _ v4 _ => n - (intOf v4).toNat)
  case atStart => exact ⟨0, none, 0, 0, Nat.zero_le _, Nat.zero_le _, rfl, rfl, [], rfl, Nat.le_refl _, ⟨List.Pairwise.nil, fun p => by simp [apR]⟩, World.ownsRow_nil _ _ _ _, Below.refl _ _⟩
  case round =>
    obtain ⟨j, a3, m3, c3, hj, hm3, rfl, rfl, hI⟩ := hrel
    obtain ⟨out, i1, i2, i3, i4, i5⟩ := hI.out
    have HI : Hid (out.length = m3 ∧ m3 ≤ c3 ∧ Sorted2 (apR (xs.take j)) out ∧ wr.ownsRow w.heap.size 64 2 (.slice a3 m3 c3) m3 (rowQ out) ∧ Below w.heap.size w wr) := ⟨i1, i2, i3, i4, i5⟩
    have hS := HS.out.below i5
    obtain ⟨_, _, _, _, _, _, _, x7, _⟩ := hS.cells
    clear hI i1 i2 i3 i4 i5
    by_cases hlt : j < n
    · have n1 : (j : Int) < (n : Int) := by omega
      obtain ⟨x, hx⟩ : ∃ x, xs[j]? = some x := ⟨_, List.getElem?_eq_getElem (by rw [HL.out]; exact hlt)⟩
      have hrow := hS.row
      rw [HL.out] at hrow
      obtain ⟨g, c', e, _, _, _⟩ := M.own_some hrow (by omega)
      cases e
      obtain ⟨y0, y1, y2, y3, y4, y5, y6, y7⟩ := row_sd hrow j x hx
      have HX : Hid (xs[j]? = some x) := hx
      clear hx hrow hS y0 y2 y3 y4 y5
      cases hpd : x.pd with
      | false =>
        rw [hpd] at y1
        have HI2 : Hid (∃ out, out.length = m3 ∧ m3 ≤ c3 ∧ Sorted2 (apR (xs.take (j + 1))) out ∧ wr.ownsRow w.heap.size 64 2 (.slice a3 m3 c3) m3 (rowQ out) ∧ Below w.heap.size w wr) := ⟨out, by rw [apR_out HX.out hpd]; exact HI.out⟩
        clear hpd
        go_wp2
        exact ⟨⟨j + 1, a3, m3, c3, by omega, hm3, rfl, by go_num, HI2.out⟩, by simp [intOf]; omega⟩
      | true =>
        rw [hpd] at y1
        obtain ⟨px, hpx⟩ : ∃ px, x.p.1 = px := ⟨_, rfl⟩
        obtain ⟨py, hpy⟩ : ∃ py, x.p.2 = py := ⟨_, rfl⟩
        have HP : Hid (x.p = (px, py)) := Prod.ext hpx hpy
        have HPD : Hid (x.pd = true) := hpd
        rw [hpx] at y6
        rw [hpy] at y7
        have HAS : Hid _ := rhas_any wr a3 m3 c3 out px py HI.out.1 (by omega) (own_pairs HI.out.2.2.2.1)
        clear hpd hpx hpy
        go_wp2_with fail
        refine Calls.mono HAS.out ?_
        rintro e w5 ⟨rfl, hb5⟩
        have B5 : Hid (Below w.heap.size w w5 ∧ Below wr.heap.size wr w5) := ⟨HI.out.2.2.2.2.trans (hb5.mono HI.out.2.2.2.2.size), hb5⟩
        have O5 : Hid (w5.ownsRow w.heap.size 64 2 (.slice a3 m3 c3) m3 (rowQ out)) := M.owns_ch HI.out.2.2.2.1 (M.Ch.of_below (X := fun _ => False) hb5) fun _ _ e => e
        have hS5 := HS.out.below B5.out.1
        obtain ⟨_, _, _, _, _, _, _, z7, _⟩ := hS5.cells
        have hrow5 := hS5.row
        rw [HL.out] at hrow5
        obtain ⟨_, _, _, _, _, _, z6, z8⟩ := row_sd hrow5 j x HX.out
        rw [HP.out] at z6 z8
        dsimp only at z6 z8
        clear hb5 HAS hS5 hrow5 x7 y1 y6 y7
        cases hin : inQ out (px, py) with
        | true =>
          have hmem : (px, py) ∈ out := of_decide_eq_true hin
          have HI2 : Hid (∃ out, out.length = m3 ∧ m3 ≤ c3 ∧ Sorted2 (apR (xs.take (j + 1))) out ∧ w5.ownsRow w.heap.size 64 2 (.slice a3 m3 c3) m3 (rowQ out) ∧ Below w.heap.size w w5) := ⟨out, HI.out.1, HI.out.2.1, ⟨HI.out.2.2.1.up, fun p => by
            rw [apR_in HX.out HPD.out, HP.out, List.mem_append, List.mem_singleton, HI.out.2.2.1.mem]
            exact ⟨.inl, fun h => by rcases h with h | h; exact h; rw [h]; exact (HI.out.2.2.1.mem _).1 hmem⟩⟩, O5.out, B5.out.1⟩
          clear hin hmem
          go_wp2
          exact ⟨⟨j + 1, a3, m3, c3, by omega, hm3, rfl, by go_num, HI2.out⟩, by simp [intOf]; omega⟩
        | false =>
          have hnm : (px, py) ∉ out := of_decide_eq_false hin
          have PUT : Hid _ := rput_any w5 a3 m3 c3 out px py HI.out.1 (by omega) (own_pairs O5.out) HI.out.2.1
          have HNM : Hid ((px, py) ∉ out) := hnm
          clear hin hnm
          go_wp2_with fail
          refine Calls.mono PUT.out ?_
          rintro e w6 ⟨a6, c6, k, rfl, hk, p1, p2, ho6, hb6⟩
          have hs2 : Sorted2 (apR (xs.take (j + 1))) (out.take k ++ (px, py) :: out.drop k) := ⟨put_up HI.out.2.2.1.up p1 p2 HNM.out, fun p => by
            rw [put_mem, apR_in HX.out HPD.out, HP.out, List.mem_append, List.mem_singleton, HI.out.2.2.1.mem]⟩
          have hlen : (out.take k ++ (px, py) :: out.drop k).length = m3 + 1 := by have h := HI.out.1; simp; omega
          have hle : m3 + 1 ≤ n := by
            have h := hs2.len
            have h2 : (apR (xs.take (j + 1))).length ≤ j + 1 := by unfold apR; rw [List.length_map]; exact Nat.le_trans (List.length_filter_le _ _) (by rw [List.length_take]; omega)
            omega
          have HI2 : Hid (∃ out, out.length = m3 + 1 ∧ m3 + 1 ≤ c6 ∧ Sorted2 (apR (xs.take (j + 1))) out ∧ w6.ownsRow w.heap.size 64 2 (.slice a6 (m3 + 1) c6) (m3 + 1) (rowQ out) ∧ Below w.heap.size w w6) := ⟨_, hlen, by obtain ⟨_, _, e, h⟩ := own_shape ho6; cases e; exact h, hs2, M.owns_mono ho6 B5.out.1.size, B5.out.1.trans (hb6.mono B5.out.1.size)⟩
          clear p1 p2 ho6 hb6 hs2 hlen PUT
          go_wp2
          exact ⟨⟨j + 1, a6, m3 + 1, c6, by omega, hle, rfl, by go_num, HI2.out⟩, by simp [intOf]; omega⟩
    · have n1 : ¬ (j : Int) < (n : Int) := by omega
      have FIN : Hid (PairsPost w xs (.returned (.slice a3 m3 c3)) wr) := by
        have h := HI.out
        rw [List.take_of_length_le (by rw [HL.out]; omega)] at h
        exact ⟨a3, m3, c3, out, rfl, h⟩
      clear HI hS
      go_wp2
      go_ret
      exact FIN.out
end Go.Proofs.YtkejjiilcoacfaaGreat

namespace Go.Proofs.YtkejjiilcoacfaaGreat
open Go.Maps Go.RowKit Go.WideMaps

def rowR (vs : List Int) (i j : Nat) : List Pp := (vs.take j).map fun y => pairR (vs.getD i 0) y
def allR (vs : List Int) : Nat → List Pp
  | 0 => []
  | i + 1 => allR vs i ++ rowR vs i i
def cntR (had l : List Pp) : Nat := (l.filter fun p => !inQ had p).length
def sdP (D : Nat) (p : Pp) : Sd := ⟨D, true, ⟨⟨#[]⟩, false, 0, []⟩, .slice none 0 0, p⟩
theorem rowR_zero (vs : List Int) (i : Nat) : rowR vs i 0 = [] := rfl
theorem rowR_step {vs : List Int} {i j : Nat} {x y : Int} (hx : vs[i]? = some x) (hy : vs[j]? = some y) : rowR vs i (j + 1) = rowR vs i j ++ [pairR x y] := by
  unfold rowR
  rw [List.take_add_one, hy, List.map_append, List.getD_eq_getElem?_getD, hx]
  rfl
theorem rowR_len (vs : List Int) (i j : Nat) : (rowR vs i j).length ≤ j := by unfold rowR; rw [List.length_map, List.length_take]; omega
theorem allR_len (vs : List Int) : ∀ i, (allR vs i).length ≤ i * i
  | 0 => Nat.le_refl _
  | i + 1 => by
    have h := allR_len vs i
    have h2 := rowR_len vs i i
    show (allR vs i ++ rowR vs i i).length ≤ _
    rw [List.length_append, Nat.add_mul, Nat.mul_add]
    omega
theorem cntR_app (had l m : List Pp) : cntR had (l ++ m) = cntR had l + cntR had m := by unfold cntR; rw [List.filter_append, List.length_append]
theorem cntR_one (had : List Pp) (p : Pp) : cntR had [p] = if inQ had p = true then 0 else 1 := by unfold cntR; cases h : inQ had p <;> simp [h]
theorem cntR_le (had l : List Pp) : cntR had l ≤ l.length := List.length_filter_le _ _
theorem allR_mono (had : List Pp) (vs : List Int) : ∀ {i j : Nat}, i ≤ j → cntR had (allR vs i) ≤ cntR had (allR vs j)
  | i, j, h => by
    induction j with
    | zero => rw [show i = 0 by omega]; exact Nat.le_refl _
    | succ j ih =>
      rcases Nat.lt_or_ge j i with h1 | h1
      · rw [show i = j + 1 by omega]; exact Nat.le_refl _
      · exact Nat.le_trans (ih h1) (by show _ ≤ cntR had (allR vs j ++ rowR vs j j); rw [cntR_app]; omega)
/-- The document's answer to Dist: had are the pairs that are active. -/
def dupR (vs : List Int) : Prop := ∃ i k, k < i ∧ i < vs.length ∧ vs[i]? = vs[k]?
def RfDist (O : Nat → Prop) (w : World) (P : Nat) (xs : List Sd) (D : Nat) (vs : List Int) (e : Ending) (w' : World) : Prop := ∃ E : Int, e = .returned (.int .i64 E) ∧ M.Ch O w w' ∧
  (((∃ x ∈ vs, isV x = false) ∧ E = 71 ∧ RfO (More O w w') w' P xs D) ∨ ((∀ x ∈ vs, isV x = true) ∧ dupR vs ∧ E = 50 ∧ RfO (More O w w') w' P xs D) ∨
   ((∀ x ∈ vs, isV x = true) ∧ ¬ dupR vs ∧ ∃ had, Sorted2 (apR xs) had ∧ ((256 < had.length + cntR had (allR vs vs.length) ∧ E = 22 ∧ RfO (More O w w') w' P xs D) ∨ (had.length + cntR had (allR vs vs.length) ≤ 256 ∧ E = 0 ∧ RfO (More O w w') w' P (xs ++ (allR vs vs.length).map (sdP D)) D))))
set_option maxRecDepth 100000 in
set_option maxHeartbeats 32000000 in
theorem rdist_any (w : World) (O : Nat → Prop) (P : Nat) (xs : List Sd) (D : Nat) (a : Option Addr) (n c : Nat) (vs : List Int) (h : RfO O w P xs D) (hn : xs.length ≤ 1000000000) (hl : vs.length = n) (hn2 : n ≤ 1048576) (hA : NsAt w a vs) (hw : ∀ x ∈ vs, wfN x) :
    Calls Tryz.prog 65 #[.pointer (some ⟨P, 0, none⟩), .slice a n c] w (RfDist O w P xs D vs) := by
  obtain ⟨vL, h⟩ := h
  have HS : Hid (RfAt O w P vL xs D) := h
  have CB : Hid (∀ W, Below w.heap.size w W → W.cell? ⟨P, 0, none⟩ = some (.bool false) ∧ W.cell? ⟨P, 1, none⟩ = some (.slice none 0 0) ∧ W.cell? ⟨P, 2, none⟩ = some (.int .i64 100) ∧ W.cell? ⟨P, 3, none⟩ = some (.bool true) ∧ W.cell? ⟨P, 4, none⟩ = some (.int .i64 0) ∧ W.cell? ⟨P, 5, none⟩ = some (.int .i64 0) ∧ W.cell? ⟨P, 6, none⟩ = some (.slice none 0 0)) := fun W hW => by
    obtain ⟨x0, x1, x2, x3, x4, x5, x6, _, _⟩ := (h.below hW).cells
    exact ⟨x0, x1, x2, x3, x4, x5, x6⟩
  have HA : Hid (NsAt w a vs ∧ vs.length = n ∧ ∀ x ∈ vs, wfN x) := ⟨hA, hl, hw⟩
  have VI : Hid (∀ i, i < n → ∃ g off x, a = some ⟨g, off, none⟩ ∧ vs[i]? = some x ∧ ∀ W, Below w.heap.size w W → W.cell? ⟨g, off + i, none⟩ = some (.int .i64 x)) := fun i hi => by
    obtain ⟨x, hx⟩ : ∃ x, vs[i]? = some x := ⟨_, List.getElem?_eq_getElem (by rw [hl]; exact hi)⟩
    obtain ⟨g, off, e, h0⟩ := hA i x hx
    exact ⟨g, off, x, e, hx, fun W hW => (hW.cell (p := ⟨g, _, none⟩) (World.block_lt_of_cell? _ _ h0)).trans h0⟩
  clear h hA hw hl
  go_enter Tryz.func65, Tryz.ntmps65
  go_wp2_with fail
  go_loopw [5] (fun v5 wx => ∃ j : Nat, j ≤ n ∧ v5 = .int .i64 j ∧ Hid ((∀ x ∈ vs.take j, isV x = true) ∧ Below w.heap.size w wx)) (fun v5 _ => n - (intOf v5).toNat)
  case atStart => exact ⟨0, Nat.zero_le _, rfl, by simp, Below.refl _ _⟩
  case round =>
    obtain ⟨j, hj, rfl, hI⟩ := hrel
    by_cases hlt : j < n
    · have n1 : (j : Int) < (n : Int) := by omega
      obtain ⟨g, off, x, e, hx, hc⟩ := VI.out j hlt
      subst e
      have HX : Hid (vs[j]? = some x ∧ wfN x ∧ ∀ W, Below w.heap.size w W → W.cell? ⟨g, off + j, none⟩ = some (.int .i64 x)) := ⟨hx, HA.out.2.2 x (List.mem_of_getElem? hx), hc⟩
      have B0 : Hid (Below w.heap.size w wr.drew) := fr_below_drewN hI.out.2 1
      have IS : Hid _ := is_any wr.drew x HX.out.2.1
      clear hx hc
      go_upto_region 4 with fail
      go_cut [29] (fun v29 wx => v29 = .bool (!isV x) ∧ Hid (Below w.heap.size w wx))
      case first =>
        refine wp_region_held_drew (S := fun w' => w'.cell? ⟨g, off + j, none⟩ = some (.int .i64 x) ∧ w'.cell? ⟨P, 0, none⟩ = some (.bool false) ∧ w'.cell? ⟨P, 1, none⟩ = some (.slice none 0 0) ∧ w'.cell? ⟨P, 2, none⟩ = some (.int .i64 100) ∧ w'.cell? ⟨P, 3, none⟩ = some (.bool true) ∧ w'.cell? ⟨P, 4, none⟩ = some (.int .i64 0) ∧ w'.cell? ⟨P, 5, none⟩ = some (.int .i64 0) ∧ w'.cell? ⟨P, 6, none⟩ = some (.slice none 0 0)) (by kernel_rfl) ?_ (fun hHeld => ?_)
        · exact ⟨HX.out.2.2 _ B0.out, CB.out _ B0.out⟩
        refine wpAnyH_take (i := 0) (oi := { dst := some 20, op := Op.move (Operand.tmp 0), type := 67, pos := "ref.go:170", after := #[], guard := none }) (v := ?_) rfl (by kernel_rfl) (by kernel_rfl) (by kernel_rfl) (fun _ _ _ h => h) (Or.inl ⟨by rfl, ?_⟩) hHeld ?_
        rotate_left
        · (intro w hSw; (try dsimp only at hSw); go_simp; try with_reducible rfl)
        try simp only [Act.put, List.setIfInBounds_toArray, List.set_cons_zero, List.set_cons_succ]
        refine wpAnyH_take (i := 1) (oi := { dst := some 21, op := Op.nilCheck (Operand.tmp 20), type := 0, pos := "ref.go:170", after := #[{ on := 0, ground := Ground.data }], guard := none }) (v := ?_) rfl (by kernel_rfl) (by kernel_rfl) (by kernel_rfl) (fun _ _ _ h => h) (Or.inl ⟨by rfl, ?_⟩) hHeld ?_
        rotate_left
        · (intro w hSw; (try dsimp only at hSw); go_simp; try with_reducible rfl)
        try simp only [Act.put, List.setIfInBounds_toArray, List.set_cons_zero, List.set_cons_succ]
        refine wpAnyH_take (i := 2) (oi := { dst := some 22, op := Op.fieldAddr 112 (Operand.tmp 21) 0, type := 0, pos := "ref.go:170", after := #[{ on := 1, ground := Ground.data }], guard := none }) (v := ?_) rfl (by kernel_rfl) (by kernel_rfl) (by kernel_rfl) (fun _ _ _ h => h) (Or.inl ⟨by rfl, ?_⟩) hHeld ?_
        rotate_left
        · (intro w hSw; (try dsimp only at hSw); go_simp; try with_reducible rfl)
        try simp only [Act.put, List.setIfInBounds_toArray, List.set_cons_zero, List.set_cons_succ]
        refine wpAnyH_take (i := 3) (oi := { dst := some 23, op := Op.load 71 (Operand.tmp 22), type := 71, pos := "ref.go:170", after := #[{ on := 2, ground := Ground.data }], guard := none }) (v := ?_) rfl (by kernel_rfl) (by kernel_rfl) (by kernel_rfl) (fun _ _ _ h => h) (Or.inl ⟨by rfl, ?_⟩) hHeld ?_
        rotate_left
        · (intro w hSw; (try dsimp only at hSw); go_simp; try with_reducible rfl)
        try simp only [Act.put, List.setIfInBounds_toArray, List.set_cons_zero, List.set_cons_succ]
        refine wpAnyH_take (i := 4) (oi := { dst := some 24, op := Op.move (Operand.tmp 1), type := 32, pos := "ref.go:170", after := #[], guard := none }) (v := ?_) rfl (by kernel_rfl) (by kernel_rfl) (by kernel_rfl) (fun _ _ _ h => h) (Or.inl ⟨by rfl, ?_⟩) hHeld ?_
        rotate_left
        · (intro w hSw; (try dsimp only at hSw); go_simp; try with_reducible rfl)
        try simp only [Act.put, List.setIfInBounds_toArray, List.set_cons_zero, List.set_cons_succ]
        refine wpAnyH_take (i := 5) (oi := { dst := some 25, op := Op.move (Operand.tmp 5), type := 3, pos := "ref.go:170", after := #[], guard := none }) (v := ?_) rfl (by kernel_rfl) (by kernel_rfl) (by kernel_rfl) (fun _ _ _ h => h) (Or.inl ⟨by rfl, ?_⟩) hHeld ?_
        rotate_left
        · (intro w hSw; (try dsimp only at hSw); go_simp; try with_reducible rfl)
        try simp only [Act.put, List.setIfInBounds_toArray, List.set_cons_zero, List.set_cons_succ]
        refine wpAnyH_take (i := 6) (oi := { dst := some 26, op := Op.indexAddr 32 (Operand.tmp 24) (Operand.tmp 25), type := 0, pos := "ref.go:170", after := #[{ on := 4, ground := Ground.data }, { on := 5, ground := Ground.data }], guard := none }) (v := ?_) rfl (by kernel_rfl) (by kernel_rfl) (by kernel_rfl) (fun _ _ _ h => h) (Or.inl ⟨by rfl, ?_⟩) hHeld ?_
        rotate_left
        · (intro w hSw; (try dsimp only at hSw); go_simp; try with_reducible rfl)
        try simp only [Act.put, List.setIfInBounds_toArray, List.set_cons_zero, List.set_cons_succ]
        refine wpAnyH_take (i := 7) (oi := { dst := some 27, op := Op.load 3 (Operand.tmp 26), type := 3, pos := "ref.go:170", after := #[{ on := 6, ground := Ground.data }], guard := none }) (v := ?_) rfl (by kernel_rfl) (by kernel_rfl) (by kernel_rfl) (fun _ _ _ h => h) (Or.inl ⟨by rfl, ?_⟩) hHeld ?_
        rotate_left
        · (intro w hSw; (try dsimp only at hSw); go_simp; try with_reducible rfl)
        try simp only [Act.put, List.setIfInBounds_toArray, List.set_cons_zero, List.set_cons_succ]
        refine wpAnyH_ready (rs := [8]) (by kernel_rfl) (by simp) ?_
        refine AllReadyH.cons (o := { dst := some 28, op := Op.call { callee := Callee.value (Operand.func 69), args := #[Operand.tmp 23, Operand.tmp 27], argTypes := #[71, 3] }, type := 4, pos := "ref.go:170", after := #[{ on := 3, ground := Ground.data }, { on := 7, ground := Ground.data }], guard := none }) rfl (fun K hK => ?_) AllReadyH.nil
        go_simp
        go_at_call 69
        refine Calls.mono IS.out ?_
        rintro e w2 ⟨rfl, hb2⟩
        have B2 : Hid (Below w.heap.size w w2) := B0.out.trans (hb2.mono B0.out.size)
        clear hb2 IS
        try go_wp2_with fail
        refine hK.out _ _ ?_ (fun hHeld_8 => ?_)
        · exact ⟨HX.out.2.2 _ B2.out, CB.out _ B2.out⟩
        clear hK K
        try simp only [Act.put, List.setIfInBounds_toArray, List.set_cons_zero, List.set_cons_succ]
        refine wpAnyH_take (i := 9) (oi := { dst := some 29, op := Op.unOp UnOp.not 4 (Operand.tmp 28), type := 4, pos := "ref.go:170", after := #[{ on := 8, ground := Ground.data }], guard := none }) (v := ?_) rfl (by kernel_rfl) (by kernel_rfl) (by kernel_rfl) (fun _ _ _ h => h) (Or.inl ⟨by rfl, ?_⟩) hHeld_8 ?_
        rotate_left
        · (intro w hSw; (try dsimp only at hSw); go_simp; try with_reducible rfl)
        try simp only [Act.put, List.setIfInBounds_toArray, List.set_cons_zero, List.set_cons_succ]
        refine wpAnyH_done (by kernel_rfl) ?_ _
        go_wp2_with fail
        go_meet
        exact ⟨rfl, B2.out⟩
      case rest =>
        obtain ⟨rfl, hb2⟩ := hcut
        cases hv : isV x with
        | false =>
          have FIN : Hid (RfDist O w P xs D vs (.returned (.int .i64 71)) wc) := by
            exact ⟨71, rfl, M.Ch.of_below hb2.out, .inl ⟨⟨x, List.mem_of_getElem? HX.out.1, hv⟩, rfl, (HS.out.same hb2.out).1⟩⟩
          go_wp2
          go_ret
          exact FIN.out
        | true =>
          have HI2 : Hid ((∀ x ∈ vs.take (j + 1), isV x = true) ∧ Below w.heap.size w wc) := ⟨fun y hy => by
            rw [List.take_add_one, HX.out.1] at hy
            rcases List.mem_append.1 hy with h | h
            · exact hI.out.1 y h
            · have e : y = x := by simpa using h
              rw [e]; exact hv, hb2.out⟩
          clear hb2 hI HX
          go_wp2
          exact ⟨⟨j + 1, by omega, by go_num, HI2.out⟩, by simp [intOf]; omega⟩
    · have n1 : ¬ (j : Int) < (n : Int) := by omega
      obtain ⟨wl, hwl⟩ : ∃ wl, wl = wr := ⟨_, rfl⟩
      subst hwl
      have AV : Hid (∀ x ∈ vs, isV x = true) := by have h := hI.out.1; rw [List.take_of_length_le (by rw [HA.out.2.1]; omega)] at h; exact h
      have BL : Hid (Below w.heap.size w wl) := hI.out.2
      clear hI hlt
      go_wp2_with fail
      go_loopw [6] (fun v6 wx => ∃ i : Nat, i ≤ n ∧ v6 = .int .i64 i ∧ Hid ((∀ i' k, k < i' → i' < i → vs[i']? ≠ vs[k]?) ∧ Below w.heap.size w wx)) (fun v6 _ => n - (intOf v6).toNat)
      case atStart => exact ⟨0, Nat.zero_le _, rfl, fun i' k _ h => absurd h (Nat.not_lt_zero _), BL.out⟩
      case round =>
        clear BL
        obtain ⟨i, hi, rfl, hI⟩ := hrel
        by_cases hlt : i < n
        · have n2 : (i : Int) < (n : Int) := by omega
          obtain ⟨g, off, x, e, hx, hc⟩ := VI.out i hlt
          subst e
          have HX : Hid (vs[i]? = some x ∧ ∀ W, Below w.heap.size w W → W.cell? ⟨g, off + i, none⟩ = some (.int .i64 x)) := ⟨hx, hc⟩
          clear hx hc
          obtain ⟨w2, hw2⟩ : ∃ w2, w2 = wr := ⟨_, rfl⟩
          subst hw2
          have BL : Hid (Below w.heap.size w w2) := hI.out.2
          have ND : Hid (∀ i' k, k < i' → i' < i → vs[i']? ≠ vs[k]?) := hI.out.1
          clear hI
          go_wp2_with fail
          go_loopw [7] (fun v7 wx => ∃ k : Nat, k ≤ i ∧ v7 = .int .i64 k ∧ Hid ((∀ k', k' < k → vs[i]? ≠ vs[k']?) ∧ Below w.heap.size w wx)) (fun v7 _ => i - (intOf v7).toNat)
          case atStart => exact ⟨0, Nat.zero_le _, rfl, fun k' h => absurd h (Nat.not_lt_zero _), BL.out⟩
          case round =>
            clear BL
            obtain ⟨k, hk, rfl, hI⟩ := hrel
            by_cases hlk : k < i
            · have n3 : (k : Int) < (i : Int) := by omega
              have n4 : (k : Int) < (n : Int) := by omega
              obtain ⟨g2, off2, y, e, hy, hc⟩ := VI.out k (by omega)
              cases e
              have x1 := HX.out.2 _ hI.out.2
              have x2 := hc _ hI.out.2
              have HY : Hid (vs[k]? = some y) := hy
              clear hy hc
              by_cases hxy : x = y
              · subst hxy
                have FIN : Hid (∀ m, RfDist O w P xs D vs (.returned (.int .i64 50)) (wr.drewN m)) := fun m => by
                  have hb := fr_below_drewN hI.out.2 m
                  exact ⟨50, rfl, M.Ch.of_below hb, .inr (.inl ⟨AV.out, ⟨i, k, hlk, by rw [HA.out.2.1]; omega, by rw [HX.out.1, HY.out]⟩, rfl, (HS.out.same hb).1⟩)⟩
                clear hI
                go_upto_region 12 with fail
                go_quiet (fail)
                go_wp2
                go_ret
                exact FIN.out _
              · have hxy2 : (x == y) = false := by simpa using hxy
                have HI2 : Hid (∀ m, (∀ k', k' < k + 1 → vs[i]? ≠ vs[k']?) ∧ Below w.heap.size w (wr.drewN m)) := fun m => ⟨fun k' h => by
                  rcases Nat.lt_or_ge k' k with h1 | h1
                  · exact hI.out.1 k' h1
                  · rw [show k' = k by omega, HX.out.1, HY.out]; simpa using hxy, fr_below_drewN hI.out.2 m⟩
                clear hI
                go_upto_region 12 with fail
                go_quiet (fail)
                go_wp2
                exact ⟨⟨k + 1, by omega, by go_num, HI2.out _⟩, by simp [intOf]; omega⟩
            · have n3 : ¬ (k : Int) < (i : Int) := by omega
              have HI2 : Hid ((∀ i' k, k < i' → i' < i + 1 → vs[i']? ≠ vs[k]?) ∧ Below w.heap.size w wr) := ⟨fun i' k' h1 h2 => by
                rcases Nat.lt_or_ge i' i with h3 | h3
                · exact ND.out i' k' h1 h3
                · rw [show i' = i by omega]; exact hI.out.1 k' (by omega), hI.out.2⟩
              clear hI
              go_wp2
              exact ⟨⟨i + 1, by omega, by go_num, HI2.out⟩, by simp [intOf]; omega⟩
        · have n2 : ¬ (i : Int) < (n : Int) := by omega
          obtain ⟨w2, hw2⟩ : ∃ w2, w2 = wr := ⟨_, rfl⟩
          subst hw2
          have BL : Hid (Below w.heap.size w w2) := hI.out.2
          have ND : Hid (¬ dupR vs) := fun ⟨i', k, h1, h2, h3⟩ => hI.out.1 i' k h1 (by rw [HA.out.2.1] at h2; omega) h3
          have PRS : Hid _ := rpairs_any w2 O P xs D ⟨vL, HS.out.below BL.out⟩ hn
          clear hI hlt
          have dummy : True := trivial
          go_wp2_with fail
          refine Calls.mono PRS.out ?_
          rintro e w3 ⟨ah, HL, ch, had, rfl, hh1, hh2, hh3, hh4, hh5⟩
          have B3 : Hid (Below w.heap.size w w3) := BL.out.trans (hh5.mono BL.out.size)
          have S3 : Hid (RfAt O w3 P vL xs D) := HS.out.below B3.out
          have HAD : Hid (had.length = HL ∧ Sorted2 (apR xs) had ∧ PairsAt w3 ah had) := ⟨hh1, hh3, own_pairs hh4⟩
          have hHL : HL ≤ 1000000000 := by have h := hh3.len; have h2 : (apR xs).length ≤ xs.length := by unfold apR; rw [List.length_map]; exact List.length_filter_le _ _
                                           omega
          have D3 : Hid (∀ W, Below w3.heap.size w3 W → W.cell? ⟨P, 8, none⟩ = some (.int .i64 D)) := fun W hW => by
            obtain ⟨_, _, _, _, _, _, _, _, x8⟩ := (S3.out.below hW).cells
            exact x8
          have V3 : Hid (∀ i, i < n → ∃ g off x, a = some ⟨g, off, none⟩ ∧ vs[i]? = some x ∧ ∀ W, Below w3.heap.size w3 W → W.cell? ⟨g, off + i, none⟩ = some (.int .i64 x)) := fun i hi => by
            obtain ⟨g, off, x, e, hx, hc⟩ := VI.out i hi
            exact ⟨g, off, x, e, hx, fun W hW => hc W (B3.out.trans (hW.mono B3.out.size))⟩
          clear hh1 hh2 hh3 hh4 hh5 PRS BL VI
          go_wp2_with fail
          go_loopw [9, 10, 11] (fun v9 v10 v11 wx => ∃ (i k m10 c10 : Nat) (a10 : Option Addr), i ≤ n ∧ k ≤ HL + i * i ∧ m10 ≤ i * i ∧ v9 = .int .i64 k ∧ v10 = .slice a10 m10 c10 ∧ v11 = .int .i64 i ∧ Hid (m10 = (allR vs i).length ∧ k = HL + cntR had (allR vs i) ∧ wx.ownsRow w3.heap.size 115 8 (.slice a10 m10 c10) m10 (rowSd ((allR vs i).map (sdP D))) ∧ Below w3.heap.size w3 wx)) (fun _ _ v11 _ => n - (intOf v11).toNat)
          case atStart => exact ⟨0, HL, 0, 0, none, Nat.zero_le _, Nat.le_add_right _ _, Nat.zero_le _, rfl, rfl, rfl, rfl, rfl, World.ownsRow_nil _ _ _ _, Below.refl _ _⟩
          case round =>
            obtain ⟨i, k, m10, c10, a10, hi, hk, hm, rfl, rfl, rfl, hI⟩ := hrel
            have hii : i * i ≤ 1099511627776 := Nat.le_trans (Nat.mul_le_mul (Nat.le_trans hi hn2) (Nat.le_trans hi hn2)) (by decide)
            have hkb : k ≤ 1100511627776 := by omega
            have hmb : m10 ≤ 1099511627776 := by omega
            by_cases hlt : i < n
            · have n1 : (i : Int) < (n : Int) := by omega
              by_cases hk6 : k ≤ 256
              · have n2 : (k : Int) ≤ 256 := by omega
                obtain ⟨w4, hw4⟩ : ∃ w4, w4 = wr := ⟨_, rfl⟩
                subst hw4
                have HI : Hid (m10 = (allR vs i).length ∧ k = HL + cntR had (allR vs i) ∧ w4.ownsRow w3.heap.size 115 8 (.slice a10 m10 c10) m10 (rowSd ((allR vs i).map (sdP D))) ∧ Below w3.heap.size w3 w4) := hI.out
                obtain ⟨g, off, x, e, hx, hc⟩ := V3.out i hlt
                subst e
                have HX : Hid (vs[i]? = some x ∧ ∀ W, Below w3.heap.size w3 W → W.cell? ⟨g, off + i, none⟩ = some (.int .i64 x)) := ⟨hx, hc⟩
                clear hx hc hI
                go_wp2_with fail
                go_loopw [9, 10, 12] (fun v9 v10 v12 wx => ∃ (q k m10 c10 : Nat) (a10 : Option Addr), q ≤ i ∧ k ≤ HL + i * i + q ∧ m10 ≤ i * i + q ∧ v9 = .int .i64 k ∧ v10 = .slice a10 m10 c10 ∧ v12 = .int .i64 q ∧ Hid (m10 = (allR vs i ++ rowR vs i q).length ∧ k = HL + cntR had (allR vs i ++ rowR vs i q) ∧ wx.ownsRow w3.heap.size 115 8 (.slice a10 m10 c10) m10 (rowSd ((allR vs i ++ rowR vs i q).map (sdP D))) ∧ Below w3.heap.size w3 wx)) (fun _ _ v12 _ => i - (intOf v12).toNat)
                case atStart => exact ⟨0, k, m10, c10, a10, Nat.zero_le _, by omega, by omega, rfl, rfl, rfl, by rw [rowR_zero, List.append_nil]; exact HI.out⟩
                case round =>
                  clear HI hk hm hkb hmb hk6 n2
                  obtain ⟨q, k, m10, c10, a10, hq, hk, hm, rfl, rfl, rfl, hI⟩ := hrel
                  have hkb : k ≤ 1200511627776 := by omega
                  have hmb : m10 ≤ 1200000000000 := by omega
                  by_cases hlq : q < i
                  · have n3 : (q : Int) < (i : Int) := by omega
                    have n4 : (q : Int) < (n : Int) := by omega
                    obtain ⟨g2, off2, y, e, hy, hc⟩ := V3.out q (by omega)
                    cases e
                    have HY : Hid (vs[q]? = some y ∧ ∀ W, Below w3.heap.size w3 W → W.cell? ⟨g, off + q, none⟩ = some (.int .i64 y)) := ⟨hy, hc⟩
                    have BR : Hid (Below w3.heap.size w3 wr.drew) := fr_below_drewN hI.out.2.2.2 1
                    obtain ⟨px, hpx⟩ : ∃ px, (pairR x y).1 = px := ⟨_, rfl⟩
                    obtain ⟨py, hpy⟩ : ∃ py, (pairR x y).2 = py := ⟨_, rfl⟩
                    have HP : Hid (pairR x y = (px, py)) := Prod.ext hpx hpy
                    have PR : Hid (∀ W, _) := fun W => pair_any W x y
                    rw [hpx, hpy] at PR
                    clear hy hc hpx hpy
                    go_upto_region 23 with fail
                    go_cut [13] (fun v13 wx => ∃ T : Nat, v13 = .pointer (some ⟨T, 0, none⟩) ∧ Hid (Below wr.heap.size wr wx ∧ wx.heap[T]? = some (.cells #[.int .i64 px, .int .i64 py] 64 (0, 0)) ∧ wr.heap.size ≤ T))
                    case first =>
                      refine wp_region_held_drew (S := fun w' => w'.cell? ⟨g, off + i, none⟩ = some (.int .i64 x) ∧ w'.cell? ⟨g, off + q, none⟩ = some (.int .i64 y)) (by kernel_rfl) ?_ (fun hHeld => ?_)
                      · exact ⟨HX.out.2 _ BR.out, HY.out.2 _ BR.out⟩
                      refine wpAnyH_take (i := 0) (oi := { dst := some 69, op := Op.move (Operand.tmp 1), type := 32, pos := "ref.go:186", after := #[], guard := none }) (v := ?_) rfl (by kernel_rfl) (by kernel_rfl) (by kernel_rfl) (fun _ _ _ h => h) (Or.inl ⟨by rfl, ?_⟩) hHeld ?_
                      rotate_left
                      · (intro w hSw; (try dsimp only at hSw); go_simp; try with_reducible rfl)
                      try simp only [Act.put, List.setIfInBounds_toArray, List.set_cons_zero, List.set_cons_succ]
                      refine wpAnyH_take (i := 1) (oi := { dst := some 70, op := Op.move (Operand.tmp 11), type := 3, pos := "ref.go:186", after := #[], guard := none }) (v := ?_) rfl (by kernel_rfl) (by kernel_rfl) (by kernel_rfl) (fun _ _ _ h => h) (Or.inl ⟨by rfl, ?_⟩) hHeld ?_
                      rotate_left
                      · (intro w hSw; (try dsimp only at hSw); go_simp; try with_reducible rfl)
                      try simp only [Act.put, List.setIfInBounds_toArray, List.set_cons_zero, List.set_cons_succ]
                      refine wpAnyH_take (i := 2) (oi := { dst := some 71, op := Op.indexAddr 32 (Operand.tmp 69) (Operand.tmp 70), type := 0, pos := "ref.go:186", after := #[{ on := 0, ground := Ground.data }, { on := 1, ground := Ground.data }], guard := none }) (v := ?_) rfl (by kernel_rfl) (by kernel_rfl) (by kernel_rfl) (fun _ _ _ h => h) (Or.inl ⟨by rfl, ?_⟩) hHeld ?_
                      rotate_left
                      · (intro w hSw; (try dsimp only at hSw); go_simp; try with_reducible rfl)
                      try simp only [Act.put, List.setIfInBounds_toArray, List.set_cons_zero, List.set_cons_succ]
                      refine wpAnyH_take (i := 3) (oi := { dst := some 72, op := Op.load 3 (Operand.tmp 71), type := 3, pos := "ref.go:186", after := #[{ on := 2, ground := Ground.data }], guard := none }) (v := ?_) rfl (by kernel_rfl) (by kernel_rfl) (by kernel_rfl) (fun _ _ _ h => h) (Or.inl ⟨by rfl, ?_⟩) hHeld ?_
                      rotate_left
                      · (intro w hSw; (try dsimp only at hSw); go_simp; try with_reducible rfl)
                      try simp only [Act.put, List.setIfInBounds_toArray, List.set_cons_zero, List.set_cons_succ]
                      refine wpAnyH_take (i := 4) (oi := { dst := some 73, op := Op.move (Operand.tmp 1), type := 32, pos := "ref.go:186", after := #[], guard := none }) (v := ?_) rfl (by kernel_rfl) (by kernel_rfl) (by kernel_rfl) (fun _ _ _ h => h) (Or.inl ⟨by rfl, ?_⟩) hHeld ?_
                      rotate_left
                      · (intro w hSw; (try dsimp only at hSw); go_simp; try with_reducible rfl)
                      try simp only [Act.put, List.setIfInBounds_toArray, List.set_cons_zero, List.set_cons_succ]
                      refine wpAnyH_take (i := 5) (oi := { dst := some 74, op := Op.move (Operand.tmp 12), type := 3, pos := "ref.go:186", after := #[], guard := none }) (v := ?_) rfl (by kernel_rfl) (by kernel_rfl) (by kernel_rfl) (fun _ _ _ h => h) (Or.inl ⟨by rfl, ?_⟩) hHeld ?_
                      rotate_left
                      · (intro w hSw; (try dsimp only at hSw); go_simp; try with_reducible rfl)
                      try simp only [Act.put, List.setIfInBounds_toArray, List.set_cons_zero, List.set_cons_succ]
                      refine wpAnyH_take (i := 6) (oi := { dst := some 75, op := Op.indexAddr 32 (Operand.tmp 73) (Operand.tmp 74), type := 0, pos := "ref.go:186", after := #[{ on := 4, ground := Ground.data }, { on := 5, ground := Ground.data }], guard := none }) (v := ?_) rfl (by kernel_rfl) (by kernel_rfl) (by kernel_rfl) (fun _ _ _ h => h) (Or.inl ⟨by rfl, ?_⟩) hHeld ?_
                      rotate_left
                      · (intro w hSw; (try dsimp only at hSw); go_simp; try with_reducible rfl)
                      try simp only [Act.put, List.setIfInBounds_toArray, List.set_cons_zero, List.set_cons_succ]
                      refine wpAnyH_take (i := 7) (oi := { dst := some 76, op := Op.load 3 (Operand.tmp 75), type := 3, pos := "ref.go:186", after := #[{ on := 6, ground := Ground.data }], guard := none }) (v := ?_) rfl (by kernel_rfl) (by kernel_rfl) (by kernel_rfl) (fun _ _ _ h => h) (Or.inl ⟨by rfl, ?_⟩) hHeld ?_
                      rotate_left
                      · (intro w hSw; (try dsimp only at hSw); go_simp; try with_reducible rfl)
                      try simp only [Act.put, List.setIfInBounds_toArray, List.set_cons_zero, List.set_cons_succ]
                      refine wpAnyH_ready (rs := [8, 9]) (by kernel_rfl) (by simp) ?_
                      refine AllReadyH.cons (o := { dst := some 77, op := Op.call { callee := Callee.value (Operand.func 88), args := #[Operand.tmp 72, Operand.tmp 76], argTypes := #[3, 3] }, type := 64, pos := "ref.go:186", after := #[{ on := 3, ground := Ground.data }, { on := 7, ground := Ground.data }], guard := none }) rfl (fun K hK => ?_) (AllReadyH.cons (o := { dst := some 13, op := Op.alloc 64, type := 0, pos := "ref.go:186", after := #[], guard := none }) rfl (fun K hK => ?_) AllReadyH.nil)
                      · go_simp
                        go_at_call 88
                        refine Calls.mono (PR.out _) ?_
                        rintro e w5 ⟨rfl, hb5⟩
                        have B5 : Hid (Below wr.drew.heap.size wr.drew w5) := hb5
                        have C5 : Hid (Below w3.heap.size w3 w5) := BR.out.trans (hb5.mono BR.out.size)
                        clear hb5
                        try go_wp2_with fail
                        refine hK.out _ _ ?_ (fun hHeld_8 => ?_)
                        · exact ⟨HX.out.2 _ C5.out, HY.out.2 _ C5.out⟩
                        clear hK K
                        try simp only [Act.put, List.setIfInBounds_toArray, List.set_cons_zero, List.set_cons_succ]
                        refine wpAnyH_ready (rs := [9]) (by kernel_rfl) (by simp) ?_
                        refine AllReadyH.cons (o := { dst := some 13, op := Op.alloc 64, type := 0, pos := "ref.go:186", after := #[], guard := none }) rfl (fun K hK => ?_) AllReadyH.nil
                        go_simp
                        refine hK.out _ _ ?_ (fun hHeld_9 => ?_)
                        · exact ⟨HX.out.2 _ (C5.out.trans ((fr_below_alloc _ _).mono C5.out.size)), HY.out.2 _ (C5.out.trans ((fr_below_alloc _ _).mono C5.out.size))⟩
                        clear hK K
                        try simp only [Act.put, List.setIfInBounds_toArray, List.set_cons_zero, List.set_cons_succ]
                        refine wpAnyH_ready (rs := [10]) (by kernel_rfl) (by simp) ?_
                        refine AllReadyH.cons (o := { dst := none, op := Op.store 64 (Operand.tmp 13) (Operand.tmp 77), type := 0, pos := "ref.go:186", after := #[{ on := 9, ground := Ground.data }, { on := 8, ground := Ground.data }, { on := 8, ground := Ground.chain }, { on := 0, ground := Ground.phase }, { on := 1, ground := Ground.phase }, { on := 2, ground := Ground.phase }, { on := 3, ground := Ground.phase }, { on := 4, ground := Ground.phase }, { on := 5, ground := Ground.phase }, { on := 6, ground := Ground.phase }, { on := 7, ground := Ground.phase }, { on := 8, ground := Ground.phase }, { on := 9, ground := Ground.phase }], guard := none }) rfl (fun K hK => ?_) AllReadyH.nil
                        have TA : Hid (Below w3.heap.size w3 (w5.alloc (.cells #[.int .i64 px, .int .i64 py] 64))) := C5.out.trans ((fr_below_alloc _ _).mono C5.out.size)
                        go_simp
                        refine hK.out _ _ ?_ (fun hHeld_10 => ?_)
                        · exact ⟨HX.out.2 _ TA.out, HY.out.2 _ TA.out⟩
                        clear hK K
                        try simp only [Act.put, List.setIfInBounds_toArray, List.set_cons_zero, List.set_cons_succ]
                        refine wpAnyH_done (by kernel_rfl) ?_ _
                        go_wp2_with fail
                        go_meet
                        have bd : Below wr.heap.size wr wr.drew := fr_below_drewN (Below.refl _ _) 1
                        exact ⟨_, rfl, (bd.trans B5.out).trans ((fr_below_alloc w5 (.cells #[.int .i64 px, .int .i64 py] 64)).mono B5.out.size), heap_alloc_new w5 _, B5.out.size⟩
                      · have BA : Hid (Below w3.heap.size w3 (wr.drew.alloc (.cells #[.int .i64 0, .int .i64 0] 64))) := BR.out.trans ((fr_below_alloc _ _).mono BR.out.size)
                        go_simp
                        refine hK.out _ _ ?_ (fun hHeld_9 => ?_)
                        · exact ⟨HX.out.2 _ BA.out, HY.out.2 _ BA.out⟩
                        clear hK K
                        try simp only [Act.put, List.setIfInBounds_toArray, List.set_cons_zero, List.set_cons_succ]
                        refine wpAnyH_ready (rs := [8]) (by kernel_rfl) (by simp) ?_
                        refine AllReadyH.cons (o := { dst := some 77, op := Op.call { callee := Callee.value (Operand.func 88), args := #[Operand.tmp 72, Operand.tmp 76], argTypes := #[3, 3] }, type := 64, pos := "ref.go:186", after := #[{ on := 3, ground := Ground.data }, { on := 7, ground := Ground.data }], guard := none }) rfl (fun K hK => ?_) AllReadyH.nil
                        go_simp
                        go_at_call 88
                        refine Calls.mono (PR.out _) ?_
                        rintro e w5 ⟨rfl, hb5⟩
                        have B5 : Hid (Below (wr.drew.alloc (.cells #[.int .i64 0, .int .i64 0] 64)).heap.size (wr.drew.alloc (.cells #[.int .i64 0, .int .i64 0] 64)) w5) := hb5
                        have C5 : Hid (Below w3.heap.size w3 w5) := BA.out.trans (hb5.mono BA.out.size)
                        clear hb5
                        try go_wp2_with fail
                        refine hK.out _ _ ?_ (fun hHeld_8 => ?_)
                        · exact ⟨HX.out.2 _ C5.out, HY.out.2 _ C5.out⟩
                        clear hK K
                        try simp only [Act.put, List.setIfInBounds_toArray, List.set_cons_zero, List.set_cons_succ]
                        refine wpAnyH_ready (rs := [10]) (by kernel_rfl) (by simp) ?_
                        refine AllReadyH.cons (o := { dst := none, op := Op.store 64 (Operand.tmp 13) (Operand.tmp 77), type := 0, pos := "ref.go:186", after := #[{ on := 9, ground := Ground.data }, { on := 8, ground := Ground.data }, { on := 8, ground := Ground.chain }, { on := 0, ground := Ground.phase }, { on := 1, ground := Ground.phase }, { on := 2, ground := Ground.phase }, { on := 3, ground := Ground.phase }, { on := 4, ground := Ground.phase }, { on := 5, ground := Ground.phase }, { on := 6, ground := Ground.phase }, { on := 7, ground := Ground.phase }, { on := 8, ground := Ground.phase }, { on := 9, ground := Ground.phase }], guard := none }) rfl (fun K hK => ?_) AllReadyH.nil
                        have k5 : w5.heap[wr.heap.size]? = some (.cells #[.int .i64 0, .int .i64 0] 64 (0, 0)) := (B5.out.block wr.heap.size (by simp)).trans (heap_alloc_new wr.drew _)
                        have d0 : w5.cell? ⟨wr.heap.size, 0, none⟩ = some (.int .i64 0) := M.cell_whole k5 0
                        have d1 : w5.cell? ⟨wr.heap.size, 1, none⟩ = some (.int .i64 0) := M.cell_whole k5 1
                        have f0 : w5.frozen? ⟨wr.heap.size, 0, none⟩ = false := by simp [World.frozen?, k5]
                        have f1 : w5.frozen? ⟨wr.heap.size, 1, none⟩ = false := by simp [World.frozen?, k5]
                        have K5 : Hid (w5.heap[wr.heap.size]? = some (.cells #[.int .i64 0, .int .i64 0] 64 (0, 0))) := k5
                        have hw3 : w3.heap.size ≤ wr.heap.size := BR.out.size
                        have TA : Hid (Below w3.heap.size w3 ((w5.setCell ⟨wr.heap.size, 0, none⟩ (.int .i64 px)).setCell ⟨wr.heap.size, 1, none⟩ (.int .i64 py))) := (C5.out.trans ((M.ch_set w5 wr.heap.size 0 _).below C5.out.size fun b e => by omega)).trans ((M.ch_set _ wr.heap.size 1 _).below (by have h := C5.out.size; simpa [World.setCell] using h) fun b e => by omega)
                        clear k5
                        go_simp
                        refine hK.out _ _ ?_ (fun hHeld_10 => ?_)
                        · exact ⟨HX.out.2 _ TA.out, HY.out.2 _ TA.out⟩
                        clear hK K
                        try simp only [Act.put, List.setIfInBounds_toArray, List.set_cons_zero, List.set_cons_succ]
                        refine wpAnyH_done (by kernel_rfl) ?_ _
                        go_wp2_with fail
                        go_meet
                        have bd : Below wr.heap.size wr wr.drew := fr_below_drewN (Below.refl _ _) 1
                        have bq : Below wr.heap.size wr w5 := bd.trans <| (fr_below_alloc wr.drew (.cells #[.int .i64 0, .int .i64 0] 64)).trans (B5.out.mono (fr_below_alloc wr.drew (.cells #[.int .i64 0, .int .i64 0] 64)).size)
                        exact ⟨_, rfl, (bq.trans ((M.ch_set w5 wr.heap.size 0 _).below bq.size fun b e => by omega)).trans ((M.ch_set _ wr.heap.size 1 _).below (by have h := bq.size; simpa [World.setCell] using h) fun b e => by omega), M.heap_set_same (M.heap_set_same K5.out), Nat.le_refl _⟩
                    case rest =>
                      obtain ⟨T, rfl, hT⟩ := hcut
                      obtain ⟨hT1, hT2, hT3⟩ := hT.out
                      have HT : Hid (wc.heap[T]? = some (.cells #[.int .i64 px, .int .i64 py] 64 (0, 0)) ∧ w3.heap.size ≤ T) := ⟨hT2, Nat.le_trans hI.out.2.2.2.size hT3⟩
                      have BC : Hid (Below w3.heap.size w3 wc) := hI.out.2.2.2.trans (hT1.mono hI.out.2.2.2.size)
                      have OC : Hid (m10 = (allR vs i ++ rowR vs i q).length ∧ k = HL + cntR had (allR vs i ++ rowR vs i q) ∧ wc.ownsRow w3.heap.size 115 8 (.slice a10 m10 c10) m10 (rowSd ((allR vs i ++ rowR vs i q).map (sdP D)))) := ⟨hI.out.1, hI.out.2.1, M.owns_ch hI.out.2.2.1 (M.Ch.of_below (X := fun _ => False) hT1) fun _ _ e => e⟩
                      have RS : Hid (allR vs i ++ rowR vs i (q + 1) = (allR vs i ++ rowR vs i q) ++ [(px, py)]) := by show _ = _; rw [rowR_step HX.out.1 HY.out.1, HP.out, List.append_assoc]
                      have t0 := M.cell_whole hT2 0
                      have t1 := M.cell_whole hT2 1
                      simp only [List.getElem?_toArray, List.getElem?_cons_zero, List.getElem?_cons_succ] at t0 t1
                      have HAS : Hid _ := rhas_any wc ah HL ch had px py HAD.out.1 hHL (HAD.out.2.2.under BC.out)
                      clear hT1 hT2 hT3 hT PR BR HP HX HY hI
                      go_wp2_with fail
                      refine Calls.mono HAS.out ?_
                      rintro e w6 ⟨rfl, hb6⟩
                      have B6 : Hid (Below w3.heap.size w3 w6 ∧ w6.heap[T]? = some (.cells #[.int .i64 px, .int .i64 py] 64 (0, 0))) := ⟨BC.out.trans (hb6.mono BC.out.size), (hb6.block T (Array.getElem?_eq_some_iff.1 HT.out.1).1).trans HT.out.1⟩
                      have O6 : Hid (w6.ownsRow w3.heap.size 115 8 (.slice a10 m10 c10) m10 (rowSd ((allR vs i ++ rowR vs i q).map (sdP D)))) := M.owns_ch OC.out.2.2 (M.Ch.of_below (X := fun _ => False) hb6) fun _ _ e => e
                      clear hb6 HAS t0 t1
                      obtain ⟨iv, hiv⟩ : ∃ iv, inQ had (px, py) = iv := ⟨_, rfl⟩
                      have HIV : Hid (inQ had (px, py) = iv) := hiv
                      rw [hiv]
                      clear hiv
                      go_upto_if 81 with fail
                      go_cut [9] (fun v9 wx => v9 = .int .i64 ((k + (if iv = true then 0 else 1) : Nat) : Int) ∧ wx = w6)
                      case first =>
                        cases iv with
                        | true =>
                          go_wp2_with fail
                          go_meet
                          exact ⟨rfl, rfl⟩
                        | false =>
                          go_wp2_with fail
                          go_meet
                          exact ⟨by first | rfl | simp, rfl⟩
                      case rest =>
                        obtain ⟨rfl, rfl⟩ := hcut
                        obtain ⟨k2, hk2⟩ : ∃ k2, k + (if iv = true then 0 else 1) = k2 := ⟨_, rfl⟩
                        have hk2b : k2 ≤ k + 1 := by rw [← hk2]; cases iv <;> simp
                        have HK2 : Hid (k2 = HL + cntR had (allR vs i ++ rowR vs i (q + 1))) := by show _ = _; rw [RS.out, cntR_app, cntR_one, HIV.out, ← hk2, OC.out.2.1]; omega
                        rw [hk2]
                        clear hk2
                        have B7 : Hid (Below w3.heap.size w3 wc.drew ∧ wc.drew.heap[T]? = some (.cells #[.int .i64 px, .int .i64 py] 64 (0, 0))) := ⟨fr_below_drewN B6.out.1 1, B6.out.2⟩
                        have BI : Hid (Below w3.heap.size w3 (wc.drew.alloc (.cells #[.int .i64 D, .bool true, .string ⟨#[]⟩, .bool false, .int .i64 0, .slice none 0 0, .int .i64 px, .int .i64 py] 115))) := B7.out.1.trans ((fr_below_alloc _ _).mono B7.out.1.size)
                        have KI : Hid ((wc.drew.alloc (.cells #[.int .i64 D, .bool true, .string ⟨#[]⟩, .bool false, .int .i64 0, .slice none 0 0, .int .i64 px, .int .i64 py] 115)).heap[T]? = some (.cells #[.int .i64 px, .int .i64 py] 64 (0, 0))) := ((fr_below_alloc wc.drew _).block T (Array.getElem?_eq_some_iff.1 B7.out.2).1).trans B7.out.2
                        have SF : Hid (∀ W : World, Below w3.heap.size w3 W → W.heap[T]? = some (.cells #[.int .i64 px, .int .i64 py] 64 (0, 0)) → W.cell? ⟨P, 8, none⟩ = some (.int .i64 D) ∧ W.cell? ⟨T, 0, none⟩ = some (.int .i64 px) ∧ W.cell? ⟨T, 1, none⟩ = some (.int .i64 py)) := fun W h1 h2 => ⟨D3.out W h1, M.cell_whole h2 0, M.cell_whole h2 1⟩
                        obtain ⟨iM, hiM, iMz, iMs, iMb⟩ := info_parts infoSd
                        obtain ⟨a8, c8, w8, hr8, ho8, hc8, _⟩ := run_append_ch (P := Tryz.prog) (w := wc.drew.alloc (.cells #[.int .i64 D, .bool true, .string ⟨#[]⟩, .bool false, .int .i64 0, .slice none 0 0, .int .i64 px, .int .i64 py] 115)) 110 110 w3.heap.size 115 iM _ 8 88 Tryz.underlying110 hiM iMz iMs iMb rfl (by decide) (.slice a10 m10 c10) m10 (rowSd ((allR vs i ++ rowR vs i q).map (sdP D))) (M.owns_alloc O6.out _) (some ⟨wc.heap.size, 0, none⟩) 1 1 (rowSd [sdP D (px, py)]) rfl (fun j' u hu => ⟨_, rfl, World.news_of_block (cs := #[.int .i64 D, .bool true, .string ⟨#[]⟩, .bool false, .int .i64 0, .slice none 0 0, .int .i64 px, .int .i64 py]) (t := 115) (fr := (0, 0)) (heap_alloc_new wc.drew _) j' u hu⟩) (fun u hu => by
                          simp only [rowSd, sdC, sdP, List.flatMap_cons, List.flatMap_nil, List.append_nil, List.mem_cons, List.not_mem_nil, or_false] at hu
                          rcases hu with rfl | rfl | rfl | rfl | rfl | rfl | rfl | rfl <;> rfl) (by unfold maxLen; omega) (by omega) (by have := BI.out.size; exact this)
                        have R8 : Hid _ := hr8
                        have B8 : Hid (Below w3.heap.size w3 w8) := BI.out.trans (hc8.below BI.out.size fun b e => M.own_ge' O6.out b e)
                        have K8 : Hid (w8.heap[T]? = some (.cells #[.int .i64 px, .int .i64 py] 64 (0, 0))) := (hc8.block T (Array.getElem?_eq_some_iff.1 KI.out).1 fun e => own_ne O6.out B6.out.2 (by decide) e).trans KI.out
                        have HI8 : Hid (m10 + 1 = (allR vs i ++ rowR vs i (q + 1)).length ∧ k2 = HL + cntR had (allR vs i ++ rowR vs i (q + 1)) ∧ w8.ownsRow w3.heap.size 115 8 (.slice a8 (m10 + 1) c8) (m10 + 1) (rowSd ((allR vs i ++ rowR vs i (q + 1)).map (sdP D))) ∧ Below w3.heap.size w3 w8) := ⟨by rw [RS.out, List.length_append, ← OC.out.1]; rfl, HK2.out, by rw [RS.out, List.map_append, rowSd_app]; exact ho8, B8.out⟩
                        clear hr8 ho8 hc8 O6 OC RS HK2 HT HIV B6 BC
                        go_upto_region 26 with fail
                        refine wp_region_held_drew (S := fun w' => w'.cell? ⟨P, 8, none⟩ = some (.int .i64 D) ∧ w'.cell? ⟨T, 0, none⟩ = some (.int .i64 px) ∧ w'.cell? ⟨T, 1, none⟩ = some (.int .i64 py)) (by kernel_rfl) ?_ (fun hHeld => ?_)
                        · exact SF.out _ B7.out.1 B7.out.2
                        refine wpAnyH_take (i := 0) (oi := { dst := some 84, op := Op.move (Operand.tmp 10), type := 110, pos := "ref.go:190", after := #[], guard := none }) (v := ?_) rfl (by kernel_rfl) (by kernel_rfl) (by kernel_rfl) (fun _ _ _ h => h) (Or.inl ⟨by rfl, ?_⟩) hHeld ?_
                        rotate_left
                        · (intro w hSw; (try dsimp only at hSw); go_simp; try with_reducible rfl)
                        try simp only [Act.put, List.setIfInBounds_toArray, List.set_cons_zero, List.set_cons_succ]
                        refine wpAnyH_take (i := 1) (oi := { dst := some 85, op := Op.move (Operand.tmp 0), type := 67, pos := "ref.go:190", after := #[], guard := none }) (v := ?_) rfl (by kernel_rfl) (by kernel_rfl) (by kernel_rfl) (fun _ _ _ h => h) (Or.inl ⟨by rfl, ?_⟩) hHeld ?_
                        rotate_left
                        · (intro w hSw; (try dsimp only at hSw); go_simp; try with_reducible rfl)
                        try simp only [Act.put, List.setIfInBounds_toArray, List.set_cons_zero, List.set_cons_succ]
                        refine wpAnyH_take (i := 2) (oi := { dst := some 86, op := Op.nilCheck (Operand.tmp 85), type := 0, pos := "ref.go:190", after := #[{ on := 1, ground := Ground.data }], guard := none }) (v := ?_) rfl (by kernel_rfl) (by kernel_rfl) (by kernel_rfl) (fun _ _ _ h => h) (Or.inl ⟨by rfl, ?_⟩) hHeld ?_
                        rotate_left
                        · (intro w hSw; (try dsimp only at hSw); go_simp; try with_reducible rfl)
                        try simp only [Act.put, List.setIfInBounds_toArray, List.set_cons_zero, List.set_cons_succ]
                        refine wpAnyH_take (i := 3) (oi := { dst := some 87, op := Op.fieldAddr 112 (Operand.tmp 86) 2, type := 0, pos := "ref.go:190", after := #[{ on := 2, ground := Ground.data }], guard := none }) (v := ?_) rfl (by kernel_rfl) (by kernel_rfl) (by kernel_rfl) (fun _ _ _ h => h) (Or.inl ⟨by rfl, ?_⟩) hHeld ?_
                        rotate_left
                        · (intro w hSw; (try dsimp only at hSw); go_simp; try with_reducible rfl)
                        try simp only [Act.put, List.setIfInBounds_toArray, List.set_cons_zero, List.set_cons_succ]
                        refine wpAnyH_take (i := 4) (oi := { dst := some 88, op := Op.load 3 (Operand.tmp 87), type := 3, pos := "ref.go:190", after := #[{ on := 3, ground := Ground.data }], guard := none }) (v := ?_) rfl (by kernel_rfl) (by kernel_rfl) (by kernel_rfl) (fun _ _ _ h => h) (Or.inl ⟨by rfl, ?_⟩) hHeld ?_
                        rotate_left
                        · (intro w hSw; (try dsimp only at hSw); go_simp; try with_reducible rfl)
                        try simp only [Act.put, List.setIfInBounds_toArray, List.set_cons_zero, List.set_cons_succ]
                        refine wpAnyH_take (i := 5) (oi := { dst := some 89, op := Op.load 64 (Operand.tmp 13), type := 64, pos := "ref.go:190", after := #[], guard := none }) (v := ?_) rfl (by kernel_rfl) (by kernel_rfl) (by kernel_rfl) (fun _ _ _ h => h) (Or.inl ⟨by rfl, ?_⟩) hHeld ?_
                        rotate_left
                        · (intro w hSw; (try dsimp only at hSw); go_simp; try with_reducible rfl)
                        try simp only [Act.put, List.setIfInBounds_toArray, List.set_cons_zero, List.set_cons_succ]
                        refine wpAnyH_take (i := 6) (oi := { dst := some 90, op := Op.build 115 #[(0, Operand.tmp 88), (1, Operand.const (Value.bool true)), (3, Operand.tmp 89)], type := 115, pos := "ref.go:190", after := #[{ on := 4, ground := Ground.data }, { on := 5, ground := Ground.data }], guard := none }) (v := ?_) rfl (by kernel_rfl) (by kernel_rfl) (by kernel_rfl) (fun _ _ _ h => h) (Or.inl ⟨by rfl, ?_⟩) hHeld ?_
                        rotate_left
                        · (intro w hSw; (try dsimp only at hSw); go_simp; try with_reducible rfl)
                        try simp only [Act.put, List.setIfInBounds_toArray, List.set_cons_zero, List.set_cons_succ]
                        refine wpAnyH_ready (rs := [7]) (by kernel_rfl) (by simp) ?_
                        refine AllReadyH.cons (o := { dst := some 91, op := Op.buildSlice 110 1 #[(0, Operand.tmp 90)], type := 110, pos := "ref.go:190", after := #[{ on := 6, ground := Ground.data }], guard := none }) rfl (fun K hK => ?_) AllReadyH.nil
                        go_simp
                        refine hK.out _ _ ?_ (fun hHeld_7 => ?_)
                        · exact SF.out _ BI.out KI.out
                        clear hK K
                        try simp only [Act.put, List.setIfInBounds_toArray, List.set_cons_zero, List.set_cons_succ]
                        refine wpAnyH_ready (rs := [8]) (by kernel_rfl) (by simp) ?_
                        refine AllReadyH.cons (o := { dst := some 92, op := Op.call { callee := Callee.builtin Builtin.append, args := #[Operand.tmp 84, Operand.tmp 91], argTypes := #[110, 110] }, type := 110, pos := "ref.go:190", after := #[{ on := 0, ground := Ground.data }, { on := 7, ground := Ground.data }], guard := none }) rfl (fun K hK => ?_) AllReadyH.nil
                        refine step_append_ran (w := wc.drew.alloc (.cells #[.int .i64 D, .bool true, .string ⟨#[]⟩, .bool false, .int .i64 0, .slice none 0 0, .int .i64 px, .int .i64 py] 115)) rfl _ _ 110 rfl _ _ _ _ (by rfl) (by rfl) R8.out ?_
                        refine hK.out _ _ ?_ (fun hHeld_8 => ?_)
                        · exact SF.out _ B8.out K8.out
                        clear hK K
                        try simp only [Act.put, List.setIfInBounds_toArray, List.set_cons_zero, List.set_cons_succ]
                        refine wpAnyH_take (i := 9) (oi := { dst := some 10, op := Op.assign (Operand.tmp 92), type := 110, pos := "ref.go:190", after := #[{ on := 8, ground := Ground.data }, { on := 8, ground := Ground.chain }, { on := 0, ground := Ground.phase }, { on := 1, ground := Ground.phase }, { on := 2, ground := Ground.phase }, { on := 3, ground := Ground.phase }, { on := 4, ground := Ground.phase }, { on := 5, ground := Ground.phase }, { on := 6, ground := Ground.phase }, { on := 7, ground := Ground.phase }, { on := 8, ground := Ground.phase }], guard := none }) (v := ?_) rfl (by kernel_rfl) (by kernel_rfl) (by kernel_rfl) (fun _ _ _ h => h) (Or.inl ⟨by rfl, ?_⟩) hHeld_8 ?_
                        rotate_left
                        · (intro w hSw; (try dsimp only at hSw); go_simp; try with_reducible rfl)
                        try simp only [Act.put, List.setIfInBounds_toArray, List.set_cons_zero, List.set_cons_succ]
                        refine wpAnyH_done (by kernel_rfl) ?_ _
                        clear SF BI KI B7
                        go_wp2
                        exact ⟨⟨q + 1, k2, m10 + 1, c8, a8, by omega, by omega, by omega, rfl, rfl, by go_num, HI8.out⟩, by simp [intOf]; omega⟩
                  · have n3 : ¬ (q : Int) < (i : Int) := by omega
                    have hqi : q = i := by omega
                    have HI2 : Hid (m10 = (allR vs (i + 1)).length ∧ k = HL + cntR had (allR vs (i + 1)) ∧ wr.ownsRow w3.heap.size 115 8 (.slice a10 m10 c10) m10 (rowSd ((allR vs (i + 1)).map (sdP D))) ∧ Below w3.heap.size w3 wr) := by rw [← hqi] at hI ⊢; exact hI.out
                    clear hI
                    go_wp2
                    exact ⟨⟨i + 1, k, m10, c10, a10, by omega, by rw [Nat.add_mul, Nat.mul_add]; omega, by rw [Nat.add_mul, Nat.mul_add]; omega, rfl, rfl, by go_num, HI2.out⟩, by simp [intOf]; omega⟩
              · have n2 : ¬ (k : Int) ≤ 256 := by omega
                have n3 : 256 < (k : Int) := by omega
                have FIN : Hid (RfDist O w P xs D vs (.returned (.int .i64 22)) wr) := by
                  have hb : Below w.heap.size w wr := B3.out.trans (hI.out.2.2.2.mono B3.out.size)
                  have h1 := allR_mono had vs (i := i) (j := vs.length) (by rw [HA.out.2.1]; exact hi)
                  have h2 := hI.out.2.1
                  exact ⟨22, rfl, M.Ch.of_below hb, .inr (.inr ⟨AV.out, ND.out, had, HAD.out.2.1, .inl ⟨by rw [HAD.out.1]; omega, rfl, (HS.out.same hb).1⟩⟩)⟩
                clear hI hk hm hkb hmb hk6
                go_wp2
                go_ret
                exact FIN.out
            · have n1 : ¬ (i : Int) < (n : Int) := by omega
              have hin : i = n := by omega
              subst hin
              have hb : Below w.heap.size w wr := B3.out.trans (hI.out.2.2.2.mono B3.out.size)
              by_cases hk6 : k ≤ 256
              · have n2 : (k : Int) ≤ 256 := by omega
                have n3 : ¬ 256 < (k : Int) := by omega
                obtain ⟨i1, i2, i3, i4⟩ := hI.out
                obtain ⟨a9, c9, w9, hr9, hx9, hO9, hC9⟩ := HS.out.lay hb ((allR vs i).map (sdP D)) a10 c10 (by rw [List.length_map, ← i1]; omega) (fun j u hu => by
                  obtain ⟨g9, ea, hcell⟩ : ∃ g9, a10 = some ⟨g9, 0, none⟩ ∧ wr.cell? ⟨g9, j, none⟩ = some u := by
                    obtain ⟨a', c', e, _, h0⟩ := M.own_cell i3
                    simp only [Value.slice.injEq] at e
                    obtain ⟨e1, _, _⟩ := e
                    rw [e1]
                    exact h0 j u hu
                  exact ⟨_, ea, by rw [Addr.add_lit, Nat.zero_add]; exact hcell⟩) (fun z hz => by
                  obtain ⟨p, _, rfl⟩ := List.mem_map.1 hz
                  exact ⟨World.ownsRow_nil _ _ _ _, fun g e => (by cases e), fun e => by cases e⟩)
                rw [List.length_map, ← i1] at hr9 hO9 hC9
                have R9 : Hid _ := hr9
                have x7 : wr.cell? ⟨P, 7, none⟩ = some vL := M.cell_whole (HS.out.below hb).box 7
                have x8 : wr.cell? ⟨P, 8, none⟩ = some (.int .i64 D) := M.cell_whole (HS.out.below hb).box 8
                have y7 : w9.cell? ⟨P, 7, none⟩ = some vL := M.cell_whole hx9 7
                have f7 : w9.frozen? ⟨P, 7, none⟩ = false := by simp [World.frozen?, hx9]
                have FIN : Hid (RfDist O w P xs D vs (.returned (.int .i64 0)) (w9.setCell ⟨P, 7, none⟩ (.slice a9 (xs.length + m10) c9))) := ⟨0, rfl, hC9, .inr (.inr ⟨AV.out, ND.out, had, HAD.out.2.1, .inr ⟨by rw [HAD.out.1, HA.out.2.1, ← i2]; exact hk6, rfl, by rw [HA.out.2.1]; exact hO9⟩⟩)⟩
                clear hr9 hx9 hO9 hC9 i1 i2 i3 i4 hI hk hm hkb hmb hk6 hb
                go_wp2_with (at_builtin; refine M.wpList_append_run rfl _ _ 110 rfl _ _ _ _ (by rfl) (by rfl) R9.out ?_)
                go_ret
                exact FIN.out
              · have n2 : ¬ (k : Int) ≤ 256 := by omega
                have n3 : 256 < (k : Int) := by omega
                have FIN : Hid (RfDist O w P xs D vs (.returned (.int .i64 22)) wr) := by
                  have h2 := hI.out.2.1
                  exact ⟨22, rfl, M.Ch.of_below hb, .inr (.inr ⟨AV.out, ND.out, had, HAD.out.2.1, .inl ⟨by rw [HAD.out.1, HA.out.2.1]; omega, rfl, (HS.out.same hb).1⟩⟩)⟩
                clear hI hk hm hkb hmb hk6 hb
                go_wp2
                go_ret
                exact FIN.out
end Go.Proofs.YtkejjiilcoacfaaGreat

namespace Go.Proofs.YtkejjiilcoacfaaGreat
open Go.Maps Go.RowKit Go.WideMaps

def hypsR (xs : List Sd) : List Hy := (xs.filter (!·.pd)).map (·.h)
theorem hypsR_in {xs : List Sd} {j : Nat} {x : Sd} (hx : xs[j]? = some x) (h : x.pd = false) : hypsR (xs.take (j + 1)) = hypsR (xs.take j) ++ [x.h] := by
  unfold hypsR
  rw [List.take_add_one, hx, List.filter_append, List.map_append]
  simp [h]
theorem hypsR_out {xs : List Sd} {j : Nat} {x : Sd} (hx : xs[j]? = some x) (h : x.pd = true) : hypsR (xs.take (j + 1)) = hypsR (xs.take j) := by
  unfold hypsR
  rw [List.take_add_one, hx, List.filter_append, List.map_append]
  simp [h]
theorem hypsR_len (xs : List Sd) (j : Nat) : (hypsR (xs.take j)).length ≤ j := by unfold hypsR; rw [List.length_map]; exact Nat.le_trans (List.length_filter_le _ _) (by rw [List.length_take]; omega)
theorem rhys_of {W : World} {N : Nat} {a : Option Addr} {n c : Nat} {ts : List HyC} (h : W.ownsRow N 61 4 (.slice a n c) n (rowHy ts)) (he : ∀ y ∈ ts, W.ownsRow 0 3 1 y.ve y.h.ex.length (rowN y.h.ex)) (hl : ts.length = n) : HysAt W a ts := fun i y hi => by
  have hlt := (List.getElem?_eq_some_iff.1 hi).1
  obtain ⟨g, c', e, _, _, _⟩ := M.own_some h (by omega)
  cases e
  obtain ⟨h0, h1, h2, h3⟩ := row_hy h i y hi
  obtain ⟨a', c', e, _, h4⟩ := own_ns (he y (List.mem_of_getElem? hi))
  exact ⟨g, rfl, h0, h1, h2, a', c', by rw [← e]; exact h3, h4, e⟩
/-- What Scope has told so far. -/
structure ScI (w W : World) (T2 T3 : Nat) (a ap : Option Addr) (m c np cp : Nat) (ps : List Pp) (hs : List Hy) (ts : List HyC) : Prop where
  zl : ts.length = m
  zh : ts.map (·.h) = hs
  zr : W.ownsRow (T3 + 1) 61 4 (.slice a m c) m (rowHy ts)
  ze : ∀ y ∈ ts, W.ownsRow 0 3 1 y.ve y.h.ex.length (rowN y.h.ex)
  z2 : W.heap[T2]? = some (.cells #[.slice none 0 0, .slice none 0 0] 37 (0, 0))
  z3 : W.heap[T3]? = some (.cells #[.slice a m c, .slice ap np cp] 37 (0, 0))
  zp : W.ownsRow 0 64 2 (.slice ap np cp) np (rowQ ps)
  zt : T2 < T3
  zw : w.heap.size ≤ T2
  zb : Below w.heap.size w W
theorem ScI.below {w W W' : World} {T2 T3 : Nat} {a ap : Option Addr} {m c np cp : Nat} {ps : List Pp} {hs : List Hy} {ts : List HyC} (h : ScI w W T2 T3 a ap m c np cp ps hs ts) (hb : Below W.heap.size W W') : ScI w W' T2 T3 a ap m c np cp ps hs ts :=
  have hc := M.Ch.of_below (X := fun _ => False) hb
  ⟨h.zl, h.zh, M.owns_ch h.zr hc fun _ _ e => e, fun y hy => M.owns_ch (h.ze y hy) hc fun _ _ e => e, (hb.block T2 (Array.getElem?_eq_some_iff.1 h.z2).1).trans h.z2, (hb.block T3 (Array.getElem?_eq_some_iff.1 h.z3).1).trans h.z3, M.owns_ch h.zp hc fun _ _ e => e, h.zt, h.zw, h.zb.trans (hb.mono h.zb.size)⟩
/-- Only a block that is new since turns. -/
theorem ScI.new {w W W' : World} {T2 T3 B : Nat} {a ap : Option Addr} {m c np cp : Nat} {ps : List Pp} {hs : List Hy} {ts : List HyC} (h : ScI w W T2 T3 a ap m c np cp ps hs ts) {X : Nat → Prop} (hc : M.Ch X W W') (hB : ∀ g, X g → B ≤ g) (h3 : T3 < B) (hr : ∀ g, (Value.slice a m c).ownBlock = some g → g < B) (he : ∀ y ∈ ts, ∀ g, y.ve.ownBlock = some g → g < B) (hp : ∀ g, (Value.slice ap np cp).ownBlock = some g → g < B) : ScI w W' T2 T3 a ap m c np cp ps hs ts := by
  have zt := h.zt
  have zw := h.zw
  have no : ∀ g, g < B → ¬ X g := fun g h1 h2 => by have := hB g h2; omega
  exact ⟨h.zl, h.zh, M.owns_ch h.zr hc fun g e => no g (hr g e), fun y hy => M.owns_ch (h.ze y hy) hc fun g e => no g (he y hy g e), (hc.block T2 (Array.getElem?_eq_some_iff.1 h.z2).1 (no T2 (by omega))).trans h.z2, (hc.block T3 (Array.getElem?_eq_some_iff.1 h.z3).1 (no T3 h3)).trans h.z3, M.owns_ch h.zp hc fun g e => no g (hp g e), zt, zw, h.zb.trans (hc.below h.zb.size fun g e => by have := hB g e; omega)⟩
/-- A hypothesis more. -/
theorem ScI.more {w W : World} {T2 T3 : Nat} {a ap : Option Addr} {m c np cp : Nat} {ps : List Pp} {hs : List Hy} {ts : List HyC} (h : ScI w W T2 T3 a ap m c np cp ps hs ts) (y : Hy) (a9 : Option Addr) (c9 : Nat) (hy : W.ownsRow 0 3 1 (.slice a9 y.ex.length c9) y.ex.length (rowN y.ex)) (hm : m ≤ 1000000000) :
    ∃ a8 c8 W8, (Builtin.append_ #[34, 34] 34 #[.slice a m c, .slice (some ⟨W.heap.size, 0, none⟩) 1 1]).run Tryz.prog (W.alloc (.cells #[.string y.lab, .bool y.fl, .int .i64 y.var, .slice a9 y.ex.length c9] 61)) = .ok (.slice a8 (m + 1) c8) W8 ∧ W8.heap[T3]? = some (.cells #[.slice a m c, .slice ap np cp] 37 (0, 0)) ∧
      ScI w (W8.setCell ⟨T3, 0, none⟩ (.slice a8 (m + 1) c8)) T2 T3 a8 ap (m + 1) c8 np cp ps (hs ++ [y]) (ts ++ [⟨y, .slice a9 y.ex.length c9⟩]) := by
  obtain ⟨iM, hiM, iMz, iMs, iMb⟩ := info_parts infoHy
  have hb := fr_below_alloc W (.cells #[.string y.lab, .bool y.fl, .int .i64 y.var, .slice a9 y.ex.length c9] 61)
  have h1 := h.below hb
  have kA := heap_alloc_new W (.cells #[.string y.lab, .bool y.fl, .int .i64 y.var, .slice a9 y.ex.length c9] 61)
  have hy1 := M.owns_ch hy (M.Ch.of_below (X := fun _ => False) hb) fun _ _ e => e
  have t3 := (Array.getElem?_eq_some_iff.1 h.z3).1
  have sb := hb.size
  obtain ⟨a8, c8, W8, hr8, ho8, hc8, hat8⟩ := run_append_ch (P := Tryz.prog) (w := W.alloc (.cells #[.string y.lab, .bool y.fl, .int .i64 y.var, .slice a9 y.ex.length c9] 61)) 34 34 (T3 + 1) 61 iM _ 4 56 Tryz.underlying34 hiM iMz iMs iMb rfl (by decide) (.slice a m c) m (rowHy ts) h1.zr (some ⟨W.heap.size, 0, none⟩) 1 1 (rowHy [⟨y, .slice a9 y.ex.length c9⟩]) rfl (fun j' u hu => ⟨_, rfl, World.news_of_block (cs := #[.string y.lab, .bool y.fl, .int .i64 y.var, .slice a9 y.ex.length c9]) (t := 61) (fr := (0, 0)) kA j' u hu⟩) (fun u hu => by
    simp only [rowHy, hyC, List.flatMap_cons, List.flatMap_nil, List.append_nil, List.mem_cons, List.not_mem_nil, or_false] at hu
    rcases hu with rfl | rfl | rfl | rfl <;> rfl) (by unfold maxLen; omega) (by omega) (by omega)
  have z3 := (hc8.block T3 (by omega) fun e => own_ne h1.zr h1.z3 (by decide) e).trans h1.z3
  have z2 := (hc8.block T2 (by have := h.zt; omega) fun e => own_ne h1.zr h1.z2 (by decide) e).trans h1.z2
  have hs := M.ch_set W8 T3 0 (.slice a8 (m + 1) c8)
  refine ⟨a8, c8, W8, hr8, z3, ⟨by rw [List.length_append, h.zl]; rfl, by rw [List.map_append, h.zh]; rfl, ?_, fun z hz => ?_, ?_, M.heap_set_same z3, ?_, h.zt, h.zw, ?_⟩⟩
  · rw [rowHy_append]
    exact M.owns_ch ho8 hs fun b e e2 => own_ne ho8 z3 (by decide) (by rw [e, e2])
  · rcases List.mem_append.1 hz with hz | hz
    · exact M.owns_ch (M.owns_ch (h1.ze z hz) hc8 fun b e e2 => own_apart (h1.ze z hz) h1.zr (by decide) b e e2) hs fun b e e2 => own_ne (h1.ze z hz) h1.z3 (by decide) (by rw [e, e2])
    · have e : z = ⟨y, .slice a9 y.ex.length c9⟩ := by simpa using hz
      subst e
      exact M.owns_ch (M.owns_ch hy1 hc8 fun b e e2 => own_apart hy1 h1.zr (by decide) b e e2) hs fun b e e2 => own_ne hy1 h1.z3 (by decide) (by rw [e, e2])
  · exact (hs.block T2 (Array.getElem?_eq_some_iff.1 z2).1 (by have := h.zt; omega)).trans z2
  · exact M.owns_ch (M.owns_ch h1.zp hc8 fun b e e2 => own_apart h1.zp h1.zr (by decide) b e e2) hs fun b e e2 => own_ne h1.zp h1.z3 (by decide) (by rw [e, e2])
  · have zt := h.zt
    have zw := h.zw
    have hcs := hc8.size
    have hzb := h1.zb.size
    exact (h1.zb.trans (hc8.below hzb fun b e => by have := M.own_ge' h1.zr b e; omega)).trans (hs.below (by omega) fun b e => by omega)
end Go.Proofs.YtkejjiilcoacfaaGreat

namespace Go.Proofs.YtkejjiilcoacfaaGreat
open Go.Maps Go.RowKit Go.WideMaps

/-- All that is active, told by the document. -/
structure RScope (W : World) (xs : List Sd) (a p : Option Addr) (n k : Nat) (ts : List HyC) (m : List Pp) : Prop where
  zn : ts.length = n
  zk : m.length = k
  zh : ts.map (·.h) = hypsR xs
  zm : Sorted2 (apR xs) m
  ha : HysAt W a ts
  hp : PairsAt W p m
theorem RScope.under {W W' : World} {xs : List Sd} {a p : Option Addr} {n k : Nat} {ts : List HyC} {m : List Pp} (h : RScope W xs a p n k ts m) (hb : Below W.heap.size W W') : RScope W' xs a p n k ts m := ⟨h.zn, h.zk, h.zh, h.zm, h.ha.under hb, h.hp.under hb⟩
def RScopePost (w : World) (xs : List Sd) (e : Ending) (w' : World) : Prop := Below w.heap.size w w' ∧ ∃ a n c p k d ts m, e = .returned (.agg #[.slice a n c, .slice p k d]) ∧ RScope w' xs a p n k ts m
set_option maxRecDepth 100000 in
set_option maxHeartbeats 16000000 in
theorem rscope_any (w : World) (O : Nat → Prop) (P : Nat) (xs : List Sd) (D : Nat) (h : RfO O w P xs D) (hn : xs.length ≤ 1000000000) (hex : ∀ x ∈ xs, x.h.ex.length ≤ 17592186043904) :
    Calls Tryz.prog 32 #[.pointer (some ⟨P, 0, none⟩)] w (RScopePost w xs) := by
  obtain ⟨vL, h⟩ := h
  obtain ⟨a, c, rfl, _⟩ := own_shape h.row
  obtain ⟨n, hl⟩ : ∃ n, xs.length = n := ⟨_, rfl⟩
  rw [hl] at hn h
  have HL : Hid (xs.length = n ∧ ∀ x ∈ xs, x.h.ex.length ≤ 17592186043904) := ⟨hl, hex⟩
  have HS : Hid (RfAt O w P (.slice a n c) xs D) := h
  clear h hex
  obtain ⟨T2, hT2⟩ : ∃ T2, w.heap.size = T2 := ⟨_, rfl⟩
  obtain ⟨w1, hw1⟩ : ∃ w1, w1 = w.alloc (.cells #[.slice none 0 0, .slice none 0 0] 37) := ⟨_, rfl⟩
  have HW1 : Hid (w1 = w.alloc (.cells #[.slice none 0 0, .slice none 0 0] 37) ∧ w.heap.size = T2) := ⟨hw1, hT2⟩
  have B1 : Hid (Below w.heap.size w w1) := by rw [hw1]; exact fr_below_alloc _ _
  have K1 : Hid (w1.heap[T2]? = some (.cells #[.slice none 0 0, .slice none 0 0] 37 (0, 0))) := by rw [hw1, ← hT2]; exact heap_alloc_new w _
  have PRS : Hid _ := rpairs_any w1 O P xs D ⟨_, HS.out.below B1.out⟩ (by rw [hl]; exact hn)
  clear hw1 hl hT2
  go_enter Tryz.func32, Tryz.ntmps32
  go_upto_region 1 with fail
  rw [← HW1.out.1, HW1.out.2]
  go_wp2_with fail
  refine Calls.mono PRS.out ?_
  rintro e w2 ⟨ap, np, cp, ps, rfl, hh1, hh2, hh3, hh4, hh5⟩
  obtain ⟨w3, hw3⟩ : ∃ w3, w3 = w2.alloc (.cells #[.slice none 0 0, .slice ap np cp] 37) := ⟨_, rfl⟩
  obtain ⟨T3, hT3⟩ : ∃ T3, w2.heap.size = T3 := ⟨_, rfl⟩
  have HW3 : Hid (w3 = w2.alloc (.cells #[.slice none 0 0, .slice ap np cp] 37) ∧ w2.heap.size = T3) := ⟨hw3, hT3⟩
  have b3 : Below w2.heap.size w2 w3 := by rw [hw3]; exact fr_below_alloc _ _
  have PS : Hid (ps.length = np ∧ Sorted2 (apR xs) ps) := ⟨hh1, hh3⟩
  have I3 : Hid (ScI w w3 T2 T3 none ap 0 0 np cp ps [] []) := ⟨rfl, rfl, World.ownsRow_nil _ _ _ _, (fun y hy => by cases hy), (b3.block T2 (by have := (Array.getElem?_eq_some_iff.1 K1.out).1; have := hh5.size; omega)).trans ((hh5.block T2 (Array.getElem?_eq_some_iff.1 K1.out).1).trans K1.out), by rw [hw3, ← hT3]; exact heap_alloc_new w2 _, M.owns_ch (M.owns_mono hh4 (Nat.zero_le _)) (M.Ch.of_below (X := fun _ => False) b3) fun _ _ e => e, by have := (Array.getElem?_eq_some_iff.1 K1.out).1; have := hh5.size; omega, by have := HW1.out.2; omega, B1.out.trans ((hh5.mono B1.out.size).trans (b3.mono (Nat.le_trans B1.out.size hh5.size)))⟩
  clear hw3 hT3 b3 hh1 hh2 hh3 hh4 hh5 PRS K1 B1 HW1
  go_upto_region 2 with fail
  rw [← HW3.out.1, HW3.out.2]
  clear HW3
  go_wp2_with fail
  go_loopw [4] (fun v4 wx => ∃ j : Nat, j ≤ n ∧ v4 = .int .i64 j ∧ Hid (∃ a8 m8 c8 ts, m8 ≤ j ∧ ScI w wx T2 T3 a8 ap m8 c8 np cp ps (hypsR (xs.take j)) ts)) (fun v4 _ => n - (intOf v4).toNat)
  case atStart => exact ⟨0, Nat.zero_le _, rfl, none, 0, 0, [], Nat.le_refl _, I3.out⟩
  case round =>
    clear I3
    obtain ⟨j, hj, rfl, hI⟩ := hrel
    obtain ⟨a8, m8, c8, ts, hm8, hi⟩ := hI.out
    have HI : Hid (ScI w wr T2 T3 a8 ap m8 c8 np cp ps (hypsR (xs.take j)) ts) := hi
    have hS := HS.out.below hi.zb
    obtain ⟨_, _, _, _, _, _, _, x7, _⟩ := hS.cells
    clear hI hi
    by_cases hlt : j < n
    · have n1 : (j : Int) < (n : Int) := by omega
      obtain ⟨x, hx⟩ : ∃ x, xs[j]? = some x := ⟨_, List.getElem?_eq_getElem (by rw [HL.out.1]; exact hlt)⟩
      have hrow := hS.row
      rw [HL.out.1] at hrow
      obtain ⟨g, c', e, _, _, _⟩ := M.own_some hrow (by omega)
      cases e
      obtain ⟨y0, y1, y2, y3, y4, y5, y6, y7⟩ := row_sd hrow j x hx
      have HX : Hid (xs[j]? = some x) := hx
      have hok := hS.each x (List.mem_of_getElem? hx)
      obtain ⟨al, cl, el, _, hns⟩ := own_ns hok.e
      have NS : Hid (NsAt wr al x.h.ex ∧ x.h.ex.length ≤ 17592186043904) := ⟨hns, HL.out.2 x (List.mem_of_getElem? hx)⟩
      clear hx hrow hS y0 y6 y7 hok hns
      cases hpd : x.pd with
      | true =>
        rw [hpd] at y1
        have HI2 : Hid (∃ a8 m8 c8 ts, m8 ≤ j + 1 ∧ ScI w wr T2 T3 a8 ap m8 c8 np cp ps (hypsR (xs.take (j + 1))) ts) := ⟨a8, m8, c8, ts, by omega, by rw [hypsR_out HX.out hpd]; exact HI.out⟩
        clear hpd el
        go_wp2
        exact ⟨⟨j + 1, by omega, by go_num, HI2.out⟩, by simp [intOf]; omega⟩
      | false =>
        rw [hpd] at y1
        rw [el] at y5
        have HPD : Hid (x.pd = false) := hpd
        obtain ⟨ne, hne⟩ : ∃ ne, x.h.ex.length = ne := ⟨_, rfl⟩
        have HNE : Hid (x.h.ex.length = ne) := hne
        rw [hne] at y5
        clear hpd el hne
        obtain ⟨w4, hw4⟩ : ∃ w4, w4 = wr.alloc (.cells #[.string x.h.lab, .bool x.h.fl, .int .i64 x.h.var, .slice al ne cl] 61) := ⟨_, rfl⟩
        obtain ⟨T5, hT5⟩ : ∃ T5, wr.heap.size = T5 := ⟨_, rfl⟩
        have HW4 : Hid (w4 = wr.alloc (.cells #[.string x.h.lab, .bool x.h.fl, .int .i64 x.h.var, .slice al ne cl] 61) ∧ wr.heap.size = T5) := ⟨hw4, hT5⟩
        have b4 : Below wr.heap.size wr w4 := by rw [hw4]; exact fr_below_alloc _ _
        have K4 : Hid (w4.heap[T5]? = some (.cells #[.string x.h.lab, .bool x.h.fl, .int .i64 x.h.var, .slice al ne cl] 61 (0, 0)) ∧ w4.heap.size = T5 + 1) := ⟨by rw [hw4, ← hT5]; exact heap_alloc_new wr _, by rw [hw4, al_size, hT5]⟩
        have I4 : Hid (ScI w w4 T2 T3 a8 ap m8 c8 np cp ps (hypsR (xs.take j)) ts) := HI.out.below b4
        have LT : Hid (T3 < T5 ∧ (∀ g, (Value.slice a8 m8 c8).ownBlock = some g → g < T5) ∧ (∀ y ∈ ts, ∀ g, y.ve.ownBlock = some g → g < T5) ∧ ∀ g, (Value.slice ap np cp).ownBlock = some g → g < T5) := by
          rw [← hT5]
          exact ⟨(Array.getElem?_eq_some_iff.1 HI.out.z3).1, fun g e => M.own_lt HI.out.zr g e, fun y hy g e => M.own_lt (HI.out.ze y hy) g e, fun g e => M.own_lt HI.out.zp g e⟩
        have OWN : Hid _ := rown_any w4 al ne cl x.h.ex HNE.out (by rw [← HNE.out]; exact NS.out.2) (NS.out.1.under b4)
        have z0 := M.cell_whole K4.out.1 0
        have z1 := M.cell_whole K4.out.1 1
        have z2 := M.cell_whole K4.out.1 2
        have z3 := M.cell_whole K4.out.1 3
        simp only [List.getElem?_toArray, List.getElem?_cons_zero, List.getElem?_cons_succ] at z0 z1 z2 z3
        clear hw4 hT5 b4 HI
        go_upto_region 7 with fail
        rw [← HW4.out.1, HW4.out.2]
        clear HW4 y1 y2 y3 y4 y5 x7
        go_wp2_with fail
        refine Calls.mono OWN.out ?_
        rintro e w5 ⟨v9, rfl, ho5, hb5⟩
        rw [HNE.out] at ho5
        obtain ⟨a9, c9, rfl, _⟩ := own_shape ho5
        have k5 := (hb5.block T5 (by have := K4.out.2; omega)).trans K4.out.1
        have d5 : w5.cell? ⟨T5, 3, none⟩ = some (.slice al ne cl) := M.cell_whole k5 3
        have f5 : w5.frozen? ⟨T5, 3, none⟩ = false := by simp [World.frozen?, k5]
        obtain ⟨w6, hw6⟩ : ∃ w6, w6 = w5.setCell ⟨T5, 3, none⟩ (.slice a9 ne c9) := ⟨_, rfl⟩
        have HW6 : Hid (w6 = w5.setCell ⟨T5, 3, none⟩ (.slice a9 ne c9)) := hw6
        have hc6 : M.Ch (fun b => b = T5) w5 w6 := by rw [hw6]; exact M.ch_set _ _ _ _
        have K6 : Hid (w6.heap[T5]? = some (.cells #[.string x.h.lab, .bool x.h.fl, .int .i64 x.h.var, .slice a9 ne c9] 61 (0, 0))) := by rw [hw6]; exact M.heap_set_same k5
        have I6 : Hid (ScI w w6 T2 T3 a8 ap m8 c8 np cp ps (hypsR (xs.take j)) ts) := (I4.out.below hb5).new hc6 (fun g e => Nat.le_of_eq e.symm) LT.out.1 LT.out.2.1 LT.out.2.2.1 LT.out.2.2.2
        have O6 : Hid (w6.ownsRow 0 3 1 (.slice a9 ne c9) ne (rowN x.h.ex)) := M.owns_mono (M.owns_ch ho5 hc6 fun b e e2 => own_ne ho5 k5 (by decide) (by rw [e, e2])) (Nat.zero_le _)
        obtain ⟨a10, c10, w8, hr8, hk8, hi8⟩ := I6.out.more x.h a9 c9 (by rw [HNE.out]; exact O6.out) (by omega)
        rw [HNE.out] at hr8
        have R8 : Hid _ := hr8
        have HI3 : Hid (∃ a m c ts, m ≤ j + 1 ∧ ScI w (w8.setCell ⟨T3, 0, none⟩ (.slice a10 (m8 + 1) c10)) T2 T3 a ap m c np cp ps (hypsR (xs.take (j + 1))) ts) := ⟨a10, m8 + 1, c10, _, by omega, by rw [hypsR_in HX.out HPD.out]; exact hi8⟩
        have K8 : Hid (w8.heap[T3]? = some (.cells #[.slice a8 m8 c8, .slice ap np cp] 37 (0, 0))) := hk8
        clear hw6 hc6 k5 hr8 hk8 hi8 ho5 hb5 OWN I4
        go_upto_region 8 with fail
        rw [← HW6.out]
        clear HW6 z0 z1 z2 z3 d5 f5
        have z0 := M.cell_whole K6.out 0
        have z1 := M.cell_whole K6.out 1
        have z2 := M.cell_whole K6.out 2
        have z3 := M.cell_whole K6.out 3
        have z4 := M.cell_whole I6.out.z3 0
        have z5 := M.cell_whole K8.out 0
        simp only [List.getElem?_toArray, List.getElem?_cons_zero, List.getElem?_cons_succ] at z0 z1 z2 z3 z4 z5
        have f8 : w8.frozen? ⟨T3, 0, none⟩ = false := by simp [World.frozen?, K8.out]
        go_wp2_with (at_builtin; refine M.wpList_append_run rfl _ _ 34 rfl _ _ _ _ (by rfl) (by rfl) R8.out ?_)
        exact ⟨⟨j + 1, by omega, by go_num, HI3.out⟩, by simp [intOf]; omega⟩
    · have n1 : ¬ (j : Int) < (n : Int) := by omega
      have z4 := M.cell_whole HI.out.z3 0
      have z5 := M.cell_whole HI.out.z3 1
      have z6 := M.cell_whole HI.out.z2 0
      have z7 := M.cell_whole HI.out.z2 1
      simp only [List.getElem?_toArray, List.getElem?_cons_zero, List.getElem?_cons_succ] at z4 z5 z6 z7
      have f6 : wr.frozen? ⟨T2, 0, none⟩ = false := by simp [World.frozen?, HI.out.z2]
      have f7 : wr.frozen? ⟨T2, 1, none⟩ = false := by simp [World.frozen?, HI.out.z2]
      obtain ⟨wF, hwF⟩ : ∃ wF, wF = (wr.setCell ⟨T2, 0, none⟩ (.slice a8 m8 c8)).setCell ⟨T2, 1, none⟩ (.slice ap np cp) := ⟨_, rfl⟩
      have HWF : Hid (wF = (wr.setCell ⟨T2, 0, none⟩ (.slice a8 m8 c8)).setCell ⟨T2, 1, none⟩ (.slice ap np cp)) := hwF
      have hcF : M.Ch (fun b => b = T2) wr wF := by rw [hwF]; exact (M.ch_set wr T2 0 _).trans (M.ch_set _ T2 1 _)
      have kF : wF.heap[T2]? = some (.cells #[.slice a8 m8 c8, .slice ap np cp] 37 (0, 0)) := by rw [hwF]; exact M.heap_set_same (M.heap_set_same HI.out.z2)
      have q0 : wF.cell? ⟨T2, 0, none⟩ = some (.slice a8 m8 c8) := M.cell_whole kF 0
      have q1 : wF.cell? ⟨T2, 1, none⟩ = some (.slice ap np cp) := M.cell_whole kF 1
      have FIN : Hid (RScopePost w xs (.returned (.agg #[.slice a8 m8 c8, .slice ap np cp])) wF) := by
        have hi := HI.out
        have zh := hi.zh
        rw [List.take_of_length_le (by rw [HL.out.1]; omega)] at zh
        refine ⟨hi.zb.trans (hcF.below hi.zb.size fun b e => by have := hi.zw; omega), a8, m8, c8, ap, np, cp, ts, ps, rfl, hi.zl, PS.out.1, zh, PS.out.2, ?_, ?_⟩
        · exact rhys_of (M.owns_ch hi.zr hcF fun b e e2 => own_ne hi.zr hi.z2 (by decide) (by rw [e, e2])) (fun y hy => M.owns_ch (hi.ze y hy) hcF fun b e e2 => own_ne (hi.ze y hy) hi.z2 (by decide) (by rw [e, e2])) hi.zl
        · exact own_pairs (M.owns_ch hi.zp hcF fun b e e2 => own_ne hi.zp hi.z2 (by decide) (by rw [e, e2]))
      clear hS hwF hcF kF HI
      go_wp2_with fail
      rw [← HWF.out]
      clear HWF
      refine bodyPost_ret (by simp [results, Tryz.results32, go_sem, q0, q1]; try rfl) rfl ?_
      exact FIN.out
end Go.Proofs.YtkejjiilcoacfaaGreat

namespace Go.Proofs.YtkejjiilcoacfaaGreat
open Go.Maps Go.RowKit Go.WideMaps

def essF (v : Int) (h : Hy) : Bool := !h.fl && h.ex.contains v
theorem wanted_or (hs : List Hy) (goal : List Int) (v : Int) : wantedF hs goal v = (goal.contains v || hs.any (essF v)) := by
  unfold wantedF essF
  rw [Bool.or_comm]
set_option maxRecDepth 100000 in
set_option maxHeartbeats 8000000 in
theorem rneeded_any (w : World) (a b : Option Addr) (n c m d : Nat) (ts : List HyC) (goal : List Int) (v : Int) (hl : ts.length = n) (hn : n ≤ 1000000000) (he : ∀ y ∈ ts, y.h.ex.length ≤ 17592186044416) (hg : goal.length = m) (hm : m ≤ 17592186044416) (hA : HysAt w a ts) (hB : NsAt w b goal) :
    Calls Tryz.prog 90 #[.int .i64 v, .slice b m d, .slice a n c] w fun e w' => e = .returned (.bool (wantedF (ts.map (·.h)) goal v)) ∧ w' = w := by
  have HO : Hid _ := rholds_any w b m d goal v hg hm hB
  have HA : Hid (HysAt w a ts ∧ ts.length = n ∧ ∀ y ∈ ts, y.h.ex.length ≤ 17592186044416) := ⟨hA, hl, he⟩
  clear hA hB hl he hg hm
  cases hc : hasN goal v with
  | true =>
    have HR : Hid (wantedF (ts.map (·.h)) goal v = true) := by show _ = _; rw [wanted_or]; unfold hasN at hc; rw [hc]; rfl
    rw [hc] at HO
    clear hc
    go_enter Tryz.func90, Tryz.ntmps90
    go_wp2_with fail
    refine Calls.mono HO.out ?_
    rintro e wz ⟨rfl, hwz⟩
    subst wz
    go_wp2
    go_ret
    rw [HR.out]
    exact ⟨rfl, rfl⟩
  | false =>
    have HC : Hid (hasN goal v = false) := hc
    rw [hc] at HO
    clear hc
    go_enter Tryz.func90, Tryz.ntmps90
    go_wp2_with fail
    refine Calls.mono HO.out ?_
    rintro e wz ⟨rfl, hwz⟩
    subst wz
    go_wp2_with fail
    go_loop [7] (fun v7 => ∃ j : Nat, j ≤ n ∧ v7 = .int .i64 j ∧ Hid (((ts.take j).map (·.h)).any (essF v) = false)) (fun v7 => n - (intOf v7).toNat)
    case atStart => exact ⟨0, Nat.zero_le _, rfl, rfl⟩
    case round =>
      obtain ⟨j, hj, rfl, hI⟩ := hrel
      by_cases hlt : j < n
      · have n1 : (j : Int) < (n : Int) := by omega
        obtain ⟨y, hy⟩ : ∃ y, ts[j]? = some y := ⟨_, List.getElem?_eq_getElem (by rw [HA.out.2.1]; exact hlt)⟩
        obtain ⟨g, e, q0, q1, q2, a', c', q3, q4, _⟩ := HA.out.1 j y hy
        subst e
        have HY : Hid (ts[j]? = some y ∧ y.h.ex.length ≤ 17592186044416) := ⟨hy, HA.out.2.2 y (List.mem_of_getElem? hy)⟩
        obtain ⟨ne, hne⟩ : ∃ ne, y.h.ex.length = ne := ⟨_, rfl⟩
        have HOY : Hid _ := rholds_any w a' ne c' y.h.ex v hne (by have := HY.out.2; omega) q4
        rw [hne] at q3
        have STEP : Hid (essF v y.h = false → ((ts.take (j + 1)).map (·.h)).any (essF v) = false) := fun h => by
          rw [List.take_add_one, HY.out.1, List.map_append, List.any_append, hI.out]
          simp [h]
        have HIT : Hid (essF v y.h = true → wantedF (ts.map (·.h)) goal v = true) := fun h => by
          rw [wanted_or]
          have : (ts.map (·.h)).any (essF v) = true := List.any_eq_true.2 ⟨y.h, List.mem_map.2 ⟨y, List.mem_of_getElem? HY.out.1, rfl⟩, h⟩
          rw [this, Bool.or_true]
        clear hy q4 hne
        cases hfl : y.h.fl with
        | true =>
          rw [hfl] at q1
          have HE : Hid (((ts.take (j + 1)).map (·.h)).any (essF v) = false) := STEP.out (by unfold essF; rw [hfl]; rfl)
          clear hfl hI STEP HIT
          go_wp2
          exact ⟨⟨j + 1, by omega, by go_num, HE.out⟩, by simp [intOf]; omega⟩
        | false =>
          rw [hfl] at q1
          cases hh : hasN y.h.ex v with
          | true =>
            have HR : Hid (wantedF (ts.map (·.h)) goal v = true) := HIT.out (by unfold essF; rw [hfl]; unfold hasN at hh; rw [hh]; rfl)
            rw [hh] at HOY
            clear hfl hh hI STEP HIT
            go_wp2_with fail
            refine Calls.mono HOY.out ?_
            rintro e wz ⟨rfl, hwz⟩
            subst wz
            go_wp2
            go_ret
            rw [HR.out]
            exact ⟨rfl, rfl⟩
          | false =>
            have HE : Hid (((ts.take (j + 1)).map (·.h)).any (essF v) = false) := STEP.out (by unfold essF; rw [hfl]; unfold hasN at hh; rw [hh]; rfl)
            rw [hh] at HOY
            clear hfl hh hI STEP HIT
            go_wp2_with fail
            refine Calls.mono HOY.out ?_
            rintro e wz ⟨rfl, hwz⟩
            subst wz
            go_wp2
            exact ⟨⟨j + 1, by omega, by go_num, HE.out⟩, by simp [intOf]; omega⟩
      · have n1 : ¬ (j : Int) < (n : Int) := by omega
        have HR : Hid (wantedF (ts.map (·.h)) goal v = false) := by
          have h := hI.out
          rw [List.take_of_length_le (by rw [HA.out.2.1]; omega)] at h
          show _ = _
          rw [wanted_or, h]
          have h2 := HC.out
          unfold hasN at h2
          rw [h2]
          rfl
        clear hI
        go_wp2
        go_ret
        rw [HR.out]
        exact ⟨rfl, rfl⟩
/-- Hypotheses and pairs that grow in a box. -/
structure FrI (w7 W : World) (T8 : Nat) (a p g : Option Addr) (m c k d z f : Nat) (us : List HyC) (qs : List Pp) : Prop where
  zl : us.length = m
  zr : W.ownsRow (T8 + 1) 61 4 (.slice a m c) m (rowHy us)
  zk : qs.length = k
  zq : W.ownsRow (T8 + 1) 64 2 (.slice p k d) k (rowQ qs)
  z8 : W.heap[T8]? = some (.cells #[.slice a m c, .slice p k d, .slice g z f] 47 (0, 0))
  zs : w7.heap.size = T8
  zb : Below w7.heap.size w7 W
theorem FrI.below {w7 W W' : World} {T8 : Nat} {a p g : Option Addr} {m c k d z f : Nat} {us : List HyC} {qs : List Pp} (h : FrI w7 W T8 a p g m c k d z f us qs) (hb : Below W.heap.size W W') : FrI w7 W' T8 a p g m c k d z f us qs :=
  have hc := M.Ch.of_below (X := fun _ => False) hb
  ⟨h.zl, M.owns_ch h.zr hc fun _ _ e => e, h.zk, M.owns_ch h.zq hc fun _ _ e => e, (hb.block T8 (Array.getElem?_eq_some_iff.1 h.z8).1).trans h.z8, h.zs, h.zb.trans (hb.mono h.zb.size)⟩
theorem FrI.moreH {w7 W : World} {T8 : Nat} {a p g : Option Addr} {m c k d z f : Nat} {us : List HyC} {qs : List Pp} (h : FrI w7 W T8 a p g m c k d z f us qs) (y : HyC) (ay : Option Addr) (ny cy : Nat) (hy : y.ve = .slice ay ny cy) (hm : m ≤ 1000000000) :
    ∃ a8 c8 W8, (Builtin.append_ #[34, 34] 34 #[.slice a m c, .slice (some ⟨W.heap.size, 0, none⟩) 1 1]).run Tryz.prog (W.alloc (.cells #[.string y.h.lab, .bool y.h.fl, .int .i64 y.h.var, .slice ay ny cy] 61)) = .ok (.slice a8 (m + 1) c8) W8 ∧ W8.heap[T8]? = some (.cells #[.slice a m c, .slice p k d, .slice g z f] 47 (0, 0)) ∧
      FrI w7 (W8.setCell ⟨T8, 0, none⟩ (.slice a8 (m + 1) c8)) T8 a8 p g (m + 1) c8 k d z f (us ++ [y]) qs := by
  obtain ⟨iM, hiM, iMz, iMs, iMb⟩ := info_parts infoHy
  have hb := fr_below_alloc W (.cells #[.string y.h.lab, .bool y.h.fl, .int .i64 y.h.var, .slice ay ny cy] 61)
  have h1 := h.below hb
  have kA := heap_alloc_new W (.cells #[.string y.h.lab, .bool y.h.fl, .int .i64 y.h.var, .slice ay ny cy] 61)
  have t8 := (Array.getElem?_eq_some_iff.1 h.z8).1
  have sb := hb.size
  obtain ⟨a8, c8, W8, hr8, ho8, hc8, hat8⟩ := run_append_ch (P := Tryz.prog) (w := W.alloc (.cells #[.string y.h.lab, .bool y.h.fl, .int .i64 y.h.var, .slice ay ny cy] 61)) 34 34 (T8 + 1) 61 iM _ 4 56 Tryz.underlying34 hiM iMz iMs iMb rfl (by decide) (.slice a m c) m (rowHy us) h1.zr (some ⟨W.heap.size, 0, none⟩) 1 1 (rowHy [y]) rfl (fun j' u hu => ⟨_, rfl, World.news_of_block (cs := #[.string y.h.lab, .bool y.h.fl, .int .i64 y.h.var, .slice ay ny cy]) (t := 61) (fr := (0, 0)) kA j' u (by rw [← hu, ← hy]; rfl)⟩) (fun u hu => by
    simp only [rowHy, hyC, List.flatMap_cons, List.flatMap_nil, List.append_nil, List.mem_cons, List.not_mem_nil, or_false] at hu
    rcases hu with rfl | rfl | rfl | rfl
    all_goals first | rfl | (rw [hy]; rfl)) (by unfold maxLen; omega) (by omega) (by omega)
  have z8 := (hc8.block T8 (by omega) fun e => own_ne h1.zr h1.z8 (by decide) e).trans h1.z8
  have hs := M.ch_set W8 T8 0 (.slice a8 (m + 1) c8)
  have hcs := hc8.size
  have zs := h.zs
  refine ⟨a8, c8, W8, hr8, z8, ⟨by rw [List.length_append, h.zl]; rfl, ?_, h.zk, ?_, M.heap_set_same z8, zs, ?_⟩⟩
  · rw [rowHy_append]
    exact M.owns_ch ho8 hs fun b e e2 => own_ne ho8 z8 (by decide) (by rw [e, e2])
  · exact M.owns_ch (M.owns_ch h1.zq hc8 fun b e e2 => own_apart h1.zq h1.zr (by decide) b e e2) hs fun b e e2 => own_ne h1.zq h1.z8 (by decide) (by rw [e, e2])
  · have hzb := h1.zb.size
    exact (h1.zb.trans (hc8.below hzb fun b e => by have := M.own_ge' h1.zr b e; omega)).trans (hs.below (by omega) fun b e => by omega)
theorem FrI.moreQ {w7 W : World} {T8 : Nat} {a p g : Option Addr} {m c k d z f : Nat} {us : List HyC} {qs : List Pp} (h : FrI w7 W T8 a p g m c k d z f us qs) (x y : Int) (hk : k ≤ 1000000000) :
    ∃ a8 c8 W8, (Builtin.append_ #[35, 35] 35 #[.slice p k d, .slice (some ⟨W.heap.size, 0, none⟩) 1 1]).run Tryz.prog (W.alloc (.cells #[.int .i64 x, .int .i64 y] 64)) = .ok (.slice a8 (k + 1) c8) W8 ∧ W8.heap[T8]? = some (.cells #[.slice a m c, .slice p k d, .slice g z f] 47 (0, 0)) ∧
      FrI w7 (W8.setCell ⟨T8, 1, none⟩ (.slice a8 (k + 1) c8)) T8 a a8 g m c (k + 1) c8 z f us (qs ++ [(x, y)]) := by
  obtain ⟨iM, hiM, iMz, iMs, iMb⟩ := info_parts infoQq
  have hb := fr_below_alloc W (.cells #[.int .i64 x, .int .i64 y] 64)
  have h1 := h.below hb
  have kA := heap_alloc_new W (.cells #[.int .i64 x, .int .i64 y] 64)
  have t8 := (Array.getElem?_eq_some_iff.1 h.z8).1
  have sb := hb.size
  obtain ⟨a8, c8, W8, hr8, ho8, hc8, hat8⟩ := run_append_ch (P := Tryz.prog) (w := W.alloc (.cells #[.int .i64 x, .int .i64 y] 64)) 35 35 (T8 + 1) 64 iM _ 2 16 Tryz.underlying35 hiM iMz iMs iMb rfl (by decide) (.slice p k d) k (rowQ qs) h1.zq (some ⟨W.heap.size, 0, none⟩) 1 1 (rowQ [(x, y)]) rfl (fun j' u hu => ⟨_, rfl, World.news_of_block (cs := #[.int .i64 x, .int .i64 y]) (t := 64) (fr := (0, 0)) kA j' u hu⟩) (rQ_one _) (by unfold maxLen; omega) (by omega) (by omega)
  have z8 := (hc8.block T8 (by omega) fun e => own_ne h1.zq h1.z8 (by decide) e).trans h1.z8
  have hs := M.ch_set W8 T8 1 (.slice a8 (k + 1) c8)
  have hcs := hc8.size
  have zs := h.zs
  refine ⟨a8, c8, W8, hr8, z8, ⟨h.zl, ?_, by rw [List.length_append, h.zk]; rfl, ?_, M.heap_set_same z8, zs, ?_⟩⟩
  · exact M.owns_ch (M.owns_ch h1.zr hc8 fun b e e2 => own_apart h1.zr h1.zq (by decide) b e e2) hs fun b e e2 => own_ne h1.zr h1.z8 (by decide) (by rw [e, e2])
  · rw [rQ_app]
    exact M.owns_ch ho8 hs fun b e e2 => own_ne ho8 z8 (by decide) (by rw [e, e2])
  · have hzb := h1.zb.size
    exact (h1.zb.trans (hc8.below hzb fun b e => by have := M.own_ge' h1.zq b e; omega)).trans (hs.below (by omega) fun b e => by omega)
end Go.Proofs.YtkejjiilcoacfaaGreat

namespace Go.Proofs.YtkejjiilcoacfaaGreat
open Go.Maps Go.RowKit Go.WideMaps

/-- What a goal needs, told by the document. -/
structure RFrame (W : World) (xs : List Sd) (goal : List Int) (a p g : Option Addr) (n k z : Nat) (us : List HyC) (m : List Pp) : Prop where
  zn : us.length = n
  zk : (needQ (hypsR xs) goal m).length = k
  zz : goal.length = z
  zh : us.map (·.h) = needH (hypsR xs) goal
  zm : Sorted2 (apR xs) m
  ha : HysAt W a us
  hp : PairsAt W p (needQ (hypsR xs) goal m)
  hg : NsAt W g goal
def RFramePost (w : World) (xs : List Sd) (goal : List Int) (e : Ending) (w' : World) : Prop := Below w.heap.size w w' ∧ ((typedR xs goal ≠ 0 ∧ e = .returned (.tuple #[zeroFr, .int .i64 (typedR xs goal)])) ∨ (typedR xs goal = 0 ∧ ∃ a n c p k d g z f us m, e = .returned (.tuple #[.agg #[.slice a n c, .slice p k d, .slice g z f], .int .i64 0]) ∧ RFrame w' xs goal a p g n k z us m))
theorem three_nil {i : Nat} {v : Int} (h : (#[Value.slice none 0 0, Value.slice none 0 0, Value.slice none 0 0])[i]? = some (.int .i64 v)) : False := by
  match i, h with
  | 0, h => cases h
  | 1, h => cases h
  | 2, h => cases h
  | n + 3, h => simp at h
theorem needH_map (ts : List HyC) (hs : List Hy) (goal : List Int) (h : ts.map (·.h) = hs) : (ts.filter fun y => !y.h.fl || wantedF hs goal y.h.var).map (·.h) = needH hs goal := by
  subst h
  unfold needH
  rw [List.filter_map]
  rfl
set_option maxRecDepth 100000 in
set_option maxHeartbeats 32000000 in
theorem rframe_any (w : World) (O : Nat → Prop) (P : Nat) (xs : List Sd) (D : Nat) (ga : Option Addr) (z0 gc : Nat) (goal : List Int) (h : RfO O w P xs D) (hn : xs.length ≤ 1000000000) (hex : ∀ x ∈ xs, x.h.ex.length ≤ 17592186043904) (hz : goal.length = z0) (hz2 : z0 ≤ 17592186043904) (hG : NsAt w ga goal) (hw : ∀ x ∈ goal, wfN x) :
    Calls Tryz.prog 67 #[.pointer (some ⟨P, 0, none⟩), .slice ga z0 gc] w (RFramePost w xs goal) := by
  have HS : Hid (RfO O w P xs D) := h
  have HZ : Hid (goal.length = z0 ∧ NsAt w ga goal ∧ ∀ x ∈ xs, x.h.ex.length ≤ 17592186043904) := ⟨hz, hG, hex⟩
  obtain ⟨T4, hT4⟩ : ∃ T4, w.heap.size = T4 := ⟨_, rfl⟩
  obtain ⟨w1, hw1⟩ : ∃ w1, w1 = w.alloc (.cells #[.slice none 0 0, .slice none 0 0, .slice none 0 0] 47) := ⟨_, rfl⟩
  have HW1 : Hid (w1 = w.alloc (.cells #[.slice none 0 0, .slice none 0 0, .slice none 0 0] 47) ∧ w.heap.size = T4) := ⟨hw1, hT4⟩
  have b1 : Below w.heap.size w w1 := by rw [hw1]; exact fr_below_alloc _ _
  have B1 : Hid (Below w.heap.size w w1) := b1
  have K1 : Hid (w1.heap[T4]? = some (.cells #[.slice none 0 0, .slice none 0 0, .slice none 0 0] 47 (0, 0))) := by rw [hw1, ← hT4]; exact heap_alloc_new w _
  have TD : Hid _ := typed_any w1 O P xs D ga z0 gc goal (h.below b1) hn hz (by omega) (hG.under b1) hw
  obtain ⟨E, hE⟩ : ∃ E, typedR xs goal = E := ⟨_, rfl⟩
  have HE : Hid (typedR xs goal = E) := hE
  rw [hE] at TD
  clear hw1 hT4 h hz hG hw hE b1 hex
  go_enter Tryz.func67, Tryz.ntmps67
  go_upto_region 1 with fail
  rw [← HW1.out.1, HW1.out.2]
  go_wp2_with fail
  refine Calls.mono TD.out ?_
  rintro e w2 ⟨rfl, hb2⟩
  have B2 : Hid (Below w.heap.size w w2) := B1.out.trans (hb2.mono B1.out.size)
  have K2 : Hid (w2.heap[T4]? = some (.cells #[.slice none 0 0, .slice none 0 0, .slice none 0 0] 47 (0, 0))) := (hb2.block T4 (Array.getElem?_eq_some_iff.1 K1.out).1).trans K1.out
  clear hb2 TD K1 B1
  by_cases h0 : E = 0
  · subst h0
    have SC : Hid _ := rscope_any w2 O P xs D (HS.out.below B2.out) hn HZ.out.2.2
    go_wp2_with fail
    refine Calls.mono SC.out ?_
    rintro e w3 ⟨hb3, a1, n1, c1, p1, k1, d1, ts, m, rfl, hR3⟩
    obtain ⟨w4, hw4⟩ : ∃ w4, w4 = w3.alloc (.cells #[.slice a1 n1 c1, .slice p1 k1 d1] 37) := ⟨_, rfl⟩
    obtain ⟨T7, hT7⟩ : ∃ T7, w3.heap.size = T7 := ⟨_, rfl⟩
    have HW4 : Hid (w4 = w3.alloc (.cells #[.slice a1 n1 c1, .slice p1 k1 d1] 37) ∧ w3.heap.size = T7) := ⟨hw4, hT7⟩
    have b4 : Below w3.heap.size w3 w4 := by rw [hw4]; exact fr_below_alloc _ _
    have R4 : Hid (RScope w4 xs a1 p1 n1 k1 ts m) := hR3.under b4
    have K4 : Hid (w4.heap[T7]? = some (.cells #[.slice a1 n1 c1, .slice p1 k1 d1] 37 (0, 0))) := by rw [hw4, ← hT7]; exact heap_alloc_new w3 _
    have B4 : Hid (Below w.heap.size w w4 ∧ Below w2.heap.size w2 w4) := ⟨B2.out.trans ((hb3.trans (b4.mono hb3.size)).mono B2.out.size), hb3.trans (b4.mono hb3.size)⟩
    have OWN : Hid _ := rown_any w4 ga z0 gc goal HZ.out.1 (by omega) (HZ.out.2.1.under B4.out.1)
    have hn1 : n1 ≤ 1000000000 := by
      have h1 := hR3.zn
      have h2 := congrArg List.length hR3.zh
      rw [List.length_map] at h2
      have h3 : (hypsR xs).length ≤ xs.length := by unfold hypsR; rw [List.length_map]; exact List.length_filter_le _ _
      omega
    have hk1 : k1 ≤ 1000000000 := by
      have h1 := hR3.zk
      have h2 := hR3.zm.len
      have h3 : (apR xs).length ≤ xs.length := by unfold apR; rw [List.length_map]; exact List.length_filter_le _ _
      omega
    clear hw4 hT7 b4 hb3 hR3 SC
    go_upto_region 5 with fail
    rw [← HW4.out.1, HW4.out.2]
    clear HW4
    go_wp2_with fail
    refine Calls.mono OWN.out ?_
    rintro e w5 ⟨v5, rfl, ho5, hb5⟩
    rw [HZ.out.1] at ho5
    obtain ⟨ag, cg, rfl, _, hns5⟩ := own_ns ho5
    obtain ⟨w6, hw6⟩ : ∃ w6, w6 = w5.alloc (.cells #[.slice none 0 0, .slice none 0 0, .slice ag z0 cg] 47) := ⟨_, rfl⟩
    obtain ⟨T8, hT8⟩ : ∃ T8, w5.heap.size = T8 := ⟨_, rfl⟩
    have HW6 : Hid (w6 = w5.alloc (.cells #[.slice none 0 0, .slice none 0 0, .slice ag z0 cg] 47) ∧ w5.heap.size = T8) := ⟨hw6, hT8⟩
    have b6 : Below w5.heap.size w5 w6 := by rw [hw6]; exact fr_below_alloc _ _
    have BW : Hid (Below w.heap.size w w5) := B4.out.1.trans (hb5.mono B4.out.1.size)
    have G5 : Hid (NsAt w5 ag goal) := hns5
    have R5 : Hid (RScope w5 xs a1 p1 n1 k1 ts m) := R4.out.under hb5
    have K5 : Hid (w5.heap[T7]? = some (.cells #[.slice a1 n1 c1, .slice p1 k1 d1] 37 (0, 0)) ∧ w5.heap[T4]? = some (.cells #[.slice none 0 0, .slice none 0 0, .slice none 0 0] 47 (0, 0)) ∧ T4 < T8) := by
      have e1 := (B4.out.2.block T4 (Array.getElem?_eq_some_iff.1 K2.out).1).trans K2.out
      have e2 := (hb5.block T4 (Array.getElem?_eq_some_iff.1 e1).1).trans e1
      exact ⟨(hb5.block T7 (Array.getElem?_eq_some_iff.1 K4.out).1).trans K4.out, e2, by have := (Array.getElem?_eq_some_iff.1 e2).1; omega⟩
    have I6 : Hid (FrI w5 w6 T8 none none ag 0 0 0 0 z0 cg [] []) := ⟨rfl, World.ownsRow_nil _ _ _ _, rfl, World.ownsRow_nil _ _ _ _, by rw [hw6, ← hT8]; exact heap_alloc_new w5 _, hT8, b6⟩
    obtain ⟨hs, hhs⟩ : ∃ hs, hypsR xs = hs := ⟨_, rfl⟩
    have HHS : Hid (ts.map (·.h) = hs ∧ hypsR xs = hs ∧ ∀ y ∈ ts, y.h.ex.length ≤ 17592186043904) := ⟨R5.out.zh.trans hhs, hhs, fun y hy => by
      have h1 : y.h ∈ hypsR xs := by rw [← R5.out.zh]; exact List.mem_map.2 ⟨y, hy, rfl⟩
      unfold hypsR at h1
      obtain ⟨x, hx, e⟩ := List.mem_map.1 h1
      rw [← e]
      exact HZ.out.2.2 x (List.mem_filter.1 hx).1⟩
    have NED : Hid (∀ W v, Below w5.heap.size w5 W → _) := fun W v hW => rneeded_any W a1 ga n1 c1 z0 gc ts goal v R5.out.zn hn1 (fun y hy => by have := HHS.out.2.2 y hy; omega) HZ.out.1 (by omega) ((R5.out.under hW).ha) (HZ.out.2.1.under (BW.out.trans (hW.mono BW.out.size)))
    simp only [HHS.out.1] at NED
    clear hw6 hT8 b6 ho5 hb5 hns5 hhs R4 K4 B4 K2 B2 OWN
    go_upto_region 6 with fail
    rw [← HW6.out.1, HW6.out.2]
    clear HW6
    go_wp2_with fail
    go_loopw [9] (fun v9 wx => ∃ j : Nat, j ≤ n1 ∧ v9 = .int .i64 j ∧ Hid (∃ a m c, m ≤ j ∧ FrI w5 wx T8 a none ag m c 0 0 z0 cg ((ts.take j).filter fun y => !y.h.fl || wantedF hs goal y.h.var) [])) (fun v9 _ => n1 - (intOf v9).toNat)
    case atStart => exact ⟨0, Nat.zero_le _, rfl, none, 0, 0, Nat.le_refl _, I6.out⟩
    case round =>
      clear I6
      obtain ⟨j, hj, rfl, hI⟩ := hrel
      obtain ⟨a8, m8, c8, hm8, hi⟩ := hI.out
      have HI : Hid (FrI w5 wr T8 a8 none ag m8 c8 0 0 z0 cg ((ts.take j).filter fun y => !y.h.fl || wantedF hs goal y.h.var) []) := hi
      have k7 := (hi.zb.block T7 (Array.getElem?_eq_some_iff.1 K5.out.1).1).trans K5.out.1
      have x0 := M.cell_whole k7 0
      simp only [List.getElem?_toArray, List.getElem?_cons_zero] at x0
      clear hI hi k7
      by_cases hlt : j < n1
      · have n2 : (j : Int) < (n1 : Int) := by omega
        obtain ⟨y, hy⟩ : ∃ y, ts[j]? = some y := ⟨_, List.getElem?_eq_getElem (by rw [R5.out.zn]; exact hlt)⟩
        obtain ⟨g, e, q0, q1, q2, a', c', q3, _, q4⟩ := (R5.out.under HI.out.zb).ha j y hy
        subst e
        obtain ⟨ne, hne⟩ : ∃ ne, y.h.ex.length = ne := ⟨_, rfl⟩
        rw [hne] at q3 q4
        have HY : Hid (ts[j]? = some y ∧ y.ve = .slice a' ne c') := ⟨hy, q4⟩
        obtain ⟨w8, hw8⟩ : ∃ w8, w8 = wr.alloc (.cells #[.string y.h.lab, .bool y.h.fl, .int .i64 y.h.var, .slice a' ne c'] 61) := ⟨_, rfl⟩
        obtain ⟨T10, hT10⟩ : ∃ T10, wr.heap.size = T10 := ⟨_, rfl⟩
        have HW8 : Hid (w8 = wr.alloc (.cells #[.string y.h.lab, .bool y.h.fl, .int .i64 y.h.var, .slice a' ne c'] 61) ∧ wr.heap.size = T10) := ⟨hw8, hT10⟩
        have b8 : Below wr.heap.size wr w8 := by rw [hw8]; exact fr_below_alloc _ _
        have k8 : w8.heap[T10]? = some (.cells #[.string y.h.lab, .bool y.h.fl, .int .i64 y.h.var, .slice a' ne c'] 61 (0, 0)) := by rw [hw8, ← hT10]; exact heap_alloc_new wr _
        have I8 : Hid (FrI w5 w8 T8 a8 none ag m8 c8 0 0 z0 cg ((ts.take j).filter fun y => !y.h.fl || wantedF hs goal y.h.var) []) := HI.out.below b8
        have NE8 : Hid _ := NED.out w8 y.h.var I8.out.zb
        obtain ⟨PB, hPB⟩ : ∃ PB, (!y.h.fl || wantedF hs goal y.h.var) = PB := ⟨_, rfl⟩
        have HPB : Hid ((!y.h.fl || wantedF hs goal y.h.var) = PB) := hPB
        have K8 : Hid (w8.heap[T10]? = some (.cells #[.string y.h.lab, .bool y.h.fl, .int .i64 y.h.var, .slice a' ne c'] 61 (0, 0))) := k8
        clear hw8 hT10 b8 k8 hy hne q4 hPB HI
        go_upto_region 10 with fail
        rw [← HW8.out.1, HW8.out.2]
        clear HW8 q0 q1 q2 q3 x0
        have z0' := M.cell_whole K8.out 0
        have z1' := M.cell_whole K8.out 1
        have z2' := M.cell_whole K8.out 2
        have z3' := M.cell_whole K8.out 3
        simp only [List.getElem?_toArray, List.getElem?_cons_zero, List.getElem?_cons_succ] at z0' z1' z2' z3'
        have k7 := (I8.out.zb.block T7 (Array.getElem?_eq_some_iff.1 K5.out.1).1).trans K5.out.1
        have x0 := M.cell_whole k7 0
        simp only [List.getElem?_toArray, List.getElem?_cons_zero] at x0
        clear k7
        go_cut [47] (fun v47 wx => v47 = .bool PB ∧ wx = w8)
        case first =>
          cases hfl : y.h.fl with
          | false =>
            have HV : Hid (PB = true) := by show _ = _; rw [← HPB.out, hfl]; rfl
            rw [hfl] at z1'
            clear hfl
            go_wp2_with fail
            go_meet
            exact ⟨by rw [HV.out], rfl⟩
          | true =>
            have HV : Hid (wantedF hs goal y.h.var = PB) := by show _ = _; rw [← HPB.out, hfl]; rfl
            rw [hfl] at z1'
            clear hfl
            go_wp2_with fail
            refine Calls.mono NE8.out ?_
            rintro e wz ⟨rfl, hwz⟩
            subst wz
            rw [HV.out]
            go_wp2_with fail
            go_meet
            exact ⟨rfl, rfl⟩
        case rest =>
          obtain ⟨rfl, rfl⟩ := hcut
          cases PB with
          | true =>
            obtain ⟨a10, c10, w10, hr10, hk10, hi10⟩ := I8.out.moreH y a' ne c' HY.out.2 (by omega)
            have R10 : Hid _ := hr10
            have K10 : Hid (w10.heap[T8]? = some (.cells #[.slice a8 m8 c8, .slice none 0 0, .slice ag z0 cg] 47 (0, 0))) := hk10
            have HI2 : Hid (∃ a m c, m ≤ j + 1 ∧ FrI w5 (w10.setCell ⟨T8, 0, none⟩ (.slice a10 (m8 + 1) c10)) T8 a none ag m c 0 0 z0 cg ((ts.take (j + 1)).filter fun y => !y.h.fl || wantedF hs goal y.h.var) []) := ⟨a10, m8 + 1, c10, by omega, by
              have e : (ts.take (j + 1)).filter (fun y => !y.h.fl || wantedF hs goal y.h.var) = (ts.take j).filter (fun y => !y.h.fl || wantedF hs goal y.h.var) ++ [y] := by rw [List.take_add_one, HY.out.1, List.filter_append]; simp [HPB.out]
              rw [e]; exact hi10⟩
            have z4 := M.cell_whole I8.out.z8 0
            have z5 := M.cell_whole K10.out 0
            simp only [List.getElem?_toArray, List.getElem?_cons_zero] at z4 z5
            have f10 : w10.frozen? ⟨T8, 0, none⟩ = false := by simp [World.frozen?, K10.out]
            clear hr10 hk10 hi10
            go_wp2_with (at_builtin; refine M.wpList_append_run rfl _ _ 34 rfl _ _ _ _ (by rfl) (by rfl) R10.out ?_)
            exact ⟨⟨j + 1, by omega, by go_num, HI2.out⟩, by simp [intOf]; omega⟩
          | false =>
            have HI2 : Hid (∃ a m c, m ≤ j + 1 ∧ FrI w5 wc T8 a none ag m c 0 0 z0 cg ((ts.take (j + 1)).filter fun y => !y.h.fl || wantedF hs goal y.h.var) []) := ⟨a8, m8, c8, by omega, by
              have e : (ts.take (j + 1)).filter (fun y => !y.h.fl || wantedF hs goal y.h.var) = (ts.take j).filter (fun y => !y.h.fl || wantedF hs goal y.h.var) := by rw [List.take_add_one, HY.out.1, List.filter_append]; simp [HPB.out]
              rw [e]; exact I8.out⟩
            go_wp2
            exact ⟨⟨j + 1, by omega, by go_num, HI2.out⟩, by simp [intOf]; omega⟩
      · have n2 : ¬ (j : Int) < (n1 : Int) := by omega
        obtain ⟨us, hus⟩ : ∃ us, (ts.filter fun y => !y.h.fl || wantedF hs goal y.h.var) = us := ⟨_, rfl⟩
        have HUS : Hid ((ts.filter fun y => !y.h.fl || wantedF hs goal y.h.var) = us) := hus
        obtain ⟨wl, hwl⟩ : ∃ wl, wl = wr := ⟨_, rfl⟩
        subst hwl
        have IL : Hid (FrI w5 wl T8 a8 none ag m8 c8 0 0 z0 cg us []) := by
          have h := HI.out
          rw [List.take_of_length_le (by rw [R5.out.zn]; omega), hus] at h
          exact h
        clear HI hus x0
        have k7 := (IL.out.zb.block T7 (Array.getElem?_eq_some_iff.1 K5.out.1).1).trans K5.out.1
        have x0 := M.cell_whole k7 0
        simp only [List.getElem?_toArray, List.getElem?_cons_zero] at x0
        clear k7
        go_wp2_with fail
        clear x0
        go_loopw [11] (fun v11 wx => ∃ j : Nat, j ≤ k1 ∧ v11 = .int .i64 j ∧ Hid (∃ p k d, k ≤ j ∧ FrI w5 wx T8 a8 p ag m8 c8 k d z0 cg us ((m.take j).filter fun p => wantedF hs goal p.1 && wantedF hs goal p.2))) (fun v11 _ => k1 - (intOf v11).toNat)
        case atStart => exact ⟨0, Nat.zero_le _, rfl, none, 0, 0, Nat.le_refl _, IL.out⟩
        case round =>
          clear IL
          obtain ⟨q, hq, rfl, hI⟩ := hrel
          obtain ⟨p8, k8, d8, hk8, hi⟩ := hI.out
          have HI : Hid (FrI w5 wr T8 a8 p8 ag m8 c8 k8 d8 z0 cg us ((m.take q).filter fun p => wantedF hs goal p.1 && wantedF hs goal p.2)) := hi
          have k7 := (hi.zb.block T7 (Array.getElem?_eq_some_iff.1 K5.out.1).1).trans K5.out.1
          have x1 := M.cell_whole k7 1
          simp only [List.getElem?_toArray, List.getElem?_cons_zero, List.getElem?_cons_succ] at x1
          clear hI hi k7
          by_cases hlq : q < k1
          · have n3 : (q : Int) < (k1 : Int) := by omega
            obtain ⟨⟨px, py⟩, hx⟩ : ∃ p, m[q]? = some p := ⟨_, List.getElem?_eq_getElem (by rw [R5.out.zk]; exact hlq)⟩
            obtain ⟨g, off, e, q0, q1⟩ := (R5.out.under HI.out.zb).hp q _ hx
            subst e
            dsimp only at q0 q1
            have HX : Hid (m[q]? = some (px, py)) := hx
            obtain ⟨w8, hw8⟩ : ∃ w8, w8 = wr.alloc (.cells #[.int .i64 px, .int .i64 py] 64) := ⟨_, rfl⟩
            obtain ⟨T12, hT12⟩ : ∃ T12, wr.heap.size = T12 := ⟨_, rfl⟩
            have HW8 : Hid (w8 = wr.alloc (.cells #[.int .i64 px, .int .i64 py] 64) ∧ wr.heap.size = T12) := ⟨hw8, hT12⟩
            have b8 : Below wr.heap.size wr w8 := by rw [hw8]; exact fr_below_alloc _ _
            have K8 : Hid (w8.heap[T12]? = some (.cells #[.int .i64 px, .int .i64 py] 64 (0, 0))) := by rw [hw8, ← hT12]; exact heap_alloc_new wr _
            have I8 : Hid (FrI w5 w8 T8 a8 p8 ag m8 c8 k8 d8 z0 cg us ((m.take q).filter fun p => wantedF hs goal p.1 && wantedF hs goal p.2)) := HI.out.below b8
            have NE1 : Hid _ := NED.out w8 px I8.out.zb
            have NE2 : Hid _ := NED.out w8 py I8.out.zb
            obtain ⟨PB, hPB⟩ : ∃ PB, (wantedF hs goal px && wantedF hs goal py) = PB := ⟨_, rfl⟩
            have HPB : Hid ((wantedF hs goal px && wantedF hs goal py) = PB) := hPB
            clear hw8 hT12 b8 hx hPB HI
            go_upto_region 16 with fail
            rw [← HW8.out.1, HW8.out.2]
            clear HW8 q0 q1 x1
            have z0' := M.cell_whole K8.out 0
            have z1' := M.cell_whole K8.out 1
            simp only [List.getElem?_toArray, List.getElem?_cons_zero, List.getElem?_cons_succ] at z0' z1'
            have k7 := (I8.out.zb.block T7 (Array.getElem?_eq_some_iff.1 K5.out.1).1).trans K5.out.1
            have x0 := M.cell_whole k7 0
            simp only [List.getElem?_toArray, List.getElem?_cons_zero] at x0
            clear k7
            go_cut [79] (fun v79 wx => v79 = .bool PB ∧ wx = w8)
            case first =>
              cases hb1 : wantedF hs goal px with
              | false =>
                have HV : Hid (PB = false) := by show _ = _; rw [← HPB.out, hb1]; rfl
                rw [hb1] at NE1
                clear hb1
                go_wp2_with fail
                refine Calls.mono NE1.out ?_
                rintro e wz ⟨rfl, hwz⟩
                subst wz
                go_wp2_with fail
                go_meet
                exact ⟨by rw [HV.out], rfl⟩
              | true =>
                have HV : Hid (wantedF hs goal py = PB) := by show _ = _; rw [← HPB.out, hb1]; rfl
                rw [hb1] at NE1
                clear hb1
                go_wp2_with fail
                refine Calls.mono NE1.out ?_
                rintro e wz ⟨rfl, hwz⟩
                subst wz
                go_wp2_with fail
                refine Calls.mono NE2.out ?_
                rintro e wz ⟨rfl, hwz⟩
                subst wz
                rw [HV.out]
                go_wp2_with fail
                go_meet
                exact ⟨rfl, rfl⟩
            case rest =>
              obtain ⟨rfl, rfl⟩ := hcut
              cases PB with
              | true =>
                obtain ⟨a10, c10, w10, hr10, hk10, hi10⟩ := I8.out.moreQ px py (by omega)
                have R10 : Hid _ := hr10
                have K10 : Hid (w10.heap[T8]? = some (.cells #[.slice a8 m8 c8, .slice p8 k8 d8, .slice ag z0 cg] 47 (0, 0))) := hk10
                have HI2 : Hid (∃ p k d, k ≤ q + 1 ∧ FrI w5 (w10.setCell ⟨T8, 1, none⟩ (.slice a10 (k8 + 1) c10)) T8 a8 p ag m8 c8 k d z0 cg us ((m.take (q + 1)).filter fun p => wantedF hs goal p.1 && wantedF hs goal p.2)) := ⟨a10, k8 + 1, c10, by omega, by
                  have e : (m.take (q + 1)).filter (fun p => wantedF hs goal p.1 && wantedF hs goal p.2) = (m.take q).filter (fun p => wantedF hs goal p.1 && wantedF hs goal p.2) ++ [(px, py)] := by rw [List.take_add_one, HX.out, List.filter_append]; simp [HPB.out]
                  rw [e]; exact hi10⟩
                have z4 := M.cell_whole I8.out.z8 1
                have z5 := M.cell_whole K10.out 1
                simp only [List.getElem?_toArray, List.getElem?_cons_zero, List.getElem?_cons_succ] at z4 z5
                have f10 : w10.frozen? ⟨T8, 1, none⟩ = false := by simp [World.frozen?, K10.out]
                clear hr10 hk10 hi10
                go_wp2_with (at_builtin; refine M.wpList_append_run rfl _ _ 35 rfl _ _ _ _ (by rfl) (by rfl) R10.out ?_)
                exact ⟨⟨q + 1, by omega, by go_num, HI2.out⟩, by simp [intOf]; omega⟩
              | false =>
                have HI2 : Hid (∃ p k d, k ≤ q + 1 ∧ FrI w5 wc T8 a8 p ag m8 c8 k d z0 cg us ((m.take (q + 1)).filter fun p => wantedF hs goal p.1 && wantedF hs goal p.2)) := ⟨p8, k8, d8, by omega, by
                  have e : (m.take (q + 1)).filter (fun p => wantedF hs goal p.1 && wantedF hs goal p.2) = (m.take q).filter (fun p => wantedF hs goal p.1 && wantedF hs goal p.2) := by rw [List.take_add_one, HX.out, List.filter_append]; simp [HPB.out]
                  rw [e]; exact I8.out⟩
                go_wp2
                exact ⟨⟨q + 1, by omega, by go_num, HI2.out⟩, by simp [intOf]; omega⟩
          · have n3 : ¬ (q : Int) < (k1 : Int) := by omega
            have hT48 := K5.out.2.2
            have k4 := (HI.out.zb.block T4 (Array.getElem?_eq_some_iff.1 K5.out.2.1).1).trans K5.out.2.1
            have z0' := M.cell_whole HI.out.z8 0
            have z1' := M.cell_whole HI.out.z8 1
            have z2' := M.cell_whole HI.out.z8 2
            have d0 := M.cell_whole k4 0
            have d1 := M.cell_whole k4 1
            have d2 := M.cell_whole k4 2
            simp only [List.getElem?_toArray, List.getElem?_cons_zero, List.getElem?_cons_succ] at z0' z1' z2' d0 d1 d2
            have f0 : wr.frozen? ⟨T4, 0, none⟩ = false := by simp [World.frozen?, k4]
            have f1 : wr.frozen? ⟨T4, 1, none⟩ = false := by simp [World.frozen?, k4]
            have f2 : wr.frozen? ⟨T4, 2, none⟩ = false := by simp [World.frozen?, k4]
            obtain ⟨wF, hwF⟩ : ∃ wF, wF = ((wr.setCell ⟨T4, 0, none⟩ (.slice a8 m8 c8)).setCell ⟨T4, 1, none⟩ (.slice p8 k8 d8)).setCell ⟨T4, 2, none⟩ (.slice ag z0 cg) := ⟨_, rfl⟩
            have HWF : Hid (wF = ((wr.setCell ⟨T4, 0, none⟩ (.slice a8 m8 c8)).setCell ⟨T4, 1, none⟩ (.slice p8 k8 d8)).setCell ⟨T4, 2, none⟩ (.slice ag z0 cg)) := hwF
            have hcF : M.Ch (fun b => b = T4) wr wF := by rw [hwF]; exact ((M.ch_set wr T4 0 _).trans (M.ch_set _ T4 1 _)).trans (M.ch_set _ T4 2 _)
            have kF : wF.heap[T4]? = some (.cells #[.slice a8 m8 c8, .slice p8 k8 d8, .slice ag z0 cg] 47 (0, 0)) := by rw [hwF]; exact M.heap_set_same (M.heap_set_same (M.heap_set_same k4))
            have y0 : wF.cell? ⟨T4, 0, none⟩ = some (.slice a8 m8 c8) := M.cell_whole kF 0
            have y1 : wF.cell? ⟨T4, 1, none⟩ = some (.slice p8 k8 d8) := M.cell_whole kF 1
            have y2 : wF.cell? ⟨T4, 2, none⟩ = some (.slice ag z0 cg) := M.cell_whole kF 2
            have FIN : Hid (RFramePost w xs goal (.returned (.tuple #[.agg #[.slice a8 m8 c8, .slice p8 k8 d8, .slice ag z0 cg], .int .i64 0])) wF) := by
              have hi := HI.out
              have hwT := HW1.out.2
              have zq := hi.zq
              have zk := hi.zk
              rw [List.take_of_length_le (by rw [R5.out.zk]; omega)] at zq zk
              have hbw : Below w.heap.size w wr := BW.out.trans (hi.zb.mono BW.out.size)
              have hne : ∀ y ∈ us, ∃ a' c', NsAt wF a' y.h.ex ∧ y.ve = .slice a' y.h.ex.length c' := fun y hy => by
                rw [← HUS.out] at hy
                obtain ⟨iy, hiy⟩ := List.mem_iff_getElem?.1 (List.mem_filter.1 hy).1
                obtain ⟨_, _, _, _, _, a', c', _, hns, hve⟩ := R5.out.ha iy y hiy
                refine ⟨a', c', fun s v hs => ?_, hve⟩
                obtain ⟨b, off, e, h0⟩ := hns s v hs
                refine ⟨b, off, e, ?_⟩
                have h1 := (hi.zb.cell (p := ⟨b, _, none⟩) (World.block_lt_of_cell? _ _ h0)).trans h0
                refine (World.cell?_of_block (a := ⟨b, off + s, none⟩) (hcF.block b (World.block_lt_of_cell? _ _ h1) fun e3 => ?_)).trans h1
                subst e3
                have h6 := M.cell_whole K5.out.2.1 (off + s)
                rw [h0] at h6
                exact three_nil h6.symm
              have hrw := M.owns_ch hi.zr hcF fun b e e2 => by have := M.own_ge' hi.zr b e; omega
              refine ⟨hbw.trans (hcF.below hbw.size fun b e => by omega), .inr ⟨HE.out, a8, m8, c8, p8, k8, d8, ag, z0, cg, us, m, rfl, hi.zl, ?_, HZ.out.1, ?_, R5.out.zm, ?_, ?_, ?_⟩⟩
              · rw [HHS.out.2.1]; exact zk
              · rw [HHS.out.2.1, ← HUS.out]; exact needH_map ts hs goal HHS.out.1
              · intro i y hi2
                have hlt := (List.getElem?_eq_some_iff.1 hi2).1
                obtain ⟨g, c', e, _, _, _⟩ := M.own_some hrw (by have := hi.zl; omega)
                cases e
                obtain ⟨h0, h1, h2, h3⟩ := row_hy hrw i y hi2
                obtain ⟨a', c', hns, hve⟩ := hne y (List.mem_of_getElem? hi2)
                exact ⟨g, rfl, h0, h1, h2, a', c', by rw [← hve]; exact h3, hns, hve⟩
              · rw [HHS.out.2.1]
                exact own_pairs (M.owns_ch zq hcF fun b e e2 => by have := M.own_ge' zq b e; omega)
              · intro s v hs
                obtain ⟨b, off, e, h0⟩ := G5.out s v hs
                refine ⟨b, off, e, ?_⟩
                have h1 := (hi.zb.cell (p := ⟨b, _, none⟩) (World.block_lt_of_cell? _ _ h0)).trans h0
                refine (World.cell?_of_block (a := ⟨b, off + s, none⟩) (hcF.block b (World.block_lt_of_cell? _ _ h1) fun e3 => ?_)).trans h1
                subst e3
                have h6 := M.cell_whole K5.out.2.1 (off + s)
                rw [h0] at h6
                exact three_nil h6.symm
            clear hwF hcF kF k4 HI
            go_wp2_with fail
            rw [← HWF.out]
            clear HWF
            refine bodyPost_ret (by simp [results, Tryz.results67, go_sem, y0, y1, y2]; try rfl) rfl ?_
            exact FIN.out
  · have n0 : ¬ E = 0 := h0
    have n1 : (E != 0) = true := by simpa using h0
    have k2 := K2.out
    have d0 := M.cell_whole k2 0
    have d1 := M.cell_whole k2 1
    have d2 := M.cell_whole k2 2
    simp only [List.getElem?_toArray, List.getElem?_cons_zero, List.getElem?_cons_succ] at d0 d1 d2
    have f0 : w2.frozen? ⟨T4, 0, none⟩ = false := by simp [World.frozen?, k2]
    have f1 : w2.frozen? ⟨T4, 1, none⟩ = false := by simp [World.frozen?, k2]
    have f2 : w2.frozen? ⟨T4, 2, none⟩ = false := by simp [World.frozen?, k2]
    obtain ⟨wF, hwF⟩ : ∃ wF, wF = ((w2.setCell ⟨T4, 0, none⟩ (.slice none 0 0)).setCell ⟨T4, 1, none⟩ (.slice none 0 0)).setCell ⟨T4, 2, none⟩ (.slice none 0 0) := ⟨_, rfl⟩
    have HWF : Hid (wF = ((w2.setCell ⟨T4, 0, none⟩ (.slice none 0 0)).setCell ⟨T4, 1, none⟩ (.slice none 0 0)).setCell ⟨T4, 2, none⟩ (.slice none 0 0)) := hwF
    have hcF : M.Ch (fun b => b = T4) w2 wF := by rw [hwF]; exact ((M.ch_set w2 T4 0 _).trans (M.ch_set _ T4 1 _)).trans (M.ch_set _ T4 2 _)
    have kF : wF.heap[T4]? = some (.cells #[.slice none 0 0, .slice none 0 0, .slice none 0 0] 47 (0, 0)) := by rw [hwF]; exact M.heap_set_same (M.heap_set_same (M.heap_set_same k2))
    have y0 : wF.cell? ⟨T4, 0, none⟩ = some (.slice none 0 0) := M.cell_whole kF 0
    have y1 : wF.cell? ⟨T4, 1, none⟩ = some (.slice none 0 0) := M.cell_whole kF 1
    have y2 : wF.cell? ⟨T4, 2, none⟩ = some (.slice none 0 0) := M.cell_whole kF 2
    have FIN : Hid (RFramePost w xs goal (.returned (.tuple #[.agg #[.slice none 0 0, .slice none 0 0, .slice none 0 0], .int .i64 E])) wF) := by
      have hwT := HW1.out.2
      exact ⟨B2.out.trans (hcF.below B2.out.size fun b e => by omega), .inl ⟨by rw [HE.out]; exact h0, by rw [HE.out]; rfl⟩⟩
    clear hwF hcF kF k2
    go_wp2_with fail
    rw [← HWF.out]
    clear HWF
    refine bodyPost_ret (by simp [results, Tryz.results67, go_sem, y0, y1, y2]; try rfl) rfl ?_
    exact FIN.out
end Go.Proofs.YtkejjiilcoacfaaGreat
