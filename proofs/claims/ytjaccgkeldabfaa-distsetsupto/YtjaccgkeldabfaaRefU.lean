/- The document's Union, Only. -/
import Derived.Test.YtjaccgkeldabfaaRefN
import Derived.Test.YtjaccgkeldabfaaReads
namespace Go.Proofs.Ytjaccgkeldabfaa
open Go.RowKit

theorem pairs_row {w : World} {a : Option Addr} {l : List Pr} (h : PairsAt w a l) : RowAt w a (rowP l) := fun t u ht => by
  have hlt : t < l.length * 2 := by have := (List.getElem?_eq_some_iff.1 ht).1; rwa [rowP_len] at this
  have h2 : t / 2 < l.length := by omega
  obtain ⟨b, off, rfl, c0, c1⟩ := h (t / 2) _ (List.getElem?_eq_getElem h2)
  have hr := rowP_at l (t / 2) _ (List.getElem?_eq_getElem h2)
  refine ⟨b, off, rfl, ?_⟩
  rcases Nat.mod_two_eq_zero_or_one t with hm | hm
  · have e : t / 2 * 2 = t := by omega
    rw [e] at c0 hr
    rw [hr.1] at ht
    cases ht
    exact c0
  · have e : t / 2 * 2 + 1 = t := by omega
    have c1' : w.cell? ⟨b, off + (t / 2 * 2 + 1), none⟩ = some (.int .i64 l[t / 2].2) := c1
    rw [e] at c1' hr
    rw [hr.2] at ht
    cases ht
    exact c1'
theorem rowP_one (l : List Pr) : ∀ u ∈ rowP l, u.oneCell' = true := fun u hu => by
  unfold rowP at hu
  rw [List.mem_flatMap] at hu
  obtain ⟨p, _, hp⟩ := hu
  simp at hp
  rcases hp with rfl | rfl <;> rfl
theorem rowP_append (l m : List Pr) : rowP (l ++ m) = rowP l ++ rowP m := by simp [rowP]
set_option maxRecDepth 100000 in
set_option maxHeartbeats 4000000 in
theorem runion_any (w : World) (a a' : Option Addr) (c c' : Nat) (l l' : List Pr) (n n' : Nat) (hl : l.length = n) (hl' : l'.length = n') (hn : n ≤ 1048576) (hn' : n' ≤ 1048576) (hA : PairsAt w a l) (hA' : PairsAt w a' l') :
    Calls Try.prog 18 #[.slice a n c, .slice a' n' c'] w fun e w' => NormIs w w' e (l ++ l') := by
  have HA : Hid (PairsAt w a l) := hA
  have HA' : Hid (PairsAt w a' l') := hA'
  have HL : Hid (l.length = n) := hl
  have HL' : Hid (l'.length = n') := hl'
  obtain ⟨i0, hi0, hz0, hz1, hz3⟩ := info_parts info24
  clear hA hA' hl hl'
  go_enter Try.func18, Try.ntmps18
  go_wp2_with (at_builtin; first
    | (refine wpList_append_more (w := w) rfl _ _ _ rfl w.heap.size 24 i0 _ 2 16 Try.underlying22 hi0 hz0 hz1 hz3 rfl (by omega) _ 0 [] (by rfl) (World.ownsRow_nil _ _ _ _) a n c (rowP l) (by rfl) (by rw [rowP_len, HL.out]) (pairs_row HA.out).news (rowP_one l) (by unfold maxLen; omega) (by omega) (Nat.le_refl _) ?_; intro a4 c4 w4 ho4 hb4; rw [Nat.zero_add] at ho4 ⊢; have HO4 : Hid (w4.ownsRow w.heap.size 24 2 (.slice a4 n c4) n (rowP l)) := ho4; have HB4 : Hid (Below w.heap.size w w4) := hb4; clear ho4 hb4)
    | (refine wpList_append_more (w := w4) rfl _ _ _ rfl w.heap.size 24 i0 _ 2 16 Try.underlying22 hi0 hz0 hz1 hz3 rfl (by omega) _ n (rowP l) (by rfl) (by exact HO4.out) a' n' c' (rowP l') (by rfl) (by rw [rowP_len, HL'.out]) (pairs_row (HA'.out.under HB4.out)).news (rowP_one l') (by unfold maxLen; omega) (by omega) (by exact HB4.out.size) ?_; intro a5 c5 w5 ho5 hb5; have HO5 : Hid (w5.ownsRow w.heap.size 24 2 (.slice a5 (n + n') c5) (n + n') (rowP (l ++ l'))) := (by rw [rowP_append]; exact ho5); have HB5 : Hid (Below w.heap.size w w5) := HB4.out.trans hb5; clear ho5 hb5))
  have CN : Hid _ := rnorm_any w5 a5 c5 (l ++ l') (n + n') (by rw [List.length_append, HL.out, HL'.out]) (by omega) (own_pairs HO5.out)
  refine Calls.mono CN.out ?_
  intro e w6 h6
  obtain ⟨v6, m6, rfl, h6b, h6c, h6d⟩ := h6.back HB5.out
  have HE : Hid (∃ m, IsNorm (l ++ l') m ∧ w6.ownsRow w.heap.size 24 2 v6 m.length (rowP m) ∧ Below w.heap.size w w6) := ⟨m6, h6b, h6c, h6d⟩
  clear CN h6 h6b h6c h6d
  go_wp2
  go_ret
  obtain ⟨m, h1, h2, h3⟩ := HE.out
  exact ⟨v6, m, rfl, h1, h2, h3⟩
set_option maxRecDepth 100000 in
set_option maxHeartbeats 8000000 in
theorem ronly_any (w : World) (a a2 : Option Addr) (c c2 : Nat) (l : List Pr) (vl : List Int) (n n2 : Nat) (hl : l.length = n) (hl2 : vl.length = n2) (hn : n ≤ 1048576) (hn2 : n2 ≤ 17592186043904) (hA : PairsAt w a l) (hA2 : IntsAt w a2 vl) :
    Calls Try.prog 20 #[.slice a n c, .slice a2 n2 c2] w fun e w' => NormIs w w' e (onlyP l vl) := by
  have HA : Hid (PairsAt w a l) := hA
  have HA2 : Hid (IntsAt w a2 vl) := hA2
  have HL : Hid (l.length = n) := hl
  have HL2 : Hid (vl.length = n2) := hl2
  obtain ⟨i0, hi0, hz0, hz1, hz3⟩ := info_parts info24
  clear hA hA2 hl hl2
  go_enter Try.func20, Try.ntmps20
  go_wp2_with fail
  go_loopw [5, 6] (fun v i wx => ∃ (j q : Nat) (av : Option Addr) (cap : Nat), j ≤ n ∧ q ≤ j ∧ i = .int .i64 j ∧ v = .slice av q cap ∧ Hid ((onlyP (l.take j) vl).length = q) ∧ Hid (wx.ownsRow w.heap.size 24 2 (.slice av q cap) q (rowP (onlyP (l.take j) vl))) ∧ Hid (Below w.heap.size w wx)) (fun _ i _ => n - (intOf i).toNat)
  case atStart => exact ⟨0, 0, none, 0, Nat.zero_le _, Nat.le_refl _, rfl, rfl, rfl, World.ownsRow_nil _ _ _ _, Below.refl _ _⟩
  case round =>
    obtain ⟨j, q, av, cap, hj, hqj, rfl, rfl, hml, HO, hb⟩ := hrel
    by_cases hlt : j < n
    · have n1 : (j : Int) < (n : Int) := by omega
      obtain ⟨⟨x, y⟩, hp⟩ : ∃ p, l[j]? = some p := ⟨l[j]'(by rw [HL.out]; exact hlt), List.getElem?_eq_getElem _⟩
      obtain ⟨b2, o2, rfl, r1, r2⟩ := HA.out j _ hp
      have HTk : Hid _ := onlyP_take (vl := vl) hp
      have hbw : b2 < w.heap.size := World.block_lt_of_cell? _ _ r1
      have d1 : wr.cell? ⟨b2, o2 + j * 2, none⟩ = some (.int .i64 x) := (hb.out.cell (p := ⟨b2, o2 + j * 2, none⟩) hbw).trans r1
      have d2 : wr.cell? ⟨b2, o2 + j * 2 + 1, none⟩ = some (.int .i64 y) := (hb.out.cell (p := ⟨b2, o2 + j * 2 + 1, none⟩) hbw).trans r2
      have R1 : Hid _ := rin_any wr a2 c2 n2 vl x HL2.out (by omega) (HA2.out.under hb.out)
      have R2 : Hid _ := rin_any wr a2 c2 n2 vl y HL2.out (by omega) (HA2.out.under hb.out)
      clear r1 r2 hp hbw
      rcases hr1 : vl.contains x
      · have HTk2 : Hid (onlyP (l.take (j + 1)) vl = onlyP (l.take j) vl) := by show _ = _; rw [HTk.out, hr1, Bool.false_and, if_neg (by simp), List.append_nil]
        rw [show hasI vl x = false from hr1] at R1
        clear HTk hr1 R2
        go_wp2_with fail
        refine Calls.mono R1.out ?_
        rintro e wz ⟨rfl, hwz⟩
        subst wz
        clear R1
        go_wp2
        exact ⟨⟨j + 1, q, av, cap, by omega, by omega, by go_num, rfl, by show _ = _; rw [HTk2.out]; exact hml.out, by rw [HTk2.out]; exact HO.out, hb.out⟩, by simp [intOf]; omega⟩
      · rcases hr2 : vl.contains y
        · have HTk2 : Hid (onlyP (l.take (j + 1)) vl = onlyP (l.take j) vl) := by show _ = _; rw [HTk.out, hr2, Bool.and_false, if_neg (by simp), List.append_nil]
          rw [show hasI vl x = true from hr1] at R1
          rw [show hasI vl y = false from hr2] at R2
          clear HTk hr1 hr2
          go_wp2_with fail
          refine Calls.mono R1.out ?_
          rintro e wz ⟨rfl, hwz⟩
          subst wz
          clear R1
          go_wp2_with fail
          refine Calls.mono R2.out ?_
          rintro e wz ⟨rfl, hwz⟩
          subst wz
          clear R2
          go_wp2
          exact ⟨⟨j + 1, q, av, cap, by omega, by omega, by go_num, rfl, by show _ = _; rw [HTk2.out]; exact hml.out, by rw [HTk2.out]; exact HO.out, hb.out⟩, by simp [intOf]; omega⟩
        · have HTk2 : Hid (onlyP (l.take (j + 1)) vl = onlyP (l.take j) vl ++ [(x, y)]) := by show _ = _; rw [HTk.out, hr1, hr2, Bool.and_true, if_pos rfl]
          rw [show hasI vl x = true from hr1] at R1
          rw [show hasI vl y = true from hr2] at R2
          clear HTk hr1 hr2
          go_wp2_with fail
          refine Calls.mono R1.out ?_
          rintro e wz ⟨rfl, hwz⟩
          subst wz
          clear R1
          go_wp2_with fail
          refine Calls.mono R2.out ?_
          rintro e wz ⟨rfl, hwz⟩
          subst wz
          clear R2
          go_wp2_with (at_builtin; refine wpList_append_more (w := wr.alloc (.cells #[.int .i64 x, .int .i64 y] 24)) rfl _ _ _ rfl w.heap.size 24 i0 _ 2 16 Try.underlying22 hi0 hz0 hz1 hz3 rfl (by omega) _ q (rowP (onlyP (l.take j) vl)) (by rfl) (by exact HO.out.alloc _) (some ⟨wr.heap.size, 0, none⟩) 1 1 [.int .i64 x, .int .i64 y] (by rfl) (by rfl) (fun j' u hu => ⟨_, rfl, World.news_of_block (cs := #[.int .i64 x, .int .i64 y]) (t := 24) (fr := (0, 0)) (World.alloc_heap_new wr _) j' u hu⟩) (by simp [Value.oneCell']) (by unfold maxLen; omega) (by omega) (by exact Nat.le_trans hb.out.size (below_alloc _ _).size) ?_; intro a4 c4 w4 ho4 hb4; have HO4 : Hid (w4.ownsRow w.heap.size 24 2 (.slice a4 (q + 1) c4) (q + 1) (rowP (onlyP (l.take j) vl ++ [(x, y)]))) := (by rw [rowP_snoc]; exact ho4); have HB4 : Hid (Below w.heap.size w w4) := (hb.out.alloc hb.out.size _).trans hb4; clear ho4 hb4)
          go_wp2
          exact ⟨⟨j + 1, q + 1, _, _, by omega, by omega, by go_num, rfl, by show _ = _; rw [HTk2.out, List.length_append, hml.out]; rfl, by rw [HTk2.out]; exact HO4.out, HB4.out⟩, by simp [intOf]; omega⟩
    · have n1 : ¬ (j : Int) < (n : Int) := by omega
      have htk : l.take j = l := List.take_of_length_le (by rw [HL.out]; omega)
      rw [htk] at hml HO
      have CO : Hid _ := rnorm_any wr av cap (onlyP l vl) q hml.out (by omega) (own_pairs HO.out)
      clear htk HO
      go_wp2_with fail
      refine Calls.mono CO.out ?_
      intro e w5 h5
      obtain ⟨v5, m5, rfl, h5b, h5c, h5d⟩ := h5.back hb.out
      have HE : Hid (∃ m, IsNorm (onlyP l vl) m ∧ w5.ownsRow w.heap.size 24 2 v5 m.length (rowP m) ∧ Below w.heap.size w w5) := ⟨m5, h5b, h5c, h5d⟩
      clear CO h5 h5b h5c h5d
      go_wp2
      go_ret
      obtain ⟨m, h1, h2, h3⟩ := HE.out
      exact ⟨v5, m, rfl, h1, h2, h3⟩
end Go.Proofs.Ytjaccgkeldabfaa
