/- What New answers. -/
import Derived.Test.YtjaccgkeldabfaaGreatSSort
import Derived.Test.YtjaccgkeldabfaaGreatSPart
import Derived.Handy
namespace Go.Proofs.YtjaccgkeldabfaaGreat.S
open Go.RowKit

theorem perm_lift {α β : Type} (f : α → β) {l m : List β} (h : l.Perm m) : ∀ z : List α, m = z.map f → ∃ z' : List α, z'.Perm z ∧ z'.map f = l := by
  induction h with
  | nil =>
    intro z hz
    exact ⟨[], by rw [List.map_eq_nil_iff.1 hz.symm], rfl⟩
  | cons x _ ih =>
    intro z hz
    cases z with
    | nil => cases hz
    | cons a z0 =>
      simp only [List.map_cons, List.cons.injEq] at hz
      obtain ⟨rfl, hz⟩ := hz
      obtain ⟨z', h1, h2⟩ := ih z0 hz
      exact ⟨a :: z', h1.cons a, by rw [List.map_cons, h2]⟩
  | swap x y t =>
    intro z hz
    cases z with
    | nil => cases hz
    | cons a z0 =>
      cases z0 with
      | nil => simp at hz
      | cons b z1 =>
        simp only [List.map_cons, List.cons.injEq] at hz
        obtain ⟨rfl, rfl, rfl⟩ := hz
        exact ⟨b :: a :: z1, List.Perm.swap a b z1, rfl⟩
  | trans _ _ ih1 ih2 =>
    intro z hz
    obtain ⟨z2, h1, h2⟩ := ih2 z hz
    obtain ⟨z', h3, h4⟩ := ih1 z2 h2.symm
    exact ⟨z', h3.trans h1, h4⟩
/-- A bind in memory and what it says. -/
def Says (w : World) (d : S) (p : Int × List Int) : Prop := d.1 = p.1 ∧ d.2.2.1 = p.2.length ∧ IntsAt w d.2.1 p.2
def toS (v : Int × Value) : S := match v.2 with
  | .slice a n c => (v.1, a, n, c)
  | _ => (v.1, none, 0, 0)
/-- Binds that were handed in, each with what it says. -/
theorem Matches.pairs {w : World} {vs : List (Int × Value)} {bl : List (Int × List Int)} (h : Matches w vs bl) : ∃ z : List (S × (Int × List Int)), (z.map (·.1)).map toB = vs ∧ z.map (·.2) = bl ∧ ∀ q ∈ z, Says w q.1 q.2 := by
  refine ⟨(vs.map toS).zip bl, ?_, ?_, ?_⟩
  · rw [List.map_fst_zip (by simp [h.1]), List.map_map]
    apply List.ext_getElem?
    intro i
    rw [List.getElem?_map]
    cases hv : vs[i]? with
    | none => rfl
    | some v =>
      have hlt : i < bl.length := by rw [← h.1]; exact (List.getElem?_eq_some_iff.1 hv).1
      obtain ⟨a, c, h1, _⟩ := h.2 i bl[i] (List.getElem?_eq_getElem hlt)
      rw [hv] at h1
      cases h1
      rfl
  · rw [List.map_snd_zip (by simp [h.1])]
  · intro q hq
    obtain ⟨i, hi⟩ := List.getElem?_of_mem hq
    rw [List.getElem?_zip_eq_some, List.getElem?_map] at hi
    obtain ⟨a, c, h1, h2⟩ := h.2 i q.2 hi.2
    rw [h1] at hi
    have e : toS (q.2.1, Value.slice a q.2.2.length c) = q.1 := by simpa using hi.1
    rw [← e]
    exact ⟨rfl, rfl, h2⟩
theorem says_matches {w : World} {z : List (S × (Int × List Int))} (h : ∀ q ∈ z, Says w q.1 q.2) : Matches w ((z.map (·.1)).map toB) (z.map (·.2)) := by
  refine ⟨by simp, fun i p hi => ?_⟩
  rw [List.getElem?_map] at hi
  obtain ⟨q, hq, rfl⟩ := Option.map_eq_some_iff.1 hi
  obtain ⟨h1, h2, h3⟩ := h q (List.mem_of_getElem? hq)
  refine ⟨q.1.2.1, q.1.2.2.2, ?_, h3⟩
  rw [List.map_map, List.getElem?_map, hq]
  show some (toB q.1) = _
  unfold toB
  rw [h1, h2]
theorem Says.under {w w' : World} {d : S} {p : Int × List Int} (h : Says w d p) (hb : Below w.heap.size w w') : Says w' d p := ⟨h.1, h.2.1, h.2.2.under hb⟩
/-- .. also where a row that is none of theirs has turned. -/
theorem strict_of {l : List Int} (h1 : l.Pairwise (· ≤ ·)) (h2 : ∀ (i : Nat) (x y : Int), l[i]? = some x → l[i + 1]? = some y → x ≠ y) : l.Pairwise (· < ·) := by
  rw [List.pairwise_iff_getElem] at h1 ⊢
  intro i j hi hj hij
  have h3 := h1 (j - 1) j (by omega) hj (by omega)
  have h4 := h2 (j - 1) l[j - 1] l[j] (List.getElem?_eq_getElem (by omega)) (by rw [show j - 1 + 1 = j by omega]; exact List.getElem?_eq_getElem hj)
  by_cases e : i = j - 1
  · subst e; omega
  · have h5 := h1 i (j - 1) hi (by omega) (by omega)
    omega
/-- sortByVar of whatever row of one's own. -/
theorem sort_all (w : World) (base n : Nat) (v : Value) (ds : List S) (hl : ds.length = n) (hn : n ≤ 4398046511000) (h : w.ownsRow base 46 2 v n (rowB (ds.map toB))) :
    Calls Tryz.prog 30 #[v] w fun e w' => e = .returned (.tuple #[]) ∧ w.grownBy w' v.ownBlock ∧ ∃ (ds' : List S) (a : Option Addr) (c : Nat), v = .slice a n c ∧ ds'.Perm ds ∧ ds'.Pairwise (fun p q => p.1 ≤ q.1) ∧ RowAt w' a (rowB (ds'.map toB)) := by
  rcases h.2 with ⟨rfl, h0⟩ | ⟨g, cap, cur, rfl, _⟩
  · subst h0
    obtain rfl := List.eq_nil_of_length_eq_zero hl
    have hcon := AnyF.slices_SortFunc_none Tryz.sortS none 0 (.func (.func 52) #[] #[]) w
    change Calls Tryz.prog 51 _ _ _ at hcon
    have HC : Hid _ := hcon
    clear hcon h
    have main : Calls Tryz.prog 30 #[.slice none 0 0] w fun e w' => e = .returned (.tuple #[]) ∧ w' = w := by
      go_enter Tryz.func30, Tryz.ntmps30
      go_wp2_with fail
      refine Calls.mono HC.out ?_
      rintro e wz ⟨rfl, hwz⟩
      subst wz
      go_wp2
      go_end0
      exact ⟨rfl, rfl⟩
    refine main.mono fun e w' ⟨he, hw⟩ => ?_
    subst hw
    exact ⟨he, ⟨rfl, rfl, rfl, Nat.le_refl _, fun _ _ _ => rfl⟩, [], none, 0, rfl, List.Perm.refl _, List.Pairwise.nil, fun i u hi => by simp [rowB] at hi⟩
  · exact (sort_any w base g n cap ds hl hn h).mono fun e w' ⟨he, hg, ds', h1, h2, h3⟩ => ⟨he, hg, ds', _, _, rfl, h1, h2, h3⟩
def NewIs (w w' : World) (e : Ending) (bl : List (Int × List Int)) (n : Nat) : Prop := Below w.heap.size w w' ∧
  ((¬ (bl.map (·.1)).Nodup ∧ e = .returned (.tuple #[.agg #[.slice none 0 0], .int .i64 40])) ∨
   ((bl.map (·.1)).Nodup ∧ ∃ (bl' : List (Int × List Int)) (a : Option Addr) (c : Nat) (vs : List (Int × Value)), bl'.Perm bl ∧ Rises bl' ∧ e = .returned (.tuple #[.agg #[.slice a n c], .int .i64 0]) ∧ w'.ownsRow w.heap.size 46 2 (.slice a n c) n (rowB vs) ∧ Owns w.heap.size w' vs bl'))
theorem adj_at {ds : List S} {n : Nat} {a : Option Addr} {w : World} (hR : RowAt w a (rowB (ds.map toB))) (hl : ds.length = n) {i : Nat} (hi : i < n) : ∃ (b off : Nat) (x : Int), a = some ⟨b, off, none⟩ ∧ (ds.map (·.1))[i]? = some x ∧ w.cell? ⟨b, off + i * 2, none⟩ = some (.int .i64 x) := by
  have hlt : i < ds.length := by omega
  have h := rowB_at (ds.map toB) i (toB ds[i]) (by rw [List.getElem?_map, List.getElem?_eq_getElem hlt]; rfl)
  obtain ⟨b, off, e, hc⟩ := hR _ _ h.1
  exact ⟨b, off, ds[i].1, e, by rw [List.getElem?_map, List.getElem?_eq_getElem hlt]; rfl, hc⟩

set_option maxRecDepth 100000 in
set_option maxHeartbeats 8000000 in
theorem new_any (w : World) (a : Option Addr) (n c : Nat) (vs0 : List (Int × Value)) (bl : List (Int × List Int)) (hl : bl.length = n) (hn : n ≤ 4398046511000) (hbig : ∀ p ∈ bl, p.2.length ≤ 17592186043904) (hR : RowAt w a (rowB vs0)) (hM : Matches w vs0 bl) :
    Calls Tryz.prog 7 #[.slice a n c] w fun e w' => NewIs w w' e bl n := by
  obtain ⟨i0, hi0, hz0, hz1, hz3⟩ := info_parts infoB
  obtain ⟨z, e1, e2, hsay⟩ := hM.pairs
  have hvl : vs0.length = n := by rw [hM.1, hl]
  have hone : ∀ u ∈ rowB vs0, u.oneCell' = true := rowB_one vs0 fun p hp => by
    rw [← e1] at hp
    obtain ⟨d, _, rfl⟩ := List.mem_map.1 hp
    rfl
  have k0 : (w.alloc (.cells #[.slice none 0 0] 27)).cell? ⟨w.heap.size, 0, none⟩ = some (.slice none 0 0) := World.cell?_alloc_new w _ _ 0
  have kf : (w.alloc (.cells #[.slice none 0 0] 27)).frozen? ⟨w.heap.size, 0, none⟩ = false := World.frozen?_alloc_new w _ _ 0
  have hbA := below_alloc w (.cells #[.slice none 0 0] 27)
  have HA : Hid (Below w.heap.size w (w.alloc (.cells #[.slice none 0 0] 27))) := hbA
  have HR : Hid (RowAt (w.alloc (.cells #[.slice none 0 0] 27)) a (rowB vs0)) := hR.under hbA
  have HSay : Hid (∀ q ∈ z, Says w q.1 q.2) := hsay
  have HBig : Hid (∀ p ∈ bl, p.2.length ≤ 17592186043904) := hbig
  have HOne : Hid (∀ u ∈ rowB vs0, u.oneCell' = true) := hone
  have E1 : Hid ((z.map (·.1)).map toB = vs0) := e1
  have E2 : Hid (z.map (·.2) = bl) := e2
  have HVL : Hid ((rowB vs0).length = n * 2) := by show _ = _; rw [rowB_len, hvl]
  have HZL : Hid ((z.map (·.1)).length = n) := by show _ = _; rw [List.length_map, ← hl, ← e2, List.length_map]
  clear hR hM hsay hbig hone e1 e2 hbA hvl hl
  go_enter Tryz.func7, Tryz.ntmps7
  go_wp2_with (at_builtin; refine wpList_append_more (w := w.alloc (.cells #[.slice none 0 0] 27)) rfl _ _ _ rfl (w.alloc (.cells #[.slice none 0 0] 27)).heap.size 46 i0 _ 2 32 Tryz.underlying23 hi0 hz0 hz1 hz3 rfl (by omega) _ 0 [] (by rfl) (by exact World.ownsRow_nil _ _ _ _) a n c (rowB vs0) (by rfl) (by exact HVL.out) (by exact HR.out.news) (by exact HOne.out) (by unfold maxLen; omega) (by omega) (Nat.le_refl _) ?_; intro a1 c1 w1 ho1 hb1; rw [Nat.zero_add, List.nil_append] at ho1; have HO1 : Hid (w1.ownsRow (w.alloc (.cells #[.slice none 0 0] 27)).heap.size 46 2 (.slice a1 n c1) n (rowB vs0)) := ho1; have HB1 : Hid (Below (w.alloc (.cells #[.slice none 0 0] 27)).heap.size (w.alloc (.cells #[.slice none 0 0] 27)) w1) := hb1; clear ho1 hb1)
  generalize hwA : w.alloc (.cells #[.slice none 0 0] 27) = wA at *
  have HB0 : w.heap.size < wA.heap.size := World.block_lt_of_cell? _ _ k0
  generalize hB0 : w.heap.size = B0 at *
  have HB0e : Hid (w.heap.size = B0) := hB0
  have K0 : Hid (wA.cell? ⟨B0, 0, none⟩ = some (.slice none 0 0)) := k0
  have KF : Hid (wA.frozen? ⟨B0, 0, none⟩ = false) := kf
  clear hwA hB0 k0 kf
  have SO : Hid _ := sort_all w1 wA.heap.size n (.slice a1 n c1) (z.map (·.1)) HZL.out hn (by rw [E1.out]; exact HO1.out)
  refine Calls.mono SO.out ?_
  rintro e w2 ⟨rfl, hg2, ds', a2, c2, e2, hperm, hsort, hrow⟩
  cases e2
  obtain ⟨z', hz1', hz2'⟩ := perm_lift (·.1) hperm z rfl
  have HB2 : Hid (Below wA.heap.size wA w2) := HB1.out.grown hg2 HB1.out.size (own_ge HO1.out)
  have HRow : Hid (RowAt w2 a1 (rowB (ds'.map toB))) := hrow
  have HSort : Hid ((ds'.map (·.1)).Pairwise (· ≤ ·)) := by rw [List.pairwise_map]; exact hsort
  have HDL : Hid (ds'.length = n) := by show _ = _; rw [hperm.length_eq]; exact HZL.out
  have HZ : Hid (z'.Perm z) := hz1'
  have HZ2 : Hid (z'.map (·.1) = ds') := hz2'
  clear hg2 hperm hsort hrow hz1' hz2' SO HO1 HB1
  go_wp2_with fail
  go_loopw [5] (fun v wx => ∃ i : Nat, 1 ≤ i ∧ i ≤ n + 1 ∧ v = .int .i64 i ∧ Hid (∀ (t : Nat) (x y : Int), t + 1 < i → (ds'.map (·.1))[t]? = some x → (ds'.map (·.1))[t + 1]? = some y → x ≠ y) ∧ Hid (Below w2.heap.size w2 wx)) (fun v _ => n + 1 - (intOf v).toNat)
  case atStart => exact ⟨1, Nat.le_refl _, by omega, rfl, fun t x y ht => absurd ht (by omega), Below.refl _ _⟩
  case round =>
    obtain ⟨i, hi1, hi2, rfl, hadj, hb⟩ := hrel
    have kc : wr.cell? ⟨B0, 0, none⟩ = some (.slice none 0 0) := ((HB2.out.trans (hb.out.mono HB2.out.size)).cell (p := ⟨B0, 0, none⟩) HB0).trans K0.out
    have kz : wr.frozen? ⟨B0, 0, none⟩ = false := ((HB2.out.trans (hb.out.mono HB2.out.size)).frozen (p := ⟨B0, 0, none⟩) HB0).trans KF.out
    by_cases hlt : i < n
    · have n1 : (i : Int) < (n : Int) := by omega
      have hR2 := HRow.out.under hb.out
      obtain ⟨b1, o1, x, rfl, hx, hc1⟩ := adj_at hR2 HDL.out (i := i - 1) (by omega)
      obtain ⟨_, _, y, ey, hy, hc2⟩ := adj_at hR2 HDL.out (i := i) hlt
      cases ey
      have f1 : IntKind.i64.wrap ((i : Int) - 1) = ((i - 1 : Nat) : Int) := by rw [IntWalk.i64_in _ (by omega)]; omega
      have f2 : ((i - 1 : Nat) : Int) < (n : Int) := by omega
      have Hx : Hid ((ds'.map (·.1))[i - 1]? = some x) := hx
      have Hy : Hid ((ds'.map (·.1))[i]? = some y) := hy
      clear hR2 hx hy
      by_cases hxy : x = y
      · subst hxy
        have hdup : Hid (¬ (bl.map (·.1)).Nodup) := fun hnd => by
          have h1 : (z'.map (·.2)).Perm bl := by rw [← E2.out]; exact HZ.out.map _
          have h2 : ((z'.map (·.2)).map (·.1)).Nodup := ((h1.map (·.1)).nodup_iff).2 hnd
          have h3 : (z'.map (·.2)).map (·.1) = ds'.map (·.1) := by
            rw [← HZ2.out, List.map_map, List.map_map]
            apply List.map_congr_left
            intro q hq
            exact (HSay.out q (HZ.out.mem_iff.1 hq)).1.symm
          rw [h3] at h2
          obtain ⟨g1, e1⟩ := List.getElem?_eq_some_iff.1 Hx.out
          obtain ⟨g2, e2⟩ := List.getElem?_eq_some_iff.1 Hy.out
          have := List.pairwise_iff_getElem.1 h2 (i - 1) i g1 g2 (by omega)
          exact this (by rw [e1, e2])
        have kw : ∀ nq, ((wr.drewN nq).setCell ⟨B0, 0, none⟩ (.slice none 0 0)).cell? ⟨B0, 0, none⟩ = some (.slice none 0 0) := fun nq => World.cell?_setCell_same _ _ _ (u := .slice none 0 0) kc
        have Hend : Hid (∀ nq, Below w.heap.size w ((wr.drewN nq).setCell ⟨B0, 0, none⟩ (.slice none 0 0))) := by
          intro nq
          rw [HB0e.out]
          have h1 : Below B0 w wr := HA.out.trans ((HB2.out.trans (hb.out.mono HB2.out.size)).mono (Nat.le_of_lt HB0))
          have h2 : Below B0 w (wr.drewN nq) := ⟨h1.os, h1.tape, h1.output, h1.size, h1.block⟩
          exact h2.setCell (p := ⟨B0, 0, none⟩) (Nat.le_refl _) _
        go_wp2_with fail
        go_quiet (fail)
        go_wp2
        (try simp only [Exit.inBlock, Exit.then])
        refine bodyPost_ret (by simp [results, Tryz.results7, go_sem, kw]; try rfl) rfl ?_
        exact ⟨Hend.out _, .inl ⟨hdup.out, rfl⟩⟩
      · have hb' : (x == y) = false := by simpa using hxy
        have Hadj : Hid (∀ (t : Nat) (x y : Int), t + 1 < i + 1 → (ds'.map (·.1))[t]? = some x → (ds'.map (·.1))[t + 1]? = some y → x ≠ y) := fun t u v ht h1 h2 => by
          by_cases e : t + 1 = i
          · have et : t = i - 1 := by omega
            subst et
            rw [show i - 1 + 1 = i by omega] at h2
            rw [Hx.out] at h1
            rw [Hy.out] at h2
            cases h1
            cases h2
            exact hxy
          · exact hadj.out t u v (by omega) h1 h2
        go_wp2_with fail
        go_quiet (fail)
        go_wp2
        exact ⟨⟨i + 1, by omega, by omega, by go_num, Hadj.out, hb.out.trans ⟨rfl, rfl, rfl, Nat.le_refl _, fun _ _ => rfl⟩⟩, by simp [intOf]; omega⟩
    · have n1 : ¬ (i : Int) < (n : Int) := by omega
      have HBr : Hid (Below wA.heap.size wA wr) := HB2.out.trans (hb.out.mono HB2.out.size)
      have hbw : Below w.heap.size w wr := by rw [HB0e.out]; exact HA.out.trans (HBr.out.mono (Nat.le_of_lt HB0))
      have hsays : ∀ q ∈ z', Says wr q.1 q.2 := fun q hq => (HSay.out q (HZ.out.mem_iff.1 hq)).under hbw
      have hperm : (z'.map (·.2)).Perm bl := by rw [← E2.out]; exact HZ.out.map _
      have hblen : (z'.map (·.2)).length = n := by rw [List.length_map, ← HDL.out, ← HZ2.out, List.length_map]
      have hmat := says_matches hsays
      rw [HZ2.out] at hmat
      have CO : Hid _ := copies_any wr a1 c1 (ds'.map toB) (z'.map (·.2)) n hblen hn (fun p hp => HBig.out p (hperm.mem_iff.1 hp)) (HRow.out.under hb.out) hmat
      have hvars : (z'.map (·.2)).map (·.1) = ds'.map (·.1) := by
        rw [← HZ2.out, List.map_map, List.map_map]
        apply List.map_congr_left
        intro q hq
        exact (HSay.out q (HZ.out.mem_iff.1 hq)).1.symm
      have hstrict : (ds'.map (·.1)).Pairwise (· < ·) := strict_of HSort.out fun t x y h1 h2 => hadj.out t x y (by
        have := (List.getElem?_eq_some_iff.1 h2).1
        rw [List.length_map, HDL.out] at this
        omega) h1 h2
      have HRise : Hid (Rises (z'.map (·.2))) := by
        have h1 := hstrict
        rw [← hvars, List.pairwise_map] at h1
        exact h1
      have HNd : Hid ((bl.map (·.1)).Nodup) := by
        have h1 : (ds'.map (·.1)).Nodup := hstrict.imp fun h => by omega
        rw [← hvars] at h1
        exact ((hperm.map (·.1)).nodup_iff).1 h1
      have HP : Hid ((z'.map (·.2)).Perm bl) := hperm
      have Hbw : Hid (Below w.heap.size w wr) := hbw
      have HBL : Hid ((z'.map (·.2)).length = n) := hblen
      clear hsays hperm hblen hmat hvars hstrict hbw
      go_wp2_with fail
      refine Calls.mono CO.out ?_
      rintro e w5 ⟨v5, rfl, vs5, ho5, hO5, hb5⟩
      rw [HBL.out] at ho5
      obtain ⟨a5, c5, rfl, _, _, _⟩ := own_row ho5
      have kc5 : w5.cell? ⟨B0, 0, none⟩ = some (.slice none 0 0) := (hb5.cell (p := ⟨B0, 0, none⟩) (World.block_lt_of_cell? _ _ kc)).trans kc
      have kz5 : w5.frozen? ⟨B0, 0, none⟩ = false := (hb5.frozen (p := ⟨B0, 0, none⟩) (World.block_lt_of_cell? _ _ kc)).trans kz
      have kw : (w5.setCell ⟨B0, 0, none⟩ (.slice a5 n c5)).cell? ⟨B0, 0, none⟩ = some (.slice a5 n c5) := World.cell?_setCell_same _ _ _ (u := .slice none 0 0) kc5
      have hsz : B0 < wr.heap.size := World.block_lt_of_cell? _ _ kc
      have Hb6 : Hid (Below w.heap.size w (w5.setCell ⟨B0, 0, none⟩ (.slice a5 n c5))) := (Hbw.out.trans (hb5.mono Hbw.out.size)).setCell (by rw [HB0e.out]; exact Nat.le_refl _) _
      have H5 : Hid ((w5.setCell ⟨B0, 0, none⟩ (.slice a5 n c5)).ownsRow w.heap.size 46 2 (.slice a5 n c5) n (rowB vs5)) := owns_down (ownsRow_setCell_below ho5 (a := ⟨B0, 0, none⟩) hsz _) Hbw.out.size
      have O5 : Hid (Owns w.heap.size (w5.setCell ⟨B0, 0, none⟩ (.slice a5 n c5)) vs5 (z'.map (·.2))) := ⟨hO5.1, fun i p hi => by
        obtain ⟨v, h1, h2⟩ := hO5.2 i p hi
        exact ⟨v, h1, owns_down (ownsRow_setCell_below h2 (a := ⟨B0, 0, none⟩) hsz _) Hbw.out.size⟩⟩
      clear ho5 hO5 hb5 CO
      go_wp2
      (try simp only [Exit.inBlock, Exit.then])
      refine bodyPost_ret (by simp [results, Tryz.results7, go_sem, kw]; try rfl) rfl ?_
      exact ⟨Hb6.out, .inr ⟨HNd.out, z'.map (·.2), a5, c5, vs5, HP.out, HRise.out, rfl, H5.out, O5.out⟩⟩
end Go.Proofs.YtjaccgkeldabfaaGreat.S
