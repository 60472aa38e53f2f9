/- Float: a floating hypothesis declared; Open: a scope opened. -/
import Derived.Test.YtkejjiilcoacfaaGreatFrG
namespace Go.Proofs.YtkejjiilcoacfaaGreat
open Go.Maps Go.RowKit Go.WideMaps

/-- A scope, said without memory. -/
structure Sa where
  hs : List Hy
  ps : List Pp
def absC (x : ScC) : Sa := ⟨x.hs.map (·.h), x.ps⟩
def tyA (l : List Sa) (v : Int) : Option Int := l.findSome? fun a => tyOf a.hs v
theorem tyS_abs (xs : List ScC) (v : Int) : tyS xs v = tyA (xs.map absC) v := by
  unfold tyS tyA
  rw [List.findSome?_map]
  rfl
/-- The innermost scope turned. -/
def inLast (f : Sa → Sa) (l : List Sa) : List Sa := match l.getLast? with | some a => l.dropLast ++ [f a] | none => []
theorem inLast_snoc (f : Sa → Sa) (l : List Sa) (a : Sa) : inLast f (l ++ [a]) = l ++ [f a] := by unfold inLast; rw [List.getLast?_concat, List.dropLast_concat]
/-- What a call that declares something comes to. -/
def Decl (O : Nat → Prop) (w : World) (P : Nat) (E : Int) (l : List Sa) (e : Ending) (w' : World) : Prop := e = .returned (.int .i64 E) ∧ ∃ vS xs, StackAt (More O w w') w' P vS xs ∧ xs.map absC = l ∧ M.Ch O w w'
theorem StackAt.up {O O' : Nat → Prop} {W : World} {P : Nat} {vS : Value} {xs : List ScC} (h : StackAt O W P vS xs) (ho : ∀ g, O g → O' g) (hl : ∀ g, O' g → g < W.heap.size) : StackAt O' W P vS xs := ⟨h.box, ho _ h.bo, h.row, fun g e => ho g (h.ro g e), fun x hx => (h.each x hx).mono ho, h.ap, hl⟩
theorem Decl.same {O : Nat → Prop} {w w' : World} {P : Nat} {vS : Value} {xs : List ScC} {E : Int} (h : StackAt O w P vS xs) (hb : Below w.heap.size w w') : Decl O w P E (xs.map absC) (.returned (.int .i64 E)) w' :=
  ⟨rfl, vS, xs, (h.below hb).up (fun _ hg => .inl hg) (fun g hg => by
    rcases hg with hg | hg
    · exact Nat.lt_of_lt_of_le (h.lt g hg) hb.size
    · exact hg.2), rfl, M.Ch.of_below hb⟩
def floatE (l : List Sa) (typ v : Int) : Int := if isV v = false then 71 else if isV typ = true then 72 else if (tyA l v).isSome = true then 70 else 0
def floatL (l : List Sa) (lab : ByteArray) (typ v : Int) : List Sa := if floatE l typ v = 0 then inLast (fun a => ⟨a.hs ++ [⟨lab, true, v, [typ, v]⟩], a.ps⟩) l else l
theorem StackAt.shape {O : Nat → Prop} {W : World} {P : Nat} {vS : Value} {xs : List ScC} (h : StackAt O W P vS xs) (hn : 0 < xs.length) : ∃ g c cs, vS = .slice (some ⟨g, 0, none⟩) xs.length c ∧ W.heap[g]? = some (.cells cs 83 (0, 0)) ∧ ∀ (i j : Nat) (x : ScC), xs[i]? = some x → j < 3 → cs[i * 3 + j]? = (scC x)[j]? := by
  obtain ⟨g, c, rfl, _, _, _⟩ := M.own_some h.row hn
  obtain ⟨cs, hcs⟩ := own_block h.row (g := g) rfl
  refine ⟨g, c, cs, rfl, hcs, fun i j x hx hj => ?_⟩
  have h1 := rowSc_at xs i j x hx hj
  have hlt : j < (scC x).length := hj
  rw [List.getElem?_eq_getElem hlt] at h1 ⊢
  have h2 := M.row_cells h.row _ _ h1
  rw [M.cell_whole hcs] at h2
  exact h2

set_option maxRecDepth 100000 in
set_option maxHeartbeats 8000000 in
theorem sFloat_any (w : World) (O : Nat → Prop) (P : Nat) (vS : Value) (xs : List ScC) (lab : ByteArray) (typ v : Int) (h : StackAt O w P vS xs) (h0 : 0 < xs.length) (hn : xs.length ≤ 1048576) (hm : ∀ x ∈ xs, x.hs.length ≤ 1048576) (hlab : lab.size ≤ 281474976710656) (ht : wfN typ) (hv : wfN v) :
    Calls Tryz.prog 29 #[.pointer (some ⟨P, 0, none⟩), .string lab, .int .i64 typ, .int .i64 v] w (Decl O w P (floatE (xs.map absC) typ v) (floatL (xs.map absC) lab typ v)) := by
  obtain ⟨x0, x1⟩ := h.cells
  have HS : Hid (StackAt O w P vS xs) := h
  have VA : Hid (∀ n wx, Calls Tryz.prog 10 #[.int .i64 n] wx fun e w' => e = .returned (.bool (isV n)) ∧ w' = wx) := fun n wx => vars_any wx n
  have TY : Hid _ := type_any w O P vS xs v h hn hv
  have HM : Hid (0 < xs.length ∧ xs.length ≤ 1048576 ∧ (∀ x ∈ xs, x.hs.length ≤ 1048576) ∧ lab.size ≤ 281474976710656 ∧ wfN typ ∧ wfN v) := ⟨h0, hn, hm, hlab, ht, hv⟩
  clear h h0 hn hm hlab ht hv
  unfold varsV at x0
  cases e1 : isV v with
  | false =>
    have HE : Hid (floatE (xs.map absC) typ v = 71 ∧ floatL (xs.map absC) lab typ v = xs.map absC) := by
      have h1 : floatE (xs.map absC) typ v = 71 := by unfold floatE; rw [if_pos e1]
      exact ⟨h1, by unfold floatL; rw [h1]; rfl⟩
    have V1 : Hid _ := VA.out v w
    rw [e1] at V1
    clear e1
    go_enter Tryz.func29, Tryz.ntmps29
    go_wp2_with fail
    refine Calls.mono V1.out ?_
    rintro e wz ⟨rfl, hwz⟩
    subst wz
    go_wp2
    go_ret
    rw [HE.out.1, HE.out.2]
    exact Decl.same HS.out (Below.refl _ _)
  | true =>
    have V1 : Hid _ := VA.out v w
    rw [e1] at V1
    cases e2 : isV typ with
    | true =>
      have HE : Hid (floatE (xs.map absC) typ v = 72 ∧ floatL (xs.map absC) lab typ v = xs.map absC) := by
        have h1 : floatE (xs.map absC) typ v = 72 := by unfold floatE; rw [e1, if_neg (by simp), if_pos e2]
        exact ⟨h1, by unfold floatL; rw [h1]; rfl⟩
      have V2 : Hid _ := VA.out typ w
      rw [e2] at V2
      clear e1 e2
      go_enter Tryz.func29, Tryz.ntmps29
      go_wp2_with fail
      refine Calls.mono V1.out ?_
      rintro e wz ⟨rfl, hwz⟩
      subst wz
      go_wp2_with fail
      refine Calls.mono V2.out ?_
      rintro e wz ⟨rfl, hwz⟩
      subst wz
      go_wp2
      go_ret
      rw [HE.out.1, HE.out.2]
      exact Decl.same HS.out (Below.refl _ _)
    | false =>
      have V2 : Hid _ := VA.out typ w
      rw [e2] at V2
      cases e3 : tyS xs v with
      | some t =>
        have HE : Hid (floatE (xs.map absC) typ v = 70 ∧ floatL (xs.map absC) lab typ v = xs.map absC) := by
          have h1 : floatE (xs.map absC) typ v = 70 := by unfold floatE; rw [e1, if_neg (by simp), e2, if_neg (by simp), ← tyS_abs, e3]; rfl
          exact ⟨h1, by unfold floatL; rw [h1]; rfl⟩
        rw [e3] at TY
        clear e1 e2 e3
        go_enter Tryz.func29, Tryz.ntmps29
        go_wp2_with fail
        refine Calls.mono V1.out ?_
        rintro e wz ⟨rfl, hwz⟩
        subst wz
        go_wp2_with fail
        refine Calls.mono V2.out ?_
        rintro e wz ⟨rfl, hwz⟩
        subst wz
        go_wp2_with fail
        refine Calls.mono TY.out ?_
        rintro e w5 ⟨rfl, hb5⟩
        have B5 : Hid (Below w.heap.size w w5) := hb5
        clear hb5 TY
        go_wp2
        go_ret
        rw [HE.out.1, HE.out.2]
        exact Decl.same HS.out B5.out
      | none =>
        obtain ⟨ys, x, hxs⟩ : ∃ ys x, xs = ys ++ [x] := ⟨xs.dropLast, xs.getLast (List.ne_nil_of_length_pos HM.out.1), (List.dropLast_concat_getLast _).symm⟩
        have hE : floatE (xs.map absC) typ v = 0 := by unfold floatE; rw [e1, if_neg (by simp), e2, if_neg (by simp), ← tyS_abs, e3]; rfl
        have HE : Hid (floatE (xs.map absC) typ v = 0 ∧ floatL (xs.map absC) lab typ v = ys.map absC ++ [⟨x.hs.map (·.h) ++ [⟨lab, true, v, [typ, v]⟩], x.ps⟩]) := ⟨hE, by unfold floatL; rw [hE, if_pos rfl, hxs, List.map_append]; exact inLast_snoc _ _ _⟩
        have hty : tyOf (x.hs.map (·.h)) v = none := by
          rw [hxs] at e3
          unfold tyS at e3
          rw [List.findSome?_eq_none_iff] at e3
          exact e3 x (by simp)
        rw [e3] at TY
        have HTY : Hid (tyOf (x.hs.map (·.h)) v = none) := hty
        clear e1 e2 e3 hE hty
        go_enter Tryz.func29, Tryz.ntmps29
        go_wp2_with fail
        refine Calls.mono V1.out ?_
        rintro e wz ⟨rfl, hwz⟩
        subst wz
        go_wp2_with fail
        refine Calls.mono V2.out ?_
        rintro e wz ⟨rfl, hwz⟩
        subst wz
        go_wp2_with fail
        refine Calls.mono TY.out ?_
        rintro e w5 ⟨rfl, hb5⟩
        have S5 := HS.out.below hb5
        obtain ⟨g, c, cs, hvS, hcs, hcell⟩ := S5.shape HM.out.1
        subst hxs
        have hlen : (ys ++ [x]).length = ys.length + 1 := by rw [List.length_append]; rfl
        rw [hlen] at hvS
        subst hvS
        have IN : Hid _ := inner_any w5 O P g (ys.length + 1) c (ys ++ [x]) hlen (by omega) (by have := HM.out.2.1; omega) S5
        rw [show (ys.length + 1 - 1) * 3 = ys.length * 3 by omega] at IN
        have hxat : (ys ++ [x])[ys.length]? = some x := by simp
        have FL : Hid (∀ q, Calls Tryz.prog 68 #[.pointer (some ⟨g, ys.length * 3, none⟩), .string lab, .int .i64 typ, .int .i64 v] (w5.drewN q) fun e w' => e = .returned (.tuple #[]) ∧ ∃ vl' ve, Put (w5.drewN q) w' g (ys.length * 3) cs x vl' ve ⟨lab, true, v, [typ, v]⟩ (x.mn + 1)) := fun q =>
          float_any (w5.drewN q) O g (ys.length * 3) cs x lab typ v hcs (hcell ys.length 0 x hxat (by omega)) (hcell ys.length 1 x hxat (by omega)) ((S5.below (fr_below_drewN (Below.refl _ _) q)).each x (by simp)) (HM.out.2.2.1 x (by simp)) HM.out.2.2.2.1 HM.out.2.2.2.2.1 HM.out.2.2.2.2.2 HTY.out
        have HS5 : Hid (StackAt O w5 P (.slice (some ⟨g, 0, none⟩) (ys.length + 1) c) (ys ++ [x]) ∧ w5.heap[g]? = some (.cells cs 83 (0, 0)) ∧ Below w.heap.size w w5) := ⟨S5, hcs, hb5⟩
        obtain ⟨ny, hny⟩ : ∃ ny, ys.length = ny := ⟨_, rfl⟩
        rw [hny] at IN FL
        have HNY : Hid (ys.length = ny) := hny
        clear S5 hcs hcell hb5 TY hlen hxat hny x0 x1
        go_wp2_with fail
        refine Calls.mono IN.out ?_
        rintro e wz ⟨rfl, q, hwz⟩
        subst hwz
        go_wp2_with fail
        refine Calls.mono (FL.out q) ?_
        rintro e w7 ⟨rfl, vl', ve, hp⟩
        have FI : Hid (Decl O w P 0 (ys.map absC ++ [⟨x.hs.map (·.h) ++ [⟨lab, true, v, [typ, v]⟩], x.ps⟩]) (.returned (.int .i64 0)) w7) := by
          have S6 := HS5.out.1.below (fr_below_drewN (Below.refl _ _) q)
          rw [← HNY.out] at hp
          obtain ⟨k1, k2⟩ := S6.put (g := g) HS5.out.2.1 hp (by have := (S6.each x (by simp)).mc; omega)
          have bq : Below w.heap.size w (w5.drewN q) := fr_below_drewN HS5.out.2.2 q
          refine ⟨rfl, _, _, k1.up (fun b hb => ?_) (fun b hb => ?_), ?_, (M.Ch.of_below bq).trans k2⟩
          · rcases hb with hb | hb
            · exact .inl hb
            · exact .inr ⟨Nat.le_trans bq.size hb.1, hb.2⟩
          · rcases hb with hb | hb
            · exact Nat.lt_of_lt_of_le (S6.lt b hb) k2.size
            · exact hb.2
          · simp [absC]
        clear hp IN FL
        go_wp2
        go_ret
        rw [HE.out.1, HE.out.2]
        exact FI.out
end Go.Proofs.YtkejjiilcoacfaaGreat
