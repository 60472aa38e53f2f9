/- The walk of ExprOrders. -/
import Derived.Test.YtmgpnaehniohgaaOrd
import Derived.Deep.AppendLies
namespace Go.Proofs.Ytmgpnaehniohgaa
open Go.RowKit

theorem info3 : (Try.prog.info? 3).map (fun i => (i.zero, i.size, i.bytes)) = some (some (.int .i64 0), 1, 8) := by kernel_rfl
theorem IntsAt.below {w w' : World} {a : Option Addr} {l : List Int} (h : IntsAt w a l) (hb : Below w.heap.size w w') : IntsAt w' a l := fun i x hx => by
  obtain ⟨b, off, e, hc⟩ := h i x hx
  exact ⟨b, off, e, (hb.cell (p := ⟨b, off + i, none⟩) (World.block_lt_of_cell? _ _ hc)).trans hc⟩
theorem below_draw (w : World) (n : Nat) : Below w.heap.size w (w.drewN n) := ⟨rfl, rfl, rfl, Nat.le_refl _, fun _ _ => rfl⟩
theorem own_ints {W : World} {base g n cap : Nat} {l : List Int} (h : W.ownsRow base 3 1 (.slice (some ⟨g, 0, none⟩) n cap) n (l.map (fun x => Value.int .i64 x))) : IntsAt W (some ⟨g, 0, none⟩) l := fun i x hx => by
  refine ⟨g, 0, rfl, ?_⟩
  rcases h.2 with ⟨e', _⟩ | ⟨g', cap', cur, hv, hg, hh, hn, hc, hsz, ht⟩
  · cases e'
  · simp only [Value.slice.injEq, Option.some.injEq, Addr.mk.injEq] at hv
    obtain ⟨⟨rfl, _⟩, _, rfl⟩ := hv
    have hi : (l.map (fun x => Value.int .i64 x))[i]? = some (.int .i64 x) := by rw [List.getElem?_map, hx]; rfl
    have hlt : i < n * 1 := by have := h.1; have := (List.getElem?_eq_some_iff.1 hi).1; omega
    have : cur[i]? = some (.int .i64 x) := by
      rw [← ht, List.getElem?_take, if_pos hlt] at hi
      simpa using hi
    rw [Nat.zero_add]
    simp [World.cell?, hh, this]

/-- The law's last part: a beginning comes ahead of the whole. -/
theorem tail_done (w w2 : World) (a : Option Addr) (ca g2 cap2 : Nat) (la : List Int) (n : Nat) (ha : la.length = n) (hn : n ≤ 17592186044415) (hA : IntsAt w a la) (hb : Below w.heap.size w w2)
    (ho : w2.ownsRow w.heap.size 3 1 (.slice (some ⟨g2, 0, none⟩) (n + 1) cap2) (n + 1) (la.map (fun x => Value.int .i64 x) ++ [.int .i64 0])) :
    Calls Try.prog 6 #[.slice a n ca, .slice (some ⟨g2, 0, none⟩) (n + 1) cap2] w2 fun e w' => e = .returned (.int .i64 (-1)) ∧ w' = w2 := by
  have ho' : w2.ownsRow w.heap.size 3 1 (.slice (some ⟨g2, 0, none⟩) (n + 1) cap2) (n + 1) ((la ++ [0]).map (fun x => Value.int .i64 x)) := by rw [List.map_append]; exact ho
  have := ord_any w2 a (some ⟨g2, 0, none⟩) ca cap2 la (la ++ [0]) n (n + 1) ha (by rw [List.length_append, ha]; rfl) (by omega) (by omega) (hA.below hb) (own_ints ho')
  rw [ordI_more] at this
  exact this

theorem seven (x y z : Int) (cx : x = -1 ∨ x = 0 ∨ x = 1) (cy : y = -1 ∨ y = 0 ∨ y = 1) (cz : z = -1 ∨ z = 0 ∨ z = 1) (le : x ≤ 0 → y ≤ 0 → z ≤ 0) (z0 : x = 0 → y = 0 → z = 0) (z1 : x ≤ 0 → y ≤ 0 → z = 0 → x = 0 ∧ y = 0) :
    (x = 0 ∧ y = 0 ∧ z = 0) ∨ (x = 0 ∧ y = -1 ∧ z = -1) ∨ (x = -1 ∧ y = 0 ∧ z = -1) ∨ (x = -1 ∧ y = -1 ∧ z = -1) ∨ x = 1 ∨ (x = 0 ∧ y = 1) ∨ (x = -1 ∧ y = 1) := by
  rcases cx with rfl | rfl | rfl <;> rcases cy with rfl | rfl | rfl <;> rcases cz with rfl | rfl | rfl <;> (revert le z0 z1; decide)

set_option maxRecDepth 100000 in
set_option maxHeartbeats 16000000 in
theorem orders_walk (w : World) (a b c : Option Addr) (ca cb cc : Nat) (la lb lc : List Int) (n m k : Nat) (ha : la.length = n) (hb : lb.length = m) (hc : lc.length = k) (hn : n ≤ 17592186043904) (hm : m ≤ 17592186043904) (hk : k ≤ 17592186043904)
    (hA : IntsAt w a la) (hB : IntsAt w b lb) (hC : IntsAt w c lc) :
    Calls Try.prog 3 #[.slice a n ca, .slice b m cb, .slice c k cc] w fun e w' => e = .returned (.bool true) ∧ Below w.heap.size w w' := by
  obtain ⟨i0, hi0, hz0, hz1, hz3⟩ := info_parts info3
  have X := ord_any w a b ca cb la lb n m ha hb (by omega) (by omega) hA hB
  have Y := ord_any w b c cb cc lb lc m k hb hc (by omega) (by omega) hB hC
  have Z := ord_any w a c ca cc la lc n k ha hc (by omega) (by omega) hA hC
  have X2 := ord_any w b a cb ca lb la m n hb ha (by omega) (by omega) hB hA
  have Q := equal_any w a b ca cb la lb n m ha hb (by omega) (by omega) hA hB
  have S := fun d : Nat => equal_any (w.drewN d) a a ca ca la la n n ha ha (by omega) (by omega) (hA.below (below_draw w d)) (hA.below (below_draw w d))
  rw [ordI_neg la lb] at X2
  rw [decide_eq_true (rfl : la = la)] at S
  have cx := ordI_cases la lb
  have cy := ordI_cases lb lc
  have cz := ordI_cases la lc
  have zx := ordI_zero la lb
  have zy := ordI_zero lb lc
  have zz := ordI_zero la lc
  have le := ordI_le la lb lc
  have le2 := ordI_le lc lb la
  rw [ordI_neg lb lc, ordI_neg la lb, ordI_neg la lc] at le2
  have qx : decide (la = lb) = decide (ordI la lb = 0) := by rw [decide_eq_decide]; exact zx.symm
  rw [qx] at Q
  have z0 : ordI la lb = 0 → ordI lb lc = 0 → ordI la lc = 0 := fun h1 h2 => zz.2 ((zx.1 h1).trans (zy.1 h2))
  have z1 : ordI la lb ≤ 0 → ordI lb lc ≤ 0 → ordI la lc = 0 → ordI la lb = 0 ∧ ordI lb lc = 0 := fun h1 h2 h3 => by
    have e := zz.1 h3
    subst e
    have h4 : ordI lb la = - ordI la lb := ordI_neg la lb
    omega
  generalize hgx : ordI la lb = x at *
  generalize hgy : ordI lb lc = y at *
  generalize hgz : ordI la lc = z at *
  clear zx zy zz le2 qx hgx hgy hgz
  have HA : Hid (IntsAt w a la) := hA
  have La : Hid (la.length = n) := ha
  clear hA hB hC ha hb hc
  have cases7 := seven x y z cx cy cz le z0 z1
  clear cx cy cz le z0 z1
  rcases cases7 with ⟨rfl, rfl, rfl⟩ | ⟨rfl, rfl, rfl⟩ | ⟨rfl, rfl, rfl⟩ | ⟨rfl, rfl, rfl⟩ | rfl | ⟨rfl, rfl⟩ | ⟨rfl, rfl⟩
  · replace X2 : Calls Try.prog 6 #[.slice b m cb, .slice a n ca] w fun e w' => e = .returned (.int .i64 0) ∧ w' = w := X2
    replace Q : Calls Try.prog 7 #[.slice a n ca, .slice b m cb] w fun e w' => e = .returned (.bool true) ∧ ∃ k, w' = w.drewN k := Q
    replace X := show Hid _ from X
    replace Y := show Hid _ from Y
    replace Z := show Hid _ from Z
    replace X2 := show Hid _ from X2
    replace Q := show Hid _ from Q
    replace S := show Hid _ from S
    go_enter Try.func3, Try.ntmps3
    go_wp2_with fail
    refine Calls.mono X.out ?_
    rintro e wz ⟨rfl, hwz⟩
    subst wz
    go_wp2_with fail
    refine Calls.mono Y.out ?_
    rintro e wz ⟨rfl, hwz⟩
    subst wz
    go_wp2_with fail
    refine Calls.mono Z.out ?_
    rintro e wz ⟨rfl, hwz⟩
    subst wz
    go_wp2_with fail
    refine Calls.mono X2.out ?_
    rintro e wz ⟨rfl, hwz⟩
    subst wz
    go_wp2_with fail
    refine Calls.mono Q.out ?_
    rintro e wz ⟨rfl, d1, hwz⟩
    subst wz
    go_wp2_with fail
    refine Calls.mono (S.out d1) ?_
    rintro e wz ⟨rfl, d2, hwz⟩
    subst wz
    clear X Y Z X2 Q S
    have hb4 : Below w.heap.size w ((w.drewN d1).drewN d2) := ⟨rfl, rfl, rfl, Nat.le_refl _, fun _ _ => rfl⟩
    have A4 : Hid (IntsAt ((w.drewN d1).drewN d2) a la) := HA.out.below hb4
    have Hb4 : Hid (Below w.heap.size w ((w.drewN d1).drewN d2)) := hb4
    generalize (w.drewN d1).drewN d2 = w4 at *
    clear hb4
    by_cases hn0 : n = 0
    · subst hn0
      have hl0 : la = [] := List.eq_nil_of_length_eq_zero La.out
      have O4 : Hid ((w4.alloc (.cells #[.int .i64 0] 3)).ownsRow w.heap.size 3 1 (.slice none 0 0) 0 []) := World.ownsRow_nil _ _ _ _
      have hs4 : w.heap.size ≤ w4.heap.size := Hb4.out.size
      have Hl0 : Hid (la = []) := hl0
      clear hl0
      cases a
      all_goals
        go_wp2_with (at_builtin; refine wpList_append_lies _ rfl _ _ _ rfl w.heap.size 3 i0 _ 1 8 Try.underlying22 hi0 hz0 hz1 hz3 rfl (by omega) _ 0 [] (by rfl) (by exact O4.out) ⟨w4.heap.size, 0, none⟩ 1 1 [.int .i64 0] (by rfl) (by rfl) (World.news_of_block (cs := #[.int .i64 0]) (t := 3) (fr := (0, 0)) (heap_alloc_new w4 _)) (by simp [Value.oneCell']) (by omega) (by unfold maxLen; omega) (by omega) (by simp; omega) (w4.heap.size + 1) (by simp) ?_; intro g2 cap2 w6 hown6 hgrow6 hat6 hlt6; have O6 : Hid (w6.ownsRow w.heap.size 3 1 (.slice (some ⟨g2, 0, none⟩) (0 + 1) cap2) (0 + 1) ([] ++ [.int .i64 0])) := hown6; have Hb6 : Hid (Below w.heap.size w w6) := (Hb4.out.alloc hs4 _).grown hgrow6 (by simp; omega) (fun k e => by cases e); clear hown6 hgrow6 hat6)
        have TD : Hid _ := tail_done w w6 _ ca g2 cap2 la 0 La.out (by omega) HA.out Hb6.out (by rw [Hl0.out]; exact O6.out)
        go_wp2_with fail
        refine Calls.mono TD.out ?_
        rintro e wz ⟨rfl, hwz⟩
        subst wz
        go_wp2
        go_ret
        exact ⟨rfl, Hb6.out⟩
    · obtain ⟨b1, o1, rfl, _⟩ := A4.out 0 (la[0]'(by rw [La.out]; omega)) (List.getElem?_eq_getElem _)
      have news : Hid (∀ j u, (la.map (fun x => Value.int .i64 x))[j]? = some u → w4.cell? ((⟨b1, o1, none⟩ : Addr).add j) = some u) := by
        intro j u hu
        rw [List.getElem?_map] at hu
        obtain ⟨x, hx, rfl⟩ := Option.map_eq_some_iff.1 hu
        obtain ⟨b2, o2, e, hc⟩ := A4.out j x hx
        cases e
        rw [Addr.add_lit]; exact hc
      have O4 : Hid (w4.ownsRow w.heap.size 3 1 (.slice none 0 0) 0 []) := World.ownsRow_nil _ _ _ _
      have hs4 : w.heap.size ≤ w4.heap.size := Hb4.out.size
      go_wp2_with (first
        | (at_builtin; refine wpList_append_lies _ rfl _ _ _ rfl w.heap.size 3 i0 _ 1 8 Try.underlying22 hi0 hz0 hz1 hz3 rfl (by omega) _ 0 [] (by rfl) (by exact O4.out) ⟨b1, o1, none⟩ n ca (la.map (fun x => Value.int .i64 x)) (by rfl) (by rw [List.length_map, La.out, Nat.mul_one]) (by exact news.out) (by simp [Value.oneCell']) (by omega) (by unfold maxLen; omega) (by omega) (by exact hs4) w4.heap.size rfl ?_; intro g1 cap1 w5 hown5 hgrow5 hat5 hlt5; rw [Nat.zero_add, List.nil_append] at hown5; have O5 : Hid (w5.ownsRow w.heap.size 3 1 (.slice (some ⟨g1, 0, none⟩) n cap1) n (la.map (fun x => Value.int .i64 x))) := hown5; have Hb5 : Hid (Below w.heap.size w w5) := Hb4.out.grown hgrow5 hs4 (fun k e => by cases e); have hs5 : w.heap.size ≤ w5.heap.size := Hb5.out.size; clear hown5 hgrow5 hat5)
        | (at_builtin; refine wpList_append_lies _ rfl _ _ _ rfl w.heap.size 3 i0 _ 1 8 Try.underlying22 hi0 hz0 hz1 hz3 rfl (by omega) _ n (la.map (fun x => Value.int .i64 x)) (by rfl) (by exact (O5.out.alloc _)) ⟨w5.heap.size, 0, none⟩ 1 1 [.int .i64 0] (by rfl) (by rfl) (World.news_of_block (cs := #[.int .i64 0]) (t := 3) (fr := (0, 0)) (heap_alloc_new w5 _)) (by simp [Value.oneCell']) (by omega) (by unfold maxLen; omega) (by omega) (by simp; omega) (w5.heap.size + 1) (by simp) ?_; intro g2 cap2 w6 hown6 hgrow6 hat6 hlt6; have O6 : Hid (w6.ownsRow w.heap.size 3 1 (.slice (some ⟨g2, 0, none⟩) (n + 1) cap2) (n + 1) (la.map (fun x => Value.int .i64 x) ++ [.int .i64 0])) := hown6; have Hb6 : Hid (Below w.heap.size w w6) := (Hb5.out.alloc hs5 _).grown hgrow6 (by simp; omega) (fun k e => by rcases O5.out.2 with ⟨h0, _⟩ | ⟨g', cap', cur, hv, hg, _⟩; cases h0; cases hv; cases e; exact hg); clear hown6 hgrow6 hat6))
      have TD : Hid _ := tail_done w w6 (some ⟨b1, o1, none⟩) ca g2 cap2 la n La.out (by omega) HA.out Hb6.out O6.out
      go_wp2_with fail
      refine Calls.mono TD.out ?_
      rintro e wz ⟨rfl, hwz⟩
      subst wz
      go_wp2
      go_ret
      exact ⟨rfl, Hb6.out⟩
  · replace X2 : Calls Try.prog 6 #[.slice b m cb, .slice a n ca] w fun e w' => e = .returned (.int .i64 0) ∧ w' = w := X2
    replace Q : Calls Try.prog 7 #[.slice a n ca, .slice b m cb] w fun e w' => e = .returned (.bool true) ∧ ∃ k, w' = w.drewN k := Q
    replace X := show Hid _ from X
    replace Y := show Hid _ from Y
    replace Z := show Hid _ from Z
    replace X2 := show Hid _ from X2
    replace Q := show Hid _ from Q
    replace S := show Hid _ from S
    go_enter Try.func3, Try.ntmps3
    go_wp2_with fail
    refine Calls.mono X.out ?_
    rintro e wz ⟨rfl, hwz⟩
    subst wz
    go_wp2_with fail
    refine Calls.mono Y.out ?_
    rintro e wz ⟨rfl, hwz⟩
    subst wz
    go_wp2_with fail
    refine Calls.mono Z.out ?_
    rintro e wz ⟨rfl, hwz⟩
    subst wz
    go_wp2_with fail
    refine Calls.mono X2.out ?_
    rintro e wz ⟨rfl, hwz⟩
    subst wz
    go_wp2_with fail
    refine Calls.mono Q.out ?_
    rintro e wz ⟨rfl, d1, hwz⟩
    subst wz
    go_wp2_with fail
    refine Calls.mono (S.out d1) ?_
    rintro e wz ⟨rfl, d2, hwz⟩
    subst wz
    clear X Y Z X2 Q S
    have hb4 : Below w.heap.size w ((w.drewN d1).drewN d2) := ⟨rfl, rfl, rfl, Nat.le_refl _, fun _ _ => rfl⟩
    have A4 : Hid (IntsAt ((w.drewN d1).drewN d2) a la) := HA.out.below hb4
    have Hb4 : Hid (Below w.heap.size w ((w.drewN d1).drewN d2)) := hb4
    generalize (w.drewN d1).drewN d2 = w4 at *
    clear hb4
    by_cases hn0 : n = 0
    · subst hn0
      have hl0 : la = [] := List.eq_nil_of_length_eq_zero La.out
      have O4 : Hid ((w4.alloc (.cells #[.int .i64 0] 3)).ownsRow w.heap.size 3 1 (.slice none 0 0) 0 []) := World.ownsRow_nil _ _ _ _
      have hs4 : w.heap.size ≤ w4.heap.size := Hb4.out.size
      have Hl0 : Hid (la = []) := hl0
      clear hl0
      cases a
      all_goals
        go_wp2_with (at_builtin; refine wpList_append_lies _ rfl _ _ _ rfl w.heap.size 3 i0 _ 1 8 Try.underlying22 hi0 hz0 hz1 hz3 rfl (by omega) _ 0 [] (by rfl) (by exact O4.out) ⟨w4.heap.size, 0, none⟩ 1 1 [.int .i64 0] (by rfl) (by rfl) (World.news_of_block (cs := #[.int .i64 0]) (t := 3) (fr := (0, 0)) (heap_alloc_new w4 _)) (by simp [Value.oneCell']) (by omega) (by unfold maxLen; omega) (by omega) (by simp; omega) (w4.heap.size + 1) (by simp) ?_; intro g2 cap2 w6 hown6 hgrow6 hat6 hlt6; have O6 : Hid (w6.ownsRow w.heap.size 3 1 (.slice (some ⟨g2, 0, none⟩) (0 + 1) cap2) (0 + 1) ([] ++ [.int .i64 0])) := hown6; have Hb6 : Hid (Below w.heap.size w w6) := (Hb4.out.alloc hs4 _).grown hgrow6 (by simp; omega) (fun k e => by cases e); clear hown6 hgrow6 hat6)
        have TD : Hid _ := tail_done w w6 _ ca g2 cap2 la 0 La.out (by omega) HA.out Hb6.out (by rw [Hl0.out]; exact O6.out)
        go_wp2_with fail
        refine Calls.mono TD.out ?_
        rintro e wz ⟨rfl, hwz⟩
        subst wz
        go_wp2
        go_ret
        exact ⟨rfl, Hb6.out⟩
    · obtain ⟨b1, o1, rfl, _⟩ := A4.out 0 (la[0]'(by rw [La.out]; omega)) (List.getElem?_eq_getElem _)
      have news : Hid (∀ j u, (la.map (fun x => Value.int .i64 x))[j]? = some u → w4.cell? ((⟨b1, o1, none⟩ : Addr).add j) = some u) := by
        intro j u hu
        rw [List.getElem?_map] at hu
        obtain ⟨x, hx, rfl⟩ := Option.map_eq_some_iff.1 hu
        obtain ⟨b2, o2, e, hc⟩ := A4.out j x hx
        cases e
        rw [Addr.add_lit]; exact hc
      have O4 : Hid (w4.ownsRow w.heap.size 3 1 (.slice none 0 0) 0 []) := World.ownsRow_nil _ _ _ _
      have hs4 : w.heap.size ≤ w4.heap.size := Hb4.out.size
      go_wp2_with (first
        | (at_builtin; refine wpList_append_lies _ rfl _ _ _ rfl w.heap.size 3 i0 _ 1 8 Try.underlying22 hi0 hz0 hz1 hz3 rfl (by omega) _ 0 [] (by rfl) (by exact O4.out) ⟨b1, o1, none⟩ n ca (la.map (fun x => Value.int .i64 x)) (by rfl) (by rw [List.length_map, La.out, Nat.mul_one]) (by exact news.out) (by simp [Value.oneCell']) (by omega) (by unfold maxLen; omega) (by omega) (by exact hs4) w4.heap.size rfl ?_; intro g1 cap1 w5 hown5 hgrow5 hat5 hlt5; rw [Nat.zero_add, List.nil_append] at hown5; have O5 : Hid (w5.ownsRow w.heap.size 3 1 (.slice (some ⟨g1, 0, none⟩) n cap1) n (la.map (fun x => Value.int .i64 x))) := hown5; have Hb5 : Hid (Below w.heap.size w w5) := Hb4.out.grown hgrow5 hs4 (fun k e => by cases e); have hs5 : w.heap.size ≤ w5.heap.size := Hb5.out.size; clear hown5 hgrow5 hat5)
        | (at_builtin; refine wpList_append_lies _ rfl _ _ _ rfl w.heap.size 3 i0 _ 1 8 Try.underlying22 hi0 hz0 hz1 hz3 rfl (by omega) _ n (la.map (fun x => Value.int .i64 x)) (by rfl) (by exact (O5.out.alloc _)) ⟨w5.heap.size, 0, none⟩ 1 1 [.int .i64 0] (by rfl) (by rfl) (World.news_of_block (cs := #[.int .i64 0]) (t := 3) (fr := (0, 0)) (heap_alloc_new w5 _)) (by simp [Value.oneCell']) (by omega) (by unfold maxLen; omega) (by omega) (by simp; omega) (w5.heap.size + 1) (by simp) ?_; intro g2 cap2 w6 hown6 hgrow6 hat6 hlt6; have O6 : Hid (w6.ownsRow w.heap.size 3 1 (.slice (some ⟨g2, 0, none⟩) (n + 1) cap2) (n + 1) (la.map (fun x => Value.int .i64 x) ++ [.int .i64 0])) := hown6; have Hb6 : Hid (Below w.heap.size w w6) := (Hb5.out.alloc hs5 _).grown hgrow6 (by simp; omega) (fun k e => by rcases O5.out.2 with ⟨h0, _⟩ | ⟨g', cap', cur, hv, hg, _⟩; cases h0; cases hv; cases e; exact hg); clear hown6 hgrow6 hat6))
      have TD : Hid _ := tail_done w w6 (some ⟨b1, o1, none⟩) ca g2 cap2 la n La.out (by omega) HA.out Hb6.out O6.out
      go_wp2_with fail
      refine Calls.mono TD.out ?_
      rintro e wz ⟨rfl, hwz⟩
      subst wz
      go_wp2
      go_ret
      exact ⟨rfl, Hb6.out⟩
  · replace X2 : Calls Try.prog 6 #[.slice b m cb, .slice a n ca] w fun e w' => e = .returned (.int .i64 1) ∧ w' = w := X2
    replace Q : Calls Try.prog 7 #[.slice a n ca, .slice b m cb] w fun e w' => e = .returned (.bool false) ∧ ∃ k, w' = w.drewN k := Q
    replace X := show Hid _ from X
    replace Y := show Hid _ from Y
    replace Z := show Hid _ from Z
    replace X2 := show Hid _ from X2
    replace Q := show Hid _ from Q
    replace S := show Hid _ from S
    go_enter Try.func3, Try.ntmps3
    go_wp2_with fail
    refine Calls.mono X.out ?_
    rintro e wz ⟨rfl, hwz⟩
    subst wz
    go_wp2_with fail
    refine Calls.mono Y.out ?_
    rintro e wz ⟨rfl, hwz⟩
    subst wz
    go_wp2_with fail
    refine Calls.mono Z.out ?_
    rintro e wz ⟨rfl, hwz⟩
    subst wz
    go_wp2_with fail
    refine Calls.mono X2.out ?_
    rintro e wz ⟨rfl, hwz⟩
    subst wz
    go_wp2_with fail
    refine Calls.mono Q.out ?_
    rintro e wz ⟨rfl, d1, hwz⟩
    subst wz
    go_wp2_with fail
    refine Calls.mono (S.out d1) ?_
    rintro e wz ⟨rfl, d2, hwz⟩
    subst wz
    clear X Y Z X2 Q S
    have hb4 : Below w.heap.size w ((w.drewN d1).drewN d2) := ⟨rfl, rfl, rfl, Nat.le_refl _, fun _ _ => rfl⟩
    have A4 : Hid (IntsAt ((w.drewN d1).drewN d2) a la) := HA.out.below hb4
    have Hb4 : Hid (Below w.heap.size w ((w.drewN d1).drewN d2)) := hb4
    generalize (w.drewN d1).drewN d2 = w4 at *
    clear hb4
    by_cases hn0 : n = 0
    · subst hn0
      have hl0 : la = [] := List.eq_nil_of_length_eq_zero La.out
      have O4 : Hid ((w4.alloc (.cells #[.int .i64 0] 3)).ownsRow w.heap.size 3 1 (.slice none 0 0) 0 []) := World.ownsRow_nil _ _ _ _
      have hs4 : w.heap.size ≤ w4.heap.size := Hb4.out.size
      have Hl0 : Hid (la = []) := hl0
      clear hl0
      cases a
      all_goals
        go_wp2_with (at_builtin; refine wpList_append_lies _ rfl _ _ _ rfl w.heap.size 3 i0 _ 1 8 Try.underlying22 hi0 hz0 hz1 hz3 rfl (by omega) _ 0 [] (by rfl) (by exact O4.out) ⟨w4.heap.size, 0, none⟩ 1 1 [.int .i64 0] (by rfl) (by rfl) (World.news_of_block (cs := #[.int .i64 0]) (t := 3) (fr := (0, 0)) (heap_alloc_new w4 _)) (by simp [Value.oneCell']) (by omega) (by unfold maxLen; omega) (by omega) (by simp; omega) (w4.heap.size + 1) (by simp) ?_; intro g2 cap2 w6 hown6 hgrow6 hat6 hlt6; have O6 : Hid (w6.ownsRow w.heap.size 3 1 (.slice (some ⟨g2, 0, none⟩) (0 + 1) cap2) (0 + 1) ([] ++ [.int .i64 0])) := hown6; have Hb6 : Hid (Below w.heap.size w w6) := (Hb4.out.alloc hs4 _).grown hgrow6 (by simp; omega) (fun k e => by cases e); clear hown6 hgrow6 hat6)
        have TD : Hid _ := tail_done w w6 _ ca g2 cap2 la 0 La.out (by omega) HA.out Hb6.out (by rw [Hl0.out]; exact O6.out)
        go_wp2_with fail
        refine Calls.mono TD.out ?_
        rintro e wz ⟨rfl, hwz⟩
        subst wz
        go_wp2
        go_ret
        exact ⟨rfl, Hb6.out⟩
    · obtain ⟨b1, o1, rfl, _⟩ := A4.out 0 (la[0]'(by rw [La.out]; omega)) (List.getElem?_eq_getElem _)
      have news : Hid (∀ j u, (la.map (fun x => Value.int .i64 x))[j]? = some u → w4.cell? ((⟨b1, o1, none⟩ : Addr).add j) = some u) := by
        intro j u hu
        rw [List.getElem?_map] at hu
        obtain ⟨x, hx, rfl⟩ := Option.map_eq_some_iff.1 hu
        obtain ⟨b2, o2, e, hc⟩ := A4.out j x hx
        cases e
        rw [Addr.add_lit]; exact hc
      have O4 : Hid (w4.ownsRow w.heap.size 3 1 (.slice none 0 0) 0 []) := World.ownsRow_nil _ _ _ _
      have hs4 : w.heap.size ≤ w4.heap.size := Hb4.out.size
      go_wp2_with (first
        | (at_builtin; refine wpList_append_lies _ rfl _ _ _ rfl w.heap.size 3 i0 _ 1 8 Try.underlying22 hi0 hz0 hz1 hz3 rfl (by omega) _ 0 [] (by rfl) (by exact O4.out) ⟨b1, o1, none⟩ n ca (la.map (fun x => Value.int .i64 x)) (by rfl) (by rw [List.length_map, La.out, Nat.mul_one]) (by exact news.out) (by simp [Value.oneCell']) (by omega) (by unfold maxLen; omega) (by omega) (by exact hs4) w4.heap.size rfl ?_; intro g1 cap1 w5 hown5 hgrow5 hat5 hlt5; rw [Nat.zero_add, List.nil_append] at hown5; have O5 : Hid (w5.ownsRow w.heap.size 3 1 (.slice (some ⟨g1, 0, none⟩) n cap1) n (la.map (fun x => Value.int .i64 x))) := hown5; have Hb5 : Hid (Below w.heap.size w w5) := Hb4.out.grown hgrow5 hs4 (fun k e => by cases e); have hs5 : w.heap.size ≤ w5.heap.size := Hb5.out.size; clear hown5 hgrow5 hat5)
        | (at_builtin; refine wpList_append_lies _ rfl _ _ _ rfl w.heap.size 3 i0 _ 1 8 Try.underlying22 hi0 hz0 hz1 hz3 rfl (by omega) _ n (la.map (fun x => Value.int .i64 x)) (by rfl) (by exact (O5.out.alloc _)) ⟨w5.heap.size, 0, none⟩ 1 1 [.int .i64 0] (by rfl) (by rfl) (World.news_of_block (cs := #[.int .i64 0]) (t := 3) (fr := (0, 0)) (heap_alloc_new w5 _)) (by simp [Value.oneCell']) (by omega) (by unfold maxLen; omega) (by omega) (by simp; omega) (w5.heap.size + 1) (by simp) ?_; intro g2 cap2 w6 hown6 hgrow6 hat6 hlt6; have O6 : Hid (w6.ownsRow w.heap.size 3 1 (.slice (some ⟨g2, 0, none⟩) (n + 1) cap2) (n + 1) (la.map (fun x => Value.int .i64 x) ++ [.int .i64 0])) := hown6; have Hb6 : Hid (Below w.heap.size w w6) := (Hb5.out.alloc hs5 _).grown hgrow6 (by simp; omega) (fun k e => by rcases O5.out.2 with ⟨h0, _⟩ | ⟨g', cap', cur, hv, hg, _⟩; cases h0; cases hv; cases e; exact hg); clear hown6 hgrow6 hat6))
      have TD : Hid _ := tail_done w w6 (some ⟨b1, o1, none⟩) ca g2 cap2 la n La.out (by omega) HA.out Hb6.out O6.out
      go_wp2_with fail
      refine Calls.mono TD.out ?_
      rintro e wz ⟨rfl, hwz⟩
      subst wz
      go_wp2
      go_ret
      exact ⟨rfl, Hb6.out⟩
  · replace X2 : Calls Try.prog 6 #[.slice b m cb, .slice a n ca] w fun e w' => e = .returned (.int .i64 1) ∧ w' = w := X2
    replace Q : Calls Try.prog 7 #[.slice a n ca, .slice b m cb] w fun e w' => e = .returned (.bool false) ∧ ∃ k, w' = w.drewN k := Q
    replace X := show Hid _ from X
    replace Y := show Hid _ from Y
    replace Z := show Hid _ from Z
    replace X2 := show Hid _ from X2
    replace Q := show Hid _ from Q
    replace S := show Hid _ from S
    go_enter Try.func3, Try.ntmps3
    go_wp2_with fail
    refine Calls.mono X.out ?_
    rintro e wz ⟨rfl, hwz⟩
    subst wz
    go_wp2_with fail
    refine Calls.mono Y.out ?_
    rintro e wz ⟨rfl, hwz⟩
    subst wz
    go_wp2_with fail
    refine Calls.mono Z.out ?_
    rintro e wz ⟨rfl, hwz⟩
    subst wz
    go_wp2_with fail
    refine Calls.mono X2.out ?_
    rintro e wz ⟨rfl, hwz⟩
    subst wz
    go_wp2_with fail
    refine Calls.mono Q.out ?_
    rintro e wz ⟨rfl, d1, hwz⟩
    subst wz
    go_wp2_with fail
    refine Calls.mono (S.out d1) ?_
    rintro e wz ⟨rfl, d2, hwz⟩
    subst wz
    clear X Y Z X2 Q S
    have hb4 : Below w.heap.size w ((w.drewN d1).drewN d2) := ⟨rfl, rfl, rfl, Nat.le_refl _, fun _ _ => rfl⟩
    have A4 : Hid (IntsAt ((w.drewN d1).drewN d2) a la) := HA.out.below hb4
    have Hb4 : Hid (Below w.heap.size w ((w.drewN d1).drewN d2)) := hb4
    generalize (w.drewN d1).drewN d2 = w4 at *
    clear hb4
    by_cases hn0 : n = 0
    · subst hn0
      have hl0 : la = [] := List.eq_nil_of_length_eq_zero La.out
      have O4 : Hid ((w4.alloc (.cells #[.int .i64 0] 3)).ownsRow w.heap.size 3 1 (.slice none 0 0) 0 []) := World.ownsRow_nil _ _ _ _
      have hs4 : w.heap.size ≤ w4.heap.size := Hb4.out.size
      have Hl0 : Hid (la = []) := hl0
      clear hl0
      cases a
      all_goals
        go_wp2_with (at_builtin; refine wpList_append_lies _ rfl _ _ _ rfl w.heap.size 3 i0 _ 1 8 Try.underlying22 hi0 hz0 hz1 hz3 rfl (by omega) _ 0 [] (by rfl) (by exact O4.out) ⟨w4.heap.size, 0, none⟩ 1 1 [.int .i64 0] (by rfl) (by rfl) (World.news_of_block (cs := #[.int .i64 0]) (t := 3) (fr := (0, 0)) (heap_alloc_new w4 _)) (by simp [Value.oneCell']) (by omega) (by unfold maxLen; omega) (by omega) (by simp; omega) (w4.heap.size + 1) (by simp) ?_; intro g2 cap2 w6 hown6 hgrow6 hat6 hlt6; have O6 : Hid (w6.ownsRow w.heap.size 3 1 (.slice (some ⟨g2, 0, none⟩) (0 + 1) cap2) (0 + 1) ([] ++ [.int .i64 0])) := hown6; have Hb6 : Hid (Below w.heap.size w w6) := (Hb4.out.alloc hs4 _).grown hgrow6 (by simp; omega) (fun k e => by cases e); clear hown6 hgrow6 hat6)
        have TD : Hid _ := tail_done w w6 _ ca g2 cap2 la 0 La.out (by omega) HA.out Hb6.out (by rw [Hl0.out]; exact O6.out)
        go_wp2_with fail
        refine Calls.mono TD.out ?_
        rintro e wz ⟨rfl, hwz⟩
        subst wz
        go_wp2
        go_ret
        exact ⟨rfl, Hb6.out⟩
    · obtain ⟨b1, o1, rfl, _⟩ := A4.out 0 (la[0]'(by rw [La.out]; omega)) (List.getElem?_eq_getElem _)
      have news : Hid (∀ j u, (la.map (fun x => Value.int .i64 x))[j]? = some u → w4.cell? ((⟨b1, o1, none⟩ : Addr).add j) = some u) := by
        intro j u hu
        rw [List.getElem?_map] at hu
        obtain ⟨x, hx, rfl⟩ := Option.map_eq_some_iff.1 hu
        obtain ⟨b2, o2, e, hc⟩ := A4.out j x hx
        cases e
        rw [Addr.add_lit]; exact hc
      have O4 : Hid (w4.ownsRow w.heap.size 3 1 (.slice none 0 0) 0 []) := World.ownsRow_nil _ _ _ _
      have hs4 : w.heap.size ≤ w4.heap.size := Hb4.out.size
      go_wp2_with (first
        | (at_builtin; refine wpList_append_lies _ rfl _ _ _ rfl w.heap.size 3 i0 _ 1 8 Try.underlying22 hi0 hz0 hz1 hz3 rfl (by omega) _ 0 [] (by rfl) (by exact O4.out) ⟨b1, o1, none⟩ n ca (la.map (fun x => Value.int .i64 x)) (by rfl) (by rw [List.length_map, La.out, Nat.mul_one]) (by exact news.out) (by simp [Value.oneCell']) (by omega) (by unfold maxLen; omega) (by omega) (by exact hs4) w4.heap.size rfl ?_; intro g1 cap1 w5 hown5 hgrow5 hat5 hlt5; rw [Nat.zero_add, List.nil_append] at hown5; have O5 : Hid (w5.ownsRow w.heap.size 3 1 (.slice (some ⟨g1, 0, none⟩) n cap1) n (la.map (fun x => Value.int .i64 x))) := hown5; have Hb5 : Hid (Below w.heap.size w w5) := Hb4.out.grown hgrow5 hs4 (fun k e => by cases e); have hs5 : w.heap.size ≤ w5.heap.size := Hb5.out.size; clear hown5 hgrow5 hat5)
        | (at_builtin; refine wpList_append_lies _ rfl _ _ _ rfl w.heap.size 3 i0 _ 1 8 Try.underlying22 hi0 hz0 hz1 hz3 rfl (by omega) _ n (la.map (fun x => Value.int .i64 x)) (by rfl) (by exact (O5.out.alloc _)) ⟨w5.heap.size, 0, none⟩ 1 1 [.int .i64 0] (by rfl) (by rfl) (World.news_of_block (cs := #[.int .i64 0]) (t := 3) (fr := (0, 0)) (heap_alloc_new w5 _)) (by simp [Value.oneCell']) (by omega) (by unfold maxLen; omega) (by omega) (by simp; omega) (w5.heap.size + 1) (by simp) ?_; intro g2 cap2 w6 hown6 hgrow6 hat6 hlt6; have O6 : Hid (w6.ownsRow w.heap.size 3 1 (.slice (some ⟨g2, 0, none⟩) (n + 1) cap2) (n + 1) (la.map (fun x => Value.int .i64 x) ++ [.int .i64 0])) := hown6; have Hb6 : Hid (Below w.heap.size w w6) := (Hb5.out.alloc hs5 _).grown hgrow6 (by simp; omega) (fun k e => by rcases O5.out.2 with ⟨h0, _⟩ | ⟨g', cap', cur, hv, hg, _⟩; cases h0; cases hv; cases e; exact hg); clear hown6 hgrow6 hat6))
      have TD : Hid _ := tail_done w w6 (some ⟨b1, o1, none⟩) ca g2 cap2 la n La.out (by omega) HA.out Hb6.out O6.out
      go_wp2_with fail
      refine Calls.mono TD.out ?_
      rintro e wz ⟨rfl, hwz⟩
      subst wz
      go_wp2
      go_ret
      exact ⟨rfl, Hb6.out⟩
  · replace X2 : Calls Try.prog 6 #[.slice b m cb, .slice a n ca] w fun e w' => e = .returned (.int .i64 (-1)) ∧ w' = w := X2
    replace Q : Calls Try.prog 7 #[.slice a n ca, .slice b m cb] w fun e w' => e = .returned (.bool false) ∧ ∃ k, w' = w.drewN k := Q
    replace X := show Hid _ from X
    replace Y := show Hid _ from Y
    replace Z := show Hid _ from Z
    replace X2 := show Hid _ from X2
    replace Q := show Hid _ from Q
    replace S := show Hid _ from S
    go_enter Try.func3, Try.ntmps3
    go_wp2_with fail
    refine Calls.mono X.out ?_
    rintro e wz ⟨rfl, hwz⟩
    subst wz
    go_wp2_with fail
    refine Calls.mono Y.out ?_
    rintro e wz ⟨rfl, hwz⟩
    subst wz
    go_wp2_with fail
    refine Calls.mono Z.out ?_
    rintro e wz ⟨rfl, hwz⟩
    subst wz
    go_wp2_with fail
    refine Calls.mono X2.out ?_
    rintro e wz ⟨rfl, hwz⟩
    subst wz
    go_wp2_with fail
    refine Calls.mono Q.out ?_
    rintro e wz ⟨rfl, d1, hwz⟩
    subst wz
    go_wp2_with fail
    refine Calls.mono (S.out d1) ?_
    rintro e wz ⟨rfl, d2, hwz⟩
    subst wz
    clear X Y Z X2 Q S
    have hb4 : Below w.heap.size w ((w.drewN d1).drewN d2) := ⟨rfl, rfl, rfl, Nat.le_refl _, fun _ _ => rfl⟩
    have A4 : Hid (IntsAt ((w.drewN d1).drewN d2) a la) := HA.out.below hb4
    have Hb4 : Hid (Below w.heap.size w ((w.drewN d1).drewN d2)) := hb4
    generalize (w.drewN d1).drewN d2 = w4 at *
    clear hb4
    by_cases hn0 : n = 0
    · subst hn0
      have hl0 : la = [] := List.eq_nil_of_length_eq_zero La.out
      have O4 : Hid ((w4.alloc (.cells #[.int .i64 0] 3)).ownsRow w.heap.size 3 1 (.slice none 0 0) 0 []) := World.ownsRow_nil _ _ _ _
      have hs4 : w.heap.size ≤ w4.heap.size := Hb4.out.size
      have Hl0 : Hid (la = []) := hl0
      clear hl0
      cases a
      all_goals
        go_wp2_with (at_builtin; refine wpList_append_lies _ rfl _ _ _ rfl w.heap.size 3 i0 _ 1 8 Try.underlying22 hi0 hz0 hz1 hz3 rfl (by omega) _ 0 [] (by rfl) (by exact O4.out) ⟨w4.heap.size, 0, none⟩ 1 1 [.int .i64 0] (by rfl) (by rfl) (World.news_of_block (cs := #[.int .i64 0]) (t := 3) (fr := (0, 0)) (heap_alloc_new w4 _)) (by simp [Value.oneCell']) (by omega) (by unfold maxLen; omega) (by omega) (by simp; omega) (w4.heap.size + 1) (by simp) ?_; intro g2 cap2 w6 hown6 hgrow6 hat6 hlt6; have O6 : Hid (w6.ownsRow w.heap.size 3 1 (.slice (some ⟨g2, 0, none⟩) (0 + 1) cap2) (0 + 1) ([] ++ [.int .i64 0])) := hown6; have Hb6 : Hid (Below w.heap.size w w6) := (Hb4.out.alloc hs4 _).grown hgrow6 (by simp; omega) (fun k e => by cases e); clear hown6 hgrow6 hat6)
        have TD : Hid _ := tail_done w w6 _ ca g2 cap2 la 0 La.out (by omega) HA.out Hb6.out (by rw [Hl0.out]; exact O6.out)
        go_wp2_with fail
        refine Calls.mono TD.out ?_
        rintro e wz ⟨rfl, hwz⟩
        subst wz
        go_wp2
        go_ret
        exact ⟨rfl, Hb6.out⟩
    · obtain ⟨b1, o1, rfl, _⟩ := A4.out 0 (la[0]'(by rw [La.out]; omega)) (List.getElem?_eq_getElem _)
      have news : Hid (∀ j u, (la.map (fun x => Value.int .i64 x))[j]? = some u → w4.cell? ((⟨b1, o1, none⟩ : Addr).add j) = some u) := by
        intro j u hu
        rw [List.getElem?_map] at hu
        obtain ⟨x, hx, rfl⟩ := Option.map_eq_some_iff.1 hu
        obtain ⟨b2, o2, e, hc⟩ := A4.out j x hx
        cases e
        rw [Addr.add_lit]; exact hc
      have O4 : Hid (w4.ownsRow w.heap.size 3 1 (.slice none 0 0) 0 []) := World.ownsRow_nil _ _ _ _
      have hs4 : w.heap.size ≤ w4.heap.size := Hb4.out.size
      go_wp2_with (first
        | (at_builtin; refine wpList_append_lies _ rfl _ _ _ rfl w.heap.size 3 i0 _ 1 8 Try.underlying22 hi0 hz0 hz1 hz3 rfl (by omega) _ 0 [] (by rfl) (by exact O4.out) ⟨b1, o1, none⟩ n ca (la.map (fun x => Value.int .i64 x)) (by rfl) (by rw [List.length_map, La.out, Nat.mul_one]) (by exact news.out) (by simp [Value.oneCell']) (by omega) (by unfold maxLen; omega) (by omega) (by exact hs4) w4.heap.size rfl ?_; intro g1 cap1 w5 hown5 hgrow5 hat5 hlt5; rw [Nat.zero_add, List.nil_append] at hown5; have O5 : Hid (w5.ownsRow w.heap.size 3 1 (.slice (some ⟨g1, 0, none⟩) n cap1) n (la.map (fun x => Value.int .i64 x))) := hown5; have Hb5 : Hid (Below w.heap.size w w5) := Hb4.out.grown hgrow5 hs4 (fun k e => by cases e); have hs5 : w.heap.size ≤ w5.heap.size := Hb5.out.size; clear hown5 hgrow5 hat5)
        | (at_builtin; refine wpList_append_lies _ rfl _ _ _ rfl w.heap.size 3 i0 _ 1 8 Try.underlying22 hi0 hz0 hz1 hz3 rfl (by omega) _ n (la.map (fun x => Value.int .i64 x)) (by rfl) (by exact (O5.out.alloc _)) ⟨w5.heap.size, 0, none⟩ 1 1 [.int .i64 0] (by rfl) (by rfl) (World.news_of_block (cs := #[.int .i64 0]) (t := 3) (fr := (0, 0)) (heap_alloc_new w5 _)) (by simp [Value.oneCell']) (by omega) (by unfold maxLen; omega) (by omega) (by simp; omega) (w5.heap.size + 1) (by simp) ?_; intro g2 cap2 w6 hown6 hgrow6 hat6 hlt6; have O6 : Hid (w6.ownsRow w.heap.size 3 1 (.slice (some ⟨g2, 0, none⟩) (n + 1) cap2) (n + 1) (la.map (fun x => Value.int .i64 x) ++ [.int .i64 0])) := hown6; have Hb6 : Hid (Below w.heap.size w w6) := (Hb5.out.alloc hs5 _).grown hgrow6 (by simp; omega) (fun k e => by rcases O5.out.2 with ⟨h0, _⟩ | ⟨g', cap', cur, hv, hg, _⟩; cases h0; cases hv; cases e; exact hg); clear hown6 hgrow6 hat6))
      have TD : Hid _ := tail_done w w6 (some ⟨b1, o1, none⟩) ca g2 cap2 la n La.out (by omega) HA.out Hb6.out O6.out
      go_wp2_with fail
      refine Calls.mono TD.out ?_
      rintro e wz ⟨rfl, hwz⟩
      subst wz
      go_wp2
      go_ret
      exact ⟨rfl, Hb6.out⟩
  · replace X2 : Calls Try.prog 6 #[.slice b m cb, .slice a n ca] w fun e w' => e = .returned (.int .i64 0) ∧ w' = w := X2
    replace Q : Calls Try.prog 7 #[.slice a n ca, .slice b m cb] w fun e w' => e = .returned (.bool true) ∧ ∃ k, w' = w.drewN k := Q
    replace X := show Hid _ from X
    replace Y := show Hid _ from Y
    replace Z := show Hid _ from Z
    replace X2 := show Hid _ from X2
    replace Q := show Hid _ from Q
    replace S := show Hid _ from S
    go_enter Try.func3, Try.ntmps3
    go_wp2_with fail
    refine Calls.mono X.out ?_
    rintro e wz ⟨rfl, hwz⟩
    subst wz
    go_wp2_with fail
    refine Calls.mono Y.out ?_
    rintro e wz ⟨rfl, hwz⟩
    subst wz
    go_wp2_with fail
    refine Calls.mono Z.out ?_
    rintro e wz ⟨rfl, hwz⟩
    subst wz
    go_wp2_with fail
    refine Calls.mono X2.out ?_
    rintro e wz ⟨rfl, hwz⟩
    subst wz
    go_wp2_with fail
    refine Calls.mono Q.out ?_
    rintro e wz ⟨rfl, d1, hwz⟩
    subst wz
    go_wp2_with fail
    refine Calls.mono (S.out d1) ?_
    rintro e wz ⟨rfl, d2, hwz⟩
    subst wz
    clear X Y Z X2 Q S
    have hb4 : Below w.heap.size w ((w.drewN d1).drewN d2) := ⟨rfl, rfl, rfl, Nat.le_refl _, fun _ _ => rfl⟩
    have A4 : Hid (IntsAt ((w.drewN d1).drewN d2) a la) := HA.out.below hb4
    have Hb4 : Hid (Below w.heap.size w ((w.drewN d1).drewN d2)) := hb4
    generalize (w.drewN d1).drewN d2 = w4 at *
    clear hb4
    by_cases hn0 : n = 0
    · subst hn0
      have hl0 : la = [] := List.eq_nil_of_length_eq_zero La.out
      have O4 : Hid ((w4.alloc (.cells #[.int .i64 0] 3)).ownsRow w.heap.size 3 1 (.slice none 0 0) 0 []) := World.ownsRow_nil _ _ _ _
      have hs4 : w.heap.size ≤ w4.heap.size := Hb4.out.size
      have Hl0 : Hid (la = []) := hl0
      clear hl0
      cases a
      all_goals
        go_wp2_with (at_builtin; refine wpList_append_lies _ rfl _ _ _ rfl w.heap.size 3 i0 _ 1 8 Try.underlying22 hi0 hz0 hz1 hz3 rfl (by omega) _ 0 [] (by rfl) (by exact O4.out) ⟨w4.heap.size, 0, none⟩ 1 1 [.int .i64 0] (by rfl) (by rfl) (World.news_of_block (cs := #[.int .i64 0]) (t := 3) (fr := (0, 0)) (heap_alloc_new w4 _)) (by simp [Value.oneCell']) (by omega) (by unfold maxLen; omega) (by omega) (by simp; omega) (w4.heap.size + 1) (by simp) ?_; intro g2 cap2 w6 hown6 hgrow6 hat6 hlt6; have O6 : Hid (w6.ownsRow w.heap.size 3 1 (.slice (some ⟨g2, 0, none⟩) (0 + 1) cap2) (0 + 1) ([] ++ [.int .i64 0])) := hown6; have Hb6 : Hid (Below w.heap.size w w6) := (Hb4.out.alloc hs4 _).grown hgrow6 (by simp; omega) (fun k e => by cases e); clear hown6 hgrow6 hat6)
        have TD : Hid _ := tail_done w w6 _ ca g2 cap2 la 0 La.out (by omega) HA.out Hb6.out (by rw [Hl0.out]; exact O6.out)
        go_wp2_with fail
        refine Calls.mono TD.out ?_
        rintro e wz ⟨rfl, hwz⟩
        subst wz
        go_wp2
        go_ret
        exact ⟨rfl, Hb6.out⟩
    · obtain ⟨b1, o1, rfl, _⟩ := A4.out 0 (la[0]'(by rw [La.out]; omega)) (List.getElem?_eq_getElem _)
      have news : Hid (∀ j u, (la.map (fun x => Value.int .i64 x))[j]? = some u → w4.cell? ((⟨b1, o1, none⟩ : Addr).add j) = some u) := by
        intro j u hu
        rw [List.getElem?_map] at hu
        obtain ⟨x, hx, rfl⟩ := Option.map_eq_some_iff.1 hu
        obtain ⟨b2, o2, e, hc⟩ := A4.out j x hx
        cases e
        rw [Addr.add_lit]; exact hc
      have O4 : Hid (w4.ownsRow w.heap.size 3 1 (.slice none 0 0) 0 []) := World.ownsRow_nil _ _ _ _
      have hs4 : w.heap.size ≤ w4.heap.size := Hb4.out.size
      go_wp2_with (first
        | (at_builtin; refine wpList_append_lies _ rfl _ _ _ rfl w.heap.size 3 i0 _ 1 8 Try.underlying22 hi0 hz0 hz1 hz3 rfl (by omega) _ 0 [] (by rfl) (by exact O4.out) ⟨b1, o1, none⟩ n ca (la.map (fun x => Value.int .i64 x)) (by rfl) (by rw [List.length_map, La.out, Nat.mul_one]) (by exact news.out) (by simp [Value.oneCell']) (by omega) (by unfold maxLen; omega) (by omega) (by exact hs4) w4.heap.size rfl ?_; intro g1 cap1 w5 hown5 hgrow5 hat5 hlt5; rw [Nat.zero_add, List.nil_append] at hown5; have O5 : Hid (w5.ownsRow w.heap.size 3 1 (.slice (some ⟨g1, 0, none⟩) n cap1) n (la.map (fun x => Value.int .i64 x))) := hown5; have Hb5 : Hid (Below w.heap.size w w5) := Hb4.out.grown hgrow5 hs4 (fun k e => by cases e); have hs5 : w.heap.size ≤ w5.heap.size := Hb5.out.size; clear hown5 hgrow5 hat5)
        | (at_builtin; refine wpList_append_lies _ rfl _ _ _ rfl w.heap.size 3 i0 _ 1 8 Try.underlying22 hi0 hz0 hz1 hz3 rfl (by omega) _ n (la.map (fun x => Value.int .i64 x)) (by rfl) (by exact (O5.out.alloc _)) ⟨w5.heap.size, 0, none⟩ 1 1 [.int .i64 0] (by rfl) (by rfl) (World.news_of_block (cs := #[.int .i64 0]) (t := 3) (fr := (0, 0)) (heap_alloc_new w5 _)) (by simp [Value.oneCell']) (by omega) (by unfold maxLen; omega) (by omega) (by simp; omega) (w5.heap.size + 1) (by simp) ?_; intro g2 cap2 w6 hown6 hgrow6 hat6 hlt6; have O6 : Hid (w6.ownsRow w.heap.size 3 1 (.slice (some ⟨g2, 0, none⟩) (n + 1) cap2) (n + 1) (la.map (fun x => Value.int .i64 x) ++ [.int .i64 0])) := hown6; have Hb6 : Hid (Below w.heap.size w w6) := (Hb5.out.alloc hs5 _).grown hgrow6 (by simp; omega) (fun k e => by rcases O5.out.2 with ⟨h0, _⟩ | ⟨g', cap', cur, hv, hg, _⟩; cases h0; cases hv; cases e; exact hg); clear hown6 hgrow6 hat6))
      have TD : Hid _ := tail_done w w6 (some ⟨b1, o1, none⟩) ca g2 cap2 la n La.out (by omega) HA.out Hb6.out O6.out
      go_wp2_with fail
      refine Calls.mono TD.out ?_
      rintro e wz ⟨rfl, hwz⟩
      subst wz
      go_wp2
      go_ret
      exact ⟨rfl, Hb6.out⟩
  · replace X2 : Calls Try.prog 6 #[.slice b m cb, .slice a n ca] w fun e w' => e = .returned (.int .i64 1) ∧ w' = w := X2
    replace Q : Calls Try.prog 7 #[.slice a n ca, .slice b m cb] w fun e w' => e = .returned (.bool false) ∧ ∃ k, w' = w.drewN k := Q
    replace X := show Hid _ from X
    replace Y := show Hid _ from Y
    replace Z := show Hid _ from Z
    replace X2 := show Hid _ from X2
    replace Q := show Hid _ from Q
    replace S := show Hid _ from S
    go_enter Try.func3, Try.ntmps3
    go_wp2_with fail
    refine Calls.mono X.out ?_
    rintro e wz ⟨rfl, hwz⟩
    subst wz
    go_wp2_with fail
    refine Calls.mono Y.out ?_
    rintro e wz ⟨rfl, hwz⟩
    subst wz
    go_wp2_with fail
    refine Calls.mono Z.out ?_
    rintro e wz ⟨rfl, hwz⟩
    subst wz
    go_wp2_with fail
    refine Calls.mono X2.out ?_
    rintro e wz ⟨rfl, hwz⟩
    subst wz
    go_wp2_with fail
    refine Calls.mono Q.out ?_
    rintro e wz ⟨rfl, d1, hwz⟩
    subst wz
    go_wp2_with fail
    refine Calls.mono (S.out d1) ?_
    rintro e wz ⟨rfl, d2, hwz⟩
    subst wz
    clear X Y Z X2 Q S
    have hb4 : Below w.heap.size w ((w.drewN d1).drewN d2) := ⟨rfl, rfl, rfl, Nat.le_refl _, fun _ _ => rfl⟩
    have A4 : Hid (IntsAt ((w.drewN d1).drewN d2) a la) := HA.out.below hb4
    have Hb4 : Hid (Below w.heap.size w ((w.drewN d1).drewN d2)) := hb4
    generalize (w.drewN d1).drewN d2 = w4 at *
    clear hb4
    by_cases hn0 : n = 0
    · subst hn0
      have hl0 : la = [] := List.eq_nil_of_length_eq_zero La.out
      have O4 : Hid ((w4.alloc (.cells #[.int .i64 0] 3)).ownsRow w.heap.size 3 1 (.slice none 0 0) 0 []) := World.ownsRow_nil _ _ _ _
      have hs4 : w.heap.size ≤ w4.heap.size := Hb4.out.size
      have Hl0 : Hid (la = []) := hl0
      clear hl0
      cases a
      all_goals
        go_wp2_with (at_builtin; refine wpList_append_lies _ rfl _ _ _ rfl w.heap.size 3 i0 _ 1 8 Try.underlying22 hi0 hz0 hz1 hz3 rfl (by omega) _ 0 [] (by rfl) (by exact O4.out) ⟨w4.heap.size, 0, none⟩ 1 1 [.int .i64 0] (by rfl) (by rfl) (World.news_of_block (cs := #[.int .i64 0]) (t := 3) (fr := (0, 0)) (heap_alloc_new w4 _)) (by simp [Value.oneCell']) (by omega) (by unfold maxLen; omega) (by omega) (by simp; omega) (w4.heap.size + 1) (by simp) ?_; intro g2 cap2 w6 hown6 hgrow6 hat6 hlt6; have O6 : Hid (w6.ownsRow w.heap.size 3 1 (.slice (some ⟨g2, 0, none⟩) (0 + 1) cap2) (0 + 1) ([] ++ [.int .i64 0])) := hown6; have Hb6 : Hid (Below w.heap.size w w6) := (Hb4.out.alloc hs4 _).grown hgrow6 (by simp; omega) (fun k e => by cases e); clear hown6 hgrow6 hat6)
        have TD : Hid _ := tail_done w w6 _ ca g2 cap2 la 0 La.out (by omega) HA.out Hb6.out (by rw [Hl0.out]; exact O6.out)
        go_wp2_with fail
        refine Calls.mono TD.out ?_
        rintro e wz ⟨rfl, hwz⟩
        subst wz
        go_wp2
        go_ret
        exact ⟨rfl, Hb6.out⟩
    · obtain ⟨b1, o1, rfl, _⟩ := A4.out 0 (la[0]'(by rw [La.out]; omega)) (List.getElem?_eq_getElem _)
      have news : Hid (∀ j u, (la.map (fun x => Value.int .i64 x))[j]? = some u → w4.cell? ((⟨b1, o1, none⟩ : Addr).add j) = some u) := by
        intro j u hu
        rw [List.getElem?_map] at hu
        obtain ⟨x, hx, rfl⟩ := Option.map_eq_some_iff.1 hu
        obtain ⟨b2, o2, e, hc⟩ := A4.out j x hx
        cases e
        rw [Addr.add_lit]; exact hc
      have O4 : Hid (w4.ownsRow w.heap.size 3 1 (.slice none 0 0) 0 []) := World.ownsRow_nil _ _ _ _
      have hs4 : w.heap.size ≤ w4.heap.size := Hb4.out.size
      go_wp2_with (first
        | (at_builtin; refine wpList_append_lies _ rfl _ _ _ rfl w.heap.size 3 i0 _ 1 8 Try.underlying22 hi0 hz0 hz1 hz3 rfl (by omega) _ 0 [] (by rfl) (by exact O4.out) ⟨b1, o1, none⟩ n ca (la.map (fun x => Value.int .i64 x)) (by rfl) (by rw [List.length_map, La.out, Nat.mul_one]) (by exact news.out) (by simp [Value.oneCell']) (by omega) (by unfold maxLen; omega) (by omega) (by exact hs4) w4.heap.size rfl ?_; intro g1 cap1 w5 hown5 hgrow5 hat5 hlt5; rw [Nat.zero_add, List.nil_append] at hown5; have O5 : Hid (w5.ownsRow w.heap.size 3 1 (.slice (some ⟨g1, 0, none⟩) n cap1) n (la.map (fun x => Value.int .i64 x))) := hown5; have Hb5 : Hid (Below w.heap.size w w5) := Hb4.out.grown hgrow5 hs4 (fun k e => by cases e); have hs5 : w.heap.size ≤ w5.heap.size := Hb5.out.size; clear hown5 hgrow5 hat5)
        | (at_builtin; refine wpList_append_lies _ rfl _ _ _ rfl w.heap.size 3 i0 _ 1 8 Try.underlying22 hi0 hz0 hz1 hz3 rfl (by omega) _ n (la.map (fun x => Value.int .i64 x)) (by rfl) (by exact (O5.out.alloc _)) ⟨w5.heap.size, 0, none⟩ 1 1 [.int .i64 0] (by rfl) (by rfl) (World.news_of_block (cs := #[.int .i64 0]) (t := 3) (fr := (0, 0)) (heap_alloc_new w5 _)) (by simp [Value.oneCell']) (by omega) (by unfold maxLen; omega) (by omega) (by simp; omega) (w5.heap.size + 1) (by simp) ?_; intro g2 cap2 w6 hown6 hgrow6 hat6 hlt6; have O6 : Hid (w6.ownsRow w.heap.size 3 1 (.slice (some ⟨g2, 0, none⟩) (n + 1) cap2) (n + 1) (la.map (fun x => Value.int .i64 x) ++ [.int .i64 0])) := hown6; have Hb6 : Hid (Below w.heap.size w w6) := (Hb5.out.alloc hs5 _).grown hgrow6 (by simp; omega) (fun k e => by rcases O5.out.2 with ⟨h0, _⟩ | ⟨g', cap', cur, hv, hg, _⟩; cases h0; cases hv; cases e; exact hg); clear hown6 hgrow6 hat6))
      have TD : Hid _ := tail_done w w6 (some ⟨b1, o1, none⟩) ca g2 cap2 la n La.out (by omega) HA.out Hb6.out O6.out
      go_wp2_with fail
      refine Calls.mono TD.out ?_
      rintro e wz ⟨rfl, hwz⟩
      subst wz
      go_wp2
      go_ret
      exact ⟨rfl, Hb6.out⟩
end Go.Proofs.Ytmgpnaehniohgaa
