/- All. -/
import Derived.Test.YtkejjiilcoacfaaGreatOnly
namespace Go.Proofs.YtkejjiilcoacfaaGreat
open Go.RowKit

/-- Every pair of a list, those of the first ones. -/
def frontP (m : List Int) (i : Nat) : List Pr := (List.range i).flatMap fun k => (m.drop (k + 1)).map fun b => (m.getD k 0, b)
theorem frontP_succ (m : List Int) (i : Nat) : frontP m (i + 1) = frontP m i ++ (m.drop (i + 1)).map fun b => (m.getD i 0, b) := by
  unfold frontP
  rw [List.range_succ, List.flatMap_append]
  simp
def allP (m : List Int) : List Pr := frontP m m.length
theorem dup_of : ∀ {l : List Int}, ¬ l.Nodup → ∃ x, x ∈ l ∧ x ∈ l.erase x
  | [], h => absurd List.nodup_nil h
  | a :: t, h => by
    by_cases ha : a ∈ t
    · exact ⟨a, by simp, by simpa using ha⟩
    · have ht : ¬ t.Nodup := fun h' => h (List.nodup_cons.2 ⟨ha, h'⟩)
      obtain ⟨x, hx, he⟩ := dup_of ht
      have hne : ¬ (a == x) = true := by rw [beq_iff_eq]; rintro rfl; exact ha hx
      exact ⟨x, by simp [hx], by rw [List.erase_cons, if_neg hne]; simp [he]⟩
theorem once_nodup {l m : List Int} (h : IsOnce l m) : m.length < l.length ↔ ¬ l.Nodup := by
  have hm : m.Nodup := h.up.imp fun {a b} hab e => by omega
  constructor
  · intro hlt hn
    have := nodup_le (l := l) (m := m) hn fun x hx => (h.mem x).2 hx
    omega
  · intro hn
    obtain ⟨x, hx, he⟩ := dup_of hn
    have := nodup_le (l := m) (m := l.erase x) hm fun y hy => by
      by_cases e : y = x
      · rw [e]; exact he
      · exact (List.mem_erase_of_ne e).2 ((h.mem y).1 hy)
    rw [List.length_erase_of_mem hx] at this
    have hpos := List.length_pos_of_mem hx
    omega
/-- What All answers. -/
def AllIs (w w' : World) (e : Ending) (vl : List Int) : Prop := Below w.heap.size w w' ∧
  ((512 < vl.length ∧ e = .returned (.tuple #[.slice none 0 0, .int .i64 22])) ∨
   (vl.length ≤ 512 ∧ ¬ vl.Nodup ∧ e = .returned (.tuple #[.slice none 0 0, .int .i64 50])) ∨
   (vl.length ≤ 512 ∧ vl.Nodup ∧ ∃ v m, IsOnce vl m ∧ e = .returned (.tuple #[v, .int .i64 0]) ∧ w'.ownsRow w.heap.size 64 2 v (allP m).length (rowP (allP m))))
/-- All along its outer loop. -/
def AllRel (m : List Int) (nm : Nat) (w1 : World) (v i : Value) (wx : World) : Prop := ∃ (j q : Nat) (av : Option Addr) (cap : Nat), j ≤ nm ∧ q ≤ j * 512 ∧ i = .int .i64 j ∧ v = .slice av q cap ∧ Hid ((frontP m j).length = q) ∧ Hid (wx.ownsRow w1.heap.size 64 2 (.slice av q cap) q (rowP (frontP m j))) ∧ Hid (Below w1.heap.size w1 wx)
set_option maxRecDepth 100000 in
set_option maxHeartbeats 8000000 in
theorem all_any (w : World) (a : Option Addr) (c : Nat) (vl : List Int) (n : Nat) (hl : vl.length = n) (hn : n ≤ 4611686018427387904) (hA : IntsAt w a vl) :
    Calls Tryz.prog 38 #[.slice a n c] w fun e w' => AllIs w w' e vl := by
  have HL : Hid (vl.length = n) := hl
  by_cases hbig : 512 < n
  · have f1 : decide ((n : Int) > 512) = true := by rw [decide_eq_true_eq]; omega
    have HF : Hid (AllIs w w (.returned (.tuple #[.slice none 0 0, .int .i64 22])) vl) := ⟨Below.refl _ _, .inl ⟨by omega, rfl⟩⟩
    clear hA hl
    go_enter Tryz.func38, Tryz.ntmps38
    go_wp2
    refine bodyPost_ret (by simp [results, Tryz.results38, go_sem]; try rfl) rfl ?_
    exact HF.out
  · have f1 : decide ((n : Int) > 512) = false := by rw [decide_eq_false_iff_not]; omega
    have hn5 : n ≤ 512 := by omega
    have C0 : Hid _ := once_any w a c vl n hl (by omega) hA
    obtain ⟨i0, hi0, hz0, hz1, hz3⟩ := info_parts info24
    clear hA hl hbig
    go_enter Tryz.func38, Tryz.ntmps38
    go_wp2_with fail
    refine Calls.mono C0.out ?_
    rintro e w1 ⟨hb1, a3, c3, m, rfl, hI, hmc, hO⟩
    obtain ⟨nm, hnm⟩ : ∃ nm, m.length = nm := ⟨_, rfl⟩
    have HNM : Hid (m.length = nm) := hnm
    have HB1 : Hid (Below w.heap.size w w1) := hb1
    have HI : Hid (IntsAt w1 a3 m) := hI
    have HO : Hid (IsOnce vl m) := hO
    rw [hnm]
    have hmc' : nm ≤ c3 := by rw [← hnm]; exact hmc
    have hmn : nm ≤ n := by rw [← hnm, ← HL.out]; exact hO.len
    clear C0 hb1 hI hO hnm hmc
    by_cases hd : nm < n
    · have f2 : (nm : Int) < (n : Int) := by omega
      have HF : Hid (AllIs w w1 (.returned (.tuple #[.slice none 0 0, .int .i64 50])) vl) := ⟨HB1.out, .inr (.inl ⟨by rw [HL.out]; exact hn5, (once_nodup HO.out).1 (by rw [HL.out, HNM.out]; exact hd), rfl⟩)⟩
      go_wp2
      refine bodyPost_ret (by simp [results, Tryz.results38, go_sem]; try rfl) rfl ?_
      exact HF.out
    · have f2 : ¬ (nm : Int) < (n : Int) := by omega
      have HND : Hid (vl.Nodup) := by
        show vl.Nodup
        refine Decidable.not_not.1 fun h => ?_
        have := (once_nodup HO.out).2 h
        rw [HL.out, HNM.out] at this
        exact hd this
      clear hd
      go_wp2_with fail
      go_loopw [5, 22] (fun v i wx => AllRel m nm w1 v i wx) (fun _ i _ => nm - (intOf i).toNat)
      case atStart => exact ⟨0, 0, none, 0, Nat.zero_le _, Nat.le_refl _, rfl, rfl, rfl, World.ownsRow_nil _ _ _ _, Below.refl _ _⟩
      case round =>
        obtain ⟨j, q, av, cap, hj, hqj, rfl, rfl, hml, HR, hb⟩ := hrel
        by_cases hlt : j < nm
        · have n1 : (j : Int) < (nm : Int) := by omega
          obtain ⟨x, hx⟩ : ∃ x, m[j]? = some x := ⟨m[j]'(by rw [HNM.out]; exact hlt), List.getElem?_eq_getElem _⟩
          obtain ⟨b1, o1, rfl, r1⟩ := HI.out j x hx
          have r2 : wr.cell? ⟨b1, o1 + j, none⟩ = some (.int .i64 x) := (hb.out.cell (p := ⟨b1, o1 + j, none⟩) (World.block_lt_of_cell? _ _ r1)).trans r1
          have g1 : IntKind.i64.wrap ((j : Int) + 1) = ((j + 1 : Nat) : Int) := by rw [IntWalk.i64_in _ (by omega)]; omega
          clear r1
          go_wp2_with fail
          case inl h =>
            have HX : Hid (∀ (k : Nat) (y : Int), (m.drop (j + 1))[k]? = some y → w1.cell? ⟨b1, o1 + k, none⟩ = some (.int .i64 y)) := fun k y hy => by
              have h1 := (List.getElem?_eq_some_iff.1 hy).1
              rw [List.length_drop, HNM.out] at h1
              omega
            have HD : Hid ((m.drop (j + 1)).length = nm - (j + 1)) := by show _ = _; rw [List.length_drop, HNM.out]
            have HFS : Hid (frontP m (j + 1) = frontP m j ++ (m.drop (j + 1)).map fun b => (x, b)) := by show _ = _; rw [frontP_succ, List.getD, hx]; rfl
            obtain ⟨nr, hnr⟩ : ∃ nr, nm - (j + 1) = nr := ⟨_, rfl⟩
            rw [hnr] at HD
            rw [hnr]
            have hnr2 : nr + (j + 1) = nm := by omega
            have H3 : Hid (j + 1 = c3) := h.symm
            clear hnr hx h r2
            go_loopw [5, 32] (fun v i wx => ∃ (k q2 : Nat) (av2 : Option Addr) (cap2 : Nat), k ≤ nr ∧ q2 ≤ q + k ∧ i = .int .i64 k ∧ v = .slice av2 q2 cap2 ∧ Hid ((frontP m j ++ ((m.drop (j + 1)).take k).map fun b => (x, b)).length = q2) ∧ Hid (wx.ownsRow w1.heap.size 64 2 (.slice av2 q2 cap2) q2 (rowP (frontP m j ++ ((m.drop (j + 1)).take k).map fun b => (x, b)))) ∧ Hid (Below w1.heap.size w1 wx)) (fun _ i _ => nr - (intOf i).toNat)
            case atStart => exact ⟨0, q, av, cap, Nat.zero_le _, Nat.le_refl _, rfl, rfl, by rw [List.take_zero, List.map_nil, List.append_nil]; exact hml.out, by rw [List.take_zero, List.map_nil, List.append_nil]; exact HR.out, hb.out⟩
            case round =>
              clear hb HR hml
              obtain ⟨k, q2, av2, cap2, hk, hq2, rfl, rfl, hml, HR, hb⟩ := hrel
              by_cases hlt2 : k < nr
              · have n2 : (k : Int) < (nr : Int) := by omega
                obtain ⟨y, hy⟩ : ∃ y, (m.drop (j + 1))[k]? = some y := ⟨(m.drop (j + 1))[k]'(by rw [HD.out]; exact hlt2), List.getElem?_eq_getElem _⟩
                have ry := HX.out k y hy
                have ry2 : wr.cell? ⟨b1, o1 + k, none⟩ = some (.int .i64 y) := (hb.out.cell (p := ⟨b1, o1 + k, none⟩) (World.block_lt_of_cell? _ _ ry)).trans ry
                have HTK : Hid ((frontP m j ++ ((m.drop (j + 1)).take (k + 1)).map fun b => (x, b)) = (frontP m j ++ ((m.drop (j + 1)).take k).map fun b => (x, b)) ++ [(x, y)]) := by show _ = _; rw [List.take_add_one, hy, Option.toList_some, List.map_append, List.append_assoc]; rfl
                clear ry hy
                generalize (frontP m j ++ ((m.drop (j + 1)).take k).map fun b => (x, b)) = row at *
                go_wp2_with (at_builtin; refine wpList_append_more (w := wr.alloc (.cells #[.int .i64 x, .int .i64 y] 64)) rfl _ _ _ rfl w1.heap.size 64 i0 _ 2 16 Tryz.underlying35 hi0 hz0 hz1 hz3 rfl (by omega) _ q2 (rowP row) (by rfl) (by exact HR.out.alloc _) (some ⟨wr.heap.size, 0, none⟩) 1 1 [.int .i64 x, .int .i64 y] (by rfl) (by rfl) (fun j' u hu => ⟨_, rfl, World.news_of_block (cs := #[.int .i64 x, .int .i64 y]) (t := 64) (fr := (0, 0)) (World.alloc_heap_new wr _) j' u hu⟩) (by simp [Value.oneCell']) (by unfold maxLen; omega) (by omega) (by exact Nat.le_trans hb.out.size (below_alloc _ _).size) ?_; intro a4 c4 w4 ho4 hb4; have HO4 : Hid (w4.ownsRow w1.heap.size 64 2 (.slice a4 (q2 + 1) c4) (q2 + 1) (rowP (row ++ [(x, y)]))) := (by rw [rowP_snoc]; exact ho4); have HB4 : Hid (Below w1.heap.size w1 w4) := (hb.out.alloc hb.out.size _).trans hb4; clear ho4 hb4)
                go_wp2
                exact ⟨⟨k + 1, q2 + 1, _, _, by omega, by omega, by go_num, rfl, by show _ = _; rw [HTK.out, List.length_append, hml.out]; rfl, by rw [HTK.out]; exact HO4.out, HB4.out⟩, by simp [intOf]; omega⟩
              · have n2 : ¬ (k : Int) < (nr : Int) := by omega
                have HK : Hid ((frontP m j ++ ((m.drop (j + 1)).take k).map fun b => (x, b)) = frontP m (j + 1)) := by show _ = _; rw [HFS.out, List.take_of_length_le (by rw [HD.out]; omega)]
                rw [HK.out] at hml HR
                clear HK
                go_wp2
                go_roundw
                case rel =>
                  (repeat apply Exists.intro)
                  exact ⟨⟨j + 1, q2, av2, cap2, by omega, by omega, by go_num, rfl, hml.out, HR.out, hb.out⟩, H3.out, rfl, rfl, rfl, rfl, H3.out, rfl⟩
                case measure => simp [intOf]; omega
          case inr h =>
            have HX : Hid (∀ (k : Nat) (y : Int), (m.drop (j + 1))[k]? = some y → w1.cell? ⟨b1, (o1 + (j + 1)) + k, none⟩ = some (.int .i64 y)) := fun k y hy => by
              rw [List.getElem?_drop] at hy
              obtain ⟨b9, o9, e9, c9⟩ := HI.out _ y hy
              cases e9
              rw [Nat.add_assoc]
              exact c9
            have HD : Hid ((m.drop (j + 1)).length = nm - (j + 1)) := by show _ = _; rw [List.length_drop, HNM.out]
            have HFS : Hid (frontP m (j + 1) = frontP m j ++ (m.drop (j + 1)).map fun b => (x, b)) := by show _ = _; rw [frontP_succ, List.getD, hx]; rfl
            obtain ⟨nr, hnr⟩ : ∃ nr, nm - (j + 1) = nr := ⟨_, rfl⟩
            rw [hnr] at HD
            rw [hnr]
            have hnr2 : nr + (j + 1) = nm := by omega
            clear hnr hx h r2
            go_loopw [5, 32] (fun v i wx => ∃ (k q2 : Nat) (av2 : Option Addr) (cap2 : Nat), k ≤ nr ∧ q2 ≤ q + k ∧ i = .int .i64 k ∧ v = .slice av2 q2 cap2 ∧ Hid ((frontP m j ++ ((m.drop (j + 1)).take k).map fun b => (x, b)).length = q2) ∧ Hid (wx.ownsRow w1.heap.size 64 2 (.slice av2 q2 cap2) q2 (rowP (frontP m j ++ ((m.drop (j + 1)).take k).map fun b => (x, b)))) ∧ Hid (Below w1.heap.size w1 wx)) (fun _ i _ => nr - (intOf i).toNat)
            case atStart => exact ⟨0, q, av, cap, Nat.zero_le _, Nat.le_refl _, rfl, rfl, by rw [List.take_zero, List.map_nil, List.append_nil]; exact hml.out, by rw [List.take_zero, List.map_nil, List.append_nil]; exact HR.out, hb.out⟩
            case round =>
              clear hb HR hml
              obtain ⟨k, q2, av2, cap2, hk, hq2, rfl, rfl, hml, HR, hb⟩ := hrel
              by_cases hlt2 : k < nr
              · have n2 : (k : Int) < (nr : Int) := by omega
                obtain ⟨y, hy⟩ : ∃ y, (m.drop (j + 1))[k]? = some y := ⟨(m.drop (j + 1))[k]'(by rw [HD.out]; exact hlt2), List.getElem?_eq_getElem _⟩
                have ry := HX.out k y hy
                have ry2 : wr.cell? ⟨b1, (o1 + (j + 1)) + k, none⟩ = some (.int .i64 y) := (hb.out.cell (p := ⟨b1, (o1 + (j + 1)) + k, none⟩) (World.block_lt_of_cell? _ _ ry)).trans ry
                have HTK : Hid ((frontP m j ++ ((m.drop (j + 1)).take (k + 1)).map fun b => (x, b)) = (frontP m j ++ ((m.drop (j + 1)).take k).map fun b => (x, b)) ++ [(x, y)]) := by show _ = _; rw [List.take_add_one, hy, Option.toList_some, List.map_append, List.append_assoc]; rfl
                clear ry hy
                generalize (frontP m j ++ ((m.drop (j + 1)).take k).map fun b => (x, b)) = row at *
                go_wp2_with (at_builtin; refine wpList_append_more (w := wr.alloc (.cells #[.int .i64 x, .int .i64 y] 64)) rfl _ _ _ rfl w1.heap.size 64 i0 _ 2 16 Tryz.underlying35 hi0 hz0 hz1 hz3 rfl (by omega) _ q2 (rowP row) (by rfl) (by exact HR.out.alloc _) (some ⟨wr.heap.size, 0, none⟩) 1 1 [.int .i64 x, .int .i64 y] (by rfl) (by rfl) (fun j' u hu => ⟨_, rfl, World.news_of_block (cs := #[.int .i64 x, .int .i64 y]) (t := 64) (fr := (0, 0)) (World.alloc_heap_new wr _) j' u hu⟩) (by simp [Value.oneCell']) (by unfold maxLen; omega) (by omega) (by exact Nat.le_trans hb.out.size (below_alloc _ _).size) ?_; intro a4 c4 w4 ho4 hb4; have HO4 : Hid (w4.ownsRow w1.heap.size 64 2 (.slice a4 (q2 + 1) c4) (q2 + 1) (rowP (row ++ [(x, y)]))) := (by rw [rowP_snoc]; exact ho4); have HB4 : Hid (Below w1.heap.size w1 w4) := (hb.out.alloc hb.out.size _).trans hb4; clear ho4 hb4)
                go_wp2
                exact ⟨⟨k + 1, q2 + 1, _, _, by omega, by omega, by go_num, rfl, by show _ = _; rw [HTK.out, List.length_append, hml.out]; rfl, by rw [HTK.out]; exact HO4.out, HB4.out⟩, by simp [intOf]; omega⟩
              · have n2 : ¬ (k : Int) < (nr : Int) := by omega
                have HK : Hid ((frontP m j ++ ((m.drop (j + 1)).take k).map fun b => (x, b)) = frontP m (j + 1)) := by show _ = _; rw [HFS.out, List.take_of_length_le (by rw [HD.out]; omega)]
                rw [HK.out] at hml HR
                clear HK
                go_wp2
                go_roundw
                case rel =>
                  (repeat apply Exists.intro)
                  exact ⟨⟨j + 1, q2, av2, cap2, by omega, by omega, by go_num, rfl, hml.out, HR.out, hb.out⟩, rfl, rfl, rfl, rfl, rfl⟩
                case measure => simp [intOf]; omega
        · have n1 : ¬ (j : Int) < (nm : Int) := by omega
          have hjn : j = nm := by omega
          have HF : Hid (∀ w9, w9 = wr → AllIs w w9 (.returned (.tuple #[.slice av q cap, .int .i64 0])) vl) := fun w9 e9 => by
            subst e9
            refine ⟨HB1.out.trans (hb.out.mono HB1.out.size), .inr (.inr ⟨by rw [HL.out]; exact hn5, HND.out, _, m, HO.out, rfl, ?_⟩)⟩
            have h1 := HR.out
            have h2 : frontP m j = allP m := by unfold allP; rw [hjn, HNM.out]
            rw [h2] at h1
            have h3 : (allP m).length = q := by rw [← h2]; exact hml.out
            rw [h3]
            exact h1.mono HB1.out.size
          clear hjn HR hb
          go_wp2
          refine bodyPost_ret (by simp [results, Tryz.results38, go_sem]; try rfl) rfl ?_
          exact HF.out _ rfl
end Go.Proofs.YtkejjiilcoacfaaGreat
