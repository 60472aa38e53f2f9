/- answers: all lists that a substitution answers, each in a block of its own. -/
import Derived.Test.YteiaobeklahifaaCopyA
import Derived.Test.YteiaobeklahifaaOnly
import Derived.Test.YteiaobeklahifaaFill
import Derived.Test.YteiaobeklahifaaBehind
namespace Go.Proofs.Yteiaobeklahifaa
open Go.RowKit

/-- What Apply answers, in one word. -/
def appF (bl : List (Int × List Int)) (l : List Int) : List Int := if (subs bl l).length ≤ 200 then subs bl l else []
def appG (bl : List (Int × List Int)) (l : List Int) : Int := if (subs bl l).length ≤ 200 then 0 else 31
theorem appF_len (bl : List (Int × List Int)) (l : List Int) : (appF bl l).length ≤ 200 := by
  unfold appF
  split
  · assumption
  · simp
theorem app_own {w w' : World} {e : Ending} {bl : List (Int × List Int)} {l : List Int} (h : AppIs w w' e bl l) : Below w.heap.size w w' ∧ ∃ a1 c1, e = .returned (.tuple #[.slice a1 (appF bl l).length c1, .int .i64 (appG bl l)]) ∧ w'.ownsRow w.heap.size 3 1 (.slice a1 (appF bl l).length c1) (appF bl l).length ((appF bl l).map intV) := by
  refine ⟨h.1, ?_⟩
  unfold appF appG
  rcases h.2 with ⟨hf, v, rfl, ho⟩ | ⟨hf, rfl⟩
  · obtain ⟨a1, c1, rfl, _, hr, _⟩ := own_row ho
    rw [if_pos hf, if_pos hf]
    exact ⟨a1, c1, rfl, ho⟩
  · rw [if_neg (by omega), if_neg (by omega)]
    exact ⟨none, 0, rfl, World.ownsRow_nil _ _ _ _⟩
/-- All of these slices own what they hold. -/
def AllOwn (base : Nat) (w : World) (vs : List Value) : Prop := ∀ v ∈ vs, Own base w v
theorem Own.under {base : Nat} {w w' : World} {v : Value} (h : Own base w v) (hb : Below w.heap.size w w') : Own base w' v := by
  obtain ⟨xs, h⟩ := h
  exact ⟨xs, owns_under h hb⟩
theorem AllOwn.under {base : Nat} {w w' : World} {vs : List Value} (h : AllOwn base w vs) (hb : Below w.heap.size w w') : AllOwn base w' vs := fun v hv => (h v hv).under hb
theorem AllOwn.grown {base b2 n e2 size : Nat} {w w' : World} {vs xs : List Value} {u : Value} (h : AllOwn base w vs) (hu : w.ownsRow b2 e2 size u n xs) (he : e2 ≠ 3) (hg : w.grownBy w' u.ownBlock) : AllOwn base w' vs := fun v hv => by
  obtain ⟨ys, h⟩ := h v hv
  exact ⟨ys, owns_same h fun g e => hg.block g (own_low h g e) fun e' => kinds_apart hu h he g e e'.symm⟩
theorem owns_lenV {base : Nat} {w : World} {v : Value} {n : Nat} {xs : List Value} (h : w.ownsRow base 3 1 v n xs) : lenV v = n := by
  obtain ⟨a, c, rfl, _⟩ := own_shape h
  rfl
theorem own_of {base b : Nat} {w : World} {v : Value} {n : Nat} {xs : List Value} (h : w.ownsRow b 3 1 v n xs) (hb : base ≤ b) : Own base w v := ⟨xs, by rw [owns_lenV h]; exact owns_down h hb⟩
theorem Owns.own {base b : Nat} {w : World} {vs : List (Int × Value)} {bl : List (Int × List Int)} (h : Owns b w vs bl) (hb : base ≤ b) : AllOwn base w (vs.map (·.2)) := fun u hu => by
  obtain ⟨q, hq, rfl⟩ := List.mem_map.1 hu
  obtain ⟨i, hi⟩ := List.getElem?_of_mem hq
  have hlt : i < bl.length := by rw [← h.1]; exact (List.getElem?_eq_some_iff.1 hi).1
  obtain ⟨v, h1, h2⟩ := h.2 i _ (List.getElem?_eq_getElem hlt)
  rw [hi] at h1
  cases h1
  exact own_of h2 hb
theorem Owns.lens {b : Nat} {w : World} {vs : List (Int × Value)} {bl : List (Int × List Int)} {M : Nat} (h : Owns b w vs bl) (hM : ∀ p ∈ bl, p.2.length ≤ M) : ∀ u ∈ vs.map (·.2), lenV u ≤ M := fun u hu => by
  obtain ⟨q, hq, rfl⟩ := List.mem_map.1 hu
  obtain ⟨i, hi⟩ := List.getElem?_of_mem hq
  have hlt : i < bl.length := by rw [← h.1]; exact (List.getElem?_eq_some_iff.1 hi).1
  obtain ⟨v, h1, h2⟩ := h.2 i _ (List.getElem?_eq_getElem hlt)
  rw [hi] at h1
  cases h1
  rw [owns_lenV h2]
  exact hM _ (List.getElem_mem hlt)
theorem Owns.slices {b : Nat} {w : World} {vs : List (Int × Value)} {bl : List (Int × List Int)} (h : Owns b w vs bl) : ∀ q ∈ vs, ∃ a n c, q.2 = Value.slice a n c := fun q hq => by
  obtain ⟨i, hi⟩ := List.getElem?_of_mem hq
  have hlt : i < bl.length := by rw [← h.1]; exact (List.getElem?_eq_some_iff.1 hi).1
  obtain ⟨v, h1, h2⟩ := h.2 i _ (List.getElem?_eq_getElem hlt)
  rw [hi] at h1
  cases h1
  obtain ⟨a, c, e, _⟩ := own_shape h2
  exact ⟨_, _, _, e⟩
theorem take_snd {vs : List (Int × Value)} {j : Nat} {x : Int} {v : Value} (h : vs[j]? = some (x, v)) : (vs.map (·.2)).take (j + 1) = (vs.map (·.2)).take j ++ [v] := by
  rw [List.take_add_one, List.getElem?_map, h]; rfl

/-- What answers answers. -/
def AnsIs (w w' : World) (e : Ending) (k : Nat) : Prop := Below w.heap.size w w' ∧ ∃ (av : Option Addr) (cap : Nat) (vs : List Value), e = .returned (.slice av k cap) ∧ vs.length = k ∧ w'.ownsRow w.heap.size 29 1 (.slice av k cap) k vs ∧ AllOwn w.heap.size w' vs ∧ Apart vs ∧ (∀ v ∈ vs, lenV v ≤ 17592186043900)

set_option maxRecDepth 100000 in
set_option maxHeartbeats 16000000 in
theorem answers_any (w : World) (a : Option Addr) (n c : Nat) (bl : List (Int × List Int)) (b0 : Value) (ae : Option Addr) (ne ce : Nat) (l : List Int) (V : Int) (ax : Option Addr) (nx cx : Nat) (xl : List Int)
    (hb0 : ∃ a n c, b0 = Value.slice a n c) (hn : n ≤ 1048576) (hbig : ∀ p ∈ bl, p.2.length ≤ 1048576) (h : BindsAt w a n bl) (hl : l.length = ne) (hce : ne ≤ ce) (hne : ne ≤ 17592186043904) (hE : IntsAt w ae l) (hx : xl.length = nx) (hnx : nx ≤ 17592186043904) (hX : IntsAt w ax xl) :
    Calls Try.prog 27 #[.agg #[.slice a n c], .agg #[b0, .slice ae ne ce, .int .i64 V, .slice ax nx cx]] w fun e w' => AnsIs w w' e (n + (onlyOf bl xl).length + 2) := by
  obtain ⟨i0, hi0, hz0, hz1, hz3⟩ := info_parts infoE
  obtain ⟨ba, bn, bc, rfl⟩ := hb0
  obtain ⟨wA, hwA⟩ : ∃ wA, wA = (w.alloc (.cells #[.slice a n c] 25)).alloc (.cells #[.slice ba bn bc, .slice ae ne ce, .int .i64 V, .slice ax nx cx] 55) := ⟨_, rfl⟩
  have hb0 : Below w.heap.size w (w.alloc (.cells #[.slice a n c] 25)) := below_alloc _ _
  have hb1 : Below (w.alloc (.cells #[.slice a n c] 25)).heap.size (w.alloc (.cells #[.slice a n c] 25)) wA := by rw [hwA]; exact below_alloc _ _
  have hbA : Below w.heap.size w wA := hb0.trans (hb1.mono hb0.size)
  have hsA : wA.heap.size = w.heap.size + 2 := by rw [hwA]; simp
  have K0 : Hid (wA.cell? ⟨w.heap.size, 0, none⟩ = some (.slice a n c)) := (hb1.cell (p := ⟨w.heap.size, 0, none⟩) (by simp)).trans (World.cell?_alloc_new w _ _ 0)
  have key : ∀ (i : Nat) (u : Value), (#[.slice ba bn bc, .slice ae ne ce, .int .i64 V, .slice ax nx cx] : Array Value)[i]? = some u → wA.cell? ⟨w.heap.size + 1, i, none⟩ = some u := fun i u hu => by
    rw [hwA, show w.heap.size + 1 = (w.alloc (.cells #[.slice a n c] 25)).heap.size by simp]
    exact (World.cell?_alloc_new (w.alloc (.cells #[.slice a n c] 25)) _ _ i).trans hu
  have E1 : Hid (wA.cell? ⟨w.heap.size + 1, 1, none⟩ = some (.slice ae ne ce)) := key 1 _ rfl
  have E2 : Hid (wA.cell? ⟨w.heap.size + 1, 2, none⟩ = some (.int .i64 V)) := key 2 _ rfl
  have E3 : Hid (wA.cell? ⟨w.heap.size + 1, 3, none⟩ = some (.slice ax nx cx)) := key 3 _ rfl
  have HBn : Hid (BindsAt wA a n bl) := h.under hbA
  have HE : Hid (IntsAt wA ae l) := hE.under hbA
  have HX : Hid (IntsAt wA ax xl) := hX.under hbA
  have HL : Hid (l.length = ne) := hl
  have HLx : Hid (xl.length = nx) := hx
  have HBG : Hid (∀ p ∈ bl, p.2.length ≤ 1048576) := hbig
  have HBA : Hid (Below w.heap.size w wA) := hbA
  have HSA : Hid (wA.heap.size = w.heap.size + 2) := hsA
  have HwA : Hid (wA = (w.alloc (.cells #[.slice a n c] 25)).alloc (.cells #[.slice ba bn bc, .slice ae ne ce, .int .i64 V, .slice ax nx cx] 55)) := hwA
  clear h hE hX hl hx hbig hbA hb0 hb1 hsA key hwA
  go_enter Try.func27, Try.ntmps27
  go_wp2_with fail
  rw [← HwA.out]
  generalize hB0 : w.heap.size = B0 at *
  have HB0 : Hid (w.heap.size = B0) := hB0
  clear hB0 HwA
  have CALL : Hid _ := bindsA_any wA a n c bl (by omega) (fun p hp => Nat.le_trans (HBG.out p hp) (by omega)) HBn.out
  refine Calls.mono CALL.out ?_
  rintro e w1 ⟨v1, rfl, vsB, ho1, hO1, hb1⟩
  obtain ⟨a1, c1, rfl, _, hr1, _⟩ := own_row ho1
  have HR1 : Hid (RowAt w1 a1 (rowB vsB)) := hr1
  have HO1 : Hid (OwnsA wA.heap.size w1 vsB bl) := hO1
  have HB1 : Hid (Below wA.heap.size wA w1) := hb1
  have HLn : Hid (vsB.length = n) := hO1.1.1.trans HBn.out.len
  have HSl : Hid (∀ q ∈ vsB, ∃ a n c, q.2 = Value.slice a n c) := hO1.1.slices
  clear CALL ho1 hO1 hb1 hr1
  go_wp2_with fail
  go_loopw [5, 7] (fun v i wx => ∃ (j : Nat) (av : Option Addr) (cap : Nat), j ≤ n ∧ i = .int .i64 j ∧ v = .slice av j cap ∧ Hid (wx.ownsRow w1.heap.size 29 1 (.slice av j cap) j ((vsB.map (·.2)).take j)) ∧ Hid (Below w1.heap.size w1 wx)) (fun _ i _ => n - (intOf i).toNat)
  case atStart => exact ⟨0, none, 0, Nat.zero_le _, rfl, rfl, World.ownsRow_nil _ _ _ _, Below.refl _ _⟩
  case round =>
    obtain ⟨j, av, cap, hj, rfl, rfl, hown, hb⟩ := hrel
    by_cases hlt : j < n
    · have n1 : (j : Int) < (n : Int) := by omega
      obtain ⟨⟨x, xv⟩, hp⟩ : ∃ p, vsB[j]? = some p := ⟨vsB[j]'(by rw [HLn.out]; exact hlt), List.getElem?_eq_getElem _⟩
      obtain ⟨a2, q, c2, hpe⟩ := HSl.out _ (List.mem_of_getElem? hp)
      have hpe : xv = Value.slice a2 q c2 := hpe
      subst hpe
      obtain ⟨r1, r2⟩ := rowB_at vsB j _ hp
      obtain ⟨b2, o2, rfl, hc2⟩ := (HR1.out.under hb.out) _ _ r2
      have hc2' : wr.cell? ⟨b2, o2 + j * 2 + 1, none⟩ = some (.slice a2 q c2) := by rw [Nat.add_assoc]; exact hc2
      have Htk : Hid ((vsB.map (·.2)).take (j + 1) = (vsB.map (·.2)).take j ++ [.slice a2 q c2]) := take_snd hp
      have hs0 : w1.heap.size ≤ wr.heap.size := hb.out.size
      clear hp r1 r2 hc2
      go_wp2_with (at_builtin; refine wpList_append_more (w := wr.alloc (.cells #[.slice a2 q c2] 29)) rfl _ _ _ rfl w1.heap.size 29 i0 _ 1 24 Try.underlying57 hi0 hz0 hz1 hz3 rfl (by omega) _ j ((vsB.map (·.2)).take j) (by rfl) (by exact hown.out.alloc _) (some ⟨wr.heap.size, 0, none⟩) 1 1 [.slice a2 q c2] (by rfl) (by rfl) (by exact (row_new' wr [.slice a2 q c2] 29 _ rfl).news) (by simp [Value.oneCell']) (by unfold maxLen; omega) (by omega) (by simp; omega) ?_; intro a3 c3 w3 ho hb3; have HO3 : Hid (w3.ownsRow w1.heap.size 29 1 (.slice a3 (j + 1) c3) (j + 1) ((vsB.map (·.2)).take j ++ [.slice a2 q c2])) := ho; have HB3 : Hid (Below w1.heap.size w1 w3) := hb.out.trans (((Below.refl _ _).alloc hs0 _).trans hb3); clear ho hb3)
      go_wp2
      exact ⟨⟨j + 1, _, _, by omega, by go_num, rfl, by show World.ownsRow _ _ _ _ _ _ _; rw [Htk.out]; exact HO3.out, HB3.out⟩, by simp [intOf]; omega⟩
    · have n1 : ¬ (j : Int) < (n : Int) := by omega
      have hjn : n = j := by omega
      subst hjn
      have HOU : Hid (wr.ownsRow w1.heap.size 29 1 (.slice av n cap) n (vsB.map (·.2))) := by
        have := hown.out
        rw [List.take_of_length_le (by rw [List.length_map, HLn.out]; exact Nat.le_refl _)] at this
        exact this
      have BW : Hid (Below wA.heap.size wA wr) := HB1.out.trans (hb.out.mono HB1.out.size)
      have s01 : B0 < wA.heap.size := by rw [HSA.out]; omega
      have s11 : B0 + 1 < wA.heap.size := by rw [HSA.out]; omega
      have cel : Hid (∀ w', Below wA.heap.size wA w' → w'.cell? ⟨B0, 0, none⟩ = some (.slice a n c) ∧ w'.cell? ⟨B0 + 1, 1, none⟩ = some (.slice ae ne ce) ∧ w'.cell? ⟨B0 + 1, 2, none⟩ = some (.int .i64 V) ∧ w'.cell? ⟨B0 + 1, 3, none⟩ = some (.slice ax nx cx)) := fun w' hb' =>
        ⟨(hb'.cell (p := ⟨B0, 0, none⟩) s01).trans K0.out, (hb'.cell (p := ⟨B0 + 1, 1, none⟩) s11).trans E1.out, (hb'.cell (p := ⟨B0 + 1, 2, none⟩) s11).trans E2.out, (hb'.cell (p := ⟨B0 + 1, 3, none⟩) s11).trans E3.out⟩
      have S12 : Hid (w1.heap.size ≤ wr.heap.size) := hb.out.size
      have Z1 : Hid (wA.heap.size ≤ w1.heap.size) := HB1.out.size
      have AB2 : Hid (AllOwn w.heap.size wr (vsB.map (·.2))) := (HO1.out.1.own (by rw [HB0.out]; omega)).under hb.out
      have LB2 : Hid (∀ u ∈ vsB.map (·.2), ∀ g, u.ownBlock = some g → g < w1.heap.size) := fun u hu g e => (HO1.out.1.low u hu g e).2
      have MB2 : Hid (∀ u ∈ vsB.map (·.2), lenV u ≤ 1048576) := HO1.out.1.lens HBG.out
      have PB2 : Hid (Apart (vsB.map (·.2))) := HO1.out.2
      have NB2 : Hid ((vsB.map (·.2)).length = n) := by show _ = _; rw [List.length_map]; exact HLn.out
      clear hown hb HO1 HR1 HSl K0 E1 E2 E3 HB1
      generalize hvB : vsB.map (·.2) = vB at *
      clear hvB
      obtain ⟨q0, q1, q2, q3⟩ := cel.out _ BW.out
      go_wp2_with fail
      clear q0 q1 q2 q3
      have CALL : Hid _ := of_any wr a n c bl V (by omega) (fun p hp => Nat.le_trans (HBG.out p hp) (by omega)) (HBn.out.under BW.out)
      refine Calls.mono CALL.out ?_
      rintro e w3 ⟨hb3, v3, rfl, ho3⟩
      have BW3 : Hid (Below wA.heap.size wA w3) := BW.out.trans (hb3.mono BW.out.size)
      have L3 : Hid (((look bl V).getD []).length ≤ 1048576) := by
        show _ ≤ _
        cases hlk : look bl V with
        | none => simp
        | some l => exact HBG.out _ (look_mem_of hlk)
      obtain ⟨a3, c3, rfl, _⟩ := own_shape ho3
      have HO3 : Hid (w3.ownsRow wr.heap.size 3 1 (.slice a3 ((look bl V).getD []).length c3) ((look bl V).getD []).length (((look bl V).getD []).map intV)) := ho3
      obtain ⟨q3, hq3⟩ : ∃ q, ((look bl V).getD []).length = q := ⟨_, rfl⟩
      rw [hq3] at L3 HO3 ⊢
      clear hq3
      have Hb3 : Hid (Below wr.heap.size wr w3) := hb3
      clear CALL ho3 hb3
      obtain ⟨q0, q1, q2, q3⟩ := cel.out _ BW3.out
      go_wp2_with fail
      clear q0 q1 q2 q3
      have CALL : Hid _ := apply_any w3 a n c bl ae ne ce l (by omega) (HBn.out.under BW3.out) HL.out hce hne (HE.out.under BW3.out)
      refine Calls.mono CALL.out ?_
      intro e w4 h4
      obtain ⟨hb4, a4, c4, rfl, ho4⟩ := app_own h4
      have L4 := appF_len bl l
      have BW4 : Hid (Below wA.heap.size wA w4) := BW3.out.trans (hb4.mono BW3.out.size)
      have HO4 : Hid (w4.ownsRow w3.heap.size 3 1 (.slice a4 (appF bl l).length c4) (appF bl l).length ((appF bl l).map intV)) := ho4
      have Hb4 : Hid (Below w3.heap.size w3 w4) := hb4
      obtain ⟨q4, hq4⟩ : ∃ q, (appF bl l).length = q := ⟨_, rfl⟩
      rw [hq4] at L4 HO4 ⊢
      clear CALL ho4 hb4 h4 hq4
      obtain ⟨q0, q1, q2, q3⟩ := cel.out _ BW4.out
      go_wp2_with fail
      clear q0 q1 q2 q3
      have CALL : Hid _ := only_any w4 a n c bl ax nx cx xl (by omega) (fun p hp => Nat.le_trans (HBG.out p hp) (by omega)) (HBn.out.under BW4.out) HLx.out hnx (HX.out.under BW4.out)
      refine Calls.mono CALL.out ?_
      rintro e w5 ⟨hb5, a5, c5, vs5, rfl, ho5, hO5⟩
      have HBi5 : Hid (BindsAt w5 a5 (onlyOf bl xl).length (onlyOf bl xl)) := hO5.binds ho5 (onlyOf_rises HBn.out.rises xl) rfl
      have Hb5 : Hid (Below w4.heap.size w4 w5) := hb5
      have N5 : (onlyOf bl xl).length ≤ n := by have := onlyOf_len bl xl; rw [HBn.out.len] at this; exact this
      have G5 : Hid (∀ p ∈ onlyOf bl xl, p.2.length ≤ 1048576) := fun p hp => HBG.out p (List.mem_filter.1 hp).1
      generalize hol : onlyOf bl xl = ol at *
      obtain ⟨no, hno⟩ : ∃ q, ol.length = q := ⟨_, rfl⟩
      rw [hno] at HBi5 N5 ⊢
      have Hno : Hid (ol.length = no) := hno
      have Hol : Hid (onlyOf bl xl = ol) := hol
      clear CALL ho5 hb5 hO5 hno hol
      go_wp2_with fail
      have CALL : Hid _ := bindsA_any w5 a5 no c5 ol (by omega) (fun p hp => Nat.le_trans (G5.out p hp) (by omega)) HBi5.out
      refine Calls.mono CALL.out ?_
      rintro e w6 ⟨v6, rfl, vsO, ho6, hO6, hb6⟩
      obtain ⟨a6, c6, rfl, _, _, _⟩ := own_row ho6
      have z0 : w.heap.size ≤ wA.heap.size := by rw [HB0.out, HSA.out]; omega
      have z1 : wA.heap.size ≤ w1.heap.size := Z1.out
      have z2 : w1.heap.size ≤ wr.heap.size := S12.out
      have z3 : wr.heap.size ≤ w3.heap.size := Hb3.out.size
      have z4 : w3.heap.size ≤ w4.heap.size := Hb4.out.size
      have z5 : w4.heap.size ≤ w5.heap.size := Hb5.out.size
      have z6 : w5.heap.size ≤ w6.heap.size := hb6.size
      have b56 : Below w4.heap.size w4 w6 := Hb5.out.trans (hb6.mono z5)
      have b46 : Below w3.heap.size w3 w6 := Hb4.out.trans (b56.mono z4)
      have b36 : Below wr.heap.size wr w6 := Hb3.out.trans (b46.mono z3)
      have OUT6 : Hid (w6.ownsRow w.heap.size 29 1 (.slice av n cap) n vB) := owns_down (owns_under HOU.out b36) (by omega)
      have OROW : Hid (w6.ownsRow w.heap.size 31 2 (.slice a6 no c6) no (rowB vsO)) := owns_down ho6 (by omega)
      have o3 : w6.ownsRow wr.heap.size 3 1 (.slice a3 q3 c3) q3 _ := owns_under HO3.out b46
      have o4 : w6.ownsRow w3.heap.size 3 1 (.slice a4 q4 c4) q4 _ := owns_under HO4.out b56
      have lowO : ∀ u ∈ vsO.map (·.2), ∀ g, u.ownBlock = some g → w5.heap.size ≤ g := fun u hu g e => (hO6.1.low u hu g e).1
      have low3 : ∀ g, (Value.slice a3 q3 c3).ownBlock = some g → wr.heap.size ≤ g ∧ g < w3.heap.size := fun g e => ⟨own_ge HO3.out g e, own_low HO3.out g e⟩
      have low4 : ∀ g, (Value.slice a4 q4 c4).ownBlock = some g → w3.heap.size ≤ g ∧ g < w4.heap.size := fun g e => ⟨own_ge HO4.out g e, own_low HO4.out g e⟩
      have ALL6 : Hid (AllOwn w.heap.size w6 (vB ++ vsO.map (·.2) ++ [.slice a3 q3 c3, .slice a4 q4 c4])) := fun v hv => by
        rcases List.mem_append.1 hv with hv | hv
        · rcases List.mem_append.1 hv with hv | hv
          · exact (AB2.out v hv).under b36
          · exact hO6.1.own (by omega) v hv
        · rcases List.mem_cons.1 hv with rfl | hv
          · exact own_of o3 (by omega)
          · rw [List.mem_singleton.1 hv]
            exact own_of o4 (by omega)
      have AP6 : Hid (Apart (vB ++ vsO.map (·.2) ++ [.slice a3 q3 c3, .slice a4 q4 c4])) := by
        refine apart_two (apart_low (B := w1.heap.size) PB2.out hO6.2 LB2.out fun u hu g e => ?_) (apart_low (l := [_]) (m := [_]) (B := w3.heap.size) (apart_one _) (apart_one _) (fun u hu g e => ?_) fun u hu g e => ?_) fun u hu v hv g e e' => ?_
        · have := lowO u hu g e
          omega
        · rw [List.mem_singleton.1 hu] at e
          exact (low3 g e).2
        · rw [List.mem_singleton.1 hu] at e
          exact (low4 g e).1
        · have hv2 : wr.heap.size ≤ g ∧ g < w4.heap.size := by
            rcases List.mem_cons.1 hv with rfl | hv
            · have := low3 g e'; omega
            · rw [List.mem_singleton.1 hv] at e'
              have := low4 g e'; omega
          rcases List.mem_append.1 hu with hu | hu
          · have := LB2.out u hu g e
            omega
          · have := lowO u hu g e
            omega
      have LEN6 : Hid (∀ u ∈ vB ++ vsO.map (·.2) ++ [.slice a3 q3 c3, .slice a4 q4 c4], lenV u ≤ 17592186043900) := fun v hv => by
        rcases List.mem_append.1 hv with hv | hv
        · rcases List.mem_append.1 hv with hv | hv
          · exact Nat.le_trans (MB2.out v hv) (by omega)
          · exact Nat.le_trans (hO6.1.lens G5.out v hv) (by omega)
        · rcases List.mem_cons.1 hv with rfl | hv
          · have := L3.out; show q3 ≤ _; omega
          · rw [List.mem_singleton.1 hv]; show q4 ≤ _; omega
      have BEL6 : Hid (Below w.heap.size w w6) := by
        have h1 := HBA.out
        rw [← HB0.out] at h1
        exact h1.trans ((BW.out.trans (b36.mono BW.out.size)).mono z0)
      have HSO : Hid (∀ q ∈ vsO, ∃ a n c, q.2 = Value.slice a n c) := hO6.1.slices
      have NO6 : Hid (vsO.length = no) := hO6.1.1.trans Hno.out
      clear CALL ho6 hO6 hb6 b56 b46 b36 o3 o4 lowO low3 low4 z0 z1 z2 z3 z4 z5 z6 HO3 HO4 Hb3 Hb4 Hb5 HOU BW BW3 BW4 AB2 LB2 MB2 PB2 G5 HBi5
      go_wp2_with fail
      go_loopw [5, 13] (fun v i wx => ∃ (j : Nat) (av : Option Addr) (cap : Nat), j ≤ no ∧ i = .int .i64 j ∧ v = .slice av (n + j) cap ∧ Hid (wx.ownsRow w.heap.size 29 1 (.slice av (n + j) cap) (n + j) (vB ++ (vsO.map (·.2)).take j)) ∧ Hid (wx.ownsRow w.heap.size 31 2 (.slice a6 no c6) no (rowB vsO)) ∧ Hid (AllOwn w.heap.size wx (vB ++ vsO.map (·.2) ++ [.slice a3 q3 c3, .slice a4 q4 c4])) ∧ Hid (Below w.heap.size w wx)) (fun _ i _ => no - (intOf i).toNat)
      case atStart => exact ⟨0, av, cap, Nat.zero_le _, rfl, rfl, by show World.ownsRow _ _ _ _ _ _ _; rw [List.take_zero, List.append_nil]; exact OUT6.out, OROW.out, ALL6.out, BEL6.out⟩
      case round =>
        clear OUT6 OROW ALL6 BEL6
        obtain ⟨j, av, cap, hj, rfl, rfl, hown, horow, hall, hb⟩ := hrel
        have hs0 : w.heap.size ≤ wr.heap.size := hb.out.size
        by_cases hlt : j < no
        · have n1 : (j : Int) < (no : Int) := by omega
          obtain ⟨⟨x, xv⟩, hp⟩ : ∃ p, vsO[j]? = some p := ⟨vsO[j]'(by rw [NO6.out]; exact hlt), List.getElem?_eq_getElem _⟩
          obtain ⟨a2, q, c2, hpe⟩ := HSO.out _ (List.mem_of_getElem? hp)
          have hpe : xv = Value.slice a2 q c2 := hpe
          subst hpe
          obtain ⟨r1, r2⟩ := rowB_at vsO j _ hp
          obtain ⟨_, _, e7, _, hr7, _⟩ := own_row horow.out
          cases e7
          obtain ⟨b2, o2, rfl, hc2⟩ := hr7 _ _ r2
          have hc2' : wr.cell? ⟨b2, o2 + j * 2 + 1, none⟩ = some (.slice a2 q c2) := by rw [Nat.add_assoc]; exact hc2
          have Htk : Hid ((vsO.map (·.2)).take (j + 1) = (vsO.map (·.2)).take j ++ [.slice a2 q c2]) := take_snd hp
          clear hp r1 r2 hc2 hr7
          have hownB : Hid ((wr.alloc (.cells #[.slice a2 q c2] 29)).ownsRow w.heap.size 29 1 (.slice av (n + j) cap) (n + j) (vB ++ (vsO.map (·.2)).take j)) := hown.out.alloc _
          have horowB : Hid ((wr.alloc (.cells #[.slice a2 q c2] 29)).ownsRow w.heap.size 31 2 (.slice (some ⟨b2, o2, none⟩) no c6) no (rowB vsO)) := horow.out.alloc _
          have hallB : Hid (AllOwn w.heap.size (wr.alloc (.cells #[.slice a2 q c2] 29)) (vB ++ vsO.map (·.2) ++ [.slice a3 q3 c3, .slice a4 q4 c4])) := hall.out.under (below_alloc _ _)
          have hbB : Hid (Below w.heap.size w (wr.alloc (.cells #[.slice a2 q c2] 29))) := hb.out.alloc hs0 _
          have fin : Hid (∀ w8, (wr.alloc (.cells #[.slice a2 q c2] 29)).grownBy w8 (Value.slice av (n + j) cap).ownBlock → w8.ownsRow w.heap.size 31 2 (.slice (some ⟨b2, o2, none⟩) no c6) no (rowB vsO) ∧ AllOwn w.heap.size w8 (vB ++ vsO.map (·.2) ++ [.slice a3 q3 c3, .slice a4 q4 c4]) ∧ Below w.heap.size w w8) := fun w8 hg8 =>
            ⟨owns_same horowB.out fun g e => hg8.block g (own_low horowB.out g e) fun e' => kinds_apart hownB.out horowB.out (by decide) g e e'.symm, hallB.out.grown hownB.out (by decide) hg8, hbB.out.grown hg8 (by simp; omega) (own_ge hownB.out)⟩
          clear hown horow hall hb horowB hallB hbB
          go_wp2_with (at_builtin; refine wpList_append_lies (wr.alloc (.cells #[.slice a2 q c2] 29)) rfl _ _ _ rfl w.heap.size 29 i0 _ 1 24 Try.underlying57 hi0 hz0 hz1 hz3 rfl (by omega) _ (n + j) (vB ++ (vsO.map (·.2)).take j) (by rfl) (by exact hownB.out) ⟨wr.heap.size, 0, none⟩ 1 1 [.slice a2 q c2] (by rfl) (by rfl) (World.news_of_block (cs := #[.slice a2 q c2]) (t := 29) (fr := (0, 0)) (heap_alloc_new wr _)) (by simp [Value.oneCell']) (by omega) (by unfold maxLen; omega) (by omega) (by simp; omega) _ rfl ?_; intro g8 cap8 w8 hown8 hgrow8 hat8 hlt8; have HO8 : Hid (w8.ownsRow w.heap.size 29 1 (.slice (some ⟨g8, 0, none⟩) (n + j + 1) cap8) (n + j + 1) (vB ++ (vsO.map (·.2)).take j ++ [.slice a2 q c2])) := hown8; have FIN : Hid _ := fin.out w8 hgrow8; clear hown8 hgrow8 hat8 hlt8)
          go_wp2
          exact ⟨⟨j + 1, _, _, by omega, by go_num, rfl, by show World.ownsRow _ _ _ _ _ _ _; rw [Htk.out, ← List.append_assoc]; exact HO8.out, FIN.out.1, FIN.out.2.1, FIN.out.2.2⟩, by simp [intOf]; omega⟩
        · have n1 : ¬ (j : Int) < (no : Int) := by omega
          have hjn : no = j := by omega
          subst hjn
          have HOU : Hid (wr.ownsRow w.heap.size 29 1 (.slice av (n + no) cap) (n + no) (vB ++ vsO.map (·.2))) := by
            have := hown.out
            rw [List.take_of_length_le (l := vsO.map (·.2)) (by rw [List.length_map, NO6.out]; exact Nat.le_refl _)] at this
            exact this
          clear hown horow
          go_wp2_with (at_builtin; refine wpList_append_lies (wr.alloc (.cells #[.slice a3 q3 c3, .slice a4 q4 c4] 29)) rfl _ _ _ rfl w.heap.size 29 i0 _ 1 24 Try.underlying57 hi0 hz0 hz1 hz3 rfl (by omega) _ (n + no) (vB ++ vsO.map (·.2)) (by rfl) (by exact HOU.out.alloc _) ⟨wr.heap.size, 0, none⟩ 2 2 [.slice a3 q3 c3, .slice a4 q4 c4] (by rfl) (by rfl) (World.news_of_block (cs := #[.slice a3 q3 c3, .slice a4 q4 c4]) (t := 29) (fr := (0, 0)) (heap_alloc_new wr _)) (by simp [Value.oneCell']) (by omega) (by unfold maxLen; omega) (by omega) (by simp; omega) _ rfl ?_; intro g8 cap8 w8 hown8 hgrow8 hat8 hlt8; have HO8 : Hid (w8.ownsRow w.heap.size 29 1 (.slice (some ⟨g8, 0, none⟩) (n + no + 2) cap8) (n + no + 2) (vB ++ vsO.map (·.2) ++ [.slice a3 q3 c3, .slice a4 q4 c4])) := hown8; have HA8 : Hid (AllOwn w.heap.size w8 (vB ++ vsO.map (·.2) ++ [.slice a3 q3 c3, .slice a4 q4 c4])) := (hall.out.under (below_alloc _ _)).grown (HOU.out.alloc _) (by decide) hgrow8; have HB8 : Hid (Below w.heap.size w w8) := (hb.out.alloc hs0 _).grown hgrow8 (by simp; omega) (own_ge HOU.out); clear hown8 hgrow8 hat8 hlt8)
          go_wp2
          go_ret
          have hk : n + (onlyOf bl xl).length + 2 = n + no + 2 := by rw [Hol.out, Hno.out]
          unfold AnsIs
          rw [hk]
          exact ⟨HB8.out, _, _, _, rfl, by simp [NB2.out, NO6.out]; omega, HO8.out, HA8.out, AP6.out, LEN6.out⟩
end Go.Proofs.Yteiaobeklahifaa
