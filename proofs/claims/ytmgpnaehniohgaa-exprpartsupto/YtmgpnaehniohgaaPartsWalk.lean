/- The walk of ExprParts. -/
import Derived.Test.YtmgpnaehniohgaaJoin
import Derived.Test.YtmgpnaehniohgaaLists
namespace Go.Proofs.Ytmgpnaehniohgaa
open Go.RowKit Go.Deep

theorem below_drewN (w : World) (B n : Nat) : Below B w (w.drewN n) := ⟨rfl, rfl, rfl, Nat.le_refl _, fun _ _ => rfl⟩
theorem ints_cut {w : World} {a : Option Addr} {l : List Int} {n c i p : Nat} (h : IntsAt w a l) (hl : l.length = n) (hr : n ≤ c) : IntsAt w (if c = i then a else Option.map (fun x => x.add i) a) ((l.drop i).take p) := ints_take (ints_rest h hl hr)
theorem take_flat {ls : List (List Int)} {j : Nat} {p : List Int} (h : ls[j]? = some p) : ls.flatten = (ls.take j).flatten ++ (p ++ (ls.drop (j + 1)).flatten) := by
  have e : ls = ls.take j ++ (p :: ls.drop (j + 1)) := by
    obtain ⟨hlt, he⟩ := List.getElem?_eq_some_iff.1 h
    rw [← he, ← List.drop_eq_getElem_cons, List.take_append_drop]
  have := congrArg List.flatten e
  rw [List.flatten_append, List.flatten_cons] at this
  exact this

set_option maxRecDepth 100000 in
set_option maxHeartbeats 16000000 in
theorem parts_walk (w : World) (a b : Option Addr) (ca cb : Nat) (l cs : List Int) (n m : Nat) (hl : l.length = n) (hp : cs.length = m) (hca : n ≤ ca) (hn : n ≤ 1048576) (hm : m ≤ 1048576) (hA : IntsAt w a l) (hB : IntsAt w b cs) :
    Calls Try.prog 4 #[.slice a n ca, .slice b m cb] w fun e w' => e = .returned (.bool true) ∧ Below w.heap.size w w' := by
  have CU : Hid _ := cutUp_any w a b ca cb l cs n m hl hp hca hn hm hA hB
  have HA : Hid (IntsAt w a l) := hA
  have HL : Hid (l.length = n) := hl
  clear hA hB hl hp
  go_enter Try.func4, Try.ntmps4
  go_wp2_with fail
  refine Calls.mono CU.out ?_
  rintro e w1 ⟨v, rfl, vs, ls, ho, hP, hflat, hlen, hb1⟩
  obtain ⟨av, cv, rfl, hrow⟩ := own_row ho
  have hvk : vs.length ≤ 1048577 := by rw [hP.1]; omega
  have hbig : ∀ p ∈ ls, p.length ≤ 1048576 := fun p hp => by
    have h1 : p.length ≤ ls.flatten.length := by
      obtain ⟨j, hj⟩ := List.getElem?_of_mem hp
      rw [take_flat hj, List.length_append, List.length_append]
      omega
    rw [hflat, HL.out] at h1
    omega
  have LA : Hid _ := laid_any w1 av cv vs ls vs.length rfl (by omega) hrow (hP.under hb1) hbig
  generalize hk : vs.length = k at *
  have HK : Hid (vs.length = k) := hk
  have Hb1 : Hid (Below w.heap.size w w1) := hb1
  have HP : Hid (PartsAt w1 vs ls) := hP.under hb1
  have HF : Hid (ls.flatten = l) := hflat
  have HR : Hid (RowAt w1 av vs) := hrow
  have HBg : Hid (∀ p ∈ ls, p.length ≤ 1048576) := hbig
  have HA1 : Hid (IntsAt w1 a l) := HA.out.under hb1
  clear hk hb1 hP hflat hlen hrow hbig ho CU HA
  go_wp2_with fail
  refine Calls.mono LA.out ?_
  rintro e w2 ⟨hb2, ⟨hle, v2, rfl, ho2⟩ | ⟨hle, rfl⟩⟩
  case inr =>
    rw [HF.out, HL.out] at hle
    have n1 : (200 : Int) < (n : Int) := by omega
    have Hb2 : Hid (Below w1.heap.size w1 w2) := hb2
    clear hb2 LA
    go_wp2
    go_ret
    exact ⟨rfl, Hb1.out.trans (Hb2.out.mono Hb1.out.size)⟩
  case inl =>
    rw [HF.out, HL.out] at hle ho2
    have n1 : ¬ (200 : Int) < (n : Int) := by omega
    obtain ⟨aj, cj, rfl, hj⟩ := own_row ho2
    have SA : Hid _ := same_eq w2 aj a cj ca l n HL.out (by omega) hj.ints (HA1.out.under hb2)
    have Hb2 : Hid (Below w1.heap.size w1 w2) := hb2
    clear hb2 LA ho2 hj
    go_wp2_with fail
    refine Calls.mono SA.out ?_
    rintro e wz ⟨rfl, d, hwz⟩
    subst wz
    have Hb3 : Hid (Below w1.heap.size w1 (w2.drewN d)) := Hb2.out.trans (below_drewN _ _ _)
    generalize w2.drewN d = w3 at *
    clear SA Hb2
    go_wp2_with fail
    go_loopw [8, 9, 10, 11] (fun at_ i _ _ wx => ∃ (j t : Nat), j ≤ k ∧ i = .int .i64 j ∧ at_ = .int .i64 t ∧ Hid ((ls.take j).flatten.length = t) ∧ Hid (Below w1.heap.size w1 wx)) (fun _ i _ _ _ => k - (intOf i).toNat)
    case atStart => exact ⟨0, 0, Nat.zero_le _, rfl, rfl, rfl, Hb3.out⟩
    case round =>
      clear Hb3
      obtain ⟨j, t, hj, rfl, rfl, hat, hb⟩ := hrel
      by_cases hlt : j < k
      · have k1 : (j : Int) < (k : Int) := by omega
        obtain ⟨p, hp⟩ : ∃ p, ls[j]? = some p := ⟨ls[j]'(by rw [← HP.out.1, HK.out]; exact hlt), List.getElem?_eq_getElem _⟩
        obtain ⟨a1, c1, hv, hi1⟩ := HP.out.2 j p hp
        obtain ⟨b2, o2, rfl, hc2⟩ := (HR.out.under hb.out (Nat.le_refl _)) j _ hv
        have hsz := HBg.out p (List.mem_of_getElem? hp)
        have hfl := take_flat hp
        rw [HF.out] at hfl
        have hin : Hid ((t : Int) ∈ plc l p) := by
          have := plc_has hfl
          rw [hat.out] at this
          exact this
        have hnext : Hid ((ls.take (j + 1)).flatten.length = t + p.length) := by
          show _ = _
          rw [List.take_add_one, hp, List.flatten_append, List.length_append, hat.out]; simp
        have htn : t + p.length ≤ n := by
          have := congrArg List.length hfl
          rw [HL.out, List.length_append, hat.out, List.length_append] at this
          omega
        have PL : Hid _ := places_any wr a (a1) ca c1 l p n p.length HL.out rfl (by omega) (HA1.out.under hb.out) (hi1.under hb.out)
        have HI1 : Hid (IntsAt w1 a1 p) := hi1
        generalize hpl : p.length = q at *
        have Hpl : Hid (p.length = q) := hpl
        have HV : Hid (vs[j]? = some (.slice a1 q c1)) := hv
        clear hpl hv hi1 hp hfl
        go_wp2_with fail
        refine Calls.mono PL.out ?_
        rintro e w4 ⟨v4, rfl, ho4, hb4⟩
        obtain ⟨a4, c4, rfl, hr4⟩ := own_row ho4
        have hnp : (plc l p).length ≤ 1048577 := by
          have := own_shape ho4
          unfold plc
          split
          · simp [HL.out]; omega
          · split
            · simp
            · have := occ_len p l l.length
              rw [HL.out] at this ⊢
              omega
        have Hb4 : Hid (Below w1.heap.size w1 w4) := hb.out.trans (hb4.mono hb.out.size)
        have HI4 : Hid (IntsAt w4 a4 (plc l p)) := hr4.ints
        have IN : Hid _ := in_any w4 a4 c4 (plc l p) (plc l p).length t rfl (by omega) hr4.ints
        rw [decide_eq_true hin.out] at IN
        generalize hnl : (plc l p).length = np at *
        have HNL : Hid ((plc l p).length = np) := hnl
        clear hnl ho4 hb4 hr4 PL hin
        go_wp2_with fail
        refine Calls.mono IN.out ?_
        rintro e wz ⟨rfl, hwz⟩
        subst wz
        clear IN hc2
        go_wp2_with fail
        go_loopw [11] (fun i wx => ∃ (u : Nat), u ≤ np ∧ i = .int .i64 u ∧ Hid (Below w1.heap.size w1 wx) ∧ Hid (IntsAt wx a4 (plc l p))) (fun i _ => np - (intOf i).toNat)
        case atStart => exact ⟨0, Nat.zero_le _, rfl, Hb4.out, HI4.out⟩
        case round =>
          clear Hb4 HI4
          obtain ⟨u, hu, rfl, Hb4, HI4⟩ := hrel
          by_cases hlu : u < np
          · have u1 : (u : Int) < (np : Int) := by omega
            obtain ⟨x, hx⟩ : ∃ x, (plc l p)[u]? = some x := ⟨(plc l p)[u]'(by rw [HNL.out]; exact hlu), List.getElem?_eq_getElem _⟩
            obtain ⟨_, _, e2, hc4⟩ := (HR.out.under Hb4.out (Nat.le_refl _)) j _ HV.out
            cases e2
            have HA4 : Hid (IntsAt wr a l) := HA1.out.under Hb4.out
            have HI14 : Hid (IntsAt wr a1 p) := HI1.out.under Hb4.out
            obtain ⟨b5, o5, rfl, hc5⟩ := HI4.out u x hx
            obtain ⟨y, rfl, hyn, hyp⟩ := plc_at (List.mem_of_getElem? hx)
            rw [Hpl.out, HL.out] at hyn
            rw [Hpl.out] at hyp
            have EQ : Hid (∀ d', Calls Try.prog 7 #[.slice (if ca = y then a else Option.map (fun x => x.add y) a) q (ca - y), .slice a1 q c1] (wr.drewN d') fun e w' => e = .returned (.bool true) ∧ ∃ k, w' = (wr.drewN d').drewN k) := fun d' => by
              have := equal_any (wr.drewN d') (if ca = y then a else Option.map (fun x => x.add y) a) a1 (ca - y) c1 ((l.drop y).take q) p q q (by rw [hyp, Hpl.out]) Hpl.out (by omega) (by omega) (ints_cut HA4.out HL.out hca) HI14.out
              rw [decide_eq_true hyp] at this
              exact this
            have y1 : decide ((y : Int) < 0) = false := decide_eq_false (by omega)
            have y2 : decide ((n : Int) < (y : Int) + (q : Int)) = false := decide_eq_false (by omega)
            have y4 : IntKind.i64.wrap ((y : Int) + (q : Int)) = (y : Int) + (q : Int) := by rw [IntWalk.i64_in _ (by omega)]
            have y5 : (0 : Int) ≤ (y : Int) + (q : Int) := by omega
            have y6 : ((y : Int) + (q : Int)).toNat = y + q := by omega
            have y3 : (y : Int) + (q : Int) ≤ (ca : Int) := by omega
            have FU : (decide ((0 : Int) < (u : Int)) = false ∧ (0 < u) = False) ∨ ∃ z : Nat, 0 < u ∧ IntKind.i64.wrap ((u : Int) - 1) = ((u - 1 : Nat) : Int) ∧ ((u - 1 : Nat) : Int) < (np : Int) ∧ wr.cell? ⟨b5, o5 + (u - 1), none⟩ = some (.int .i64 (z : Int)) ∧ decide ((y : Int) ≤ (z : Int)) = false ∧ (y ≤ z) = False := by
              by_cases hu0 : 0 < u
              · obtain ⟨z, hz⟩ : ∃ z, (plc l p)[u - 1]? = some z := ⟨(plc l p)[u - 1]'(by rw [HNL.out]; omega), List.getElem?_eq_getElem _⟩
                obtain ⟨_, _, e6, hc6⟩ := HI4.out (u - 1) z hz
                cases e6
                obtain ⟨z', rfl, _, _⟩ := plc_at (List.mem_of_getElem? hz)
                have := plc_next hz (by rw [show u - 1 + 1 = u by omega]; exact hx)
                exact .inr ⟨z', hu0, by rw [IntWalk.i64_in _ (by omega)]; omega, by omega, hc6, decide_eq_false (by omega), eq_false (by omega)⟩
              · exact .inl ⟨decide_eq_false (by omega), eq_false hu0⟩
            clear hx hyp
            rcases FU with ⟨f1, f2⟩ | ⟨z, f1, f2, f3, f4, f5, f6⟩
            all_goals
              go_wp2_with fail
              go_quiet (first | exact Calls.quiet_of (EQ.out _))
              clear EQ
              go_wp2
              exact ⟨⟨u + 1, by omega, by go_num, Hb4.out.trans (below_drewN _ _ _), HI4.out⟩, by simp [intOf]; omega⟩
          · have u1 : ¬ (u : Int) < (np : Int) := by omega
            obtain ⟨_, _, e2, hc4⟩ := (HR.out.under Hb4.out (Nat.le_refl _)) j _ HV.out
            cases e2
            go_wp2
            go_roundw
            case rel => exact ⟨j + 1, t + q, by omega, by go_num, by go_num, hnext.out, Hb4.out⟩
            case measure => simp [intOf]; omega
      · have k1 : ¬ (j : Int) < (k : Int) := by omega
        go_wp2
        go_ret
        exact ⟨rfl, Hb1.out.trans (hb.out.mono Hb1.out.size)⟩
end Go.Proofs.Ytmgpnaehniohgaa
