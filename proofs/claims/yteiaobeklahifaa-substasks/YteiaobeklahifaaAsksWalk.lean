/- The walk of SubstAsks. -/
import Derived.Test.YteiaobeklahifaaThensWalk
import Derived.Test.YteiaobeklahifaaRefOnly
import Derived.Test.YteiaobeklahifaaKept
namespace Go.Proofs.Yteiaobeklahifaa
open Go.RowKit

theorem infoE : (Try.prog.info? 29).map (fun i => (i.zero, i.size, i.bytes)) = some (some (.slice none 0 0), 1, 24) := by kernel_rfl
/-- What Of and Apply answer, in one word each. -/
def ofl (bl : List (Int × List Int)) (y : Int) : List Int := (look bl y).getD []
def appl (bl : List (Int × List Int)) (l : List Int) : List Int := if (subs bl l).length ≤ 200 then subs bl l else []
def appe (bl : List (Int × List Int)) (l : List Int) : Int := if (subs bl l).length ≤ 200 then 0 else 31
theorem of_uni (w : World) (a : Option Addr) (n c : Nat) (bl : List (Int × List Int)) (y : Int) (hn : n ≤ 4398046511000) (hbig : ∀ p ∈ bl, p.2.length ≤ 17592186043904) (h : BindsAt w a n bl) :
    Calls Try.prog 31 #[.agg #[.slice a n c], .int .i64 y] w fun e w' => Below w.heap.size w w' ∧ ∃ a1 c1, e = .returned (.tuple #[.slice a1 (ofl bl y).length c1, .bool (look bl y).isSome]) ∧ IntsAt w' a1 (ofl bl y) := by
  refine (of_any w a n c bl y hn hbig h).mono fun e w' ⟨hb, v, he, ho⟩ => ⟨hb, ?_⟩
  obtain ⟨a1, c1, rfl, _, hr, _⟩ := own_row ho
  exact ⟨a1, c1, he, hr.ints⟩
theorem rof_uni (w : World) (a : Option Addr) (n c : Nat) (rl : List (Int × List Int)) (y : Int) (hn : n ≤ 4398046511000) (hbig : ∀ p ∈ rl, p.2.length ≤ 17592186043904) (h : RefAt w a n rl) :
    Calls Try.prog 32 #[.agg #[.slice a n c], .int .i64 y] w fun e w' => Below w.heap.size w w' ∧ ∃ a1 c1, e = .returned (.tuple #[.slice a1 (ofl rl y).length c1, .bool (look rl y).isSome]) ∧ IntsAt w' a1 (ofl rl y) := by
  refine (rof_any w a n c rl y hn hbig h).mono fun e w' ⟨hb, hx⟩ => ⟨hb, ?_⟩
  rcases hx with ⟨l, v, hl, rfl, ho⟩ | ⟨hl, rfl⟩
  · obtain ⟨a1, c1, rfl, _, hr, _⟩ := own_row ho
    unfold ofl
    rw [hl]
    exact ⟨a1, c1, rfl, hr.ints⟩
  · unfold ofl
    rw [hl]
    exact ⟨none, 0, rfl, ints_nil _ _⟩
theorem app_uni {w w' : World} {e : Ending} {bl : List (Int × List Int)} {l : List Int} (h : AppIs w w' e bl l) : Below w.heap.size w w' ∧ ∃ a1 c1, e = .returned (.tuple #[.slice a1 (appl bl l).length c1, .int .i64 (appe bl l)]) ∧ IntsAt w' a1 (appl bl l) := by
  refine ⟨h.1, ?_⟩
  unfold appl appe
  rcases h.2 with ⟨hf, v, rfl, ho⟩ | ⟨hf, rfl⟩
  · obtain ⟨a1, c1, rfl, _, hr, _⟩ := own_row ho
    rw [if_pos hf, if_pos hf]
    exact ⟨a1, c1, rfl, hr.ints⟩
  · rw [if_neg (by omega), if_neg (by omega)]
    exact ⟨none, 0, rfl, ints_nil _ _⟩
theorem OwnsL.lent {base : Nat} {w : World} {vs : List (Int × Value)} {bl : List (Int × List Int)} (h : OwnsL base w vs bl) {i : Nat} {p : Int × List Int} (hi : bl[i]? = some p) : ∃ a c, vs[i]? = some (p.1, .slice a p.2.length c) ∧ p.2.length + 2 ≤ c ∧ IntsAt w a (marked p.2) := by
  obtain ⟨a, c, h1, h2⟩ := h.2 i p hi
  obtain ⟨a', c', e, hc, hr, _⟩ := own_row h2
  cases e
  exact ⟨a, c, h1, hc, hr.ints⟩

set_option maxRecDepth 100000 in
set_option maxHeartbeats 32000000 in
theorem asks_walk (w : World) (a : Option Addr) (n c : Nat) (vs0 : List (Int × Value)) (bl : List (Int × List Int)) (ae : Option Addr) (ne ce : Nat) (l : List Int) (V : Int) (ax : Option Addr) (nx cx : Nat) (xl : List Int)
    (hl : bl.length = n) (hn : n ≤ 4398046511000) (hbig : ∀ p ∈ bl, p.2.length ≤ 17592186043904) (hR : RowAt w a (rowB vs0)) (hM : Matches w vs0 bl) (hle : l.length = ne) (hne : ne ≤ 17592186043904) (hE : IntsAt w ae l) (hlx : xl.length = nx) (hnx : nx ≤ 17592186043904) (hX : IntsAt w ax xl) :
    Calls Try.prog 8 #[.agg #[.slice a n c, .slice ae ne ce, .int .i64 V, .slice ax nx cx]] w fun e w' => e = .returned (.bool true) ∧ Below w.heap.size w w' := by
  obtain ⟨i0, hi0, hz0, hz1, hz3⟩ := info_parts infoE
  have hb0 : Below w.heap.size w (w.alloc (.cells #[.slice a n c, .slice ae ne ce, .int .i64 V, .slice ax nx cx] 55)) := below_alloc _ _
  have q0 : (w.alloc (.cells #[.slice a n c, .slice ae ne ce, .int .i64 V, .slice ax nx cx] 55)).cell? ⟨w.heap.size, 0, none⟩ = some (.slice a n c) := World.cell?_alloc_new w _ _ 0
  have q1 : (w.alloc (.cells #[.slice a n c, .slice ae ne ce, .int .i64 V, .slice ax nx cx] 55)).cell? ⟨w.heap.size, 1, none⟩ = some (.slice ae ne ce) := World.cell?_alloc_new w _ _ 1
  have q2 : (w.alloc (.cells #[.slice a n c, .slice ae ne ce, .int .i64 V, .slice ax nx cx] 55)).cell? ⟨w.heap.size, 2, none⟩ = some (.int .i64 V) := World.cell?_alloc_new w _ _ 2
  have q3 : (w.alloc (.cells #[.slice a n c, .slice ae ne ce, .int .i64 V, .slice ax nx cx] 55)).cell? ⟨w.heap.size, 3, none⟩ = some (.slice ax nx cx) := World.cell?_alloc_new w _ _ 3
  have C1 : Hid _ := rnew_uni (w.alloc (.cells #[.slice a n c, .slice ae ne ce, .int .i64 V, .slice ax nx cx] 55)) a n c vs0 bl hl hn hbig (hR.under hb0) (hM.under hb0)
  have HL : Hid (bl.length = n) := hl
  have HLE : Hid (l.length = ne) := hle
  have HLX : Hid (xl.length = nx) := hlx
  have HBG : Hid (∀ p ∈ bl, p.2.length ≤ 17592186043904) := hbig
  have HR : Hid (RowAt w a (rowB vs0)) := hR
  have HM : Hid (Matches w vs0 bl) := hM
  have HE : Hid (IntsAt w ae l) := hE
  have HXl : Hid (IntsAt w ax xl) := hX
  have HB0 : Hid (Below w.heap.size w (w.alloc (.cells #[.slice a n c, .slice ae ne ce, .int .i64 V, .slice ax nx cx] 55))) := hb0
  obtain ⟨ea, hea⟩ : ∃ ea, ea = errOf bl := ⟨_, rfl⟩
  obtain ⟨kr, hkr⟩ : ∃ kr, kr = (res bl).length := ⟨_, rfl⟩
  rw [← hea, ← hkr] at C1
  have HEa : Hid (ea = errOf bl) := hea
  have Hkr : Hid (kr = (res bl).length) := hkr
  have hkrn : kr ≤ n := by rw [hkr]; have := res_len bl; omega
  clear hl hle hlx hbig hR hM hE hX hb0 hea hkr
  go_enter Try.func8, Try.ntmps8
  go_wp2_with fail
  generalize w.alloc (.cells #[.slice a n c, .slice ae ne ce, .int .i64 V, .slice ax nx cx] 55) = wA at *
  obtain ⟨B, hB⟩ : ∃ B, B = w.heap.size := ⟨_, rfl⟩
  rw [← hB] at q0 q1 q2 q3
  rw [← hB]
  clear hB
  refine Calls.mono C1.out ?_
  clear C1
  rintro e w1 ⟨hb1, a3, c3, rfl, hr3⟩
  have hbB : Below wA.heap.size wA (w1.alloc (.cells #[.slice a3 kr c3] 50)) := hb1.trans ((below_alloc _ _).mono hb1.size)
  have hbwB : Below w.heap.size w (w1.alloc (.cells #[.slice a3 kr c3] 50)) := HB0.out.trans (hbB.mono HB0.out.size)
  have u0 : (w1.alloc (.cells #[.slice a3 kr c3] 50)).cell? ⟨B, 0, none⟩ = some (.slice a n c) := (hbB.cell (p := ⟨B, 0, none⟩) (World.block_lt_of_cell? _ _ q0)).trans q0
  have u1 : (w1.alloc (.cells #[.slice a3 kr c3] 50)).cell? ⟨B, 1, none⟩ = some (.slice ae ne ce) := (hbB.cell (p := ⟨B, 1, none⟩) (World.block_lt_of_cell? _ _ q1)).trans q1
  have u2 : (w1.alloc (.cells #[.slice a3 kr c3] 50)).cell? ⟨B, 2, none⟩ = some (.int .i64 V) := (hbB.cell (p := ⟨B, 2, none⟩) (World.block_lt_of_cell? _ _ q2)).trans q2
  have u3 : (w1.alloc (.cells #[.slice a3 kr c3] 50)).cell? ⟨B, 3, none⟩ = some (.slice ax nx cx) := (hbB.cell (p := ⟨B, 3, none⟩) (World.block_lt_of_cell? _ _ q3)).trans q3
  have u9 : (w1.alloc (.cells #[.slice a3 kr c3] 50)).cell? ⟨w1.heap.size, 0, none⟩ = some (.slice a3 kr c3) := World.cell?_alloc_new w1 _ _ 0
  have HU1 : Hid (RefAt (w1.alloc (.cells #[.slice a3 kr c3] 50)) a3 kr (res bl)) := hr3.under (below_alloc _ _)
  have C2 : Hid _ := lentBinds_any (w1.alloc (.cells #[.slice a3 kr c3] 50)) a n c vs0 bl HL.out hn HBG.out (HR.out.under hbwB) (HM.out.under hbwB)
  have HBB : Hid (Below w.heap.size w (w1.alloc (.cells #[.slice a3 kr c3] 50))) := hbwB
  clear hb1 hr3 hbB hbwB q0 q1 q2 q3 HB0
  go_wp2_with fail
  generalize w1.alloc (.cells #[.slice a3 kr c3] 50) = wB at *
  generalize w1.heap.size = B3 at *
  refine Calls.mono C2.out ?_
  clear C2
  rintro e w2 ⟨hb2, am, cm, vsm, rfl, hom, hOL⟩
  have HB2 : Hid (Below wB.heap.size wB w2) := hb2
  have HOL : Hid (OwnsL wB.heap.size w2 vsm bl) := hOL
  obtain ⟨am', cm', em, _, hrm, _⟩ := own_row hom
  cases em
  have HRM : Hid (RowAt w2 am (rowB vsm)) := hrm
  clear hb2 hOL hom hrm
  go_wp2_with fail
  go_loopw [6, 7] (fun v i wx => ∃ (j : Nat) (ay : Option Addr) (cy : Nat), j ≤ n ∧ i = .int .i64 j ∧ v = .slice ay j cy ∧ Hid (wx.ownsRow w2.heap.size 29 1 (.slice ay j cy) j ((vsm.take j).map (·.2))) ∧ Hid (Below w2.heap.size w2 wx)) (fun _ i _ => n - (intOf i).toNat)
  case atStart => exact ⟨0, none, 0, Nat.zero_le _, rfl, rfl, World.ownsRow_nil _ _ _ _, Below.refl _ _⟩
  case round =>
    obtain ⟨j, ay, cy, hj, rfl, rfl, hown, hb⟩ := hrel
    by_cases hlt : j < n
    · have n1 : (j : Int) < (n : Int) := by omega
      obtain ⟨p, hp⟩ : ∃ p, bl[j]? = some p := ⟨bl[j]'(by rw [HL.out]; exact hlt), List.getElem?_eq_getElem _⟩
      obtain ⟨al, cl, hv, _, _⟩ := HOL.out.lent hp
      obtain ⟨_, r2⟩ := rowB_at vsm j _ hv
      obtain ⟨b1, o1, rfl, k1⟩ := (HRM.out.under hb.out) _ _ r2
      have k1' : wr.cell? ⟨b1, o1 + j * 2 + 1, none⟩ = some (.slice al p.2.length cl) := by rw [Nat.add_assoc]; exact k1
      have Htk : Hid ((vsm.take (j + 1)).map (·.2) = (vsm.take j).map (·.2) ++ [.slice al p.2.length cl]) := by show _ = _; rw [List.take_add_one, hv, Option.toList_some, List.map_append]; rfl
      generalize p.2.length = pq at *
      clear k1 r2 hv hp
      go_wp2_with (at_builtin; refine wpList_append_more (w := wr.alloc (.cells #[.slice al pq cl] 29)) rfl _ _ _ rfl w2.heap.size 29 i0 _ 1 24 Try.underlying57 hi0 hz0 hz1 hz3 rfl (by omega) _ j ((vsm.take j).map (·.2)) (by rfl) (by exact hown.out.alloc _) (some ⟨wr.heap.size, 0, none⟩) 1 1 [.slice al pq cl] (by rfl) (by rfl) (fun j' u hu => ⟨_, rfl, World.news_of_block (cs := #[.slice al pq cl]) (t := 29) (fr := (0, 0)) (heap_alloc_new wr _) j' u hu⟩) (by simp [Value.oneCell']) (by unfold maxLen; omega) (by omega) (by exact Nat.le_trans hb.out.size (below_alloc _ _).size) ?_; intro a4 c4 w4 ho4 hb4; have HO4 : Hid (w4.ownsRow w2.heap.size 29 1 (.slice a4 (j + 1) c4) (j + 1) ((vsm.take j).map (·.2) ++ [.slice al pq cl])) := ho4; have HB4 : Hid (Below w2.heap.size w2 w4) := (hb.out.alloc hb.out.size _).trans hb4; clear ho4 hb4)
      go_wp2
      exact ⟨⟨j + 1, _, _, by omega, by go_num, rfl, by show World.ownsRow _ _ _ _ _ _ _; rw [Htk.out]; exact HO4.out, HB4.out⟩, by simp [intOf]; omega⟩
    · have n1 : ¬ (j : Int) < (n : Int) := by omega
      have hjn : j = n := by omega
      subst hjn
      have hvl : vsm.take j = vsm := List.take_of_length_le (by rw [HOL.out.1, HL.out]; exact Nat.le_refl _)
      rw [hvl] at hown
      obtain ⟨ay', cy', ey, _, hry, _⟩ := own_row hown.out
      cases ey
      have HRy : Hid (RowAt wr ay (vsm.map (·.2))) := hry
      have HbB : Hid (Below wB.heap.size wB wr) := HB2.out.trans (hb.out.mono HB2.out.size)
      have C3 : Hid _ := new_uni wr am j cm vsm bl HL.out hn HBG.out (HRM.out.under hb.out) (HOL.out.under hb.out).matches
      rw [← HEa.out] at C3
      have HOLr : Hid (OwnsL wB.heap.size wr vsm bl) := HOL.out.under hb.out
      have HRMr : Hid (RowAt wr am (rowB vsm)) := HRM.out.under hb.out
      clear hvl hry hown hb
      go_wp2_with fail
      refine Calls.mono C3.out ?_
      clear C3
      rintro e w3 ⟨hb3, sl, a8, c8, hps, rfl, hbs⟩
      have HPs : Hid (sl.Perm (res bl)) := hps
      have hks : sl.length = kr := by rw [hps.length_eq]; exact Hkr.out.symm
      rw [hks] at hbs
      rw [hks]
      have hbF : Below wr.heap.size wr (w3.alloc (.cells #[.slice a8 kr c8] 25)) := hb3.trans ((below_alloc _ _).mono hb3.size)
      have hbBF : Below wB.heap.size wB (w3.alloc (.cells #[.slice a8 kr c8] 25)) := HbB.out.trans (hbF.mono HbB.out.size)
      have HBF : Hid (Below w.heap.size w (w3.alloc (.cells #[.slice a8 kr c8] 25))) := HBB.out.trans (hbBF.mono HBB.out.size)
      have HS : Hid (BindsC (w3.alloc (.cells #[.slice a8 kr c8] 25)) a8 kr sl) := hbs.under (below_alloc _ _)
      have HU : Hid (RefAt (w3.alloc (.cells #[.slice a8 kr c8] 25)) a3 kr (res bl)) := HU1.out.under hbBF
      have HOLf : Hid (OwnsL wB.heap.size (w3.alloc (.cells #[.slice a8 kr c8] 25)) vsm bl) := HOLr.out.under hbF
      have HRMf : Hid (RowAt (w3.alloc (.cells #[.slice a8 kr c8] 25)) am (rowB vsm)) := HRMr.out.under hbF
      have HRyf : Hid (RowAt (w3.alloc (.cells #[.slice a8 kr c8] 25)) ay (vsm.map (·.2))) := HRy.out.under hbF
      have z0 : (w3.alloc (.cells #[.slice a8 kr c8] 25)).cell? ⟨B, 0, none⟩ = some (.slice a j c) := (hbBF.cell (p := ⟨B, 0, none⟩) (World.block_lt_of_cell? _ _ u0)).trans u0
      have Z0 : Hid ((w3.alloc (.cells #[.slice a8 kr c8] 25)).cell? ⟨B, 0, none⟩ = some (.slice a j c)) := z0
      have Z1 : Hid ((w3.alloc (.cells #[.slice a8 kr c8] 25)).cell? ⟨B, 1, none⟩ = some (.slice ae ne ce)) := (hbBF.cell (p := ⟨B, 1, none⟩) (World.block_lt_of_cell? _ _ u1)).trans u1
      have Z2 : Hid ((w3.alloc (.cells #[.slice a8 kr c8] 25)).cell? ⟨B, 2, none⟩ = some (.int .i64 V)) := (hbBF.cell (p := ⟨B, 2, none⟩) (World.block_lt_of_cell? _ _ u2)).trans u2
      have Z3 : Hid ((w3.alloc (.cells #[.slice a8 kr c8] 25)).cell? ⟨B, 3, none⟩ = some (.slice ax nx cx)) := (hbBF.cell (p := ⟨B, 3, none⟩) (World.block_lt_of_cell? _ _ u3)).trans u3
      have Z9 : Hid ((w3.alloc (.cells #[.slice a8 kr c8] 25)).cell? ⟨B3, 0, none⟩ = some (.slice a3 kr c3)) := (hbBF.cell (p := ⟨B3, 0, none⟩) (World.block_lt_of_cell? _ _ u9)).trans u9
      have Z8 : Hid ((w3.alloc (.cells #[.slice a8 kr c8] 25)).cell? ⟨w3.heap.size, 0, none⟩ = some (.slice a8 kr c8)) := World.cell?_alloc_new w3 _ _ 0
      have SB : Hid _ := sameb_eq (w3.alloc (.cells #[.slice a8 kr c8] 25)) am a cm c j bl vsm vs0 HL.out (by omega) (fun p hp => by have := HBG.out p hp; omega) HRMf.out HOLf.out.matches (HR.out.under HBF.out) (HM.out.under HBF.out)
      clear hb3 hps hbs hks hbF hbBF u0 u1 u2 u3 u9 HOLr HRMr HRy HOL HRM HU1 HBB HB2 HbB
      go_wp2_with (go_at_call 11; refine (num_any _ _).mono ?_; rintro e wz ⟨rfl, hwz⟩; subst wz)
      generalize w3.alloc (.cells #[.slice a8 kr c8] 25) = wF at *
      generalize w3.heap.size = B8 at *
      refine Calls.mono SB.out ?_
      clear SB z0
      rintro e w4 ⟨rfl, hb4⟩
      have H4 : Hid (Below wF.heap.size wF w4) := hb4
      clear hb4
      have HND : Hid ((res bl).map (·.1)).Nodup := HU.out.nodup
      have HBs : Hid (∀ p ∈ sl, p.2.length ≤ 17592186043904) := fun p hp => HBG.out p (res_mem (HPs.out.mem_iff.1 hp))
      have HBr : Hid (∀ p ∈ res bl, p.2.length ≤ 17592186043904) := fun p hp => HBG.out p (res_mem hp)
      go_wp2_with fail
      go_loopw [10] (fun i wx => ∃ t : Nat, t ≤ j ∧ i = .int .i64 t ∧ Hid (Below wF.heap.size wF wx)) (fun i _ => j - (intOf i).toNat)
      case atStart => exact ⟨0, Nat.zero_le _, rfl, H4.out⟩
      case round =>
        clear H4
        obtain ⟨t, ht, rfl, hb⟩ := hrel
        by_cases htj : t < j
        · have n2 : (t : Int) < (j : Int) := by omega
          obtain ⟨p, hp⟩ : ∃ p, bl[t]? = some p := ⟨bl[t]'(by rw [HL.out]; exact htj), List.getElem?_eq_getElem _⟩
          have Hbd : Hid (Below wF.heap.size wF wr.drew) := hb.out.trans ((drew_under wr).mono hb.out.size)
          have hbwd : Below w.heap.size w wr.drew := HBF.out.trans (Hbd.out.mono HBF.out.size)
          obtain ⟨al, cl, hv, hcl, hIl⟩ := (HOLf.out.under Hbd.out).lent hp
          obtain ⟨b3, o3, rfl, k3⟩ := (HRyf.out.under Hbd.out) t (.slice al p.2.length cl) (by rw [List.getElem?_map, hv]; rfl)
          obtain ⟨a1, c1, hv1, hi1⟩ := HM.out.2 t p hp
          obtain ⟨_, r2⟩ := rowB_at vs0 t _ hv1
          obtain ⟨b1, o1, rfl, k1⟩ := (HR.out.under hbwd) _ _ r2
          have KP : Hid _ := kept_any wr.drew al a1 cl c1 p.2 p.2.length rfl (HBG.out p (List.mem_of_getElem? hp)) hcl hIl (hi1.under hbwd)
          have d0 : wr.drew.cell? ⟨B, 0, none⟩ = some (.slice (some ⟨b1, o1, none⟩) j c) := (Hbd.out.cell (p := ⟨B, 0, none⟩) (World.block_lt_of_cell? _ _ Z0.out)).trans Z0.out
          have d1 : wr.drew.cell? ⟨b1, o1 + t * 2 + 1, none⟩ = some (.slice a1 p.2.length c1) := by rw [Nat.add_assoc]; exact k1
          have d3 : wr.drew.cell? ⟨b3, o3 + t, none⟩ = some (.slice al p.2.length cl) := k3
          generalize p.2.length = pq at *
          clear hv hIl k3 hv1 hi1 r2 k1 hp hbwd
          go_wp2_with fail
          refine wp_region_held_drew (S := fun w' => w'.cell? ⟨B, 0, none⟩ = some (.slice (some ⟨b1, o1, none⟩) j c) ∧ w'.cell? ⟨b1, o1 + t * 2 + 1, none⟩ = some (.slice a1 pq c1) ∧ w'.cell? ⟨b3, o3 + t, none⟩ = some (.slice al pq cl)) (by kernel_rfl) ?_ (fun hHeld => ?_)
          · exact ⟨d0, d1, d3⟩
          generalize wr.drew = w3x at *
          refine wpAnyH_take (i := 0) (oi := { dst := some 69, op := Op.move (Operand.tmp 6), type := 57, pos := "law.go:87", after := #[], guard := none }) (v := ?_) rfl (by kernel_rfl) (by kernel_rfl) (by kernel_rfl) (fun _ _ _ h => h) (Or.inl ⟨by rfl, ?_⟩) hHeld ?_
          rotate_left
          · (intro w hSw; (try dsimp only at hSw); go_simp; try with_reducible rfl)
          try simp only [Act.put, List.setIfInBounds_toArray, List.set_cons_zero, List.set_cons_succ]
          refine wpAnyH_take (i := 1) (oi := { dst := some 70, op := Op.move (Operand.tmp 10), type := 3, pos := "law.go:87", after := #[], guard := none }) (v := ?_) rfl (by kernel_rfl) (by kernel_rfl) (by kernel_rfl) (fun _ _ _ h => h) (Or.inl ⟨by rfl, ?_⟩) hHeld ?_
          rotate_left
          · (intro w hSw; (try dsimp only at hSw); go_simp; try with_reducible rfl)
          try simp only [Act.put, List.setIfInBounds_toArray, List.set_cons_zero, List.set_cons_succ]
          refine wpAnyH_take (i := 2) (oi := { dst := some 71, op := Op.indexAddr 57 (Operand.tmp 69) (Operand.tmp 70), type := 0, pos := "law.go:87", after := #[{ on := 0, ground := Ground.data }, { on := 1, ground := Ground.data }], guard := none }) (v := ?_) rfl (by kernel_rfl) (by kernel_rfl) (by kernel_rfl) (fun _ _ _ h => h) (Or.inl ⟨by rfl, ?_⟩) hHeld ?_
          rotate_left
          · (intro w hSw; (try dsimp only at hSw); go_simp; try with_reducible rfl)
          try simp only [Act.put, List.setIfInBounds_toArray, List.set_cons_zero, List.set_cons_succ]
          refine wpAnyH_take (i := 3) (oi := { dst := some 72, op := Op.load 29 (Operand.tmp 71), type := 29, pos := "law.go:87", after := #[{ on := 2, ground := Ground.data }], guard := none }) (v := ?_) rfl (by kernel_rfl) (by kernel_rfl) (by kernel_rfl) (fun _ _ _ h => h) (Or.inl ⟨by rfl, ?_⟩) hHeld ?_
          rotate_left
          · (intro w hSw; (try dsimp only at hSw); go_simp; try with_reducible rfl)
          try simp only [Act.put, List.setIfInBounds_toArray, List.set_cons_zero, List.set_cons_succ]
          refine wpAnyH_take (i := 4) (oi := { dst := some 73, op := Op.fieldAddr 55 (Operand.tmp 1) 0, type := 0, pos := "law.go:87", after := #[], guard := none }) (v := ?_) rfl (by kernel_rfl) (by kernel_rfl) (by kernel_rfl) (fun _ _ _ h => h) (Or.inl ⟨by rfl, ?_⟩) hHeld ?_
          rotate_left
          · (intro w hSw; (try dsimp only at hSw); go_simp; try with_reducible rfl)
          try simp only [Act.put, List.setIfInBounds_toArray, List.set_cons_zero, List.set_cons_succ]
          refine wpAnyH_take (i := 5) (oi := { dst := some 74, op := Op.load 23 (Operand.tmp 73), type := 23, pos := "law.go:87", after := #[{ on := 4, ground := Ground.data }], guard := none }) (v := ?_) rfl (by kernel_rfl) (by kernel_rfl) (by kernel_rfl) (fun _ _ _ h => h) (Or.inl ⟨by rfl, ?_⟩) hHeld ?_
          rotate_left
          · (intro w hSw; (try dsimp only at hSw); go_simp; try with_reducible rfl)
          try simp only [Act.put, List.setIfInBounds_toArray, List.set_cons_zero, List.set_cons_succ]
          refine wpAnyH_take (i := 6) (oi := { dst := some 75, op := Op.move (Operand.tmp 10), type := 3, pos := "law.go:87", after := #[], guard := none }) (v := ?_) rfl (by kernel_rfl) (by kernel_rfl) (by kernel_rfl) (fun _ _ _ h => h) (Or.inl ⟨by rfl, ?_⟩) hHeld ?_
          rotate_left
          · (intro w hSw; (try dsimp only at hSw); go_simp; try with_reducible rfl)
          try simp only [Act.put, List.setIfInBounds_toArray, List.set_cons_zero, List.set_cons_succ]
          refine wpAnyH_take (i := 7) (oi := { dst := some 76, op := Op.indexAddr 23 (Operand.tmp 74) (Operand.tmp 75), type := 0, pos := "law.go:87", after := #[{ on := 5, ground := Ground.data }, { on := 6, ground := Ground.data }], guard := none }) (v := ?_) rfl (by kernel_rfl) (by kernel_rfl) (by kernel_rfl) (fun _ _ _ h => h) (Or.inl ⟨by rfl, ?_⟩) hHeld ?_
          rotate_left
          · (intro w hSw; (try dsimp only at hSw); go_simp; try with_reducible rfl)
          try simp only [Act.put, List.setIfInBounds_toArray, List.set_cons_zero, List.set_cons_succ]
          refine wpAnyH_take (i := 8) (oi := { dst := some 77, op := Op.fieldAddr 31 (Operand.tmp 76) 1, type := 0, pos := "law.go:87", after := #[{ on := 7, ground := Ground.data }], guard := none }) (v := ?_) rfl (by kernel_rfl) (by kernel_rfl) (by kernel_rfl) (fun _ _ _ h => h) (Or.inl ⟨by rfl, ?_⟩) hHeld ?_
          rotate_left
          · (intro w hSw; (try dsimp only at hSw); go_simp; try with_reducible rfl)
          try simp only [Act.put, List.setIfInBounds_toArray, List.set_cons_zero, List.set_cons_succ]
          refine wpAnyH_take (i := 9) (oi := { dst := some 78, op := Op.load 29 (Operand.tmp 77), type := 29, pos := "law.go:87", after := #[{ on := 8, ground := Ground.data }], guard := none }) (v := ?_) rfl (by kernel_rfl) (by kernel_rfl) (by kernel_rfl) (fun _ _ _ h => h) (Or.inl ⟨by rfl, ?_⟩) hHeld ?_
          rotate_left
          · (intro w hSw; (try dsimp only at hSw); go_simp; try with_reducible rfl)
          try simp only [Act.put, List.setIfInBounds_toArray, List.set_cons_zero, List.set_cons_succ]
          refine wpAnyH_ready (rs := [10]) (by kernel_rfl) (by simp) ?_
          refine AllReadyH.cons (o := { dst := some 79, op := Op.call { callee := Callee.value (Operand.func 30), args := #[Operand.tmp 72, Operand.tmp 78], argTypes := #[29, 29] }, type := 4, pos := "law.go:87", after := #[{ on := 3, ground := Ground.data }, { on := 9, ground := Ground.data }], guard := none }) rfl (fun K hK => ?_) AllReadyH.nil
          go_simp
          go_at_call 30
          refine Calls.mono KP.out ?_
          rintro e w6 ⟨rfl, hb6⟩
          have m0 : w6.cell? ⟨B, 0, none⟩ = some (.slice (some ⟨b1, o1, none⟩) j c) := (hb6.cell (p := ⟨B, 0, none⟩) (World.block_lt_of_cell? _ _ d0)).trans d0
          have m1 : w6.cell? ⟨b1, o1 + t * 2 + 1, none⟩ = some (.slice a1 pq c1) := (hb6.cell (p := ⟨b1, o1 + t * 2 + 1, none⟩) (World.block_lt_of_cell? _ _ d1)).trans d1
          have m3 : w6.cell? ⟨b3, o3 + t, none⟩ = some (.slice al pq cl) := (hb6.cell (p := ⟨b3, o3 + t, none⟩) (World.block_lt_of_cell? _ _ d3)).trans d3
          have H6 : Hid (Below wF.heap.size wF w6) := Hbd.out.trans (hb6.mono Hbd.out.size)
          clear hb6
          try go_wp2_with fail
          refine hK.out _ _ ?_ (fun hHeld_10 => ?_)
          · exact ⟨m0, m1, m3⟩
          clear hK K
          try simp only [Act.put, List.setIfInBounds_toArray, List.set_cons_zero, List.set_cons_succ]
          refine wpAnyH_take (i := 11) (oi := { dst := some 80, op := Op.unOp UnOp.not 4 (Operand.tmp 79), type := 4, pos := "law.go:87", after := #[{ on := 10, ground := Ground.data }], guard := none }) (v := ?_) rfl (by kernel_rfl) (by kernel_rfl) (by kernel_rfl) (fun _ _ _ h => h) (Or.inl ⟨by rfl, ?_⟩) hHeld_10 ?_
          rotate_left
          · (intro w hSw; (try dsimp only at hSw); go_simp; try with_reducible rfl)
          try simp only [Act.put, List.setIfInBounds_toArray, List.set_cons_zero, List.set_cons_succ]
          refine wpAnyH_done (by kernel_rfl) ?_ _
          go_wp2
          exact ⟨⟨t + 1, by omega, by go_num, H6.out⟩, by simp [intOf]; omega⟩
        · have n2 : ¬ (t : Int) < (j : Int) := by omega
          have y8 : wr.drew.cell? ⟨B8, 0, none⟩ = some (.slice a8 kr c8) := (hb.out.cell (p := ⟨B8, 0, none⟩) (World.block_lt_of_cell? _ _ Z8.out)).trans Z8.out
          have y9 : wr.drew.cell? ⟨B3, 0, none⟩ = some (.slice a3 kr c3) := (hb.out.cell (p := ⟨B3, 0, none⟩) (World.block_lt_of_cell? _ _ Z9.out)).trans Z9.out
          have HG : Hid (Below wF.heap.size wF wr.drew) := hb.out.trans ((drew_under wr).mono hb.out.size)
          go_wp2_with fail
          refine wp_region_held_drew (S := fun w' => w'.cell? ⟨B8, 0, none⟩ = some (.slice a8 kr c8) ∧ w'.cell? ⟨B3, 0, none⟩ = some (.slice a3 kr c3)) (by kernel_rfl) ?_ (fun hHeld => ?_)
          · exact ⟨y8, y9⟩
          clear hb
          generalize wr.drew = wG at *
          have HSG : Hid (BindsC wG a8 kr sl) := HS.out.under HG.out
          have HUG : Hid (RefAt wG a3 kr (res bl)) := HU.out.under HG.out
          have Hlb : Hid (Below wG.heap.size wG wG) := Below.refl _ _
          refine wpAnyH_take (i := 0) (oi := { dst := some 81, op := Op.load 25 (Operand.tmp 8), type := 25, pos := "law.go:91", after := #[], guard := none }) (v := ?_) rfl (by kernel_rfl) (by kernel_rfl) (by kernel_rfl) (fun _ _ _ h => h) (Or.inl ⟨by rfl, ?_⟩) hHeld ?_
          rotate_left
          · (intro w hSw; (try dsimp only at hSw); go_simp; try with_reducible rfl)
          try simp only [Act.put, List.setIfInBounds_toArray, List.set_cons_zero, List.set_cons_succ]
          refine wpAnyH_take (i := 2) (oi := { dst := some 83, op := Op.load 50 (Operand.tmp 3), type := 50, pos := "law.go:91", after := #[], guard := none }) (v := ?_) rfl (by kernel_rfl) (by kernel_rfl) (by kernel_rfl) (fun _ _ _ h => h) (Or.inl ⟨by rfl, ?_⟩) hHeld ?_
          rotate_left
          · (intro w hSw; (try dsimp only at hSw); go_simp; try with_reducible rfl)
          try simp only [Act.put, List.setIfInBounds_toArray, List.set_cons_zero, List.set_cons_succ]
          refine wpAnyH_ready (rs := [1]) (by kernel_rfl) (by simp) ?_
          refine AllReadyH.cons (o := { dst := some 82, op := Op.call { callee := Callee.value (Operand.func 19), args := #[Operand.tmp 81], argTypes := #[25] }, type := 23, pos := "law.go:91", after := #[{ on := 0, ground := Ground.data }], guard := none }) rfl (fun K hK => ?_) AllReadyH.nil
          go_simp
          go_at_call 19
          refine (binds_any _ a8 kr c8 sl (by omega) HBs.out (HSG.out.under Hlb.out).binds).mono ?_
          rintro e wb1 ⟨vb1, rfl, vsb1, hob1, hOb1, hbb1⟩
          obtain ⟨ab1, cb1, rfl, _, hrb1, _⟩ := own_row hob1
          have Rb1 : Hid (RowAt wb1 ab1 (rowB vsb1)) := hrb1
          have Mb1 : Hid (Matches wb1 vsb1 sl) := hOb1.matches
          have Hn1 : Hid (Below _ _ wb1) := hbb1
          have Hlb1 : Hid (Below wG.heap.size wG wb1) := Hlb.out.trans (hbb1.mono Hlb.out.size)
          clear Hlb
          have Hlb : Hid (Below wG.heap.size wG wb1) := Hlb1.out
          clear Hlb1 hbb1 hob1 hOb1 hrb1
          try go_wp2_with fail
          refine hK.out _ _ ?_ (fun hHeld_1 => ?_)
          · exact ⟨(Hlb.out.cell (p := ⟨B8, 0, none⟩) (World.block_lt_of_cell? _ _ y8)).trans y8, (Hlb.out.cell (p := ⟨B3, 0, none⟩) (World.block_lt_of_cell? _ _ y9)).trans y9⟩
          clear hK K
          try simp only [Act.put, List.setIfInBounds_toArray, List.set_cons_zero, List.set_cons_succ]
          refine wpAnyH_ready (rs := [3]) (by kernel_rfl) (by simp) ?_
          refine AllReadyH.cons (o := { dst := some 84, op := Op.call { callee := Callee.value (Operand.func 22), args := #[Operand.tmp 83], argTypes := #[50] }, type := 23, pos := "law.go:91", after := #[{ on := 2, ground := Ground.data }, { on := 1, ground := Ground.chain }], guard := none }) rfl (fun K hK => ?_) AllReadyH.nil
          go_simp
          go_at_call 22
          refine (rbinds_any _ a3 kr c3 (res bl) (by omega) HBr.out (HUG.out.under Hlb.out)).mono ?_
          rintro e wb2 ⟨vb2, rfl, vsb2, ss2, hpr2, hri2, hob2, hOb2, hbb2⟩
          have hss2 : ss2 = sl := rises_eq hri2 HSG.out.rises (hpr2.trans (HPs.out).symm)
          rw [hss2] at hOb2
          obtain ⟨ab2, cb2, rfl, _, hrb2, _⟩ := own_row hob2
          have Rb2 : Hid (RowAt wb2 ab2 (rowB vsb2)) := hrb2
          have Mb2 : Hid (Matches wb2 vsb2 sl) := hOb2.matches
          have Hn2 : Hid (Below _ _ wb2) := hbb2
          have Hlb2 : Hid (Below wG.heap.size wG wb2) := Hlb.out.trans (hbb2.mono Hlb.out.size)
          clear Hlb
          have Hlb : Hid (Below wG.heap.size wG wb2) := Hlb2.out
          clear Hlb2 hbb2 hob2 hOb2 hrb2 hpr2 hri2 hss2
          try go_wp2_with fail
          refine hK.out _ _ ?_ (fun hHeld_3 => ?_)
          · exact ⟨(Hlb.out.cell (p := ⟨B8, 0, none⟩) (World.block_lt_of_cell? _ _ y8)).trans y8, (Hlb.out.cell (p := ⟨B3, 0, none⟩) (World.block_lt_of_cell? _ _ y9)).trans y9⟩
          clear hK K
          try simp only [Act.put, List.setIfInBounds_toArray, List.set_cons_zero, List.set_cons_succ]
          refine wpAnyH_ready (rs := [4]) (by kernel_rfl) (by simp) ?_
          refine AllReadyH.cons (o := { dst := some 85, op := Op.call { callee := Callee.value (Operand.func 18), args := #[Operand.tmp 82, Operand.tmp 84], argTypes := #[23, 23] }, type := 4, pos := "law.go:91", after := #[{ on := 1, ground := Ground.data }, { on := 3, ground := Ground.data }, { on := 3, ground := Ground.chain }], guard := none }) rfl (fun K hK => ?_) AllReadyH.nil
          go_simp
          go_at_call 18
          refine (sameb_eq _ ab1 ab2 cb1 cb2 kr sl vsb1 vsb2 HSG.out.len (by omega) (fun p hp => by have := HBs.out p hp; omega) (Rb1.out.under Hn2.out) (Mb1.out.under Hn2.out) Rb2.out Mb2.out).mono ?_
          rintro e ws1 ⟨rfl, hbs1⟩
          have Hls1 : Hid (Below wG.heap.size wG ws1) := Hlb.out.trans (hbs1.mono Hlb.out.size)
          clear Hlb
          have Hlb : Hid (Below wG.heap.size wG ws1) := Hls1.out
          clear Hls1 hbs1 Rb1 Mb1 Hn1 Rb2 Mb2 Hn2
          try go_wp2_with fail
          refine hK.out _ _ ?_ (fun hHeld_4 => ?_)
          · exact ⟨(Hlb.out.cell (p := ⟨B8, 0, none⟩) (World.block_lt_of_cell? _ _ y8)).trans y8, (Hlb.out.cell (p := ⟨B3, 0, none⟩) (World.block_lt_of_cell? _ _ y9)).trans y9⟩
          clear hK K
          try simp only [Act.put, List.setIfInBounds_toArray, List.set_cons_zero, List.set_cons_succ]
          refine wpAnyH_take (i := 5) (oi := { dst := some 86, op := Op.unOp UnOp.not 4 (Operand.tmp 85), type := 4, pos := "law.go:91", after := #[{ on := 4, ground := Ground.data }], guard := none }) (v := ?_) rfl (by kernel_rfl) (by kernel_rfl) (by kernel_rfl) (fun _ _ _ h => h) (Or.inl ⟨by rfl, ?_⟩) hHeld_4 ?_
          rotate_left
          · (intro w hSw; (try dsimp only at hSw); go_simp; try with_reducible rfl)
          try simp only [Act.put, List.setIfInBounds_toArray, List.set_cons_zero, List.set_cons_succ]
          refine wpAnyH_done (by kernel_rfl) ?_ _
          have H18 : Hid (Below wF.heap.size wF ws1) := HG.out.trans (Hlb.out.mono HG.out.size)
          clear Hlb HSG HUG
          obtain ⟨bf, hbf⟩ : ∃ bf, bf = (look (res bl) V).isSome := ⟨_, rfl⟩
          have Hbf : Hid (bf = (look (res bl) V).isSome) := hbf
          clear hbf
          obtain ⟨kf, hkf⟩ : ∃ kf, kf = (ofl (res bl) V).length := ⟨_, rfl⟩
          have Hkf : Hid (kf = (ofl (res bl) V).length) := hkf
          have hkfb : kf ≤ 17592186043904 := by
            rw [hkf]
            unfold ofl
            cases hx : look (res bl) V with
            | none => simp
            | some l => exact HBr.out _ (look_in hx)
          clear hkf
          have Eof : Hid (ofl sl V = ofl (res bl) V) := by show _ = _; unfold ofl; rw [look_perm HPs.out HND.out]
          have Elk : Hid (look sl V = look (res bl) V) := look_perm HPs.out HND.out V
          clear y8 y9
          have y0 : ws1.cell? ⟨B, 0, none⟩ = some (.slice a j c) := (H18.out.cell (p := ⟨B, 0, none⟩) (World.block_lt_of_cell? _ _ Z0.out)).trans Z0.out
          have y1 : ws1.cell? ⟨B, 1, none⟩ = some (.slice ae ne ce) := (H18.out.cell (p := ⟨B, 1, none⟩) (World.block_lt_of_cell? _ _ Z1.out)).trans Z1.out
          have y2 : ws1.cell? ⟨B, 2, none⟩ = some (.int .i64 V) := (H18.out.cell (p := ⟨B, 2, none⟩) (World.block_lt_of_cell? _ _ Z2.out)).trans Z2.out
          have y3 : ws1.cell? ⟨B, 3, none⟩ = some (.slice ax nx cx) := (H18.out.cell (p := ⟨B, 3, none⟩) (World.block_lt_of_cell? _ _ Z3.out)).trans Z3.out
          have y9 : ws1.cell? ⟨B3, 0, none⟩ = some (.slice a3 kr c3) := (H18.out.cell (p := ⟨B3, 0, none⟩) (World.block_lt_of_cell? _ _ Z9.out)).trans Z9.out
          have y8 : ws1.cell? ⟨B8, 0, none⟩ = some (.slice a8 kr c8) := (H18.out.cell (p := ⟨B8, 0, none⟩) (World.block_lt_of_cell? _ _ Z8.out)).trans Z8.out
          have D1 : Hid _ := of_uni ws1 a8 kr c8 sl V (by omega) HBs.out (HS.out.under H18.out).binds
          rw [Elk.out, Eof.out, ← Hbf.out, ← Hkf.out] at D1
          go_wp2_with fail
          refine Calls.mono D1.out ?_
          clear D1
          rintro e w11 ⟨hb11, a11, c11, rfl, hi11⟩
          have H11 : Hid (Below wF.heap.size wF w11) := H18.out.trans (hb11.mono H18.out.size)
          have HI11 : Hid (IntsAt w11 a11 (ofl (res bl) V)) := hi11
          clear hb11 hi11 H18
          clear y0 y1 y2 y3 y9 y8
          have y0 : w11.cell? ⟨B, 0, none⟩ = some (.slice a j c) := (H11.out.cell (p := ⟨B, 0, none⟩) (World.block_lt_of_cell? _ _ Z0.out)).trans Z0.out
          have y1 : w11.cell? ⟨B, 1, none⟩ = some (.slice ae ne ce) := (H11.out.cell (p := ⟨B, 1, none⟩) (World.block_lt_of_cell? _ _ Z1.out)).trans Z1.out
          have y2 : w11.cell? ⟨B, 2, none⟩ = some (.int .i64 V) := (H11.out.cell (p := ⟨B, 2, none⟩) (World.block_lt_of_cell? _ _ Z2.out)).trans Z2.out
          have y3 : w11.cell? ⟨B, 3, none⟩ = some (.slice ax nx cx) := (H11.out.cell (p := ⟨B, 3, none⟩) (World.block_lt_of_cell? _ _ Z3.out)).trans Z3.out
          have y9 : w11.cell? ⟨B3, 0, none⟩ = some (.slice a3 kr c3) := (H11.out.cell (p := ⟨B3, 0, none⟩) (World.block_lt_of_cell? _ _ Z9.out)).trans Z9.out
          have y8 : w11.cell? ⟨B8, 0, none⟩ = some (.slice a8 kr c8) := (H11.out.cell (p := ⟨B8, 0, none⟩) (World.block_lt_of_cell? _ _ Z8.out)).trans Z8.out
          have D2 : Hid _ := rof_uni w11 a3 kr c3 (res bl) V (by omega) HBr.out (HU.out.under H11.out)
          rw [← Hbf.out, ← Hkf.out] at D2
          go_wp2_with fail
          refine Calls.mono D2.out ?_
          clear D2
          rintro e w12 ⟨hb12, a12, c12, rfl, hi12⟩
          have H12 : Hid (Below wF.heap.size wF w12) := H11.out.trans (hb12.mono H11.out.size)
          have HI11b : Hid (IntsAt w12 a11 (ofl (res bl) V)) := HI11.out.under hb12
          have HI12 : Hid (IntsAt w12 a12 (ofl (res bl) V)) := hi12
          have HB12 : Hid (Below w.heap.size w w12) := HBF.out.trans (H12.out.mono HBF.out.size)
          clear hb12 hi12 H11 HI11 Elk Eof
          clear y0 y1 y2 y3 y9 y8
          have y0 : w12.cell? ⟨B, 0, none⟩ = some (.slice a j c) := (H12.out.cell (p := ⟨B, 0, none⟩) (World.block_lt_of_cell? _ _ Z0.out)).trans Z0.out
          have y1 : w12.cell? ⟨B, 1, none⟩ = some (.slice ae ne ce) := (H12.out.cell (p := ⟨B, 1, none⟩) (World.block_lt_of_cell? _ _ Z1.out)).trans Z1.out
          have y2 : w12.cell? ⟨B, 2, none⟩ = some (.int .i64 V) := (H12.out.cell (p := ⟨B, 2, none⟩) (World.block_lt_of_cell? _ _ Z2.out)).trans Z2.out
          have y3 : w12.cell? ⟨B, 3, none⟩ = some (.slice ax nx cx) := (H12.out.cell (p := ⟨B, 3, none⟩) (World.block_lt_of_cell? _ _ Z3.out)).trans Z3.out
          have y9 : w12.cell? ⟨B3, 0, none⟩ = some (.slice a3 kr c3) := (H12.out.cell (p := ⟨B3, 0, none⟩) (World.block_lt_of_cell? _ _ Z9.out)).trans Z9.out
          have y8 : w12.cell? ⟨B8, 0, none⟩ = some (.slice a8 kr c8) := (H12.out.cell (p := ⟨B8, 0, none⟩) (World.block_lt_of_cell? _ _ Z8.out)).trans Z8.out
          have D3 : Hid _ := lent_any w12 ae ce l ne HLE.out hne (HE.out.under HB12.out)
          go_wp2_with fail
          refine Calls.mono D3.out ?_
          clear D3
          rintro e w13 ⟨hb13, aE, cE, rfl, hoE⟩
          obtain ⟨aE2, cE2, eE, hcE, hrE, _⟩ := own_row hoE
          cases eE
          have HIE : Hid (IntsAt w13 aE (marked l)) := hrE.ints
          have H13 : Hid (Below wF.heap.size wF w13) := H12.out.trans (hb13.mono H12.out.size)
          have H1213 : Hid (Below w12.heap.size w12 w13) := hb13
          clear hb13 hoE hrE
          obtain ⟨sz, hsz⟩ : ∃ sz, sz = min 201 (subs (res bl) l).length := ⟨_, rfl⟩
          have Hsz : Hid (sz = min 201 (subs (res bl) l).length) := hsz
          clear hsz
          have Esb : Hid (subs sl l = subs (res bl) l) := subs_perm HPs.out HND.out l
          clear y0 y1 y2 y3 y9 y8
          have y0 : w13.cell? ⟨B, 0, none⟩ = some (.slice a j c) := (H13.out.cell (p := ⟨B, 0, none⟩) (World.block_lt_of_cell? _ _ Z0.out)).trans Z0.out
          have y1 : w13.cell? ⟨B, 1, none⟩ = some (.slice ae ne ce) := (H13.out.cell (p := ⟨B, 1, none⟩) (World.block_lt_of_cell? _ _ Z1.out)).trans Z1.out
          have y2 : w13.cell? ⟨B, 2, none⟩ = some (.int .i64 V) := (H13.out.cell (p := ⟨B, 2, none⟩) (World.block_lt_of_cell? _ _ Z2.out)).trans Z2.out
          have y3 : w13.cell? ⟨B, 3, none⟩ = some (.slice ax nx cx) := (H13.out.cell (p := ⟨B, 3, none⟩) (World.block_lt_of_cell? _ _ Z3.out)).trans Z3.out
          have y9 : w13.cell? ⟨B3, 0, none⟩ = some (.slice a3 kr c3) := (H13.out.cell (p := ⟨B3, 0, none⟩) (World.block_lt_of_cell? _ _ Z9.out)).trans Z9.out
          have y8 : w13.cell? ⟨B8, 0, none⟩ = some (.slice a8 kr c8) := (H13.out.cell (p := ⟨B8, 0, none⟩) (World.block_lt_of_cell? _ _ Z8.out)).trans Z8.out
          have D4 : Hid _ := size_any w13 a8 kr c8 sl aE ne cE l (by omega) (HS.out.under H13.out).binds HLE.out (by omega) hne HIE.out.front
          rw [Esb.out, ← Hsz.out] at D4
          go_wp2_with fail
          refine Calls.mono D4.out ?_
          clear D4
          rintro e w14 ⟨rfl, hb14⟩
          have H14 : Hid (Below wF.heap.size wF w14) := H13.out.trans (hb14.mono H13.out.size)
          have H1214 : Hid (Below w12.heap.size w12 w14) := H1213.out.trans (hb14.mono H1213.out.size)
          have HIE2 : Hid (IntsAt w14 aE (marked l)) := HIE.out.under hb14
          clear hb14 H13 H1213 HIE
          obtain ⟨ka, hka⟩ : ∃ ka, ka = (appl (res bl) l).length := ⟨_, rfl⟩
          obtain ⟨ee, hee⟩ : ∃ ee, ee = appe (res bl) l := ⟨_, rfl⟩
          have Hka : Hid (ka = (appl (res bl) l).length) := hka
          have Hee : Hid (ee = appe (res bl) l) := hee
          have hka2 : ka ≤ 200 := by
            rw [hka]
            unfold appl
            split
            · assumption
            · simp
          clear hka hee
          have Eap : Hid (appl sl l = appl (res bl) l) := by show _ = _; unfold appl; rw [Esb.out]
          have Eae : Hid (appe sl l = appe (res bl) l) := by show _ = _; unfold appe; rw [Esb.out]
          clear y0 y1 y2 y3 y9 y8
          have y0 : w14.cell? ⟨B, 0, none⟩ = some (.slice a j c) := (H14.out.cell (p := ⟨B, 0, none⟩) (World.block_lt_of_cell? _ _ Z0.out)).trans Z0.out
          have y1 : w14.cell? ⟨B, 1, none⟩ = some (.slice ae ne ce) := (H14.out.cell (p := ⟨B, 1, none⟩) (World.block_lt_of_cell? _ _ Z1.out)).trans Z1.out
          have y2 : w14.cell? ⟨B, 2, none⟩ = some (.int .i64 V) := (H14.out.cell (p := ⟨B, 2, none⟩) (World.block_lt_of_cell? _ _ Z2.out)).trans Z2.out
          have y3 : w14.cell? ⟨B, 3, none⟩ = some (.slice ax nx cx) := (H14.out.cell (p := ⟨B, 3, none⟩) (World.block_lt_of_cell? _ _ Z3.out)).trans Z3.out
          have y9 : w14.cell? ⟨B3, 0, none⟩ = some (.slice a3 kr c3) := (H14.out.cell (p := ⟨B3, 0, none⟩) (World.block_lt_of_cell? _ _ Z9.out)).trans Z9.out
          have y8 : w14.cell? ⟨B8, 0, none⟩ = some (.slice a8 kr c8) := (H14.out.cell (p := ⟨B8, 0, none⟩) (World.block_lt_of_cell? _ _ Z8.out)).trans Z8.out
          have D5 : Hid _ := (apply_any w14 a8 kr c8 sl aE ne cE l (by omega) (HS.out.under H14.out).binds HLE.out (by omega) hne HIE2.out.front).mono fun e w2 h => app_uni h
          rw [Eap.out, Eae.out, ← Hka.out, ← Hee.out] at D5
          go_wp2_with fail
          refine Calls.mono D5.out ?_
          clear D5
          rintro e w15 ⟨hb15, a15, c15, rfl, hi15⟩
          have H15 : Hid (Below wF.heap.size wF w15) := H14.out.trans (hb15.mono H14.out.size)
          have H1215 : Hid (Below w12.heap.size w12 w15) := H1214.out.trans (hb15.mono H1214.out.size)
          have HIE3 : Hid (IntsAt w15 aE (marked l)) := HIE2.out.under hb15
          have HI15 : Hid (IntsAt w15 a15 (appl (res bl) l)) := hi15
          have HB15 : Hid (Below w.heap.size w w15) := HBF.out.trans (H15.out.mono HBF.out.size)
          clear hb15 hi15 H14 H1214 HIE2 Eap Eae Esb
          clear y0 y1 y2 y3 y9 y8
          have y0 : w15.cell? ⟨B, 0, none⟩ = some (.slice a j c) := (H15.out.cell (p := ⟨B, 0, none⟩) (World.block_lt_of_cell? _ _ Z0.out)).trans Z0.out
          have y1 : w15.cell? ⟨B, 1, none⟩ = some (.slice ae ne ce) := (H15.out.cell (p := ⟨B, 1, none⟩) (World.block_lt_of_cell? _ _ Z1.out)).trans Z1.out
          have y2 : w15.cell? ⟨B, 2, none⟩ = some (.int .i64 V) := (H15.out.cell (p := ⟨B, 2, none⟩) (World.block_lt_of_cell? _ _ Z2.out)).trans Z2.out
          have y3 : w15.cell? ⟨B, 3, none⟩ = some (.slice ax nx cx) := (H15.out.cell (p := ⟨B, 3, none⟩) (World.block_lt_of_cell? _ _ Z3.out)).trans Z3.out
          have y9 : w15.cell? ⟨B3, 0, none⟩ = some (.slice a3 kr c3) := (H15.out.cell (p := ⟨B3, 0, none⟩) (World.block_lt_of_cell? _ _ Z9.out)).trans Z9.out
          have y8 : w15.cell? ⟨B8, 0, none⟩ = some (.slice a8 kr c8) := (H15.out.cell (p := ⟨B8, 0, none⟩) (World.block_lt_of_cell? _ _ Z8.out)).trans Z8.out
          have D6 : Hid _ := (rapply_any w15 a3 kr c3 (res bl) ae ne ce l (by omega) HBr.out (HU.out.under H15.out) HLE.out hne (HE.out.under HB15.out)).mono fun e w2 h => app_uni h
          rw [← Hka.out, ← Hee.out] at D6
          go_wp2_with fail
          refine Calls.mono D6.out ?_
          clear D6
          rintro e w16 ⟨hb16, a16, c16, rfl, hi16⟩
          have H16 : Hid (Below wF.heap.size wF w16) := H15.out.trans (hb16.mono H15.out.size)
          have H1216 : Hid (Below w12.heap.size w12 w16) := H1215.out.trans (hb16.mono H1215.out.size)
          have HIE4 : Hid (IntsAt w16 aE (marked l)) := HIE3.out.under hb16
          have HI15b : Hid (IntsAt w16 a15 (appl (res bl) l)) := HI15.out.under hb16
          have HI16 : Hid (IntsAt w16 a16 (appl (res bl) l)) := hi16
          have HB16 : Hid (Below w.heap.size w w16) := HBF.out.trans (H16.out.mono HBF.out.size)
          clear hb16 hi16 H15 H1215 HIE3 HI15
          clear y0 y1 y2 y3 y9 y8
          have y0 : w16.cell? ⟨B, 0, none⟩ = some (.slice a j c) := (H16.out.cell (p := ⟨B, 0, none⟩) (World.block_lt_of_cell? _ _ Z0.out)).trans Z0.out
          have y1 : w16.cell? ⟨B, 1, none⟩ = some (.slice ae ne ce) := (H16.out.cell (p := ⟨B, 1, none⟩) (World.block_lt_of_cell? _ _ Z1.out)).trans Z1.out
          have y2 : w16.cell? ⟨B, 2, none⟩ = some (.int .i64 V) := (H16.out.cell (p := ⟨B, 2, none⟩) (World.block_lt_of_cell? _ _ Z2.out)).trans Z2.out
          have y3 : w16.cell? ⟨B, 3, none⟩ = some (.slice ax nx cx) := (H16.out.cell (p := ⟨B, 3, none⟩) (World.block_lt_of_cell? _ _ Z3.out)).trans Z3.out
          have y9 : w16.cell? ⟨B3, 0, none⟩ = some (.slice a3 kr c3) := (H16.out.cell (p := ⟨B3, 0, none⟩) (World.block_lt_of_cell? _ _ Z9.out)).trans Z9.out
          have y8 : w16.cell? ⟨B8, 0, none⟩ = some (.slice a8 kr c8) := (H16.out.cell (p := ⟨B8, 0, none⟩) (World.block_lt_of_cell? _ _ Z8.out)).trans Z8.out
          have D7 : Hid _ := lent_any w16 ax cx xl nx HLX.out hnx (HXl.out.under HB16.out)
          go_wp2_with fail
          refine Calls.mono D7.out ?_
          clear D7
          rintro e w17 ⟨hb17, aX, cX, rfl, hoX⟩
          obtain ⟨aX2, cX2, eX, hcX, hrX, _⟩ := own_row hoX
          cases eX
          have HIX : Hid (IntsAt w17 aX (marked xl)) := hrX.ints
          have H17 : Hid (Below wF.heap.size wF w17) := H16.out.trans (hb17.mono H16.out.size)
          have H1617 : Hid (Below w16.heap.size w16 w17) := hb17
          clear hb17 hoX hrX
          obtain ⟨ko, hko⟩ : ∃ ko, ko = (onlyOf sl xl).length := ⟨_, rfl⟩
          have Hko : Hid (ko = (onlyOf sl xl).length) := hko
          have hkon : ko ≤ kr := by rw [hko, ← HS.out.len]; exact onlyOf_len _ _
          clear hko
          clear y0 y1 y2 y3 y9 y8
          have y0 : w17.cell? ⟨B, 0, none⟩ = some (.slice a j c) := (H17.out.cell (p := ⟨B, 0, none⟩) (World.block_lt_of_cell? _ _ Z0.out)).trans Z0.out
          have y1 : w17.cell? ⟨B, 1, none⟩ = some (.slice ae ne ce) := (H17.out.cell (p := ⟨B, 1, none⟩) (World.block_lt_of_cell? _ _ Z1.out)).trans Z1.out
          have y2 : w17.cell? ⟨B, 2, none⟩ = some (.int .i64 V) := (H17.out.cell (p := ⟨B, 2, none⟩) (World.block_lt_of_cell? _ _ Z2.out)).trans Z2.out
          have y3 : w17.cell? ⟨B, 3, none⟩ = some (.slice ax nx cx) := (H17.out.cell (p := ⟨B, 3, none⟩) (World.block_lt_of_cell? _ _ Z3.out)).trans Z3.out
          have y9 : w17.cell? ⟨B3, 0, none⟩ = some (.slice a3 kr c3) := (H17.out.cell (p := ⟨B3, 0, none⟩) (World.block_lt_of_cell? _ _ Z9.out)).trans Z9.out
          have y8 : w17.cell? ⟨B8, 0, none⟩ = some (.slice a8 kr c8) := (H17.out.cell (p := ⟨B8, 0, none⟩) (World.block_lt_of_cell? _ _ Z8.out)).trans Z8.out
          have D8 : Hid _ := only_any w17 a8 kr c8 sl aX nx cX xl (by omega) HBs.out (HS.out.under H17.out).binds HLX.out hnx HIX.out.front
          go_wp2_with fail
          refine Calls.mono D8.out ?_
          clear D8
          rintro e w18 ⟨hb18, aO, cO, vsO, rfl, hoO, hOO⟩
          rw [← Hko.out] at hoO
          rw [← Hko.out]
          have hbO : BindsC w18 aO ko (onlyOf sl xl) := hOO.bindsC hoO (onlyOf_rises HS.out.rises xl) Hko.out.symm
          have hbN : Below w17.heap.size w17 (w18.alloc (.cells #[.slice aO ko cO] 25)) := hb18.trans ((below_alloc _ _).mono hb18.size)
          have H19 : Hid (Below wF.heap.size wF (w18.alloc (.cells #[.slice aO ko cO] 25))) := H17.out.trans (hbN.mono H17.out.size)
          have h1619 : Below w16.heap.size w16 (w18.alloc (.cells #[.slice aO ko cO] 25)) := H1617.out.trans (hbN.mono H1617.out.size)
          have h1219 : Below w12.heap.size w12 (w18.alloc (.cells #[.slice aO ko cO] 25)) := H1216.out.trans (h1619.mono H1216.out.size)
          have HOn : Hid (BindsC (w18.alloc (.cells #[.slice aO ko cO] 25)) aO ko (onlyOf sl xl)) := hbO.under (below_alloc _ _)
          have yO : (w18.alloc (.cells #[.slice aO ko cO] 25)).cell? ⟨w18.heap.size, 0, none⟩ = some (.slice aO ko cO) := World.cell?_alloc_new w18 _ _ 0
          have HIE5 : Hid (IntsAt (w18.alloc (.cells #[.slice aO ko cO] 25)) aE (marked l)) := HIE4.out.under h1619
          have HIX2 : Hid (IntsAt (w18.alloc (.cells #[.slice aO ko cO] 25)) aX (marked xl)) := HIX.out.under hbN
          have HI15c : Hid (IntsAt (w18.alloc (.cells #[.slice aO ko cO] 25)) a15 (appl (res bl) l)) := HI15b.out.under h1619
          have HI16c : Hid (IntsAt (w18.alloc (.cells #[.slice aO ko cO] 25)) a16 (appl (res bl) l)) := HI16.out.under h1619
          have SE1 : Hid _ := same_eq (w18.alloc (.cells #[.slice aO ko cO] 25)) a11 a12 c11 c12 (ofl (res bl) V) kf Hkf.out.symm (by omega) (HI11b.out.under h1219) (HI12.out.under h1219)
          clear hb18 hoO hOO hbO hbN h1619 h1219 H17 H1617 H1216 HIE4 HIX HI15b HI16 HI11b HI12 y0 y1 y2 y3 y9 y8
          go_wp2_with fail
          generalize w18.alloc (.cells #[.slice aO ko cO] 25) = w19 at *
          generalize w18.heap.size = BO at *
          refine Calls.mono SE1.out ?_
          clear SE1
          rintro e wz ⟨rfl, dz, hwz⟩
          subst wz
          have hbz : Below w19.heap.size w19 (w19.drewN dz) := ⟨rfl, rfl, rfl, Nat.le_refl _, fun _ _ => rfl⟩
          have H20 : Hid (Below wF.heap.size wF (w19.drewN dz)) := H19.out.trans (hbz.mono H19.out.size)
          have HB20 : Hid (Below w.heap.size w (w19.drewN dz)) := HBF.out.trans (H20.out.mono HBF.out.size)
          have yO2 : (w19.drewN dz).cell? ⟨BO, 0, none⟩ = some (.slice aO ko cO) := yO
          have HOn2 : Hid (BindsC (w19.drewN dz) aO ko (onlyOf sl xl)) := HOn.out.under hbz
          have HIE6 : Hid (IntsAt (w19.drewN dz) aE (marked l)) := HIE5.out.under hbz
          have HIX3 : Hid (IntsAt (w19.drewN dz) aX (marked xl)) := HIX2.out.under hbz
          have HI15d : Hid (IntsAt (w19.drewN dz) a15 (appl (res bl) l)) := HI15c.out.under hbz
          have HI16d : Hid (IntsAt (w19.drewN dz) a16 (appl (res bl) l)) := HI16c.out.under hbz
          clear hbz H19 HOn HIE5 HIX2 HI15c HI16c yO
          generalize w19.drewN dz = w20 at *
          have y1 : w20.cell? ⟨B, 1, none⟩ = some (.slice ae ne ce) := (H20.out.cell (p := ⟨B, 1, none⟩) (World.block_lt_of_cell? _ _ Z1.out)).trans Z1.out
          have y9 : w20.cell? ⟨B3, 0, none⟩ = some (.slice a3 kr c3) := (H20.out.cell (p := ⟨B3, 0, none⟩) (World.block_lt_of_cell? _ _ Z9.out)).trans Z9.out
          have RS : Hid _ := rsize_any w20 a3 kr c3 (res bl) ae ne ce l (by omega) HBr.out (HU.out.under H20.out) HLE.out hne (HE.out.under HB20.out)
          rw [← Hsz.out] at RS
          go_wp2_with fail
          refine Calls.mono RS.out ?_
          clear RS y1 y9
          rintro e w21 ⟨rfl, hb21⟩
          have H21 : Hid (Below wF.heap.size wF w21) := H20.out.trans (hb21.mono H20.out.size)
          have yO3 : w21.cell? ⟨BO, 0, none⟩ = some (.slice aO ko cO) := (hb21.cell (p := ⟨BO, 0, none⟩) (World.block_lt_of_cell? _ _ yO2)).trans yO2
          have HOn3 : Hid (BindsC w21 aO ko (onlyOf sl xl)) := HOn2.out.under hb21
          have HIE7 : Hid (IntsAt w21 aE (marked l)) := HIE6.out.under hb21
          have HIX4 : Hid (IntsAt w21 aX (marked xl)) := HIX3.out.under hb21
          have SE2 : Hid _ := same_eq w21 a15 a16 c15 c16 (appl (res bl) l) ka Hka.out.symm (by omega) (HI15d.out.under hb21) (HI16d.out.under hb21)
          clear hb21 H20 HB20 yO2 HOn2 HIE6 HIX3 HI15d HI16d
          go_wp2_with (go_at_call 11; refine (num_any _ _).mono ?_; rintro e wz ⟨rfl, hwz⟩; subst wz)
          refine Calls.mono SE2.out ?_
          clear SE2
          rintro e wz ⟨rfl, dy, hwz⟩
          subst wz
          have hbz : Below w21.heap.size w21 (w21.drewN dy) := ⟨rfl, rfl, rfl, Nat.le_refl _, fun _ _ => rfl⟩
          have H22 : Hid (Below wF.heap.size wF (w21.drewN dy)) := H21.out.trans (hbz.mono H21.out.size)
          have yO4 : (w21.drewN dy).cell? ⟨BO, 0, none⟩ = some (.slice aO ko cO) := yO3
          have HOn4 : Hid (BindsC (w21.drewN dy) aO ko (onlyOf sl xl)) := HOn3.out.under hbz
          have HIE8 : Hid (IntsAt (w21.drewN dy) aE (marked l)) := HIE7.out.under hbz
          have HIX5 : Hid (IntsAt (w21.drewN dy) aX (marked xl)) := HIX4.out.under hbz
          clear hbz H21 yO3 HOn3 HIE7 HIX4
          generalize w21.drewN dy = w22 at *
          go_wp2_with fail
          have H23 : Hid (Below wF.heap.size wF w22.drew) := H22.out.trans ((drew_under w22).mono H22.out.size)
          have yO5 : w22.drew.cell? ⟨BO, 0, none⟩ = some (.slice aO ko cO) := yO4
          have HOn5 : Hid (BindsC w22.drew aO ko (onlyOf sl xl)) := HOn4.out.under (drew_under w22)
          have HIE9 : Hid (IntsAt w22.drew aE (marked l)) := HIE8.out
          have HIX6 : Hid (IntsAt w22.drew aX (marked xl)) := HIX5.out
          have y1 : w22.drew.cell? ⟨B, 1, none⟩ = some (.slice ae ne ce) := (H23.out.cell (p := ⟨B, 1, none⟩) (World.block_lt_of_cell? _ _ Z1.out)).trans Z1.out
          have y3 : w22.drew.cell? ⟨B, 3, none⟩ = some (.slice ax nx cx) := (H23.out.cell (p := ⟨B, 3, none⟩) (World.block_lt_of_cell? _ _ Z3.out)).trans Z3.out
          have y9 : w22.drew.cell? ⟨B3, 0, none⟩ = some (.slice a3 kr c3) := (H23.out.cell (p := ⟨B3, 0, none⟩) (World.block_lt_of_cell? _ _ Z9.out)).trans Z9.out
          refine wp_region_held_drew (S := fun w' => w'.cell? ⟨B, 1, none⟩ = some (.slice ae ne ce) ∧ w'.cell? ⟨B, 3, none⟩ = some (.slice ax nx cx) ∧ w'.cell? ⟨BO, 0, none⟩ = some (.slice aO ko cO) ∧ w'.cell? ⟨B3, 0, none⟩ = some (.slice a3 kr c3)) (by kernel_rfl) ?_ (fun hHeld => ?_)
          · exact ⟨y1, y3, yO5, y9⟩
          clear H22 yO4 HOn4 HIE8 HIX5
          generalize w22.drew = wN at *
          have HEN : Hid (IntsAt wN ae l) := HE.out.under (HBF.out.trans (H23.out.mono HBF.out.size))
          have HXN : Hid (IntsAt wN ax xl) := HXl.out.under (HBF.out.trans (H23.out.mono HBF.out.size))
          have HUN : Hid (RefAt wN a3 kr (res bl)) := HU.out.under H23.out
          have Hlb : Hid (Below wN.heap.size wN wN) := Below.refl _ _
          have HPo : Hid ((onlyOf sl xl).Perm (onlyOf (res bl) xl)) := HPs.out.filter _
          have Hkor : Hid ((onlyOf (res bl) xl).length = ko) := by show _ = _; rw [← HPo.out.length_eq]; exact Hko.out.symm
          have HBo : Hid (∀ p ∈ onlyOf sl xl, p.2.length ≤ 17592186043904) := fun p hp => HBs.out p (List.mem_filter.1 hp).1
          have HBo2 : Hid (∀ p ∈ onlyOf (res bl) xl, p.2.length ≤ 17592186043904) := fun p hp => HBr.out p (List.mem_filter.1 hp).1
          refine wpAnyH_take (i := 0) (oi := { dst := some 156, op := Op.move (Operand.tmp 15), type := 29, pos := "law.go:105", after := #[], guard := none }) (v := ?_) rfl (by kernel_rfl) (by kernel_rfl) (by kernel_rfl) (fun _ _ _ h => h) (Or.inl ⟨by rfl, ?_⟩) hHeld ?_
          rotate_left
          · (intro w hSw; (try dsimp only at hSw); go_simp; try with_reducible rfl)
          try simp only [Act.put, List.setIfInBounds_toArray, List.set_cons_zero, List.set_cons_succ]
          refine wpAnyH_take (i := 1) (oi := { dst := some 157, op := Op.fieldAddr 55 (Operand.tmp 1) 1, type := 0, pos := "law.go:105", after := #[], guard := none }) (v := ?_) rfl (by kernel_rfl) (by kernel_rfl) (by kernel_rfl) (fun _ _ _ h => h) (Or.inl ⟨by rfl, ?_⟩) hHeld ?_
          rotate_left
          · (intro w hSw; (try dsimp only at hSw); go_simp; try with_reducible rfl)
          try simp only [Act.put, List.setIfInBounds_toArray, List.set_cons_zero, List.set_cons_succ]
          refine wpAnyH_take (i := 2) (oi := { dst := some 158, op := Op.load 29 (Operand.tmp 157), type := 29, pos := "law.go:105", after := #[{ on := 1, ground := Ground.data }], guard := none }) (v := ?_) rfl (by kernel_rfl) (by kernel_rfl) (by kernel_rfl) (fun _ _ _ h => h) (Or.inl ⟨by rfl, ?_⟩) hHeld ?_
          rotate_left
          · (intro w hSw; (try dsimp only at hSw); go_simp; try with_reducible rfl)
          try simp only [Act.put, List.setIfInBounds_toArray, List.set_cons_zero, List.set_cons_succ]
          refine wpAnyH_ready (rs := [3]) (by kernel_rfl) (by simp) ?_
          refine AllReadyH.cons (o := { dst := some 159, op := Op.call { callee := Callee.value (Operand.func 30), args := #[Operand.tmp 156, Operand.tmp 158], argTypes := #[29, 29] }, type := 4, pos := "law.go:105", after := #[{ on := 0, ground := Ground.data }, { on := 2, ground := Ground.data }], guard := none }) rfl (fun K hK => ?_) AllReadyH.nil
          go_simp
          go_at_call 30
          refine (kept_any _ aE ae cE ce l ne HLE.out hne (by omega) (HIE9.out.under Hlb.out) (HEN.out.under Hlb.out)).mono ?_
          rintro e wk1 ⟨rfl, hbk1⟩
          have Hlk1 : Hid (Below wN.heap.size wN wk1) := Hlb.out.trans (hbk1.mono Hlb.out.size)
          clear Hlb
          have Hlb : Hid (Below wN.heap.size wN wk1) := Hlk1.out
          clear Hlk1 hbk1
          try go_wp2_with fail
          refine hK.out _ _ ?_ (fun hHeld_3 => ?_)
          · exact ⟨(Hlb.out.cell (p := ⟨B, 1, none⟩) (World.block_lt_of_cell? _ _ y1)).trans y1, (Hlb.out.cell (p := ⟨B, 3, none⟩) (World.block_lt_of_cell? _ _ y3)).trans y3, (Hlb.out.cell (p := ⟨BO, 0, none⟩) (World.block_lt_of_cell? _ _ yO5)).trans yO5, (Hlb.out.cell (p := ⟨B3, 0, none⟩) (World.block_lt_of_cell? _ _ y9)).trans y9⟩
          clear hK K
          try simp only [Act.put, List.setIfInBounds_toArray, List.set_cons_zero, List.set_cons_succ]
          refine wpAnyH_take (i := 4) (oi := { dst := some 160, op := Op.move (Operand.tmp 159), type := 4, pos := "law.go:105", after := #[{ on := 3, ground := Ground.data }, { on := 3, ground := Ground.chain }], guard := none }) (v := ?_) rfl (by kernel_rfl) (by kernel_rfl) (by kernel_rfl) (fun _ _ _ h => h) (Or.inl ⟨by rfl, ?_⟩) hHeld_3 ?_
          rotate_left
          · (intro w hSw; (try dsimp only at hSw); go_simp; try with_reducible rfl)
          try simp only [Act.put, List.setIfInBounds_toArray, List.set_cons_zero, List.set_cons_succ]
          refine wpAnyH_take (i := 5) (oi := { dst := some 161, op := Op.move (Operand.tmp 21), type := 29, pos := "law.go:105", after := #[{ on := 4, ground := Ground.guard }], guard := some (4, true) }) (v := ?_) rfl (by kernel_rfl) (by kernel_rfl) (by kernel_rfl) (fun _ _ _ h => h) (Or.inl ⟨by rfl, ?_⟩) hHeld_3 ?_
          rotate_left
          · (intro w hSw; (try dsimp only at hSw); go_simp; try with_reducible rfl)
          try simp only [Act.put, List.setIfInBounds_toArray, List.set_cons_zero, List.set_cons_succ]
          refine wpAnyH_take (i := 6) (oi := { dst := some 162, op := Op.fieldAddr 55 (Operand.tmp 1) 3, type := 0, pos := "law.go:105", after := #[{ on := 4, ground := Ground.guard }], guard := some (4, true) }) (v := ?_) rfl (by kernel_rfl) (by kernel_rfl) (by kernel_rfl) (fun _ _ _ h => h) (Or.inl ⟨by rfl, ?_⟩) hHeld_3 ?_
          rotate_left
          · (intro w hSw; (try dsimp only at hSw); go_simp; try with_reducible rfl)
          try simp only [Act.put, List.setIfInBounds_toArray, List.set_cons_zero, List.set_cons_succ]
          refine wpAnyH_take (i := 7) (oi := { dst := some 163, op := Op.load 29 (Operand.tmp 162), type := 29, pos := "law.go:105", after := #[{ on := 6, ground := Ground.data }, { on := 4, ground := Ground.guard }], guard := some (4, true) }) (v := ?_) rfl (by kernel_rfl) (by kernel_rfl) (by kernel_rfl) (fun _ _ _ h => h) (Or.inl ⟨by rfl, ?_⟩) hHeld_3 ?_
          rotate_left
          · (intro w hSw; (try dsimp only at hSw); go_simp; try with_reducible rfl)
          try simp only [Act.put, List.setIfInBounds_toArray, List.set_cons_zero, List.set_cons_succ]
          refine wpAnyH_ready (rs := [8]) (by kernel_rfl) (by simp) ?_
          refine AllReadyH.cons (o := { dst := some 164, op := Op.call { callee := Callee.value (Operand.func 30), args := #[Operand.tmp 161, Operand.tmp 163], argTypes := #[29, 29] }, type := 4, pos := "law.go:105", after := #[{ on := 5, ground := Ground.data }, { on := 7, ground := Ground.data }, { on := 4, ground := Ground.chain }, { on := 4, ground := Ground.guard }], guard := some (4, true) }) rfl (fun K hK => ?_) AllReadyH.nil
          go_simp
          go_at_call 30
          refine (kept_any _ aX ax cX cx xl nx HLX.out hnx (by omega) (HIX6.out.under Hlb.out) (HXN.out.under Hlb.out)).mono ?_
          rintro e wk2 ⟨rfl, hbk2⟩
          have Hlk2 : Hid (Below wN.heap.size wN wk2) := Hlb.out.trans (hbk2.mono Hlb.out.size)
          clear Hlb
          have Hlb : Hid (Below wN.heap.size wN wk2) := Hlk2.out
          clear Hlk2 hbk2
          try go_wp2_with fail
          refine hK.out _ _ ?_ (fun hHeld_8 => ?_)
          · exact ⟨(Hlb.out.cell (p := ⟨B, 1, none⟩) (World.block_lt_of_cell? _ _ y1)).trans y1, (Hlb.out.cell (p := ⟨B, 3, none⟩) (World.block_lt_of_cell? _ _ y3)).trans y3, (Hlb.out.cell (p := ⟨BO, 0, none⟩) (World.block_lt_of_cell? _ _ yO5)).trans yO5, (Hlb.out.cell (p := ⟨B3, 0, none⟩) (World.block_lt_of_cell? _ _ y9)).trans y9⟩
          clear hK K
          try simp only [Act.put, List.setIfInBounds_toArray, List.set_cons_zero, List.set_cons_succ]
          refine wpAnyH_take (i := 9) (oi := { dst := some 165, op := Op.pick (Operand.tmp 160) (Operand.tmp 164) (Operand.const (Value.bool false)), type := 4, pos := "law.go:105", after := #[{ on := 4, ground := Ground.data }, { on := 8, ground := Ground.data }], guard := none }) (v := ?_) rfl (by kernel_rfl) (by kernel_rfl) (by kernel_rfl) (fun _ _ _ h => h) (Or.inl ⟨by rfl, ?_⟩) hHeld_8 ?_
          rotate_left
          · (intro w hSw; (try dsimp only at hSw); go_simp; try with_reducible rfl)
          try simp only [Act.put, List.setIfInBounds_toArray, List.set_cons_zero, List.set_cons_succ]
          refine wpAnyH_take (i := 10) (oi := { dst := some 166, op := Op.move (Operand.tmp 165), type := 4, pos := "law.go:105", after := #[{ on := 9, ground := Ground.data }, { on := 8, ground := Ground.chain }], guard := none }) (v := ?_) rfl (by kernel_rfl) (by kernel_rfl) (by kernel_rfl) (fun _ _ _ h => h) (Or.inl ⟨by rfl, ?_⟩) hHeld_8 ?_
          rotate_left
          · (intro w hSw; (try dsimp only at hSw); go_simp; try with_reducible rfl)
          try simp only [Act.put, List.setIfInBounds_toArray, List.set_cons_zero, List.set_cons_succ]
          refine wpAnyH_take (i := 11) (oi := { dst := some 167, op := Op.load 25 (Operand.tmp 22), type := 25, pos := "law.go:105", after := #[{ on := 10, ground := Ground.guard }], guard := some (10, true) }) (v := ?_) rfl (by kernel_rfl) (by kernel_rfl) (by kernel_rfl) (fun _ _ _ h => h) (Or.inl ⟨by rfl, ?_⟩) hHeld_8 ?_
          rotate_left
          · (intro w hSw; (try dsimp only at hSw); go_simp; try with_reducible rfl)
          try simp only [Act.put, List.setIfInBounds_toArray, List.set_cons_zero, List.set_cons_succ]
          refine wpAnyH_take (i := 13) (oi := { dst := some 169, op := Op.load 50 (Operand.tmp 3), type := 50, pos := "law.go:105", after := #[{ on := 10, ground := Ground.guard }], guard := some (10, true) }) (v := ?_) rfl (by kernel_rfl) (by kernel_rfl) (by kernel_rfl) (fun _ _ _ h => h) (Or.inl ⟨by rfl, ?_⟩) hHeld_8 ?_
          rotate_left
          · (intro w hSw; (try dsimp only at hSw); go_simp; try with_reducible rfl)
          try simp only [Act.put, List.setIfInBounds_toArray, List.set_cons_zero, List.set_cons_succ]
          refine wpAnyH_take (i := 14) (oi := { dst := some 170, op := Op.fieldAddr 55 (Operand.tmp 1) 3, type := 0, pos := "law.go:105", after := #[{ on := 10, ground := Ground.guard }], guard := some (10, true) }) (v := ?_) rfl (by kernel_rfl) (by kernel_rfl) (by kernel_rfl) (fun _ _ _ h => h) (Or.inl ⟨by rfl, ?_⟩) hHeld_8 ?_
          rotate_left
          · (intro w hSw; (try dsimp only at hSw); go_simp; try with_reducible rfl)
          try simp only [Act.put, List.setIfInBounds_toArray, List.set_cons_zero, List.set_cons_succ]
          refine wpAnyH_take (i := 15) (oi := { dst := some 171, op := Op.load 29 (Operand.tmp 170), type := 29, pos := "law.go:105", after := #[{ on := 14, ground := Ground.data }, { on := 10, ground := Ground.guard }], guard := some (10, true) }) (v := ?_) rfl (by kernel_rfl) (by kernel_rfl) (by kernel_rfl) (fun _ _ _ h => h) (Or.inl ⟨by rfl, ?_⟩) hHeld_8 ?_
          rotate_left
          · (intro w hSw; (try dsimp only at hSw); go_simp; try with_reducible rfl)
          try simp only [Act.put, List.setIfInBounds_toArray, List.set_cons_zero, List.set_cons_succ]
          refine wpAnyH_ready (rs := [12]) (by kernel_rfl) (by simp) ?_
          refine AllReadyH.cons (o := { dst := some 168, op := Op.call { callee := Callee.value (Operand.func 19), args := #[Operand.tmp 167], argTypes := #[25] }, type := 23, pos := "law.go:105", after := #[{ on := 11, ground := Ground.data }, { on := 10, ground := Ground.chain }, { on := 10, ground := Ground.guard }], guard := some (10, true) }) rfl (fun K hK => ?_) AllReadyH.nil
          go_simp
          go_at_call 19
          refine (binds_any _ aO ko cO (onlyOf sl xl) (by omega) HBo.out (HOn5.out.under Hlb.out).binds).mono ?_
          rintro e wb3 ⟨vb3, rfl, vsb3, hob3, hOb3, hbb3⟩
          obtain ⟨ab3, cb3, rfl, _, hrb3, _⟩ := own_row hob3
          have Rb3 : Hid (RowAt wb3 ab3 (rowB vsb3)) := hrb3
          have Mb3 : Hid (Matches wb3 vsb3 (onlyOf sl xl)) := hOb3.matches
          have Hn3 : Hid (Below _ _ wb3) := hbb3
          have Hlb3 : Hid (Below wN.heap.size wN wb3) := Hlb.out.trans (hbb3.mono Hlb.out.size)
          clear Hlb
          have Hlb : Hid (Below wN.heap.size wN wb3) := Hlb3.out
          clear Hlb3 hbb3 hob3 hOb3 hrb3
          try go_wp2_with fail
          refine hK.out _ _ ?_ (fun hHeld_12 => ?_)
          · exact ⟨(Hlb.out.cell (p := ⟨B, 1, none⟩) (World.block_lt_of_cell? _ _ y1)).trans y1, (Hlb.out.cell (p := ⟨B, 3, none⟩) (World.block_lt_of_cell? _ _ y3)).trans y3, (Hlb.out.cell (p := ⟨BO, 0, none⟩) (World.block_lt_of_cell? _ _ yO5)).trans yO5, (Hlb.out.cell (p := ⟨B3, 0, none⟩) (World.block_lt_of_cell? _ _ y9)).trans y9⟩
          clear hK K
          try simp only [Act.put, List.setIfInBounds_toArray, List.set_cons_zero, List.set_cons_succ]
          refine wpAnyH_ready (rs := [16]) (by kernel_rfl) (by simp) ?_
          refine AllReadyH.cons (o := { dst := some 172, op := Op.call { callee := Callee.value (Operand.func 35), args := #[Operand.tmp 169, Operand.tmp 171], argTypes := #[50, 29] }, type := 50, pos := "law.go:105", after := #[{ on := 13, ground := Ground.data }, { on := 15, ground := Ground.data }, { on := 12, ground := Ground.chain }, { on := 10, ground := Ground.guard }], guard := some (10, true) }) rfl (fun K hK => ?_) AllReadyH.nil
          go_simp
          go_at_call 35
          refine (ronly_any _ a3 kr c3 (res bl) ax nx cx xl (by omega) (HUN.out.under Hlb.out) HBr.out HLX.out hnx (HXN.out.under Hlb.out)).mono ?_
          rintro e wr9 ⟨hbr9, ar9, cr9, rfl, hrr9⟩
          rw [Hkor.out] at hrr9
          rw [Hkor.out]
          have HR9 : Hid (RefAt wr9 ar9 ko (onlyOf (res bl) xl)) := hrr9
          have Hn9 : Hid (Below _ _ wr9) := hbr9
          have Rb3b : Hid (RowAt wr9 ab3 (rowB vsb3)) := Rb3.out.under Hn9.out
          have Mb3b : Hid (Matches wr9 vsb3 (onlyOf sl xl)) := Mb3.out.under Hn9.out
          have Hlr9 : Hid (Below wN.heap.size wN wr9) := Hlb.out.trans (hbr9.mono Hlb.out.size)
          clear Hlb Rb3 Mb3 Hn9 Hn3 hbr9 hrr9
          have Hlb : Hid (Below wN.heap.size wN wr9) := Hlr9.out
          clear Hlr9
          try go_wp2_with fail
          refine hK.out _ _ ?_ (fun hHeld_16 => ?_)
          · exact ⟨(Hlb.out.cell (p := ⟨B, 1, none⟩) (World.block_lt_of_cell? _ _ y1)).trans y1, (Hlb.out.cell (p := ⟨B, 3, none⟩) (World.block_lt_of_cell? _ _ y3)).trans y3, (Hlb.out.cell (p := ⟨BO, 0, none⟩) (World.block_lt_of_cell? _ _ yO5)).trans yO5, (Hlb.out.cell (p := ⟨B3, 0, none⟩) (World.block_lt_of_cell? _ _ y9)).trans y9⟩
          clear hK K
          try simp only [Act.put, List.setIfInBounds_toArray, List.set_cons_zero, List.set_cons_succ]
          refine wpAnyH_ready (rs := [17]) (by kernel_rfl) (by simp) ?_
          refine AllReadyH.cons (o := { dst := some 173, op := Op.call { callee := Callee.value (Operand.func 22), args := #[Operand.tmp 172], argTypes := #[50] }, type := 23, pos := "law.go:105", after := #[{ on := 16, ground := Ground.data }, { on := 16, ground := Ground.chain }, { on := 10, ground := Ground.guard }], guard := some (10, true) }) rfl (fun K hK => ?_) AllReadyH.nil
          go_simp
          go_at_call 22
          refine (rbinds_any wr9 ar9 ko cr9 (onlyOf (res bl) xl) (by omega) HBo2.out HR9.out).mono ?_
          rintro e wb4 ⟨vb4, rfl, vsb4, ss4, hpr4, hri4, hob4, hOb4, hbb4⟩
          have hss4 : ss4 = onlyOf sl xl := rises_eq hri4 HOn5.out.rises (hpr4.trans HPo.out.symm)
          rw [hss4] at hOb4
          obtain ⟨ab4, cb4, rfl, _, hrb4, _⟩ := own_row hob4
          have Rb4 : Hid (RowAt wb4 ab4 (rowB vsb4)) := hrb4
          have Mb4 : Hid (Matches wb4 vsb4 (onlyOf sl xl)) := hOb4.matches
          have Rb3 : Hid (RowAt wb4 ab3 (rowB vsb3)) := Rb3b.out.under hbb4
          have Mb3 : Hid (Matches wb4 vsb3 (onlyOf sl xl)) := Mb3b.out.under hbb4
          have Hlb4 : Hid (Below wN.heap.size wN wb4) := Hlb.out.trans (hbb4.mono Hlb.out.size)
          clear Hlb
          have Hlb : Hid (Below wN.heap.size wN wb4) := Hlb4.out
          clear Hlb4 hbb4 hob4 hOb4 hrb4 hpr4 hri4 hss4 Rb3b Mb3b HR9
          try go_wp2_with fail
          refine hK.out _ _ ?_ (fun hHeld_17 => ?_)
          · exact ⟨(Hlb.out.cell (p := ⟨B, 1, none⟩) (World.block_lt_of_cell? _ _ y1)).trans y1, (Hlb.out.cell (p := ⟨B, 3, none⟩) (World.block_lt_of_cell? _ _ y3)).trans y3, (Hlb.out.cell (p := ⟨BO, 0, none⟩) (World.block_lt_of_cell? _ _ yO5)).trans yO5, (Hlb.out.cell (p := ⟨B3, 0, none⟩) (World.block_lt_of_cell? _ _ y9)).trans y9⟩
          clear hK K
          try simp only [Act.put, List.setIfInBounds_toArray, List.set_cons_zero, List.set_cons_succ]
          refine wpAnyH_ready (rs := [18]) (by kernel_rfl) (by simp) ?_
          refine AllReadyH.cons (o := { dst := some 174, op := Op.call { callee := Callee.value (Operand.func 18), args := #[Operand.tmp 168, Operand.tmp 173], argTypes := #[23, 23] }, type := 4, pos := "law.go:105", after := #[{ on := 12, ground := Ground.data }, { on := 17, ground := Ground.data }, { on := 17, ground := Ground.chain }, { on := 10, ground := Ground.guard }], guard := some (10, true) }) rfl (fun K hK => ?_) AllReadyH.nil
          go_simp
          go_at_call 18
          refine (sameb_eq wb4 ab3 ab4 cb3 cb4 ko (onlyOf sl xl) vsb3 vsb4 Hko.out.symm (by omega) (fun p hp => by have := HBo.out p hp; omega) Rb3.out Mb3.out Rb4.out Mb4.out).mono ?_
          rintro e ws9 ⟨rfl, hbs9⟩
          have Hls9 : Hid (Below wN.heap.size wN ws9) := Hlb.out.trans (hbs9.mono Hlb.out.size)
          clear Hlb
          have Hlb : Hid (Below wN.heap.size wN ws9) := Hls9.out
          clear Hls9 hbs9 Rb3 Mb3 Rb4 Mb4
          try go_wp2_with fail
          refine hK.out _ _ ?_ (fun hHeld_18 => ?_)
          · exact ⟨(Hlb.out.cell (p := ⟨B, 1, none⟩) (World.block_lt_of_cell? _ _ y1)).trans y1, (Hlb.out.cell (p := ⟨B, 3, none⟩) (World.block_lt_of_cell? _ _ y3)).trans y3, (Hlb.out.cell (p := ⟨BO, 0, none⟩) (World.block_lt_of_cell? _ _ yO5)).trans yO5, (Hlb.out.cell (p := ⟨B3, 0, none⟩) (World.block_lt_of_cell? _ _ y9)).trans y9⟩
          clear hK K
          try simp only [Act.put, List.setIfInBounds_toArray, List.set_cons_zero, List.set_cons_succ]
          refine wpAnyH_take (i := 19) (oi := { dst := some 175, op := Op.pick (Operand.tmp 166) (Operand.tmp 174) (Operand.const (Value.bool false)), type := 4, pos := "law.go:105", after := #[{ on := 10, ground := Ground.data }, { on := 18, ground := Ground.data }], guard := none }) (v := ?_) rfl (by kernel_rfl) (by kernel_rfl) (by kernel_rfl) (fun _ _ _ h => h) (Or.inl ⟨by rfl, ?_⟩) hHeld_18 ?_
          rotate_left
          · (intro w hSw; (try dsimp only at hSw); go_simp; try with_reducible rfl)
          try simp only [Act.put, List.setIfInBounds_toArray, List.set_cons_zero, List.set_cons_succ]
          refine wpAnyH_take (i := 20) (oi := { dst := some 2, op := Op.assign (Operand.tmp 175), type := 4, pos := "law.go:105", after := #[{ on := 19, ground := Ground.data }, { on := 18, ground := Ground.chain }, { on := 0, ground := Ground.phase }, { on := 1, ground := Ground.phase }, { on := 2, ground := Ground.phase }, { on := 3, ground := Ground.phase }, { on := 4, ground := Ground.phase }, { on := 5, ground := Ground.phase }, { on := 6, ground := Ground.phase }, { on := 7, ground := Ground.phase }, { on := 8, ground := Ground.phase }, { on := 9, ground := Ground.phase }, { on := 10, ground := Ground.phase }, { on := 11, ground := Ground.phase }, { on := 12, ground := Ground.phase }, { on := 13, ground := Ground.phase }, { on := 14, ground := Ground.phase }, { on := 15, ground := Ground.phase }, { on := 16, ground := Ground.phase }, { on := 17, ground := Ground.phase }, { on := 18, ground := Ground.phase }, { on := 19, ground := Ground.phase }], guard := none }) (v := ?_) rfl (by kernel_rfl) (by kernel_rfl) (by kernel_rfl) (fun _ _ _ h => h) (Or.inl ⟨by rfl, ?_⟩) hHeld_18 ?_
          rotate_left
          · (intro w hSw; (try dsimp only at hSw); go_simp; try with_reducible rfl)
          try simp only [Act.put, List.setIfInBounds_toArray, List.set_cons_zero, List.set_cons_succ]
          refine wpAnyH_done (by kernel_rfl) ?_ _
          have HEnd : Hid (Below w.heap.size w ws9) := HBF.out.trans ((H23.out.trans (Hlb.out.mono H23.out.size)).mono HBF.out.size)
          go_wp2
          go_ret
          exact ⟨rfl, HEnd.out⟩
end Go.Proofs.Yteiaobeklahifaa
