/- variables: the variables of what stands for one, read once. -/
import Derived.Test.YtjaccgkeldabfaaGreatRMap
namespace Go.Proofs.YtjaccgkeldabfaaGreat
open Go.RowKit

set_option maxHeartbeats 1000000 in
theorem del_empty (w : World) (a : Option Addr) (c B : Nat) :
    Calls Tryz.prog 59 #[.slice a 0 c, .func (.func 60) #[] #[.pointer (some ⟨B, 0, none⟩)]] w fun e w' => e = .returned (.slice a 0 c) ∧ Below w.heap.size w w' := by
  have CI : Hid _ := idx60_any w a 0 c [] (fun _ => true) (.pointer (some ⟨B, 0, none⟩)) rfl (by omega) (fun i x hi => by simp at hi) fun W _ x hx => by simp at hx
  have HE : idxOf (fun _ => true) [] = -1 := rfl
  rw [HE] at CI
  clear HE
  go_enter Tryz.func59, Tryz.ntmps59
  go_wp2_with fail
  refine Calls.mono CI.out ?_
  rintro e w1 ⟨rfl, hb⟩
  have HB : Hid (Below w.heap.size w w1) := hb
  clear CI hb
  go_wp2
  go_ret
  exact ⟨rfl, HB.out⟩
/-- A reader as it is handed on. -/
def readerV (aS : Option Addr) (nS cS : Nat) (fv : Value) (b : Nat) : Value := .agg #[.slice aS nS cS, fv, .map (some b)]
/-- What a call of variables leaves. -/
def VarsIs (w w' : World) (e : Ending) (b kk : Nat) (bl : List (Int × List Int)) (p : Int → Bool) (K : List Int) (v : Int) : Prop := ∃ a c, e = .returned (.slice a (vL bl p v).length c) ∧ IntsAt w' a (vL bl p v) ∧ Rd w' b kk bl p K ∧ Turn b w w' ∧ Sub w w'
set_option maxRecDepth 100000 in
set_option maxHeartbeats 4000000 in
theorem variables_any (w : World) (b kk : Nat) (aS : Option Addr) (nS cS : Nat) (bl : List (Int × List Int)) (sl ss sh : Value) (m r v : Int) (K : List Int) (hvK : v ∈ K) (hKk : K.length ≤ kk) (hn : nS ≤ 4398046511000) (hbig : ∀ q ∈ bl, q.2.length ≤ 17592186043904) (hwb : ∀ q ∈ bl, ∀ x ∈ q.2, wfI x) (hv : wfI v) (hm : wfI m) (hk : kk < 4611686018427387904) (hS : S.BindsAt w aS nS bl) (hR : Rd w b kk bl (isV m r) K) :
    Calls Tryz.prog 34 #[readerV aS nS cS (fnV (carried sl ss sh m r)) b, .int .i64 v] w fun e w' => VarsIs w w' e b kk bl (isV m r) K v := by
  unfold readerV VarsIs
  obtain ⟨fv, hfv⟩ : ∃ fv, fv = fnV (carried sl ss sh m r) := ⟨_, rfl⟩
  have DEL : Hid (∀ (W : World) (g n c : Nat) (l : List Int), l.length = n → n ≤ 17592186043904 → n ≤ c → (∀ x ∈ l, wfI x) → W.cell? ⟨w.heap.size, 1, none⟩ = some fv → w.heap.size ≠ g → Mut W g l → Calls Tryz.prog 59 #[.slice (some ⟨g, 0, none⟩) n c, .func (.func 60) #[] #[.pointer (some ⟨w.heap.size, 0, none⟩)]] W fun e w' => e = .returned (.slice (some ⟨g, 0, none⟩) (l.filter (isV m r)).length c) ∧ IntsAt w' (some ⟨g, 0, none⟩) (l.filter (isV m r)) ∧ Turn g W w') := fun W g n c l h1 h2 h3 h4 h5 h6 h7 =>
    del_any W w.heap.size g n c l sl ss sh m r h1 h2 h3 h4 hm (by rw [h5, hfv]) h6 h7
  rw [← hfv]
  generalize isV m r = p at *
  obtain ⟨w1, hw1⟩ : ∃ w1, w1 = w.alloc (.cells #[.slice aS nS cS, fv, .map (some b)] 77) := ⟨_, rfl⟩
  have B1 : Hid (Below w.heap.size w w1) := by rw [hw1]; exact below_alloc _ _
  have HBs : Hid (w.heap.size < w1.heap.size) := by rw [hw1]; show _ < _; simp
  have KS : Hid (∀ w', Below w1.heap.size w1 w' → w'.cell? ⟨w.heap.size, 0, none⟩ = some (.slice aS nS cS) ∧ w'.cell? ⟨w.heap.size, 1, none⟩ = some fv ∧ w'.cell? ⟨w.heap.size, 2, none⟩ = some (.map (some b))) := fun w' h => by
    refine ⟨?_, ?_, ?_⟩ <;> (rw [World.cell?_of_block (a := ⟨w.heap.size, _, none⟩) (h.block w.heap.size HBs.out), hw1]; exact World.cell?_alloc_new w _ _ _)
  have STR : Hid ((strOf bl v).length ≤ 17592186043904) := str_len hbig v
  have STW : Hid (∀ x ∈ strOf bl v, wfI x) := str_wf hwb hv
  have R1 : Hid (Rd w1 b kk bl p K) := hR.kept (B1.out.block b hR.low) (sub_below B1.out)
  have OF : Hid _ := S.of_any w1 aS nS cS bl v hn hbig (hS.sub (sub_below B1.out))
  have NEXT : Hid (∀ w', Below w1.heap.size w1 w' → ∀ a c, IntsAt w' a (vL bl p v) → ∃ W', (Instr.mapUpdate 75 (.map (some b)) (.int .i64 v) (.slice a (vL bl p v).length c)).run Tryz.prog w' = .ok () W' ∧ Rd W' b kk bl p K ∧ Turn b w W' ∧ Sub w W' ∧ Sub w' W') := fun w' hb' a c hI => by
    have hbb : Below w.heap.size w w' := B1.out.trans (hb'.mono B1.out.size)
    obtain ⟨W', h1, h2, h3, h4⟩ := (hR.kept (hbb.block b hR.low) (sub_below hbb)).put (by unfold maxLen; omega) v hv hvK a c hI
    exact ⟨W', h1, h2.tight.up hKk, (Turn.of_below hbb).trans h3, (sub_below hbb).trans h4, h4⟩
  have HW : Hid (Turn b w w1 ∧ Sub w w1) := ⟨Turn.of_below B1.out, sub_below B1.out⟩
  obtain ⟨g, hg, hgl⟩ := R1.out
  have hlook := hg.look v hv
  obtain ⟨k0, k1, k2⟩ := KS.out w1 (Below.refl _ _)
  rcases hgv : g v with _ | u
  · rw [hgv] at hlook
    simp only [Option.getD_none, Option.isSome_none] at hlook
    rw [hw1] at hlook
    clear hg hgl hgv hR hS hbig hwb hv hm hfv R1 HW
    generalize hBr : w.heap.size = Br at *
    have HBr : Hid (w.heap.size = Br) := hBr
    clear hBr
    go_enter Tryz.func34, Tryz.ntmps34
    go_wp2_with fail
    rw [HBr.out]
    rw [← hw1]
    clear hw1
    refine Calls.mono OF.out ?_
    rintro e w2 ⟨hb2, v7, rfl, ho7⟩
    rcases hlk : S.look bl v with _ | ls
    · have hstr : strOf bl v = [v] := by unfold strOf; rw [hlk]; rfl
      clear OF hlook ho7 hlk k0 k1 k2
      obtain ⟨w2b, hw2b⟩ : ∃ w2b, w2b = w2.alloc (.cells #[.int .i64 v] 3) := ⟨_, rfl⟩
      have B2 : Hid (Below w1.heap.size w1 w2b) := by rw [hw2b]; exact hb2.alloc hb2.size _
      have hI7 : IntsAt w2b (some ⟨w2.heap.size, 0, none⟩) (strOf bl v) := by
        rw [hstr, hw2b]
        intro i x hi
        rcases i with _ | i
        · simp at hi
          subst hi
          exact ⟨_, 0, rfl, World.cell?_alloc_new w2 _ _ 0⟩
        · simp at hi
      have hl7 : (strOf bl v).length = 1 := by rw [hstr]; rfl
      clear hstr hb2
      have HI2 : Hid (IntsAt w2b (some ⟨w2.heap.size, 0, none⟩) (strOf bl v)) := hI7
      have HL7 : Hid ((strOf bl v).length = 1) := hl7
      have CO : Hid _ := once_own w2b (some ⟨w2.heap.size, 0, none⟩) 1 (strOf bl v) 1 HL7.out (by rw [← HL7.out]; exact STR.out) HI2.out
      clear hI7 hl7
      go_wp2_with fail
      rw [← hw2b]
      clear hw2b
      refine Calls.mono CO.out ?_
      rintro e w3 ⟨hb3, a2, c2, mm, rfl, hc2, hO, hd⟩
      have B3 : Hid (Below w1.heap.size w1 w3) := B2.out.trans (hb3.mono B2.out.size)
      have hmm : riseL (strOf bl v) = mm := (once_rise hO).symm
      subst hmm
      have k1b : w3.cell? ⟨Br, 1, none⟩ = some fv := (KS.out w3 B3.out).2.1
      rcases hd with he | ⟨g, rfl, hg, hM⟩
      · have HE : Hid (vL bl p v = []) := by show vL bl p v = []; unfold vL; rw [he]; rfl
        have C59 : Hid _ := del_empty w3 a2 c2 Br
        rw [he]
        clear CO hb3 hc2 hO he k1b
        simp only [List.length_nil]
        go_wp2_with fail
        refine Calls.mono C59.out ?_
        rintro e w4 ⟨rfl, hb4⟩
        have B4 : Hid (Below w1.heap.size w1 w4) := B3.out.trans (hb4.mono B3.out.size)
        obtain ⟨W', hrun, hRd, hT, hs, hs2⟩ := NEXT.out w4 B4.out a2 c2 (by rw [HE.out]; intro i x hi; simp at hi)
        rw [HE.out] at hrun
        simp only [List.length_nil] at hrun
        obtain ⟨k0, k1, k2⟩ := KS.out w4 B4.out
        have HZ : Hid (IntsAt W' a2 (vL bl p v) ∧ Rd W' b kk bl p K ∧ Turn b w W' ∧ Sub w W') := ⟨by rw [HE.out]; intro i x hi; simp at hi, hRd, hT, hs⟩
        clear C59 hb4 hRd hT hs hs2
        go_wp2
        go_ret
        exact ⟨a2, c2, by rw [HE.out]; rfl, HZ.out⟩
      · obtain ⟨rl, hrl⟩ : ∃ rl, riseL (strOf bl v) = rl := ⟨_, rfl⟩
        have HV : Hid (vL bl p v = rl.filter p) := by show _ = _; unfold vL; rw [hrl]
        have WR : Hid (∀ x ∈ rl, wfI x) := fun x hx => STW.out x ((rise_once _).mem x |>.1 (hrl ▸ hx))
        rw [hrl] at hM hc2 hO ⊢
        obtain ⟨nr, hnr⟩ : ∃ nr, rl.length = nr := ⟨_, rfl⟩
        have hBg : Br ≠ g := by have h1 := B2.out.size; have h2 := HBs.out; omega
        have C59 : Hid _ := DEL.out w3 g nr c2 rl hnr (by have := hO.len; have := STR.out; omega) (by omega) WR.out k1b hBg hM
        rw [hnr]
        clear CO hc2 hO hM hrl k1b
        go_wp2_with fail
        refine Calls.mono C59.out ?_
        rintro e w4 ⟨rfl, hI4, hT4⟩
        have B4 : Hid (Below w1.heap.size w1 w4) := B3.out.trans (hT4.below B3.out.size (by have := B2.out.size; omega))
        rw [← HV.out] at hI4 ⊢
        obtain ⟨W', hrun, hRd, hT, hs, hs2⟩ := NEXT.out w4 B4.out (some ⟨g, 0, none⟩) c2 hI4
        obtain ⟨k0, k1, k2⟩ := KS.out w4 B4.out
        have HZ : Hid (IntsAt W' (some ⟨g, 0, none⟩) (vL bl p v) ∧ Rd W' b kk bl p K ∧ Turn b w W' ∧ Sub w W') := ⟨hI4.sub hs2, hRd, hT, hs⟩
        obtain ⟨nv, hnv⟩ : ∃ nv, (vL bl p v).length = nv := ⟨_, rfl⟩
        have HNV : Hid ((vL bl p v).length = nv) := hnv
        rw [hnv] at hrun ⊢
        clear C59 hb3 hI4 hT4 hRd hT hs hs2 hnv hBg hnr
        go_wp2
        go_ret
        exact ⟨_, c2, by rw [HNV.out]; rfl, HZ.out⟩
    · have hstr : strOf bl v = ls := by unfold strOf; rw [hlk]; rfl
      rw [hlk] at ho7
      simp only [Option.getD_some, Option.isSome_some] at ho7 ⊢
      obtain ⟨a7, c7, rfl, hc7⟩ := own_shape ho7
      obtain ⟨_, _, e7, _, hr7, _⟩ := own_row ho7
      cases e7
      have hI7 : IntsAt w2 a7 (strOf bl v) := by rw [hstr]; exact hr7.ints
      obtain ⟨n7, hn7⟩ : ∃ n7, ls.length = n7 := ⟨_, rfl⟩
      have hl7 : (strOf bl v).length = n7 := by rw [hstr]; exact hn7
      have B2 : Hid (Below w1.heap.size w1 w2) := hb2
      rw [hn7]
      clear OF hlook ho7 hlk hr7 hstr hn7 hb2 k0 k1 k2 hc7
      have HI2 : Hid (IntsAt w2 a7 (strOf bl v)) := hI7
      have HL7 : Hid ((strOf bl v).length = n7) := hl7
      have CO : Hid _ := once_own w2 a7 c7 (strOf bl v) n7 HL7.out (by rw [← HL7.out]; exact STR.out) HI2.out
      clear hI7 hl7
      go_wp2_with fail
      refine Calls.mono CO.out ?_
      rintro e w3 ⟨hb3, a2, c2, mm, rfl, hc2, hO, hd⟩
      have B3 : Hid (Below w1.heap.size w1 w3) := B2.out.trans (hb3.mono B2.out.size)
      have hmm : riseL (strOf bl v) = mm := (once_rise hO).symm
      subst hmm
      have k1b : w3.cell? ⟨Br, 1, none⟩ = some fv := (KS.out w3 B3.out).2.1
      rcases hd with he | ⟨g, rfl, hg, hM⟩
      · have HE : Hid (vL bl p v = []) := by show vL bl p v = []; unfold vL; rw [he]; rfl
        have C59 : Hid _ := del_empty w3 a2 c2 Br
        rw [he]
        clear CO hb3 hc2 hO he k1b
        simp only [List.length_nil]
        go_wp2_with fail
        refine Calls.mono C59.out ?_
        rintro e w4 ⟨rfl, hb4⟩
        have B4 : Hid (Below w1.heap.size w1 w4) := B3.out.trans (hb4.mono B3.out.size)
        obtain ⟨W', hrun, hRd, hT, hs, hs2⟩ := NEXT.out w4 B4.out a2 c2 (by rw [HE.out]; intro i x hi; simp at hi)
        rw [HE.out] at hrun
        simp only [List.length_nil] at hrun
        obtain ⟨k0, k1, k2⟩ := KS.out w4 B4.out
        have HZ : Hid (IntsAt W' a2 (vL bl p v) ∧ Rd W' b kk bl p K ∧ Turn b w W' ∧ Sub w W') := ⟨by rw [HE.out]; intro i x hi; simp at hi, hRd, hT, hs⟩
        clear C59 hb4 hRd hT hs hs2
        go_wp2
        go_ret
        exact ⟨a2, c2, by rw [HE.out]; rfl, HZ.out⟩
      · obtain ⟨rl, hrl⟩ : ∃ rl, riseL (strOf bl v) = rl := ⟨_, rfl⟩
        have HV : Hid (vL bl p v = rl.filter p) := by show _ = _; unfold vL; rw [hrl]
        have WR : Hid (∀ x ∈ rl, wfI x) := fun x hx => STW.out x ((rise_once _).mem x |>.1 (hrl ▸ hx))
        rw [hrl] at hM hc2 hO ⊢
        obtain ⟨nr, hnr⟩ : ∃ nr, rl.length = nr := ⟨_, rfl⟩
        have hBg : Br ≠ g := by have h1 := B2.out.size; have h2 := HBs.out; omega
        have C59 : Hid _ := DEL.out w3 g nr c2 rl hnr (by have := hO.len; have := STR.out; omega) (by omega) WR.out k1b hBg hM
        rw [hnr]
        clear CO hc2 hO hM hrl k1b
        go_wp2_with fail
        refine Calls.mono C59.out ?_
        rintro e w4 ⟨rfl, hI4, hT4⟩
        have B4 : Hid (Below w1.heap.size w1 w4) := B3.out.trans (hT4.below B3.out.size (by have := B2.out.size; omega))
        rw [← HV.out] at hI4 ⊢
        obtain ⟨W', hrun, hRd, hT, hs, hs2⟩ := NEXT.out w4 B4.out (some ⟨g, 0, none⟩) c2 hI4
        obtain ⟨k0, k1, k2⟩ := KS.out w4 B4.out
        have HZ : Hid (IntsAt W' (some ⟨g, 0, none⟩) (vL bl p v) ∧ Rd W' b kk bl p K ∧ Turn b w W' ∧ Sub w W') := ⟨hI4.sub hs2, hRd, hT, hs⟩
        obtain ⟨nv, hnv⟩ : ∃ nv, (vL bl p v).length = nv := ⟨_, rfl⟩
        have HNV : Hid ((vL bl p v).length = nv) := hnv
        rw [hnv] at hrun ⊢
        clear C59 hb3 hI4 hT4 hRd hT hs hs2 hnv hBg hnr
        go_wp2
        go_ret
        exact ⟨_, c2, by rw [HNV.out]; rfl, HZ.out⟩
  · obtain ⟨_, a, c, rfl, hI⟩ := hgl v u hgv
    rw [hgv] at hlook
    simp only [Option.getD_some, Option.isSome_some] at hlook
    have HZ : Hid (IntsAt w1 a (vL bl p v) ∧ Rd w1 b kk bl p K ∧ Turn b w w1 ∧ Sub w w1) := ⟨hI, R1.out, HW.out⟩
    rw [hw1] at hlook k0 k1 k2 HZ
    obtain ⟨nv, hnv⟩ : ∃ nv, (vL bl p v).length = nv := ⟨_, rfl⟩
    have HNV : Hid ((vL bl p v).length = nv) := hnv
    rw [hnv] at hlook
    clear hg hgl hgv hR hS hbig hwb hv hm hfv R1 HW OF NEXT DEL KS HBs STR STW B1 hnv hI hw1
    go_enter Tryz.func34, Tryz.ntmps34
    go_wp2
    go_ret
    exact ⟨a, c, by rw [HNV.out]; rfl, HZ.out⟩
end Go.Proofs.YtjaccgkeldabfaaGreat
