/- The walk of the law that every word stands where it says. -/
import Derived.Test.YtipfhfeaalbmcaaDoorAllT
namespace Go.Proofs.YtipfhfeaalbmcaaDoor
open Go.RowKit

def aliveS : ByteArray := ⟨#[36, 99, 32, 97, 32, 36, 46, 32, 98]⟩
theorem alive_read : (readF aliveS).1.l.length = 1 := by kernel_rfl
theorem alive_fault : (readF aliveS).2.map (·.2) = some 63 := by kernel_rfl
theorem rowS_at {its : List Itm} : ∀ (i j : Nat) (x : Itm), its[i]? = some x → j < 16 → (rowS its)[i * 16 + j]? = (itmS x)[j]? := by
  induction its with
  | nil => intro i j x h; simp at h
  | cons y r ih =>
    intro i j x h hj
    have e : rowS (y :: r) = (itmS y).toList ++ rowS r := rfl
    have hl : (itmS y).toList.length = 16 := rfl
    cases i with
    | zero =>
      simp at h
      subst h
      rw [e, Nat.zero_mul, Nat.zero_add, List.getElem?_append_left (by omega)]
      simp
    | succ i =>
      rw [e, List.getElem?_append_right (by omega), hl, show (i + 1) * 16 + j - 16 = i * 16 + j by omega]
      exact ih i j x (by simpa using h) hj
/-- The cells of one of the statements that were told. -/
def CellsS (W : World) (g i : Nat) (x : Itm) : Prop :=
  W.cell? ⟨g, i * 16, none⟩ = some (.int .i64 x.s.kind) ∧ W.cell? ⟨g, i * 16 + 1, none⟩ = some (.string x.s.label.text) ∧ W.cell? ⟨g, i * 16 + 2, none⟩ = some (.int .i64 x.s.label.off) ∧ W.cell? ⟨g, i * 16 + 3, none⟩ = some (.int .i64 x.s.label.line) ∧ W.cell? ⟨g, i * 16 + 4, none⟩ = some (.int .i64 x.s.label.col) ∧
  W.cell? ⟨g, i * 16 + 5, none⟩ = some (.string x.s.key.text) ∧ W.cell? ⟨g, i * 16 + 6, none⟩ = some (.int .i64 x.s.key.off) ∧ W.cell? ⟨g, i * 16 + 7, none⟩ = some (.int .i64 x.s.key.line) ∧ W.cell? ⟨g, i * 16 + 8, none⟩ = some (.int .i64 x.s.key.col) ∧ W.cell? ⟨g, i * 16 + 9, none⟩ = some (.bool x.s.proving) ∧
  W.cell? ⟨g, i * 16 + 10, none⟩ = some x.vw ∧ W.cell? ⟨g, i * 16 + 11, none⟩ = some x.vp ∧ W.cell? ⟨g, i * 16 + 12, none⟩ = some (.string x.s.fin.text) ∧ W.cell? ⟨g, i * 16 + 13, none⟩ = some (.int .i64 x.s.fin.off) ∧ W.cell? ⟨g, i * 16 + 14, none⟩ = some (.int .i64 x.s.fin.line) ∧ W.cell? ⟨g, i * 16 + 15, none⟩ = some (.int .i64 x.s.fin.col)
theorem cellsS_of {W : World} {base n : Nat} {v : Value} {its : List Itm} (h : W.ownsRow base 36 16 v n (rowS its)) : ∃ a c, v = .slice a n c ∧ ∀ i x, its[i]? = some x → ∃ g, a = some ⟨g, 0, none⟩ ∧ g < W.heap.size ∧ CellsS W g i x := by
  obtain ⟨a, c, e, _, hc⟩ := M.own_cell h
  refine ⟨a, c, e, fun i x hx => ?_⟩
  have k : ∀ j u, j < 16 → (itmS x)[j]? = some u → ∃ g, a = some ⟨g, 0, none⟩ ∧ W.cell? ⟨g, i * 16 + j, none⟩ = some u := fun j u hj hu => hc _ _ (by rw [rowS_at i j x hx hj]; exact hu)
  obtain ⟨g, ea, h0⟩ := k 0 _ (by omega) rfl
  have k' : ∀ j u, j < 16 → (itmS x)[j]? = some u → W.cell? ⟨g, i * 16 + j, none⟩ = some u := fun j u hj hu => by
    obtain ⟨g', ea', h'⟩ := k j u hj hu
    rw [ea] at ea'
    cases ea'
    exact h'
  exact ⟨g, ea, World.block_lt_of_cell? _ _ h0, h0, k' 1 _ (by omega) rfl, k' 2 _ (by omega) rfl, k' 3 _ (by omega) rfl, k' 4 _ (by omega) rfl, k' 5 _ (by omega) rfl, k' 6 _ (by omega) rfl, k' 7 _ (by omega) rfl, k' 8 _ (by omega) rfl, k' 9 _ (by omega) rfl, k' 10 _ (by omega) rfl, k' 11 _ (by omega) rfl, k' 12 _ (by omega) rfl, k' 13 _ (by omega) rfl, k' 14 _ (by omega) rfl, k' 15 _ (by omega) rfl⟩
theorem CellsS.under {W W' : World} {g i : Nat} {x : Itm} (h : CellsS W g i x) (hg : g < W.heap.size) (hb : Below W.heap.size W W') : CellsS W' g i x := by
  have o : ∀ j, W'.cell? ⟨g, j, none⟩ = W.cell? ⟨g, j, none⟩ := fun j => hb.cell (p := ⟨g, j, none⟩) hg
  unfold CellsS at h ⊢
  simp only [o]
  exact h
/-- What the law asks of the statements and of the fault. -/
structure PlOk (s : ByteArray) (E : Nat) (its : List Itm) (f : Option (Tok × Int)) : Prop where
  ch : Chn s E 0 ((its.map (·.s)).flatMap allT)
  fk : ∀ x ∈ its, x.s.fin = x.s.key ∨ x.s.fin.text ≠ x.s.key.text
  fin : ∀ i x, its[i]? = some x → emp x.s.fin = true → f ≠ none ∧ i + 1 = its.length
  ft : ∀ t c, f = some (t, c) → c ≠ 0 ∧ ∃ n : Nat, t.off = n ∧ E ≤ n ∧ n + t.text.size ≤ s.size ∧ s.extract n (n + t.text.size) = t.text
theorem plOk_of {w w' : World} {v fv : Value} {its : List Itm} {s : ByteArray} (h : ReadIs w w' v fv its (readF s).1 (readF s).2) : ∃ E, PlOk s E its (readF s).2 := by
  obtain ⟨E, h1, h2, h3, h4, h5⟩ := read_places s
  have hl := h.l
  rw [← hl] at h1 h2 h3 h4
  refine ⟨E, h1, fun x hx => h2 _ (List.mem_map_of_mem hx), fun i x hx he => ⟨fun hn => ?_, ?_⟩, h5⟩
  · have := h4 hn _ (List.mem_map_of_mem (List.mem_of_getElem? hx))
    rw [he] at this
    cases this
  · have hlt := (List.getElem?_eq_some_iff.1 hx).1
    rcases Nat.lt_or_ge (i + 1) its.length with hc | hc
    · have hm : x.s ∈ (its.map (·.s)).dropLast := by
        rw [List.dropLast_eq_take, List.length_map]
        refine List.mem_of_getElem? (i := i) ?_
        rw [List.getElem?_take, if_pos (by omega), List.getElem?_map, hx]
        rfl
      have := h3 _ hm
      rw [he] at this
      cases this
    · omega
theorem chn_drop {l : List Itm} {i : Nat} {x : Itm} (h : l[i]? = some x) : ((l.drop i).map (·.s)).flatMap allT = allT x.s ++ ((l.drop (i + 1)).map (·.s)).flatMap allT := by
  rw [List.drop_eq_getElem_cons (List.getElem?_eq_some_iff.1 h).1, (List.getElem?_eq_some_iff.1 h).2]
  simp
theorem ext_size {s : ByteArray} {n m : Nat} (h1 : n < m) (h2 : m ≤ s.size) : (s.extract n m).size = m - n := by rw [ByteArray.size_extract]; omega
theorem txt_eq {a b : ByteArray} (h : a = b) : (a.toList == b.toList) = true := by rw [h]; simp

set_option maxRecDepth 100000 in
set_option maxHeartbeats 32000000 in
theorem places_walk (s : ByteArray) (w : World) (hs : s.size ≤ 140737488355328) (hT : RdW w) :
    Calls Tryd.prog 3 #[.string s] w fun e w' => e = .returned (.bool true) ∧ Below w.heap.size w w' := by
  have RA : Hid _ := read_any w aliveS (by decide) hT
  have HT : Hid (RdW w) := hT
  have HSz : Hid (s.size ≤ 140737488355328) := hs
  clear hT
  go_enter Tryd.func3, Tryd.ntmps3
  go_wp2_with fail
  refine Calls.mono RA.out ?_
  rintro e w1 ⟨v, fv, its, rfl, hr⟩
  have hB1 := hr.bel
  have hln : its.length = 1 := by have h := congrArg List.length hr.l; rw [List.length_map, alive_read] at h; exact h
  obtain ⟨av, cv, hv, _⟩ := own_shape hr.own
  rw [hln] at hv
  subst hv
  have hft := hr.ft
  have haf := alive_fault
  generalize (readF aliveS).2 = f at hft haf
  cases f with
  | none => cases haf
  | some f =>
    simp only [Option.map_some, Option.some.injEq] at haf
    obtain ⟨Bf, rfl, hBf, hK⟩ := hft
    rw [haf] at hK
    have y4 : w1.cell? ⟨Bf, 4, none⟩ = some (.int .i64 63) := M.cell_whole hK 4
    have HB1 : Hid (Below w.heap.size w w1) := hB1
    have RB : Hid _ := read_any w1 s HSz.out (HT.out.under hB1)
    clear RA hr haf hK hBf hln hB1
    go_wp2_with fail
    refine Calls.mono RB.out ?_
    rintro e w2 ⟨v, fv, its, rfl, hr⟩
    obtain ⟨E, hPl⟩ := plOk_of hr
    obtain ⟨n, hn⟩ : ∃ n, its.length = n := ⟨_, rfl⟩
    have hown := hr.own
    rw [hn] at hown
    obtain ⟨av2, cv2, hv2, hcel⟩ := cellsS_of hown
    subst hv2
    have HB2 : Hid (Below w.heap.size w w2) := HB1.out.trans (hr.bel.mono HB1.out.size)
    have HPl : Hid (PlOk s E its (readF s).2) := hPl
    have HL : Hid (its.length = n) := hn
    have HCel : Hid (∀ i x, its[i]? = some x → ∃ g, av2 = some ⟨g, 0, none⟩ ∧ g < w2.heap.size ∧ CellsS w2 g i x) := hcel
    have HAll : Hid (∀ x ∈ its, ItmAt w2 w1.heap.size x) := hr.all
    have hn6 : n ≤ 16384 := by have h := congrArg List.length hr.l; rw [List.length_map, hn] at h; have := (read_small s).1; omega
    have HSm : Hid (∀ x ∈ its, SmallS x.s 16384) := fun x hx => (read_small s).2 _ (by rw [← hr.l]; exact List.mem_map_of_mem hx)
    have HFt : Hid _ := hr.ft
    clear RB hr hPl hown hcel hn y4
    cases hf : (readF s).2 with
    | none =>
      have hfv := HFt.out
      rw [hf] at hfv HPl
      subst hfv
      clear HFt hf
      go_wp2_with fail
      go_loopw [7, 8] (fun v7 v8 wx => ∃ (i p : Nat), i ≤ n ∧ v8 = .int .i64 i ∧ v7 = .int .i64 p ∧ Hid (Chn s E p (((its.drop i).map (·.s)).flatMap allT)) ∧ Hid (Below w2.heap.size w2 wx)) (fun _ v8 _ => n - (intOf v8).toNat)
      case atStart => exact ⟨0, 0, Nat.zero_le _, rfl, rfl, HPl.out.ch, Below.refl _ _⟩
      case round =>
        obtain ⟨i, p, hi, rfl, rfl, hC, hB⟩ := hrel
        have HBr : Hid (Below w.heap.size w wr) := HB2.out.trans (hB.out.mono HB2.out.size)
        by_cases hlt : i < n
        · have n1 : (i : Int) < (n : Int) := by omega
          obtain ⟨x, hx⟩ : ∃ x, its[i]? = some x := ⟨its[i]'(by rw [HL.out]; exact hlt), List.getElem?_eq_getElem _⟩
          have hxm := List.mem_of_getElem? hx
          obtain ⟨g, rfl, hg, hcs⟩ := HCel.out i x hx
          obtain ⟨z0, z1, z2, z3, z4, z5, z6, z7, z8, z9, z10, z11, z12, z13, z14, z15⟩ := hcs.under hg hB.out
          have hIx := (HAll.out x hxm).under hB.out
          obtain ⟨aw, cw, ew, _, hTw⟩ := own_toks hIx.ow
          obtain ⟨ap, cp, ep, _, hTp⟩ := own_toks hIx.op
          obtain ⟨nw, hnw⟩ : ∃ nw, x.s.words.length = nw := ⟨_, rfl⟩
          obtain ⟨np, hnp⟩ : ∃ np, x.s.proof.length = np := ⟨_, rfl⟩
          rw [ew, hnw] at z10
          rw [ep, hnp] at z11
          have hsm := HSm.out x hxm
          have hnw6 : nw ≤ 16384 := by rw [← hnw]; exact hsm.1
          have hnp6 : np ≤ 16384 := by rw [← hnp]; exact hsm.2
          have AL : Hid _ := allT_any wr x.s.kind x.s.label x.s.key x.s.fin x.s.proving x.s.words x.s.proof aw ap nw cw np cp hnw hnp (by omega) (by omega) hTw hTp (HPl.out.fk x hxm)
          have hCx := hC.out
          rw [chn_drop hx] at hCx
          obtain ⟨L, hL⟩ : ∃ L, allT x.s = L := ⟨_, rfl⟩
          obtain ⟨r, hr⟩ : ∃ r, ((its.drop (i + 1)).map (·.s)).flatMap allT = r := ⟨_, rfl⟩
          rw [hL, hr] at hCx
          have hL6 : L.length ≤ 65536 := by rw [← hL]; unfold allT; simp [hnw, hnp]; have h1 : (waitL x.s.label).length ≤ 1 := (by unfold waitL; split <;> simp); have h2 : (finL x.s).length ≤ 1 := (by unfold finL; split <;> simp); omega
          have HLe : Hid (allT ⟨x.s.kind, x.s.label, x.s.key, x.s.proving, x.s.words, x.s.proof, x.s.fin⟩ = L) := hL
          have HRe : Hid (((its.drop (i + 1)).map (·.s)).flatMap allT = r) := hr
          have HCx : Hid (Chn s E p (L ++ r)) := hCx
          have HX : Hid (its[i]? = some x) := hx
          have HG : Hid (g < w2.heap.size) := hg
          clear hx hcs hIx hTw hTp hnw hnp hCx hL hr hsm ew ep hxm
          rw [HLe.out] at AL
          go_wp2_with fail
          refine Calls.mono AL.out ?_
          rintro e w3 ⟨a3, m, c3, rfl, hm, ho3, hb3⟩
          have HB3 : Hid (Below wr.heap.size wr w3) := hb3
          obtain ⟨a3', c3', e3, _, hT3⟩ := own_toks ho3
          cases e3
          have HT3 : Hid (ToksAt w3 a3 L) := hT3
          have HM : Hid (m = L.length) := hm
          have HB23 : Hid (Below w2.heap.size w2 w3) := hB.out.trans (hb3.mono hB.out.size)
          have HBw3 : Hid (Below w.heap.size w w3) := HB2.out.trans (HB23.out.mono HB2.out.size)
          have hm6 : m ≤ 65536 := by omega
          clear AL hm ho3 hb3 hT3 z0 z1 z2 z3 z4 z5 z6 z7 z8 z9 z10 z11 z12 z13 z14 z15 hC
          go_wp2_with fail
          go_loopw [7, 10] (fun v7 v10 wx => ∃ (k q : Nat), k ≤ m ∧ v10 = .int .i64 k ∧ v7 = .int .i64 q ∧ Hid (Chn s E q (L.drop k ++ r)) ∧ Hid (Below w3.heap.size w3 wx)) (fun _ v10 _ => m - (intOf v10).toNat)
          case atStart => exact ⟨0, p, Nat.zero_le _, rfl, rfl, HCx.out, Below.refl _ _⟩
          case round =>
            obtain ⟨k, q, hk, rfl, rfl, hC, hB⟩ := hrel
            by_cases hltk : k < m
            · have n2 : (k : Int) < (m : Int) := by omega
              obtain ⟨t, ht⟩ : ∃ t, L[k]? = some t := ⟨L[k]'(by rw [← HM.out]; exact hltk), List.getElem?_eq_getElem _⟩
              obtain ⟨b4, o4, rfl, x0, x1, x2, x3⟩ := (HT3.out.under hB.out) k t ht
              have hC2 := hC.out
              rw [List.drop_eq_getElem_cons (List.getElem?_eq_some_iff.1 ht).1, (List.getElem?_eq_some_iff.1 ht).2, List.cons_append] at hC2
              obtain ⟨o, e, ho, hqo, hoe, hes, htx, hC3⟩ := hC2
              obtain ⟨z, hz⟩ : ∃ z, e = o + z := ⟨e - o, by omega⟩
              subst hz
              have htz : t.text.size = z := by rw [htx, ext_size (by omega) hes]; omega
              rw [ho] at x1
              have c1 : ((z : Int) == 0) = false := by simp; omega
              have c2 : ¬ (o : Int) < (q : Int) := by omega
              have c3 : ¬ (s.size : Int) < (o : Int) + (z : Int) := by omega
              have c4 : ((s.extract o (o + z)).toList == t.text.toList) = true := txt_eq htx.symm
              have c5 : (0 : Int) ≤ (o : Int) := by omega
              have c6 : (o : Int) + (z : Int) ≤ (s.size : Int) := by omega
              have HC3 : Hid (Chn s E (o + z) (L.drop (k + 1) ++ r)) := hC3
              obtain ⟨tx, htxx⟩ : ∃ tx, t.text = tx := ⟨_, rfl⟩
              rw [htxx] at x0 htz c4
              clear ht htx hC3 htxx hC ho
              go_upto_region 15 with fail
              go_quiet (fail)
              have Bq : Hid (Below w3.heap.size w3 (wr.drewN nq)) := below_drewN hB.out nq
              generalize wr.drewN nq = wq at *
              go_wp2
              exact ⟨⟨k + 1, o + z, by omega, by go_num, by go_num, HC3.out, Bq.out⟩, by simp [intOf]; omega⟩
            · have n2 : ¬ (k : Int) < (m : Int) := by omega
              obtain rfl : k = m := by omega
              have HC3 : Hid (Chn s E q r) := by have h := hC.out; rw [List.drop_of_length_le (by rw [HM.out]; exact Nat.le_refl _), List.nil_append] at h; exact h
              have HB4 : Hid (Below w2.heap.size w2 wr) := HB23.out.trans (hB.out.mono HB23.out.size)
              obtain ⟨g', eg, hg', hcs⟩ := HCel.out i x HX.out
              cases eg
              obtain ⟨_, _, _, _, _, _, _, _, _, _, _, _, z12, _, _, _⟩ := hcs.under hg' HB4.out
              have HC4 : Hid (Chn s E q (((its.drop (i + 1)).map (·.s)).flatMap allT)) := by show Chn _ _ _ _; rw [HRe.out]; exact HC3.out
              clear hcs hg' hC
              cases hfe : emp x.s.fin with
              | true => exact absurd rfl (HPl.out.fin i x HX.out hfe).1
              | false =>
                have c1 : x.s.fin.text.toList.isEmpty = false := hfe
                clear hfe
                go_wp2
                exact ⟨⟨i + 1, q, by omega, by go_num, rfl, HC4.out, HB4.out⟩, by simp [intOf]; omega⟩
        · have n1 : ¬ (i : Int) < (n : Int) := by omega
          obtain rfl : i = n := by omega
          have hpE := hC.out.le
          go_wp2
          go_ret
          exact ⟨rfl, HBr.out⟩
    | some f =>
      obtain ⟨ft, fc⟩ := f
      have hfv := HFt.out
      rw [hf] at hfv HPl
      obtain ⟨B3, rfl, _, hK3⟩ := hfv
      have HK3 : Hid (w2.heap[B3]? = some (.cells #[.int .i64 ft.off, .int .i64 ft.line, .int .i64 ft.col, .string ft.text, .int .i64 fc] 30 (0, 0))) := hK3
      clear HFt hf hK3
      go_wp2_with fail
      go_loopw [7, 8] (fun v7 v8 wx => ∃ (i p : Nat), i ≤ n ∧ v8 = .int .i64 i ∧ v7 = .int .i64 p ∧ Hid (Chn s E p (((its.drop i).map (·.s)).flatMap allT)) ∧ Hid (Below w2.heap.size w2 wx)) (fun _ v8 _ => n - (intOf v8).toNat)
      case atStart => exact ⟨0, 0, Nat.zero_le _, rfl, rfl, HPl.out.ch, Below.refl _ _⟩
      case round =>
        obtain ⟨i, p, hi, rfl, rfl, hC, hB⟩ := hrel
        have HBr : Hid (Below w.heap.size w wr) := HB2.out.trans (hB.out.mono HB2.out.size)
        by_cases hlt : i < n
        · have n1 : (i : Int) < (n : Int) := by omega
          obtain ⟨x, hx⟩ : ∃ x, its[i]? = some x := ⟨its[i]'(by rw [HL.out]; exact hlt), List.getElem?_eq_getElem _⟩
          have hxm := List.mem_of_getElem? hx
          obtain ⟨g, rfl, hg, hcs⟩ := HCel.out i x hx
          obtain ⟨z0, z1, z2, z3, z4, z5, z6, z7, z8, z9, z10, z11, z12, z13, z14, z15⟩ := hcs.under hg hB.out
          have hIx := (HAll.out x hxm).under hB.out
          obtain ⟨aw, cw, ew, _, hTw⟩ := own_toks hIx.ow
          obtain ⟨ap, cp, ep, _, hTp⟩ := own_toks hIx.op
          obtain ⟨nw, hnw⟩ : ∃ nw, x.s.words.length = nw := ⟨_, rfl⟩
          obtain ⟨np, hnp⟩ : ∃ np, x.s.proof.length = np := ⟨_, rfl⟩
          rw [ew, hnw] at z10
          rw [ep, hnp] at z11
          have hsm := HSm.out x hxm
          have hnw6 : nw ≤ 16384 := by rw [← hnw]; exact hsm.1
          have hnp6 : np ≤ 16384 := by rw [← hnp]; exact hsm.2
          have AL : Hid _ := allT_any wr x.s.kind x.s.label x.s.key x.s.fin x.s.proving x.s.words x.s.proof aw ap nw cw np cp hnw hnp (by omega) (by omega) hTw hTp (HPl.out.fk x hxm)
          have hCx := hC.out
          rw [chn_drop hx] at hCx
          obtain ⟨L, hL⟩ : ∃ L, allT x.s = L := ⟨_, rfl⟩
          obtain ⟨r, hr⟩ : ∃ r, ((its.drop (i + 1)).map (·.s)).flatMap allT = r := ⟨_, rfl⟩
          rw [hL, hr] at hCx
          have hL6 : L.length ≤ 65536 := by rw [← hL]; unfold allT; simp [hnw, hnp]; have h1 : (waitL x.s.label).length ≤ 1 := (by unfold waitL; split <;> simp); have h2 : (finL x.s).length ≤ 1 := (by unfold finL; split <;> simp); omega
          have HLe : Hid (allT ⟨x.s.kind, x.s.label, x.s.key, x.s.proving, x.s.words, x.s.proof, x.s.fin⟩ = L) := hL
          have HRe : Hid (((its.drop (i + 1)).map (·.s)).flatMap allT = r) := hr
          have HCx : Hid (Chn s E p (L ++ r)) := hCx
          have HX : Hid (its[i]? = some x) := hx
          have HG : Hid (g < w2.heap.size) := hg
          clear hx hcs hIx hTw hTp hnw hnp hCx hL hr hsm ew ep hxm
          rw [HLe.out] at AL
          go_wp2_with fail
          refine Calls.mono AL.out ?_
          rintro e w3 ⟨a3, m, c3, rfl, hm, ho3, hb3⟩
          have HB3 : Hid (Below wr.heap.size wr w3) := hb3
          obtain ⟨a3', c3', e3, _, hT3⟩ := own_toks ho3
          cases e3
          have HT3 : Hid (ToksAt w3 a3 L) := hT3
          have HM : Hid (m = L.length) := hm
          have HB23 : Hid (Below w2.heap.size w2 w3) := hB.out.trans (hb3.mono hB.out.size)
          have HBw3 : Hid (Below w.heap.size w w3) := HB2.out.trans (HB23.out.mono HB2.out.size)
          have hm6 : m ≤ 65536 := by omega
          clear AL hm ho3 hb3 hT3 z0 z1 z2 z3 z4 z5 z6 z7 z8 z9 z10 z11 z12 z13 z14 z15 hC
          go_wp2_with fail
          go_loopw [7, 10] (fun v7 v10 wx => ∃ (k q : Nat), k ≤ m ∧ v10 = .int .i64 k ∧ v7 = .int .i64 q ∧ Hid (Chn s E q (L.drop k ++ r)) ∧ Hid (Below w3.heap.size w3 wx)) (fun _ v10 _ => m - (intOf v10).toNat)
          case atStart => exact ⟨0, p, Nat.zero_le _, rfl, rfl, HCx.out, Below.refl _ _⟩
          case round =>
            obtain ⟨k, q, hk, rfl, rfl, hC, hB⟩ := hrel
            by_cases hltk : k < m
            · have n2 : (k : Int) < (m : Int) := by omega
              obtain ⟨t, ht⟩ : ∃ t, L[k]? = some t := ⟨L[k]'(by rw [← HM.out]; exact hltk), List.getElem?_eq_getElem _⟩
              obtain ⟨b4, o4, rfl, x0, x1, x2, x3⟩ := (HT3.out.under hB.out) k t ht
              have hC2 := hC.out
              rw [List.drop_eq_getElem_cons (List.getElem?_eq_some_iff.1 ht).1, (List.getElem?_eq_some_iff.1 ht).2, List.cons_append] at hC2
              obtain ⟨o, e, ho, hqo, hoe, hes, htx, hC3⟩ := hC2
              obtain ⟨z, hz⟩ : ∃ z, e = o + z := ⟨e - o, by omega⟩
              subst hz
              have htz : t.text.size = z := by rw [htx, ext_size (by omega) hes]; omega
              rw [ho] at x1
              have c1 : ((z : Int) == 0) = false := by simp; omega
              have c2 : ¬ (o : Int) < (q : Int) := by omega
              have c3 : ¬ (s.size : Int) < (o : Int) + (z : Int) := by omega
              have c4 : ((s.extract o (o + z)).toList == t.text.toList) = true := txt_eq htx.symm
              have c5 : (0 : Int) ≤ (o : Int) := by omega
              have c6 : (o : Int) + (z : Int) ≤ (s.size : Int) := by omega
              have HC3 : Hid (Chn s E (o + z) (L.drop (k + 1) ++ r)) := hC3
              obtain ⟨tx, htxx⟩ : ∃ tx, t.text = tx := ⟨_, rfl⟩
              rw [htxx] at x0 htz c4
              clear ht htx hC3 htxx hC ho
              go_upto_region 15 with fail
              go_quiet (fail)
              have Bq : Hid (Below w3.heap.size w3 (wr.drewN nq)) := below_drewN hB.out nq
              generalize wr.drewN nq = wq at *
              go_wp2
              exact ⟨⟨k + 1, o + z, by omega, by go_num, by go_num, HC3.out, Bq.out⟩, by simp [intOf]; omega⟩
            · have n2 : ¬ (k : Int) < (m : Int) := by omega
              obtain rfl : k = m := by omega
              have HC3 : Hid (Chn s E q r) := by have h := hC.out; rw [List.drop_of_length_le (by rw [HM.out]; exact Nat.le_refl _), List.nil_append] at h; exact h
              have HB4 : Hid (Below w2.heap.size w2 wr) := HB23.out.trans (hB.out.mono HB23.out.size)
              obtain ⟨g', eg, hg', hcs⟩ := HCel.out i x HX.out
              cases eg
              obtain ⟨_, _, _, _, _, _, _, _, _, _, _, _, z12, _, _, _⟩ := hcs.under hg' HB4.out
              have HC4 : Hid (Chn s E q (((its.drop (i + 1)).map (·.s)).flatMap allT)) := by show Chn _ _ _ _; rw [HRe.out]; exact HC3.out
              clear hcs hg' hC
              cases hfe : emp x.s.fin with
              | true =>
                have hin := (HPl.out.fin i x HX.out hfe).2
                rw [HL.out] at hin
                have c1 := emp_iff.1 hfe
                rw [c1] at z12
                have c2 : ((i : Int) + 1 == (n : Int)) = true := by simp; omega
                clear c1 hfe hin
                go_wp2
                exact ⟨⟨i + 1, q, by omega, by go_num, rfl, HC4.out, HB4.out⟩, by simp [intOf]; omega⟩
              | false =>
                have c1 : x.s.fin.text.toList.isEmpty = false := hfe
                clear hfe
                go_wp2
                exact ⟨⟨i + 1, q, by omega, by go_num, rfl, HC4.out, HB4.out⟩, by simp [intOf]; omega⟩
        · have n1 : ¬ (i : Int) < (n : Int) := by omega
          obtain rfl : i = n := by omega
          have hpE := hC.out.le
          obtain ⟨hfc, o, ho, hEo, hle, hex⟩ := HPl.out.ft ft fc rfl
          have K4 : Hid (wr.heap[B3]? = some (.cells #[.int .i64 ft.off, .int .i64 ft.line, .int .i64 ft.col, .string ft.text, .int .i64 fc] 30 (0, 0))) := (hB.out.block B3 (Array.getElem?_eq_some_iff.1 HK3.out).1).trans HK3.out
          obtain ⟨z, hz⟩ : ∃ z, ft.text.size = z := ⟨_, rfl⟩
          obtain ⟨tx, htx⟩ : ∃ tx, ft.text = tx := ⟨_, rfl⟩
          have y0 : wr.cell? ⟨B3, 0, none⟩ = some (.int .i64 o) := by rw [← ho]; exact M.cell_whole K4.out 0
          have y3 : wr.cell? ⟨B3, 3, none⟩ = some (.string tx) := by rw [← htx]; exact M.cell_whole K4.out 3
          have y4 : wr.cell? ⟨B3, 4, none⟩ = some (.int .i64 fc) := M.cell_whole K4.out 4
          rw [hz] at hle hex
          rw [htx] at hz hex
          have c1 : (fc == 0) = false := by simpa using hfc
          have c7 : (fc = 0) = False := by simpa using hfc
          have c2 : (p : Int) ≤ (o : Int) := by omega
          have c3 : (o : Int) + (z : Int) ≤ (s.size : Int) := by omega
          have c4 : ((s.extract o (o + z)).toList == tx.toList) = true := txt_eq hex
          have c5 : (0 : Int) ≤ (o : Int) := by omega
          have c8 : decide ((p : Int) ≤ (o : Int)) = true := decide_eq_true c2
          have c9 : decide ((o : Int) + (z : Int) ≤ (s.size : Int)) = true := decide_eq_true c3
          have cw : IntKind.i64.wrap ((o : Int) + (z : Int)) = (o : Int) + (z : Int) := by rw [IntKind.wrap_i64]; omega
          have c12 : (fc != 0) = true := by simpa using hfc
          clear hfc ho htx hex hC
          go_upto_region 23 with fail
          go_quiet (fail)
          have Bq : Hid (Below w.heap.size w (wr.drewN nq)) := below_drewN HBr.out nq
          generalize wr.drewN nq = wq at *
          go_wp2
          go_ret
          exact ⟨rfl, Bq.out⟩
end Go.Proofs.YtipfhfeaalbmcaaDoor
