/- What Decode answers. -/
import Derived.Test.YtffchjigpppoaaaDoorRead
namespace Go.Proofs.YtffchjigpppoaaaDoor
open Go.RowKit

/-- What words say: each code with its word; and which digits are there at the end. -/
def codesOf (a : Nat) : List Tok → List (Int × Tok)
  | [] => []
  | t :: r => toldBy t (numsOf a t.bytes) ++ codesOf (endA a t.bytes) r
def endOf (a : Nat) (ts : List Tok) : Nat := ts.foldl (fun a t => endA a t.bytes) a
theorem codesOf_append (l m : List Tok) : ∀ a, codesOf a (l ++ m) = codesOf a l ++ codesOf (endOf a l) m := by
  induction l with
  | nil => intro a; rfl
  | cons t l ih => intro a; simp only [List.cons_append, codesOf, endOf, List.foldl_cons, List.append_assoc]; rw [ih]; rfl
theorem endOf_append (a : Nat) (l m : List Tok) : endOf a (l ++ m) = endOf (endOf a l) m := by simp [endOf]
theorem endOf_le (l : List Tok) : ∀ a, a ≤ lim → endOf a l ≤ lim := by
  induction l with
  | nil => intro a h; exact h
  | cons t l ih => intro a h; exact ih _ (endA_le _ a h)
def allBytes (ts : List Tok) : List UInt8 := ts.flatMap Tok.bytes
theorem allBytes_append (l m : List Tok) : allBytes (l ++ m) = allBytes l ++ allBytes m := by simp [allBytes]
theorem nums_of_codes (ts : List Tok) : ∀ a, (codesOf a ts).map (·.1) = numsOf a (allBytes ts) ∧ endOf a ts = endA a (allBytes ts) := by
  induction ts with
  | nil => intro a; exact ⟨rfl, rfl⟩
  | cons t r ih =>
    intro a
    obtain ⟨h1, h2⟩ := ih (endA a t.bytes)
    have e : allBytes (t :: r) = t.bytes ++ allBytes r := rfl
    constructor
    · rw [e, numsOf_append, ← h1]
      simp only [codesOf, toldBy, List.map_append, List.map_map]
      congr 1
      exact List.map_id _
    · rw [e, endA_append, ← h2]; rfl
theorem codesOf_len (ts : List Tok) (a : Nat) : (codesOf a ts).length ≤ (allBytes ts).length + 1 := by
  have h := congrArg List.length (nums_of_codes ts a).1
  rw [List.length_map] at h
  have h2 := numsOf_len (allBytes ts) a
  rw [h]
  have h3 : (if 0 < a then 1 else 0) ≤ 1 := by split <;> omega
  omega
/-- Tokens in memory. -/
def ToksAt (w : World) (a : Option Addr) (ts : List Tok) : Prop := ∀ (i : Nat) (t : Tok), ts[i]? = some t → ∃ b off, a = some ⟨b, off, none⟩ ∧
  w.cell? ⟨b, off + i * 4, none⟩ = some (.string t.text) ∧ w.cell? ⟨b, off + i * 4 + 1, none⟩ = some (.int .i64 t.off) ∧ w.cell? ⟨b, off + i * 4 + 2, none⟩ = some (.int .i64 t.line) ∧ w.cell? ⟨b, off + i * 4 + 3, none⟩ = some (.int .i64 t.col)
theorem ToksAt.under {w w' : World} {a : Option Addr} {ts : List Tok} (h : ToksAt w a ts) (hb : Below w.heap.size w w') : ToksAt w' a ts := fun i t hi => by
  obtain ⟨b, off, e, h0, h1, h2, h3⟩ := h i t hi
  have hlt : b < w.heap.size := World.block_lt_of_cell? _ _ h0
  exact ⟨b, off, e, (hb.cell (p := ⟨b, _, none⟩) hlt).trans h0, (hb.cell (p := ⟨b, _, none⟩) hlt).trans h1, (hb.cell (p := ⟨b, _, none⟩) hlt).trans h2, (hb.cell (p := ⟨b, _, none⟩) hlt).trans h3⟩
theorem Tabs.size {w : World} (h : Tabs w) : 4 ≤ w.heap.size := by
  have := World.block_lt_of_cell? _ _ (h.2 0 (by omega)).1
  simp at this; omega

set_option maxRecDepth 100000 in
set_option maxHeartbeats 4000000 in
theorem decode_any (w : World) (a : Option Addr) (n c : Nat) (ts : List Tok) (hl : ts.length = n) (_ : n ≤ c) (hnn : n ≤ 17592186043904) (h : ToksAt w a ts) (hT : Tabs w) (hn : (allBytes ts).length + 8 ≤ 2932031007402) :
    Calls Tryd.prog 39 #[.slice a n c] w fun e w' => ∃ v, e = .returned (.tuple #[v, .bool (decide (0 < endOf 0 ts))]) ∧ w'.ownsRow w.heap.size 51 5 v (codesOf 0 ts).length (rowC (codesOf 0 ts)) ∧ Below w.heap.size w w' := by
  have hR : 4 ≤ w.heap.size := hT.size
  have HE : Hid (ToksAt w a ts) := h
  have HT : Hid (Tabs w) := hT
  have HL : Hid (ts.length = n) := hl
  have HN : Hid ((allBytes ts).length + 8 ≤ 2932031007402) := hn
  have RD0 : RdIs (w.alloc (.cells #[.slice none 0 0, .int .i64 0] 92)) w.heap.size [] 0 := ⟨.slice none 0 0, heap_alloc_new w _, rfl, .inl ⟨rfl, rfl⟩⟩
  have K0 : Kp w.heap.size w (w.alloc (.cells #[.slice none 0 0, .int .i64 0] 92)) := (Kp.refl _ w).alloc (Nat.le_refl _) _
  have RA : Hid (∀ (wx : World) (cs : List (Int × Tok)) (a' : Nat) (t : Tok), RdIs wx w.heap.size cs a' → Tabs wx → cs.length + t.text.size + 6 ≤ 2932031007402 → a' ≤ 1125899906842624 → Calls Tryd.prog 52 #[.pointer (some ⟨w.heap.size, 0, none⟩), tokV t] wx fun e w' => e = .returned (.tuple #[]) ∧ RdIs w' w.heap.size (cs ++ toldBy t (numsOf a' t.bytes)) (endA a' t.bytes) ∧ Kp w.heap.size wx w') := fun wx cs a' t h1 h2 h3 h4 => read_any wx w.heap.size cs a' t h1 hR h2 h3 h4
  unfold tokV at RA
  go_enter Tryd.func39, Tryd.ntmps39
  go_wp2_with fail
  generalize w.alloc (.cells #[.slice none 0 0, .int .i64 0] 92) = W0 at *
  obtain ⟨R, hRe⟩ : ∃ R, R = w.heap.size := ⟨_, rfl⟩
  have HRe : Hid (w.heap.size = R) := hRe.symm
  rw [← hRe] at RD0 K0 RA hR ⊢
  have H0 : Hid (RdIs W0 R [] 0) := RD0
  have HK0 : Hid (Kp R w W0) := K0
  clear RD0 K0 hRe h hT hl hn
  go_loopw [6, 9] (fun _ i wx => ∃ j : Nat, j ≤ n ∧ i = .int .i64 j ∧ Hid (RdIs wx R (codesOf 0 (ts.take j)) (endOf 0 (ts.take j))) ∧ Hid (Kp R w wx)) (fun _ i _ => n - (intOf i).toNat)
  case atStart => exact ⟨0, Nat.zero_le _, rfl, H0.out, HK0.out⟩
  case round =>
    clear H0 HK0
    obtain ⟨j, hj, rfl, hRd, hK⟩ := hrel
    have hsz : R < wr.heap.size := by obtain ⟨v, h1, _⟩ := hRd.out; exact h1.lt
    by_cases hlt : j < n
    · have n1 : (j : Int) < (n : Int) := by omega
      obtain ⟨t, ht⟩ : ∃ t, ts[j]? = some t := ⟨ts[j]'(by rw [HL.out]; exact hlt), List.getElem?_eq_getElem _⟩
      obtain ⟨b, off, rfl, c0, c1, c2, c3⟩ := HE.out j t ht
      have hbw : b < w.heap.size := World.block_lt_of_cell? _ _ c0
      have hbe : Below w.heap.size w wr := by have := hK.out.below; rwa [← HRe.out] at this
      replace c0 := (hbe.cell (p := ⟨b, _, none⟩) hbw).trans c0
      replace c1 := (hbe.cell (p := ⟨b, _, none⟩) hbw).trans c1
      replace c2 := (hbe.cell (p := ⟨b, _, none⟩) hbw).trans c2
      replace c3 := (hbe.cell (p := ⟨b, _, none⟩) hbw).trans c3
      have htk : Hid (ts.take (j + 1) = ts.take j ++ [t]) := by show _ = _; rw [List.take_add_one, ht]; rfl
      have hbyt : (allBytes (ts.take j)).length + t.text.size ≤ (allBytes ts).length := by
        have e1 : ts = ts.take (j + 1) ++ ts.drop (j + 1) := (List.take_append_drop _ _).symm
        have e2 := congrArg (fun l => (allBytes l).length) e1
        simp only [htk.out, allBytes_append, List.length_append] at e2
        have e3 : (allBytes [t]).length = t.text.size := by simp [allBytes, Tok.size]
        omega
      have hlen := codesOf_len (ts.take j) 0
      have hbnd : (codesOf 0 (ts.take j)).length + t.text.size + 6 ≤ 2932031007402 := by have := HN.out; omega
      have hal := endOf_le (ts.take j) 0 (by unfold lim; omega)
      have HBD : Hid ((codesOf 0 (ts.take j)).length + t.text.size + 6 ≤ 2932031007402 ∧ endOf 0 (ts.take j) ≤ lim) := ⟨hbnd, hal⟩
      have hbw2 : Hid (b < wr.heap.size) := by have := hbe.size; show b < _; omega
      clear hbnd hal hlen hbyt ht hbe
      go_wp2_with fail
      refine Calls.mono (RA.out _ (codesOf 0 (ts.take j)) (endOf 0 (ts.take j)) t (hRd.out.alloc _) (HT.out.under hR ((hK.out.alloc (by omega) _).below)) HBD.out.1 HBD.out.2) ?_
      rintro e w2 ⟨rfl, h2, k2⟩
      have H2 : Hid (RdIs w2 R (codesOf 0 (ts.take (j + 1))) (endOf 0 (ts.take (j + 1)))) := by
        show RdIs _ _ _ _
        rw [htk.out, codesOf_append, endOf_append]
        have e2 : endOf (endOf 0 (ts.take j)) [t] = endA (endOf 0 (ts.take j)) t.bytes := rfl
        rw [e2]
        simpa only [codesOf, List.append_nil] using h2
      have K2 : Hid (Kp R w w2) := (hK.out.alloc (by omega) _).trans k2
      clear h2 k2
      go_wp2
      exact ⟨⟨j + 1, by omega, by go_num, H2.out, K2.out⟩, by simp [intOf]; omega⟩
    · have n1 : ¬ (j : Int) < (n : Int) := by omega
      have htk : Hid (ts.take j = ts) := by show _ = _; rw [List.take_of_length_le (by rw [HL.out]; omega)]
      have hRd2 := hRd.out
      rw [htk.out] at hRd2
      have WI : Hid (∀ wx : World, RdIs wx R (codesOf 0 ts) (endOf 0 ts) → Calls Tryd.prog 53 #[.pointer (some ⟨R, 0, none⟩)] wx fun e w' => e = .returned (.bool (decide (0 < endOf 0 ts))) ∧ w' = wx) := fun wx hx => within_any wx R _ _ hx
      have HR2 : Hid (RdIs wr R (codesOf 0 ts) (endOf 0 ts)) := hRd2
      obtain ⟨v, hA, hO⟩ := hRd2
      obtain ⟨av, cap, hv, _, _⟩ := slice_form hO
      have HO : Hid (wr.ownsRow (R + 1) 51 5 v (codesOf 0 ts).length (rowC (codesOf 0 ts))) := hO
      subst hv
      have c0 := hA.c0
      have HBw : Hid (Below w.heap.size w wr) := by have := hK.out.below; rwa [← HRe.out] at this
      generalize hbo : decide (0 < endOf 0 ts) = bo at *
      have HBO : Hid (decide (0 < endOf 0 ts) = bo) := hbo
      clear hbo hA hO htk hRd
      go_wp2_with fail
      go_region_with (go_at_call 53; refine (WI.out wr.drew HR2.out).mono ?_; rintro e wz ⟨rfl, hwz⟩; subst wz)
      all_goals go_wp2
      all_goals go_ret2
      all_goals
        rw [HBO.out, HRe.out]
        refine ⟨_, rfl, ?_, (by have h9 := HBw.out.drew; rwa [HRe.out] at h9)⟩
        exact owns_down HO.out.drew (by omega)
end Go.Proofs.YtffchjigpppoaaaDoor
