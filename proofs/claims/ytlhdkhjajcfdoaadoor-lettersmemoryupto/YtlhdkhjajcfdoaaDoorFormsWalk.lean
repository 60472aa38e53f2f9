/- The walk of LettersForms. -/
import Derived.Test.YtlhdkhjajcfdoaaDoorForm
import Derived.Test.YtlhdkhjajcfdoaaDoorDecode
namespace Go.Proofs.YtlhdkhjajcfdoaaDoor
open Go.RowKit

theorem enc_form (n : Nat) : FormIs (strB (enc n)) (ahead (n / 20)) (UInt8.ofNat (65 + n % 20)) := ⟨rfl, ahead_all _, lastL n⟩
theorem enc_value (n : Nat) : 20 * valD 0 (ahead (n / 20)) + ((UInt8.ofNat (65 + n % 20)).toNat - 65) = n := by rw [valD_ahead, u8_toNat _ (by omega)]; omega
theorem enc_size (n : Nat) (h : n < lim) : (strB (enc n)).size ≤ 21 := by rw [strB_size]; exact enc_len n h
theorem toks_new (w : World) (t : Tok) : ToksAt (w.alloc (.cells #[.string t.text, .int .i64 t.off, .int .i64 t.line, .int .i64 t.col] 30)) (some ⟨w.heap.size, 0, none⟩) [t] := fun i u hi => by
  match i, hi with
  | 0, hi =>
    simp at hi; subst hi
    obtain ⟨c0, c1, c2, c3⟩ := (box_new w t).cells
    exact ⟨w.heap.size, 0, rfl, c0, c1, c2, c3⟩
/-- A row of codes that is owned: its first code. -/
theorem codes_first {W : World} {base : Nat} {v : Value} {n : Nat} {c : Int × Tok} {r : List (Int × Tok)} (h : W.ownsRow base 33 5 v n (rowC (c :: r))) (hn : 0 < n) : ∃ g cap, v = .slice (some ⟨g, 0, none⟩) n cap ∧ W.cell? ⟨g, 0, none⟩ = some (.int .i64 c.1) ∧ W.cell? ⟨g, 1, none⟩ = some (.string c.2.text) := by
  rcases h.2 with ⟨_, rfl⟩ | ⟨g, cap, cur, rfl, hg, hh, hc, hs, hsz, ht⟩
  · omega
  · refine ⟨g, cap, rfl, ?_⟩
    have key : ∀ i u, i < 5 → (rowC (c :: r))[i]? = some u → W.cell? ⟨g, i, none⟩ = some u := by
      intro i u hi hu
      rw [← ht, List.getElem?_take, if_pos (by omega)] at hu
      have : cur[i]? = some u := by simpa using hu
      simp [World.cell?, hh, this]
    exact ⟨key 0 _ (by omega) rfl, key 1 _ (by omega) rfl⟩

theorem list_eq_false {s t : ByteArray} (h : s ≠ t) : (s.toList == t.toList) = false := by
  rw [Lib.toList_data, Lib.toList_data]
  refine beq_eq_false_iff_ne.2 fun e => h ?_
  cases s; cases t
  simp at e
  rw [e]
theorem head_false {m n : Nat} (h : m ≠ n) : (((strB (enc n)).extract 0 (strB (enc m)).size).toList == (strB (enc m)).toList) = false := by
  rw [Lib.toList_data, Lib.toList_data]
  refine beq_eq_false_iff_ne.2 fun e => h ?_
  rw [Lib.extract_data] at e
  simp only [List.drop_zero] at e
  have e2 : (strB (enc n)).data.toList = enc n := rfl
  have e3 : (strB (enc m)).data.toList = enc m := rfl
  rw [e2, e3] at e
  exact enc_apart ⟨_, by rw [← e]; exact List.take_append_drop _ _⟩
theorem text_ne {m n : Nat} (h : m ≠ n) : strB (enc m) ≠ strB (enc n) := fun e => h (enc_inj (by
  have := congrArg (fun x : ByteArray => x.data.toList) e
  exact this))
set_option maxRecDepth 100000 in
set_option maxHeartbeats 16000000 in
theorem forms_walk (w : World) (a b : Int) (hT : Tabs w) : Calls Tryd.prog 4 #[.int .i64 a, .int .i64 b] w fun e w' => e = .returned (.bool true) ∧ Below w.heap.size w w' := by
  obtain ⟨m, hm⟩ : ∃ m : Nat, a % 1125899906842624 = m := ⟨(a % 1125899906842624).toNat, by omega⟩
  obtain ⟨n, hn⟩ : ∃ n : Nat, b % 1125899906842624 = n := ⟨(b % 1125899906842624).toNat, by omega⟩
  have hml : m < lim := by unfold lim; omega
  have hnl : n < lim := by unfold lim; omega
  have NA := number_any w a
  have NB := number_any w b
  rw [hm] at NA
  rw [hn] at NB
  have HNA : Hid _ := NA
  have HNB : Hid _ := NB
  have EA : Hid (∀ wx, Calls Tryd.prog 10 #[.int .i64 m] wx fun e w' => e = .returned (.tuple #[.string (strB (enc m)), .int .i64 0]) ∧ Below wx.heap.size wx w') := fun wx => encode_good wx m hml
  have EB : Hid (∀ wx, Calls Tryd.prog 10 #[.int .i64 n] wx fun e w' => e = .returned (.tuple #[.string (strB (enc n)), .int .i64 0]) ∧ Below wx.heap.size wx w') := fun wx => encode_good wx n hnl
  have EC : Hid (∀ wx, Calls Tryd.prog 10 #[.int .i64 (-1 - (m : Int))] wx fun e w' => e = .returned (.tuple #[.string ⟨#[]⟩, .int .i64 90]) ∧ w' = wx) := fun wx => encode_bad wx _ (.inl (by omega))
  have ED : Hid (∀ wx, Calls Tryd.prog 10 #[.int .i64 (1125899906842624 + (m : Int))] wx fun e w' => e = .returned (.tuple #[.string ⟨#[]⟩, .int .i64 90]) ∧ w' = wx) := fun wx => encode_bad wx _ (.inr (by unfold lim; omega))
  have DA : Hid (∀ wx, Calls Tryd.prog 12 #[.string (strB (enc m))] wx fun e w' => e = .returned (.bool true) ∧ w' = wx) := fun wx => digits_any wx _ _ _ (enc_form m) (by have := enc_size m hml; omega)
  have DB : Hid (∀ wx, Calls Tryd.prog 12 #[.string (strB (enc n))] wx fun e w' => e = .returned (.bool true) ∧ w' = wx) := fun wx => digits_any wx _ _ _ (enc_form n) (by have := enc_size n hnl; omega)
  have VA : Hid (∀ wx, Calls Tryd.prog 13 #[.string (strB (enc m))] wx fun e w' => e = .returned (.int .i64 m) ∧ w' = wx) := fun wx => by
    have := value_any wx _ _ _ (enc_form m) (by have := enc_size m hml; omega) (by rw [valD_ahead]; unfold lim at hml; omega)
    rwa [enc_value] at this
  have VB : Hid (∀ wx, Calls Tryd.prog 13 #[.string (strB (enc n))] wx fun e w' => e = .returned (.int .i64 n) ∧ w' = wx) := fun wx => by
    have := value_any wx _ _ _ (enc_form n) (by have := enc_size n hnl; omega) (by rw [valD_ahead]; unfold lim at hnl; omega)
    rwa [enc_value] at this
  have DE : Hid (∀ wx : World, Tabs wx → Calls Tryd.prog 9 #[.slice (some ⟨wx.heap.size, 0, none⟩) 1 1] (wx.alloc (.cells #[.string (strB (enc m)), .int .i64 0, .int .i64 0, .int .i64 0] 30)) fun e w' => ∃ g cap, e = .returned (.tuple #[.slice (some ⟨g, 0, none⟩) 1 cap, .bool false]) ∧ w'.cell? ⟨g, 0, none⟩ = some (.int .i64 m) ∧ w'.cell? ⟨g, 1, none⟩ = some (.string (strB (enc m))) ∧ Below wx.heap.size wx w') := fun wx hTx => by
    have h0 := toks_new wx ⟨strB (enc m), 0, 0, 0⟩
    have hb := below_alloc wx (.cells #[.string (strB (enc m)), .int .i64 0, .int .i64 0, .int .i64 0] 30)
    obtain ⟨h1, h2⟩ := nums_enc m hml
    have e1 : codesOf 0 [(⟨strB (enc m), 0, 0, 0⟩ : Tok)] = [((m : Int), ⟨strB (enc m), 0, 0, 0⟩)] := by
      show toldBy _ (numsOf 0 (enc m)) ++ [] = _
      rw [h1]; rfl
    have e2 : endOf 0 [(⟨strB (enc m), 0, 0, 0⟩ : Tok)] = 0 := h2
    have := decode_any _ _ 1 1 _ rfl (Nat.le_refl _) (by omega) h0 (hTx.under hTx.size hb) (by
      have := enc_len m hml
      have e3 : (allBytes [(⟨strB (enc m), 0, 0, 0⟩ : Tok)]).length = (enc m).length := by simp [allBytes, Tok.bytes, strB]
      omega)
    rw [e1, e2] at this
    refine this.mono ?_
    rintro e w' ⟨v, rfl, ho, hb2⟩
    obtain ⟨g, cap, rfl, c0, c1⟩ := codes_first ho (by simp)
    exact ⟨g, cap, rfl, c0, c1, hb.trans (hb2.mono hb.size)⟩
  have HT : Hid (Tabs w) := hT
  have HS : Hid (2 ≤ w.heap.size) := hT.size
  have hm2 : m < 1125899906842624 := hml
  have hn2 : n < 1125899906842624 := hnl
  have HML : Hid (m < lim) := hml
  have HNL : Hid (n < lim) := hnl
  clear hm hn hT NA NB hml hnl
  generalize hs : strB (enc m) = s at *
  generalize ht : strB (enc n) = t at *
  have Hs : Hid (strB (enc m) = s) := hs
  have Ht : Hid (strB (enc n) = t) := ht
  clear hs ht
  go_enter Tryd.func4, Tryd.ntmps4
  go_wp2_with fail
  refine Calls.mono HNA.out ?_
  rintro e wz ⟨rfl, hwz⟩
  subst wz
  go_wp2_with fail
  refine Calls.mono HNB.out ?_
  rintro e wz ⟨rfl, hwz⟩
  subst wz
  go_wp2_with fail
  refine Calls.mono (EA.out w) ?_
  rintro e w1 ⟨rfl, hb1⟩
  have HB1 : Hid (Below w.heap.size w w1) := hb1
  clear hb1
  go_wp2_with fail
  refine Calls.mono (EB.out w1) ?_
  rintro e w2 ⟨rfl, hb2⟩
  have HB2 : Hid (Below w.heap.size w w2) := HB1.out.trans (hb2.mono HB1.out.size)
  have HT2 : Hid (Tabs w2) := HT.out.under HS.out HB2.out
  clear hb2 HB1
  go_wp2_with fail
  refine Calls.mono (DA.out w2) ?_
  rintro e wz ⟨rfl, hwz⟩
  subst wz
  go_wp2_with fail
  refine Calls.mono (DB.out w2) ?_
  rintro e wz ⟨rfl, hwz⟩
  subst wz
  go_wp2_with fail
  refine Calls.mono (VA.out w2) ?_
  rintro e wz ⟨rfl, hwz⟩
  subst wz
  go_wp2_with fail
  refine Calls.mono (VB.out w2) ?_
  rintro e wz ⟨rfl, hwz⟩
  subst wz
  go_wp2_with fail
  refine Calls.mono (DE.out w2 HT2.out) ?_
  rintro e w3 ⟨g, cap, rfl, c0, c1, hb3⟩
  have HB3 : Hid (Below w.heap.size w w3) := HB2.out.trans (hb3.mono HB2.out.size)
  clear hb3 HB2
  rcases Nat.lt_trichotomy m n with q1 | q1 | q1
  · have q2 : ¬ n < m := by omega
    have q3 : s.size ≤ t.size := by rw [← Hs.out, ← Ht.out, strB_size, strB_size]; exact enc_len_mono (by omega)
    have q4 : ¬ t.size < s.size := by omega
    have b0 : ¬ (m : Int) = (n : Int) := by omega
    have b1 : ((m : Int) == (n : Int)) = false := beq_eq_false_iff_ne.2 b0
    have b2 : (s.toList == t.toList) = false := list_eq_false (by rw [← Hs.out, ← Ht.out]; exact text_ne (by omega))
    have b3 : ((t.extract 0 s.size).toList == s.toList) = false := by rw [← Hs.out, ← Ht.out]; exact head_false (by omega)
    go_wp2_with fail
    refine Calls.mono (EC.out w3) ?_
    rintro e wz ⟨rfl, hwz⟩
    subst wz
    go_wp2_with fail
    refine Calls.mono (ED.out w3) ?_
    rintro e wz ⟨rfl, hwz⟩
    subst wz
    go_wp2
    go_ret
    exact ⟨rfl, HB3.out⟩
  · subst q1
    obtain rfl : s = t := Hs.out.symm.trans Ht.out
    have q2 : ¬ m < m := by omega
    go_wp2_with fail
    refine Calls.mono (EC.out w3) ?_
    rintro e wz ⟨rfl, hwz⟩
    subst wz
    go_wp2_with fail
    refine Calls.mono (ED.out w3) ?_
    rintro e wz ⟨rfl, hwz⟩
    subst wz
    go_wp2
    go_ret
    exact ⟨rfl, HB3.out⟩
  · have q2 : ¬ m < n := by omega
    have q3 : t.size ≤ s.size := by rw [← Hs.out, ← Ht.out, strB_size, strB_size]; exact enc_len_mono (by omega)
    have q4 : ¬ s.size < t.size := by omega
    have b0 : ¬ (m : Int) = (n : Int) := by omega
    have b1 : ((m : Int) == (n : Int)) = false := beq_eq_false_iff_ne.2 b0
    have b2 : (s.toList == t.toList) = false := list_eq_false (by rw [← Hs.out, ← Ht.out]; exact text_ne (by omega))
    have b3 : ((t.extract 0 s.size).toList == s.toList) = false := by rw [← Hs.out, ← Ht.out]; exact head_false (by omega)
    by_cases q5 : s.size ≤ t.size
    · have q6 := q5
      go_wp2_with fail
      refine Calls.mono (EC.out w3) ?_
      rintro e wz ⟨rfl, hwz⟩
      subst wz
      go_wp2_with fail
      refine Calls.mono (ED.out w3) ?_
      rintro e wz ⟨rfl, hwz⟩
      subst wz
      go_wp2
      go_ret
      exact ⟨rfl, HB3.out⟩
    · have q6 := q5
      go_wp2_with fail
      refine Calls.mono (EC.out w3) ?_
      rintro e wz ⟨rfl, hwz⟩
      subst wz
      go_wp2_with fail
      refine Calls.mono (ED.out w3) ?_
      rintro e wz ⟨rfl, hwz⟩
      subst wz
      go_wp2
      go_ret
      exact ⟨rfl, HB3.out⟩
end Go.Proofs.YtlhdkhjajcfdoaaDoor
