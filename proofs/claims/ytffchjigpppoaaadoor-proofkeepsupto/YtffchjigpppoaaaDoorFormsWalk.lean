/- The walk of LettersForms. -/
import Derived.Test.YtffchjigpppoaaaDoorForm
import Derived.Test.YtffchjigpppoaaaDoorDecode
namespace Go.Proofs.YtffchjigpppoaaaDoor
open Go.RowKit

theorem enc_form (n : Nat) : FormIs (strB (enc n)) (ahead (n / 20)) (UInt8.ofNat (65 + n % 20)) := ⟨rfl, ahead_all _, lastL n⟩
theorem enc_value (n : Nat) : 20 * valD 0 (ahead (n / 20)) + ((UInt8.ofNat (65 + n % 20)).toNat - 65) = n := by rw [valD_ahead, u8_toNat _ (by omega)]; omega
theorem enc_size (n : Nat) (h : n < lim) : (strB (enc n)).size ≤ 21 := by rw [strB_size]; exact enc_len n h
theorem toks_new (w : World) (t : Tok) : ToksAt (w.alloc (.cells #[.string t.text, .int .i64 t.off, .int .i64 t.line, .int .i64 t.col] 41)) (some ⟨w.heap.size, 0, none⟩) [t] := fun i u hi => by
  match i, hi with
  | 0, hi =>
    simp at hi; subst hi
    obtain ⟨c0, c1, c2, c3⟩ := (box_new w t).cells
    exact ⟨w.heap.size, 0, rfl, c0, c1, c2, c3⟩
/-- A row of codes that is owned: its first code. -/
theorem codes_first {W : World} {base : Nat} {v : Value} {n : Nat} {c : Int × Tok} {r : List (Int × Tok)} (h : W.ownsRow base 51 5 v n (rowC (c :: r))) (hn : 0 < n) : ∃ g cap, v = .slice (some ⟨g, 0, none⟩) n cap ∧ W.cell? ⟨g, 0, none⟩ = some (.int .i64 c.1) ∧ W.cell? ⟨g, 1, none⟩ = some (.string c.2.text) := by
  rcases h.2 with ⟨_, rfl⟩ | ⟨g, cap, cur, rfl, hg, hh, hc, hs, hsz, ht⟩
  · omega
  · refine ⟨g, cap, rfl, ?_⟩
    have key : ∀ i u, i < 5 → (rowC (c :: r))[i]? = some u → W.cell? ⟨g, i, none⟩ = some u := by
      intro i u hi hu
      rw [← ht, List.getElem?_take, if_pos (by omega)] at hu
      have : cur[i]? = some u := by simpa using hu
      simp [World.cell?, hh, this]
    exact ⟨key 0 _ (by omega) rfl, key 1 _ (by omega) rfl⟩

theorem list_eq_false {s t : ByteArray} (h : s ≠ t) : (s.toList == t.toList) = false := by
  rw [Lib.toList_data, Lib.toList_data]
  refine beq_eq_false_iff_ne.2 fun e => h ?_
  cases s; cases t
  simp at e
  rw [e]
theorem head_false {m n : Nat} (h : m ≠ n) : (((strB (enc n)).extract 0 (strB (enc m)).size).toList == (strB (enc m)).toList) = false := by
  rw [Lib.toList_data, Lib.toList_data]
  refine beq_eq_false_iff_ne.2 fun e => h ?_
  rw [Lib.extract_data] at e
  simp only [List.drop_zero] at e
  have e2 : (strB (enc n)).data.toList = enc n := rfl
  have e3 : (strB (enc m)).data.toList = enc m := rfl
  rw [e2, e3] at e
  exact enc_apart ⟨_, by rw [← e]; exact List.take_append_drop _ _⟩
theorem text_ne {m n : Nat} (h : m ≠ n) : strB (enc m) ≠ strB (enc n) := fun e => h (enc_inj (by
  have := congrArg (fun x : ByteArray => x.data.toList) e
  exact this))
end Go.Proofs.YtffchjigpppoaaaDoor
