/- Pure facts for LettersLong. -/
import Derived.Test.YtffchjigpppoaaaDoorFormsWalk
namespace Go.Proofs.YtffchjigpppoaaaDoor
open Go.RowKit

theorem strB_append (a b : List UInt8) : strB a ++ strB b = strB (a ++ b) := by
  show ByteArray.append _ _ = _
  simp [strB, ByteArray.append]
theorem strB_inj {a b : List UInt8} (h : strB a = strB b) : a = b := by
  have := congrArg (fun x : ByteArray => x.data.toList) h
  exact this
theorem valD_lower : ∀ (b : List UInt8) (v : Nat), 5 ^ b.length * (4 * v + 1) ≤ 4 * valD v b + 1 := by
  intro b
  induction b with
  | nil => intro v; simp [valD]
  | cons c b ih =>
    intro v
    rw [valD_cons, List.length_cons, Nat.pow_succ]
    have h := ih (5 * v + (c.toNat - 85) + 1)
    have h2 : 5 ^ b.length * 5 * (4 * v + 1) ≤ 5 ^ b.length * (4 * (5 * v + (c.toNat - 85) + 1) + 1) := by
      rw [Nat.mul_assoc]
      exact Nat.mul_le_mul_left _ (by omega)
    omega
/-- The value of digits and a letter, up to the limit. -/
def valL (b : List UInt8) (l : Nat) : Nat := min (20 * valD 0 b + l) lim
theorem valL_top (b : List UInt8) (l : Nat) (h : 29 ≤ b.length) : valL b l = lim := by
  have h1 := valD_lower b 0
  have h2 : 5 ^ 29 ≤ 5 ^ b.length := Nat.pow_le_pow_right (by omega) h
  unfold valL lim
  omega
theorem valL_mono (b c : List UInt8) (l : Nat) : valL b l ≤ valL (b ++ c) l := by
  unfold valL
  rw [valD_append]
  have := valD_ge c (valD 0 b)
  omega
/-- A row of bytes, as a text. -/
theorem conv_own {W : World} {base : Nat} {v : Value} {n : Nat} {l : List UInt8} (h : W.ownsRow base 5 1 v n (l.map byteV)) : (convert 54 9 v).run Tryd.prog W = .ok (.string (strB l)) W := by
  rcases Nat.eq_zero_or_pos n with h0 | h0
  · subst h0
    have hl : l = [] := by have := h.1; simpa using this
    subst hl
    rcases h.2 with ⟨rfl, _⟩ | ⟨g, cap, cur, rfl, _⟩
    · have := run_convert_bytes_nil (P := Tryd.prog) W 54 5 Tryd.underlying54 Tryd.underlying5 0 0 9 Tryd.underlying9
      exact this
    · have h1 := run_convert_bytes_arg (P := Tryd.prog) W 54 5 Tryd.underlying54 Tryd.underlying5 g 0 0 cap [] rfl (fun i hi => by omega) 9 Tryd.underlying9
      exact h1
  · obtain ⟨g, c, rfl, _, _, _, hB⟩ := own_cells h h0
    have hl : l.length = n := by have := h.1; simpa using this
    have h1 := run_convert_bytes_arg (P := Tryd.prog) W 54 5 Tryd.underlying54 Tryd.underlying5 g 0 n c (l.map fun c => (c.toNat : Int)) (by rw [List.length_map]; exact hl) (fun i hi => by
      rw [Nat.zero_add, (hB i hi).1]
      simp only [List.getD, List.getElem?_map]
      rw [List.getElem?_eq_getElem (by omega : i < l.length)]
      rfl) 9 Tryd.underlying9
    rw [strOf_bytes] at h1
    exact h1
theorem own_one (W : World) (c : UInt8) : (W.alloc (.cells #[.int .u8 c.toNat] 5)).ownsRow W.heap.size 5 1 (.slice (some ⟨W.heap.size, 0, none⟩) 1 1) 1 ([c].map byteV) :=
  ⟨rfl, .inr ⟨W.heap.size, 1, _, rfl, Nat.le_refl _, heap_alloc_new W _, Nat.le_refl _, by unfold maxLen; omega, rfl, rfl⟩⟩
/-- Decode of one word of digits and a letter. -/
theorem decode_form (w : World) (b : List UInt8) (c : UInt8) (hb : AllD b) (hc : isL c = true) (hl : b.length ≤ 100000) (hT : Tabs w) :
    Calls Tryd.prog 39 #[.slice (some ⟨w.heap.size, 0, none⟩) 1 1] (w.alloc (.cells #[.string (strB (b ++ [c])), .int .i64 0, .int .i64 0, .int .i64 0] 41)) fun e w' => ∃ g cap, e = .returned (.tuple #[.slice (some ⟨g, 0, none⟩) 1 cap, .bool false]) ∧ w'.cell? ⟨g, 0, none⟩ = some (.int .i64 (valL b (c.toNat - 65) : Nat)) ∧ Below w.heap.size w w' := by
  have h0 := toks_new w ⟨strB (b ++ [c]), 0, 0, 0⟩
  have hbl := below_alloc w (.cells #[.string (strB (b ++ [c])), .int .i64 0, .int .i64 0, .int .i64 0] 41)
  obtain ⟨h1, h2⟩ := nums_form b c hb hc
  have e1 : codesOf 0 [(⟨strB (b ++ [c]), 0, 0, 0⟩ : Tok)] = [(((valL b (c.toNat - 65) : Nat) : Int), ⟨strB (b ++ [c]), 0, 0, 0⟩)] := by
    show toldBy _ (numsOf 0 (b ++ [c])) ++ [] = _
    rw [h1]; rfl
  have e2 : endOf 0 [(⟨strB (b ++ [c]), 0, 0, 0⟩ : Tok)] = 0 := h2
  have := decode_any _ _ 1 1 _ rfl (Nat.le_refl _) (by omega) h0 (hT.under hT.size hbl) (by
    have e3 : (allBytes [(⟨strB (b ++ [c]), 0, 0, 0⟩ : Tok)]).length = b.length + 1 := by simp [allBytes, Tok.bytes, strB]
    omega)
  rw [e1, e2] at this
  refine this.mono ?_
  rintro e w' ⟨v, rfl, ho, hb2⟩
  obtain ⟨g, cap, rfl, c0, _⟩ := codes_first ho (by simp)
  exact ⟨g, cap, rfl, c0, hbl.trans (hb2.mono hbl.size)⟩
end Go.Proofs.YtffchjigpppoaaaDoor
