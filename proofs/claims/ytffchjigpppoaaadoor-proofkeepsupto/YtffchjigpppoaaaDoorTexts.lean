/- What is read of a text is written as that text; rows of codes. -/
import Derived.Test.YtffchjigpppoaaaDoorWords
namespace Go.Proofs.YtffchjigpppoaaaDoor
open Go.RowKit

theorem endA_zero (b : List UInt8) (h : AllD b) (h0 : endA 0 b = 0) : b = [] := by
  rw [endA_digits b h 0 (by unfold lim; omega)] at h0
  cases b with
  | nil => rfl
  | cons c b =>
    exfalso
    rw [valD_cons] at h0
    have := valD_ge b (5 * 0 + (c.toNat - 85) + 1)
    unfold lim at h0
    omega
theorem wrOk_nat (n : Nat) (h : n < lim) : wrOk (n : Int) = true := by
  unfold wrOk
  simp only [Bool.or_eq_true, Bool.and_eq_true, decide_eq_true_eq]
  right; omega
theorem wrT_nat (n : Nat) : wrT (n : Int) = enc n := by
  unfold wrT
  rw [if_neg (by omega), if_neg (by omega)]
  rfl
theorem back_text (l : List UInt8) : ∀ b, AllD b → endA (endA 0 b) l = 0 → (∀ n ∈ numsOf (endA 0 b) l, n ≠ -3 ∧ n ≠ (lim : Int)) → prB (numsOf (endA 0 b) l) = b ++ l ∧ prOk (numsOf (endA 0 b) l) = true := by
  induction l with
  | nil =>
    intro b hb h0 _
    rw [endA_zero b hb h0]
    exact ⟨rfl, rfl⟩
  | cons c l ih =>
    intro b hb h0 hn
    have e0 : endA (endA 0 b) (c :: l) = endA (stepA (endA 0 b) c) l := rfl
    have e1 : numsOf (endA 0 b) (c :: l) = stepN (endA 0 b) c ++ numsOf (stepA (endA 0 b) c) l := rfl
    rw [e0] at h0
    rw [e1] at hn ⊢
    by_cases hd : isD c = true
    · have e2 : stepN (endA 0 b) c = [] := by unfold stepN; rw [if_pos hd]
      have e3 : stepA (endA 0 b) c = endA 0 (b ++ [c]) := by rw [endA_append]; rfl
      rw [e2, e3] at hn ⊢
      rw [e3] at h0
      have := ih (b ++ [c]) (fun x hx => by
        rcases List.mem_append.1 hx with h | h
        · exact hb x h
        · rw [List.mem_singleton] at h; subst h; exact hd) h0 (fun n h => hn n (by simpa using h))
      simpa using this
    · have hd' : isD c = false := by simpa using hd
      have e3 : stepA (endA 0 b) c = endA 0 [] := by unfold stepA; rw [hd']; rfl
      rw [e3] at hn h0 ⊢
      have hrec := ih [] (fun x hx => by simp at hx) h0 (fun n h => hn n (List.mem_append_right _ h))
      rw [prB_append, prOk_append, hrec.1, hrec.2]
      by_cases hl : isL c = true
      · have e2 : stepN (endA 0 b) c = [((min (20 * endA 0 b + (c.toNat - 65)) lim : Nat) : Int)] := by unfold stepN; rw [hd', hl]; rfl
        rw [e2] at hn ⊢
        have hlt : min (20 * endA 0 b + (c.toNat - 65)) lim < lim := by
          have := (hn _ (List.mem_append_left _ (List.mem_singleton.2 rfl))).2
          have h2 : min (20 * endA 0 b + (c.toNat - 65)) lim ≤ lim := Nat.min_le_right _ _
          omega
        have hv : endA 0 b = valD 0 b := by
          rw [endA_digits b hb 0 (by unfold lim; omega)] at hlt ⊢
          omega
        have hm : min (20 * endA 0 b + (c.toNat - 65)) lim = 20 * valD 0 b + (c.toNat - 65) := by rw [← hv]; omega
        rw [hm] at hlt ⊢
        have e5 : prB [((20 * valD 0 b + (c.toNat - 65) : Nat) : Int)] = b ++ [c] := by
          have : prB [((20 * valD 0 b + (c.toNat - 65) : Nat) : Int)] = wrT ((20 * valD 0 b + (c.toNat - 65) : Nat) : Int) := by simp [prB]
          rw [this, wrT_nat, enc_of b c hb hl]
        have e6 : prOk [((20 * valD 0 b + (c.toNat - 65) : Nat) : Int)] = true := by
          have : prOk [((20 * valD 0 b + (c.toNat - 65) : Nat) : Int)] = wrOk ((20 * valD 0 b + (c.toNat - 65) : Nat) : Int) := by simp only [prOk, List.all_cons, List.all_nil, Bool.and_true]
          rw [this, wrOk_nat _ hlt]
        rw [e5, e6]
        simp
      · have hl' : isL c = false := by simpa using hl
        have e2 : stepN (endA 0 b) c = (if 0 < endA 0 b then [-3] else []) ++ [aloneN c] := by unfold stepN; rw [hd', hl']; rfl
        rw [e2] at hn ⊢
        have h00 : endA 0 b = 0 := by
          rcases Nat.eq_zero_or_pos (endA 0 b) with h | h
          · exact h
          · exact absurd rfl (hn (-3) (by simp [h])).1
        have hb0 := endA_zero b hb h00
        subst hb0
        rw [h00]
        have ha := (hn (aloneN c) (by simp)).1
        unfold aloneN at ha ⊢
        by_cases h90 : c.toNat = 90
        · have : c = 90 := by rw [← u8_back c, h90]; rfl
          subst this
          exact ⟨rfl, rfl⟩
        · by_cases h63 : c.toNat = 63
          · have : c = 63 := by rw [← u8_back c, h63]; rfl
            subst this
            exact ⟨rfl, rfl⟩
          · rw [if_neg h90, if_neg h63] at ha
            exact absurd rfl ha
/-- Whether a code is none that can be written. -/
def badN (n : Int) : Bool := n == -3 || n == (lim : Int)
theorem text_plain (l : List UInt8) (h0 : endA 0 l = 0) (h : (numsOf 0 l).any badN = false) : prB (numsOf 0 l) = l ∧ prOk (numsOf 0 l) = true := by
  have := back_text l [] (fun x hx => by simp at hx) h0 (fun n hn => by
    have h2 := List.any_eq_false.1 h n hn
    simp only [badN, Bool.or_eq_true, beq_iff_eq, not_or] at h2
    exact h2)
  simpa [endA] using this
theorem text_bad (N : List Int) (h : N.any badN = true) : prOk N = false := by
  obtain ⟨n, hn, hb⟩ := List.any_eq_true.1 h
  unfold prOk
  rw [List.all_eq_false]
  refine ⟨n, hn, ?_⟩
  simp only [badN, Bool.or_eq_true, beq_iff_eq] at hb
  unfold wrOk lim
  unfold lim at hb
  simp only [Bool.or_eq_true, beq_iff_eq, Bool.and_eq_true, decide_eq_true_eq]
  omega

theorem rowC_at : ∀ (cs : List (Int × Tok)) (i j : Nat) (c : Int × Tok), cs[i]? = some c → j < 5 → (rowC cs)[i * 5 + j]? = (codeCells c)[j]?
  | [], i, j, t, h, _ => by simp at h
  | x :: r, 0, j, t, h, hj => by
    simp at h; subst h
    have e : rowC (x :: r) = codeCells x ++ rowC r := rfl
    rw [e, Nat.zero_mul, Nat.zero_add, List.getElem?_append_left (by simp [codeCells, tokCells]; omega)]
  | x :: r, i + 1, j, t, h, hj => by
    have e : rowC (x :: r) = codeCells x ++ rowC r := rfl
    have h2 : r[i]? = some t := by simpa using h
    rw [e, List.getElem?_append_right (by simp [codeCells, tokCells]; omega)]
    have e2 : (i + 1) * 5 + j - (codeCells x).length = i * 5 + j := by simp [codeCells, tokCells]; omega
    rw [e2]
    exact rowC_at r i j t h2 hj
/-- Codes in memory. -/
def CodesAt (w : World) (a : Option Addr) (cs : List (Int × Tok)) : Prop := ∀ (i : Nat) (c : Int × Tok), cs[i]? = some c → ∃ b off, a = some ⟨b, off, none⟩ ∧ w.cell? ⟨b, off + i * 5, none⟩ = some (.int .i64 c.1) ∧
  w.cell? ⟨b, off + i * 5 + 1, none⟩ = some (.string c.2.text) ∧ w.cell? ⟨b, off + i * 5 + 2, none⟩ = some (.int .i64 c.2.off) ∧ w.cell? ⟨b, off + i * 5 + 3, none⟩ = some (.int .i64 c.2.line) ∧ w.cell? ⟨b, off + i * 5 + 4, none⟩ = some (.int .i64 c.2.col)
theorem CodesAt.under {w w' : World} {a : Option Addr} {cs : List (Int × Tok)} (h : CodesAt w a cs) (hb : Below w.heap.size w w') : CodesAt w' a cs := fun i c hi => by
  obtain ⟨b, off, e, h0, h1, h2, h3, h4⟩ := h i c hi
  have hlt : b < w.heap.size := World.block_lt_of_cell? _ _ h0
  exact ⟨b, off, e, (hb.cell (p := ⟨b, _, none⟩) hlt).trans h0, (hb.cell (p := ⟨b, _, none⟩) hlt).trans h1, (hb.cell (p := ⟨b, _, none⟩) hlt).trans h2, (hb.cell (p := ⟨b, _, none⟩) hlt).trans h3, (hb.cell (p := ⟨b, _, none⟩) hlt).trans h4⟩
theorem own_codes {W : World} {base : Nat} {v : Value} {n : Nat} {cs : List (Int × Tok)} (h : W.ownsRow base 51 5 v n (rowC cs)) : ∃ a c, v = .slice a n c ∧ n ≤ c ∧ CodesAt W a cs := by
  obtain ⟨a, c, rfl, hc, hcell⟩ := own_cell h
  refine ⟨a, c, rfl, hc, fun i t ht => ?_⟩
  have k0 := rowC_at cs i 0 t ht (by omega)
  have k1 := rowC_at cs i 1 t ht (by omega)
  have k2 := rowC_at cs i 2 t ht (by omega)
  have k3 := rowC_at cs i 3 t ht (by omega)
  have k4 := rowC_at cs i 4 t ht (by omega)
  obtain ⟨g, rfl, h0⟩ := hcell _ _ (k0.trans rfl)
  obtain ⟨_, e1, h1⟩ := hcell _ _ (k1.trans rfl)
  obtain ⟨_, e2, h2⟩ := hcell _ _ (k2.trans rfl)
  obtain ⟨_, e3, h3⟩ := hcell _ _ (k3.trans rfl)
  obtain ⟨_, e4, h4⟩ := hcell _ _ (k4.trans rfl)
  cases e1; cases e2; cases e3; cases e4
  simp only [Nat.add_zero] at h0
  exact ⟨g, 0, rfl, by rw [Nat.zero_add]; exact h0, by rw [Nat.zero_add]; exact h1, by rw [Nat.zero_add]; exact h2, by rw [Nat.zero_add]; exact h3, by rw [Nat.zero_add]; exact h4⟩
/-- Decode of tokens of which a row is owned. -/
theorem decode_own (w : World) (base : Nat) (v : Value) (n : Nat) (ts : List Tok) (ho : w.ownsRow base 41 4 v n (rowT ts)) (hl : ts.length = n) (hT : Tabs w) (hn : n ≤ 4294967297) (hb : (allBytes ts).length ≤ 4294967296) :
    Calls Tryd.prog 39 #[v] w fun e w' => ∃ av cap, e = .returned (.tuple #[.slice av (codesOf 0 ts).length cap, .bool (decide (0 < endOf 0 ts))]) ∧ (codesOf 0 ts).length ≤ cap ∧ CodesAt w' av (codesOf 0 ts) ∧ w'.ownsRow w.heap.size 51 5 (.slice av (codesOf 0 ts).length cap) (codesOf 0 ts).length (rowC (codesOf 0 ts)) ∧ Below w.heap.size w w' := by
  obtain ⟨a, c, rfl, hc, hA⟩ := own_toks ho
  refine (decode_any w a n c ts hl hc (by omega) hA hT (by omega)).mono ?_
  rintro e w' ⟨v, rfl, ho2, hb2⟩
  obtain ⟨av, cap, rfl, hcap, hC⟩ := own_codes ho2
  exact ⟨av, cap, rfl, hcap, hC, ho2, hb2⟩
end Go.Proofs.YtffchjigpppoaaaDoor
