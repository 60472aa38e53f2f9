/- Lines as full as they can be: the law's filled. -/
import Derived.Test.YtffchjigpppoaaaDoorLNames
namespace Go.Proofs.YtffchjigpppoaaaDoor
open Go.RowKit

/-- Where the line begins in which a byte stands. -/
def lst (s : List UInt8) : Nat → Nat
  | 0 => 0
  | i + 1 => if s[i]? = some 10 then i + 1 else lst s i
theorem lst_le (s : List UInt8) : ∀ i, lst s i ≤ i
  | 0 => Nat.le_refl _
  | i + 1 => by
    have := lst_le s i
    unfold lst
    split <;> omega
theorem lst_left (b e : List UInt8) : ∀ i, i ≤ b.length → lst (b ++ e) i = lst b i
  | 0, _ => rfl
  | i + 1, h => by
    unfold lst
    rw [List.getElem?_append_left (by omega), lst_left b e i (by omega)]
/-- Lines as full as they can be. -/
structure FillOk (s : List UInt8) : Prop where
  blank : ∀ i, s[i]? = some 32 → i ≠ lst s i ∧ ∃ c, s[i + 1]? = some c ∧ c ≠ 32 ∧ c ≠ 10
  line : ∀ i, s[i]? = some 10 → i - lst s i ≤ 72 ∧ i ≠ lst s i ∧ ∀ k, i < k → (k = s.length ∨ s[k]? = some 32 ∨ s[k]? = some 10) → 72 < k - lst s i
  last : s.length - lst s s.length ≤ 72
  some : s = [] ∨ s.length ≠ lst s s.length
/-- A word without blanks. -/
structure WordOk (x : ByteArray) : Prop where
  some : 0 < x.size
  le : x.size ≤ 72
  bare : ∀ c ∈ x.data.toList, c ≠ 32 ∧ c ≠ 10
theorem lst_word (b : List UInt8) (x : List UInt8) (hx : ∀ c ∈ x, c ≠ 32 ∧ c ≠ 10) : ∀ k, k ≤ x.length → lst (b ++ x) (b.length + k) = lst b b.length
  | 0, _ => lst_left b x _ (Nat.le_refl _)
  | k + 1, h => by
    have e : b.length + (k + 1) = b.length + k + 1 := by omega
    rw [e]
    obtain ⟨c, hc⟩ : ∃ c, x[k]? = some c := ⟨x[k]'(by omega), List.getElem?_eq_getElem _⟩
    have h2 : (b ++ x)[b.length + k]? = some c := by rw [List.getElem?_append_right (by omega), Nat.add_sub_cancel_left, hc]
    show (if (b ++ x)[b.length + k]? = some 10 then _ else _) = _
    rw [h2, if_neg, lst_word b x hx k (by omega)]
    intro e2
    exact (hx c (List.mem_of_getElem? hc)).2 (Option.some.inj e2)
theorem fill_word {x : ByteArray} (hx : WordOk x) : FillOk x.data.toList := by
  have hl : x.data.toList.length = x.size := rfl
  have hs := hx.some
  have h0 : lst x.data.toList x.size = 0 := by
    have h := lst_word [] x.data.toList hx.bare x.size (by omega)
    simpa [lst] using h
  refine ⟨fun i h => absurd rfl (hx.bare _ (List.mem_of_getElem? h)).1, fun i h => absurd rfl (hx.bare _ (List.mem_of_getElem? h)).2, ?_, .inr ?_⟩
  · rw [hl, h0]; exact hx.le
  · rw [hl, h0]; omega
/-- Lines so far: their last one has n bytes. -/
structure LineOk (b : List UInt8) (n : Nat) : Prop where
  fill : FillOk b
  pos : 0 < n
  le : n ≤ 72
  lst : lst b b.length + n = b.length
theorem lines_stp {b : List UInt8} {n : Nat} {x : ByteArray} (h : LineOk b n) (hx : WordOk x) : LineOk (stp (b, n) x).1 (stp (b, n) x).2 := by
  have hl : x.data.toList.length = x.size := rfl
  obtain ⟨⟨h1, h2, h3, h4⟩, hp, hle, hst⟩ := h
  obtain ⟨hx1, hx2, hx3⟩ := hx
  have key : ∀ d : UInt8, (d = 32 ∧ n + 1 + x.size ≤ 72) ∨ (d = 10 ∧ 72 < n + 1 + x.size) → LineOk (b ++ (d :: x.data.toList)) (if d = 32 then n + 1 + x.size else x.size) := by
    intro d hd
    have elen : (b ++ (d :: x.data.toList)).length = b.length + 1 + x.size := by rw [List.length_append, List.length_cons, hl]; omega
    have esp : b ++ (d :: x.data.toList) = (b ++ [d]) ++ x.data.toList := by simp
    have hat : (b ++ (d :: x.data.toList))[b.length]? = some d := by rw [List.getElem?_append_right (Nat.le_refl _), Nat.sub_self]; rfl
    have hin : ∀ i c, b.length < i → (b ++ (d :: x.data.toList))[i]? = some c → c ≠ 32 ∧ c ≠ 10 := by
      intro i c hi hc
      rw [List.getElem?_append_right (by omega), show i - b.length = (i - b.length - 1) + 1 by omega, List.getElem?_cons_succ] at hc
      exact hx3 c (List.mem_of_getElem? hc)
    have hlt : ∀ i, i < b.length → (b ++ (d :: x.data.toList))[i]? = b[i]? := fun i hi => List.getElem?_append_left hi
    have hlb : ∀ i, i ≤ b.length → YtffchjigpppoaaaDoor.lst (b ++ (d :: x.data.toList)) i = YtffchjigpppoaaaDoor.lst b i := fun i hi => lst_left b _ i hi
    have hlast : YtffchjigpppoaaaDoor.lst (b ++ (d :: x.data.toList)) (b.length + 1 + x.size) = if d = 32 then YtffchjigpppoaaaDoor.lst b b.length else b.length + 1 := by
      have e := lst_word (b ++ [d]) x.data.toList hx3 x.size (by omega)
      rw [← esp] at e
      rw [show (b ++ [d]).length = b.length + 1 by simp] at e
      rw [e]
      show (if (b ++ [d])[b.length]? = some 10 then b.length + 1 else YtffchjigpppoaaaDoor.lst (b ++ [d]) b.length) = _
      rw [lst_left b [d] _ (Nat.le_refl _), List.getElem?_append_right (Nat.le_refl _), Nat.sub_self]
      rcases hd with ⟨rfl, _⟩ | ⟨rfl, _⟩
      · rfl
      · rfl
    have hstop : ∀ k, b.length < k → (k = (b ++ (d :: x.data.toList)).length ∨ (b ++ (d :: x.data.toList))[k]? = some 32 ∨ (b ++ (d :: x.data.toList))[k]? = some 10) → k = b.length + 1 + x.size := by
      intro k hk hs
      rcases hs with e | e | e
      · rw [e, elen]
      · exact absurd rfl (hin k _ hk e).1
      · exact absurd rfl (hin k _ hk e).2
    refine ⟨⟨?_, ?_, ?_, ?_⟩, ?_, ?_, ?_⟩
    · intro i hi
      by_cases hib : i < b.length
      · rw [hlt i hib] at hi
        obtain ⟨g1, c, g2, g3⟩ := h1 i hi
        rw [hlb i (by omega)]
        refine ⟨g1, c, ?_, g3⟩
        rw [hlt (i + 1) ((List.getElem?_eq_some_iff.1 g2).1)]
        exact g2
      · by_cases hie : i = b.length
        · subst hie
          rw [hlb _ (Nat.le_refl _)]
          refine ⟨by omega, x.data.toList[0]'(by omega), ?_, hx3 _ (List.getElem_mem _)⟩
          rw [List.getElem?_append_right (by omega), show b.length + 1 - b.length = 0 + 1 by omega, List.getElem?_cons_succ]
          exact List.getElem?_eq_getElem _
        · exact absurd rfl (hin i _ (by omega) hi).1
    · intro i hi
      by_cases hib : i < b.length
      · rw [hlt i hib] at hi
        obtain ⟨g1, g2, g3⟩ := h2 i hi
        rw [hlb i (by omega)]
        refine ⟨g1, g2, fun k hk hs => ?_⟩
        by_cases hkb : k < b.length
        · rw [hlt k hkb] at hs
          refine g3 k hk (.inr ?_)
          rcases hs with e | e
          · omega
          · exact e
        · have := g3 b.length hib (.inl rfl)
          omega
      · by_cases hie : i = b.length
        · subst hie
          rw [hlb _ (Nat.le_refl _)]
          refine ⟨by omega, by omega, fun k hk hs => ?_⟩
          have := hstop k hk hs
          rw [hat] at hi
          rcases hd with ⟨rfl, _⟩ | ⟨rfl, _⟩
          · cases hi
          · omega
        · exact absurd rfl (hin i _ (by omega) hi).2
    · rw [elen, hlast]
      rcases hd with ⟨rfl, _⟩ | ⟨rfl, _⟩
      · rw [if_pos rfl]; omega
      · rw [if_neg (by decide)]; omega
    · refine .inr ?_
      rw [elen, hlast]
      rcases hd with ⟨rfl, _⟩ | ⟨rfl, _⟩
      · rw [if_pos rfl]; omega
      · rw [if_neg (by decide)]; omega
    · split <;> omega
    · rcases hd with ⟨rfl, _⟩ | ⟨rfl, _⟩
      · rw [if_pos rfl]; omega
      · rw [if_neg (by decide)]; omega
    · rw [elen, hlast]
      rcases hd with ⟨rfl, _⟩ | ⟨rfl, _⟩
      · rw [if_pos rfl, if_pos rfl]; omega
      · rw [if_neg (by decide), if_neg (by decide)]
  unfold stp
  by_cases hc : n + 1 + x.size ≤ 72
  · have h := key 32 (.inl ⟨rfl, hc⟩)
    rw [if_pos rfl] at h
    simp only [if_pos hc]
    exact h
  · have h := key 10 (.inr ⟨rfl, by omega⟩)
    rw [if_neg (by decide)] at h
    simp only [if_neg hc]
    exact h
theorem lines_fold (r : List ByteArray) (hr : ∀ x ∈ r, WordOk x) : ∀ b n, LineOk b n → LineOk (r.foldl stp (b, n)).1 (r.foldl stp (b, n)).2 := by
  induction r with
  | nil => intro b n h; exact h
  | cons x r ih =>
    intro b n h
    exact ih (fun y hy => hr y (List.mem_cons_of_mem _ hy)) _ _ (lines_stp h (hr x List.mem_cons_self))
theorem lines_fill (l : List ByteArray) (hl : ∀ x ∈ l, WordOk x) : FillOk (linesOf l) := by
  cases l with
  | nil => exact ⟨fun i h => (by cases h), fun i h => (by cases h), Nat.zero_le _, .inl rfl⟩
  | cons x r =>
    have hx := hl x List.mem_cons_self
    have h0 : LineOk ([] ++ x.data.toList) x.size := by
      have f := fill_word hx
      have e := lst_word [] x.data.toList hx.bare x.size (Nat.le_refl _)
      refine ⟨f, hx.some, hx.le, ?_⟩
      simp only [List.length_nil, Nat.zero_add] at e
      show lst ([] ++ x.data.toList) x.data.toList.length + x.size = x.data.toList.length
      rw [show x.data.toList.length = x.size from rfl, e]
      simp [lst]
    exact (lines_fold r (fun y hy => hl y (List.mem_cons_of_mem _ hy)) _ _ h0).fill
theorem brk_size (l : List UInt8) : (brk 0 l).length = l.length + (l.length + 71) / 72 := by
  generalize hr : l.reverse = m
  induction m generalizing l with
  | nil => rw [List.reverse_eq_nil_iff] at hr; subst hr; rfl
  | cons c r ih =>
    have e : l = r.reverse ++ [c] := by rw [← List.reverse_cons, ← hr, List.reverse_reverse]
    subst e
    have h := ih r.reverse (by simp)
    rw [brk_snoc]
    simp only [List.length_append, h, Nat.zero_add, List.length_cons, List.length_nil]
    generalize r.reverse.length = N
    split <;> simp only [List.length_cons, List.length_nil] <;> omega
theorem brk_at (l : List UInt8) (hl : ∀ c ∈ l, c ≠ 10) : ∀ (i : Nat) (c : UInt8), (brk 0 l)[i]? = some c → (c = 10 ↔ i % 73 = 0) := by
  generalize hr : l.reverse = m
  induction m generalizing l with
  | nil => rw [List.reverse_eq_nil_iff] at hr; subst hr; intro i c h; cases h
  | cons d r ih =>
    have e : l = r.reverse ++ [d] := by rw [← List.reverse_cons, ← hr, List.reverse_reverse]
    subst e
    have h := ih r.reverse (fun c hc => hl c (List.mem_append_left _ hc)) (by simp)
    have hd := hl d (List.mem_append_right _ List.mem_cons_self)
    intro i c hc
    rw [brk_snoc] at hc
    have hs := brk_size r.reverse
    by_cases hi : i < (brk 0 r.reverse).length
    · rw [List.getElem?_append_left hi] at hc
      exact h i c hc
    · rw [List.getElem?_append_right (by omega)] at hc
      obtain ⟨N, hN⟩ : ∃ N, r.reverse.length = N := ⟨_, rfl⟩
      rw [hN] at hs hc
      rw [hs] at hc hi
      obtain ⟨j, hj⟩ : ∃ j, i = N + (N + 71) / 72 + j := ⟨i - (N + (N + 71) / 72), by omega⟩
      subst hj
      rw [Nat.add_sub_cancel_left, Nat.zero_add] at hc
      by_cases hm : N % 72 = 0
      · rw [if_pos hm] at hc
        rcases j with _ | _ | j
        · cases hc
          constructor
          · intro _; omega
          · intro _; rfl
        · cases hc
          constructor
          · intro e; exact absurd e hd
          · intro _; omega
        · cases hc
      · rw [if_neg hm] at hc
        rcases j with _ | j
        · cases hc
          constructor
          · intro e; exact absurd e hd
          · intro _; omega
        · cases hc

theorem u8_ne (c : UInt8) (k : Nat) (_ : k < 256) (h : c ≠ UInt8.ofNat k) : ¬ (c.toNat : Int) = (k : Int) := fun e => h (by
  have e2 : c.toNat = k := by omega
  rw [← e2]
  exact (UInt8.ofNat_toNat).symm)
theorem lst_next {S : List UInt8} {i : Nat} (h : S[i]? ≠ some 10) : lst S (i + 1) = lst S i := by
  show (if S[i]? = some 10 then i + 1 else lst S i) = _
  rw [if_neg h]
theorem lst_new {S : List UInt8} {i : Nat} (h : S[i]? = some 10) : lst S (i + 1) = i + 1 := by
  show (if S[i]? = some 10 then i + 1 else lst S i) = _
  rw [if_pos h]

set_option maxRecDepth 100000 in
set_option maxHeartbeats 8000000 in
theorem filled_any (w : World) (S : List UInt8) (hN : S.length ≤ 1099511627776) (hF : FillOk S) :
    Calls Tryd.prog 13 #[.string (strB S)] w fun e w' => e = .returned (.bool true) ∧ w' = w := by
  have hS : (strB S).size = S.length := strB_size S
  obtain ⟨N, hNe⟩ : ∃ N, S.length = N := ⟨_, rfl⟩
  rw [hNe] at hS hN
  have HN : Hid (S.length = N) := hNe
  have HF : Hid (FillOk S) := hF
  clear hNe hF
  go_enter Tryd.func13, Tryd.ntmps13
  go_wp2_with fail
  go_loopw [3, 4, 5] (fun f i _ wx => ∃ (k fr : Nat), k ≤ N + 1 ∧ fr ≤ k ∧ f = .int .i64 fr ∧ i = .int .i64 k ∧ Hid (k ≤ N → fr = lst S k) ∧ w = wx) (fun _ i _ _ => N + 1 - (intOf i).toNat)
  case atStart => exact ⟨0, 0, Nat.zero_le _, Nat.le_refl _, rfl, rfl, fun _ => rfl, rfl⟩
  case round =>
    obtain ⟨k, fr, hk, hfk, rfl, rfl, hfr, rfl⟩ := hrel
    by_cases hle : k ≤ N
    · have n0 : (k : Int) ≤ (N : Int) := by omega
      have hfr2 : Hid (fr = lst S k) := hfr.out hle
      clear hfr
      by_cases hlt : k < N
      · have n1 : (k : Int) < (N : Int) := by omega
        have hlt2 : k < (strB S).size := by omega
        obtain ⟨c, hc⟩ : ∃ c, (strB S)[k]'hlt2 = c := ⟨_, rfl⟩
        have hSc : S[k]? = some c := by
          rw [← hc]
          exact List.getElem?_eq_getElem (by rw [HN.out]; exact hlt)
        have HSc : Hid (S[k]? = some c) := hSc
        by_cases h10 : c = 10
        · subst h10
          obtain ⟨g1, g2, g3⟩ := HF.out.line k hSc
          rw [← hfr2.out] at g1 g2 g3
          have HG : Hid (∀ q, k < q → (q = S.length ∨ S[q]? = some 32 ∨ S[q]? = some 10) → 72 < q - fr) := g3
          have z1 : ((10 : UInt8).toNat : Int) = 10 := rfl
          have n2 : ¬ (72 : Int) < (k : Int) - (fr : Int) := by omega
          have n3 : ¬ (k : Int) = (fr : Int) := by omega
          have hnew : Hid (k + 1 = lst S (k + 1)) := (lst_new hSc).symm
          clear hSc g3
          go_wp2_with fail
          go_loopw [5] (fun q wx => ∃ (p : Nat), k < p ∧ p ≤ N ∧ q = .int .i64 p ∧ w = wx) (fun q _ => N - (intOf q).toNat)
          case atStart => exact ⟨k + 1, by omega, by omega, by go_num, by first | rfl | trivial⟩
          case round =>
            obtain ⟨p, hp1, hp2, rfl, rfl⟩ := hrel
            have hstop : (p = S.length ∨ S[p]? = some 32 ∨ S[p]? = some 10) → 72 < p - fr := HG.out p hp1
            by_cases hpN : p < N
            · have n4 : (p : Int) < (N : Int) := by omega
              have hpl : p < (strB S).size := by omega
              obtain ⟨d, hd⟩ : ∃ d, (strB S)[p]'hpl = d := ⟨_, rfl⟩
              have hSd : S[p]? = some d := by
                rw [← hd]
                exact List.getElem?_eq_getElem (by rw [HN.out]; exact hpN)
              by_cases d32 : d = 32
              · subst d32
                have hg := hstop (.inr (.inl hSd))
                have n5 : ¬ (p : Int) - (fr : Int) ≤ 72 := by omega
                have z2 : ((32 : UInt8).toNat : Int) = 32 := rfl
                clear hstop hSd
                go_wp2
                exact ⟨⟨k + 1, k + 1, by omega, by omega, by go_num, by go_num, fun _ => hnew.out, by first | rfl | trivial⟩, by simp [intOf]; omega⟩
              · by_cases d10 : d = 10
                · subst d10
                  have hg := hstop (.inr (.inr hSd))
                  have n5 : ¬ (p : Int) - (fr : Int) ≤ 72 := by omega
                  clear hstop hSd
                  go_wp2
                  all_goals exact ⟨⟨k + 1, k + 1, by omega, by omega, by go_num, by go_num, fun _ => hnew.out, by first | rfl | trivial⟩, by simp [intOf]; omega⟩
                · have e32 : ¬ (d.toNat : Int) = 32 := u8_ne d 32 (by omega) d32
                  have e10 : ¬ (d.toNat : Int) = 10 := u8_ne d 10 (by omega) d10
                  have b3 : ((d.toNat : Int) != 32) = true := bne_iff_ne.2 e32
                  have b4 : ((d.toNat : Int) != 10) = true := bne_iff_ne.2 e10
                  clear hstop hSd d32 d10
                  go_wp2
                  exact ⟨⟨p + 1, by omega, by omega, by go_num, by first | rfl | trivial⟩, by simp [intOf]; omega⟩
            · obtain rfl : p = N := by omega
              have hg := hstop (.inl HN.out.symm)
              have n4 : ¬ (p : Int) < (p : Int) := by omega
              have n5 : ¬ (p : Int) - (fr : Int) ≤ 72 := by omega
              clear hstop
              go_wp2
              exact ⟨⟨k + 1, k + 1, by omega, by omega, by go_num, by go_num, fun _ => hnew.out, by first | rfl | trivial⟩, by simp [intOf]; omega⟩
        · have e10 : ¬ (c.toNat : Int) = 10 := u8_ne c 10 (by omega) h10
          have hsame : Hid (fr = lst S (k + 1)) := by
            show _ = _
            rw [lst_next (by rw [hSc]; intro e; exact h10 (Option.some.inj e))]
            exact hfr2.out
          by_cases h32 : c = 32
          · subst h32
            obtain ⟨g1, d, g2, g3, g4⟩ := HF.out.blank k hSc
            rw [← hfr2.out] at g1
            have hk1 : k + 1 < N := by have := (List.getElem?_eq_some_iff.1 g2).1; have := HN.out; omega
            have hk2 : k + 1 < (strB S).size := by omega
            have hd : (strB S)[k + 1]'hk2 = d := (List.getElem?_eq_some_iff.1 g2).2
            have n3 : ¬ (k : Int) = (fr : Int) := by omega
            have n4 : ¬ (k : Int) + 1 = (N : Int) := by omega
            have d32 : ¬ (d.toNat : Int) = 32 := u8_ne d 32 (by omega) g3
            have d10 : ¬ (d.toNat : Int) = 10 := u8_ne d 10 (by omega) g4
            have z2 : ((32 : UInt8).toNat : Int) = 32 := rfl
            have b1 : ((k : Int) == (fr : Int)) = false := beq_eq_false_iff_ne.2 n3
            have b2 : ((k : Int) + 1 == (N : Int)) = false := beq_eq_false_iff_ne.2 n4
            have b3 : ((d.toNat : Int) == 32) = false := beq_eq_false_iff_ne.2 d32
            have b4 : ((d.toNat : Int) == 10) = false := beq_eq_false_iff_ne.2 d10
            clear hSc g2 g3 g4 g1 h10
            go_wp2
            exact ⟨⟨k + 1, fr, by omega, by omega, rfl, by go_num, fun _ => hsame.out, by first | rfl | trivial⟩, by simp [intOf]; omega⟩
          · have e32 : ¬ (c.toNat : Int) = 32 := u8_ne c 32 (by omega) h32
            clear hSc h10 h32
            go_wp2
            exact ⟨⟨k + 1, fr, by omega, by omega, rfl, by go_num, fun _ => hsame.out, by first | rfl | trivial⟩, by simp [intOf]; omega⟩
      · obtain rfl : k = N := by omega
        have n1 : ¬ (k : Int) < (k : Int) := by omega
        have g1 := HF.out.last
        have g2 := HF.out.some
        rw [HN.out, ← hfr2.out] at g1 g2
        have n2 : ¬ (72 : Int) < (k : Int) - (fr : Int) := by omega
        have g3 : k = 0 ∨ k ≠ fr := by
          rcases g2 with e | e
          · left; have h := HN.out; rw [e] at h; exact h.symm
          · right; exact e
        clear g2
        rcases g3 with e | e
        · have n5 : ¬ (0 : Int) < (k : Int) := by omega
          have n3 : (k : Int) = (fr : Int) := by omega
          go_wp2_with fail
          go_loopw [5] (fun q wx => q = .int .i64 ((k : Int) + 1) ∧ w = wx) (fun _ _ => 0)
          case atStart => exact ⟨by go_num, rfl⟩
          case round =>
            obtain ⟨rfl, rfl⟩ := hrel
            have n6 : ¬ (k : Int) + 1 < (k : Int) := by omega
            go_wp2
            exact ⟨⟨k + 1, k + 1, by omega, by omega, by go_num, by go_num, fun h => absurd h (by omega), by first | rfl | trivial⟩, by simp [intOf] <;> omega⟩
        · have n3 : ¬ (k : Int) = (fr : Int) := by omega
          go_wp2_with fail
          go_loopw [5] (fun q wx => q = .int .i64 ((k : Int) + 1) ∧ w = wx) (fun _ _ => 0)
          case atStart => exact ⟨by go_num, rfl⟩
          case round =>
            obtain ⟨rfl, rfl⟩ := hrel
            have n6 : ¬ (k : Int) + 1 < (k : Int) := by omega
            go_wp2
            exact ⟨⟨k + 1, k + 1, by omega, by omega, by go_num, by go_num, fun h => absurd h (by omega), by first | rfl | trivial⟩, by simp [intOf] <;> omega⟩
    · have n0 : ¬ (k : Int) ≤ (N : Int) := by omega
      go_wp2
      go_ret
      exact ⟨rfl, rfl⟩
end Go.Proofs.YtffchjigpppoaaaDoor
