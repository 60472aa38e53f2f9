/- Letters parted into words anywhere: what they say. -/
import Derived.Test.YtffchjigpppoaaaDoorLinesPure
import Derived.Test.YtffchjigpppoaaaDoorSame
namespace Go.Proofs.YtffchjigpppoaaaDoor
open Go.RowKit

theorem nums_wr (x : Int) (hx : wrOk x = true) : numsOf 0 (wrT x) = [x] ∧ endA 0 (wrT x) = 0 := by
  by_cases h1 : x = -1
  · subst h1; exact ⟨rfl, rfl⟩
  · by_cases h2 : x = -2
    · subst h2; exact ⟨rfl, rfl⟩
    · have hr : 0 ≤ x ∧ x < (lim : Int) := by
        simp only [wrOk, Bool.or_eq_true, beq_iff_eq, Bool.and_eq_true, decide_eq_true_eq] at hx
        omega
      obtain ⟨n, rfl⟩ : ∃ n : Nat, x = n := ⟨x.toNat, by omega⟩
      have e : wrT (n : Int) = enc n := by
        unfold wrT
        rw [if_neg h1, if_neg h2]
        rfl
      rw [e]
      exact nums_enc n (by omega)
theorem nums_print (L : List Int) : prOk L = true → numsOf 0 (prB L) = L ∧ endA 0 (prB L) = 0 := by
  induction L with
  | nil => intro _; exact ⟨rfl, rfl⟩
  | cons x L ih =>
    intro h
    simp only [prOk, List.all_cons, Bool.and_eq_true] at h
    obtain ⟨t1, t2⟩ := nums_wr x h.1
    obtain ⟨t3, t4⟩ := ih h.2
    have e : prB (x :: L) = wrT x ++ prB L := rfl
    rw [e, numsOf_append, endA_append, t1, t2, t3, t4]
    exact ⟨rfl, rfl⟩
/-- The letters of the law: a digit may stand behind them. -/
def lettP (L : List Int) (dg : Bool) : List UInt8 := prB L ++ (if dg then [86] else [])
theorem lett_nums (L : List Int) (dg : Bool) (h : prOk L = true) : numsOf 0 (lettP L dg) = L ∧ decide (0 < endA 0 (lettP L dg)) = dg := by
  obtain ⟨h1, h2⟩ := nums_print L h
  unfold lettP
  rw [numsOf_append, endA_append, h1, h2]
  cases dg
  · exact ⟨by simp [numsOf], rfl⟩
  · exact ⟨by simp [numsOf, stepN, isD], by decide⟩
theorem brk_bare (l : List UInt8) (h : ∀ c ∈ l, c ≠ 10) : ∀ i, (brk i l).filter (· != 10) = l := by
  induction l with
  | nil => intro i; rfl
  | cons c l ih =>
    intro i
    have hc : (c != 10) = true := bne_iff_ne.2 (h c List.mem_cons_self)
    have h2 := ih (fun x hx => h x (List.mem_cons_of_mem _ hx)) (i + 1)
    simp only [brk, List.filter_append, List.filter_cons, hc, if_true, h2]
    split <;> rfl
theorem codes_rise (R : List Tok) : R.Pairwise (fun s t => s.off ≤ t.off) → ∀ a, (codesOf a R).Pairwise (fun x y => x.2.off ≤ y.2.off) ∧ ∀ x ∈ codesOf a R, x.2 ∈ R ∧ x.2.bytes ≠ [] := by
  induction R with
  | nil => intro _ a; exact ⟨List.Pairwise.nil, fun x hx => by cases hx⟩
  | cons t R ih =>
    intro hP a
    rw [List.pairwise_cons] at hP
    obtain ⟨i1, i2⟩ := ih hP.2 (endA a t.bytes)
    have hto : ∀ x ∈ toldBy t (numsOf a t.bytes), x.2 = t ∧ t.bytes ≠ [] := fun x hx => by
      unfold toldBy at hx
      obtain ⟨n, hn, rfl⟩ := List.mem_map.1 hx
      refine ⟨rfl, fun e => ?_⟩
      rw [e] at hn
      cases hn
    refine ⟨?_, fun x hx => ?_⟩
    · show (toldBy t (numsOf a t.bytes) ++ codesOf (endA a t.bytes) R).Pairwise _
      rw [List.pairwise_append]
      refine ⟨?_, i1, fun x hx y hy => ?_⟩
      · rw [List.pairwise_iff_getElem]
        intro i j hi hj _
        rw [(hto _ (List.getElem_mem hi)).1, (hto _ (List.getElem_mem hj)).1]
        exact Int.le_refl _
      · rw [(hto x hx).1]
        exact hP.1 _ (i2 y hy).1
    · have hx2 : x ∈ toldBy t (numsOf a t.bytes) ++ codesOf (endA a t.bytes) R := hx
      rcases List.mem_append.1 hx2 with hx2 | hx2
      · obtain ⟨e1, e2⟩ := hto x hx2
        rw [e1]
        exact ⟨List.mem_cons_self, e2⟩
      · exact ⟨List.mem_cons_of_mem _ (i2 x hx2).1, (i2 x hx2).2⟩
def lpT : Tok := ⟨⟨#[40]⟩, 0, 0, 0⟩
def rpT : Tok := ⟨⟨#[41]⟩, 0, 0, 0⟩
theorem parse_parted (R : List Tok) : parseT (lpT :: rpT :: R) = ⟨2, [], codesOf 0 R, false, decide (0 < endOf 0 R)⟩ := by
  have h1 : isT lp lpT = true := by unfold isT; rw [ByteArray.toList_eq]; rfl
  have h2 : isT rp rpT = true := by unfold isT; rw [ByteArray.toList_eq]; rfl
  have h3 : (rpT :: R).findIdx? (isT rp) = some 0 := by rw [List.findIdx?_cons, h2]; rfl
  show (if isT lp lpT = true then _ else _) = _
  rw [if_pos h1, h3]
  rfl
/-- Pieces made so far: where each says that it stands. -/
structure Pieces (ps : List Tok) (j : Nat) : Prop where
  len : ps.length = j
  offs : ∀ (i : Nat) (t : Tok), ps[i]? = some t → t.off = (i : Int) + 1
theorem Pieces.nil : Pieces [] 0 := ⟨rfl, fun i t h => by cases h⟩
theorem Pieces.snoc {ps : List Tok} {j : Nat} (h : Pieces ps j) (t : Tok) (ht : t.off = (j : Int) + 1) : Pieces (ps ++ [t]) (j + 1) := by
  refine ⟨by rw [List.length_append, h.len]; rfl, fun i s hs => ?_⟩
  by_cases hi : i < ps.length
  · rw [List.getElem?_append_left hi] at hs
    exact h.offs i s hs
  · have hi2 := (List.getElem?_eq_some_iff.1 hs).1
    rw [List.length_append, List.length_singleton] at hi2
    have e : i = ps.length := by omega
    subst e
    rw [List.getElem?_append_right (Nat.le_refl _), Nat.sub_self] at hs
    cases hs
    rw [ht, h.len]
theorem Pieces.rise {ps : List Tok} {j : Nat} (h : Pieces ps j) (t : Tok) (k : Nat) (ht : t.off = (k : Int) + 1) (hjk : j ≤ k) : (ps ++ [t]).Pairwise (fun s t => s.off ≤ t.off) ∧ ∀ x ∈ ps ++ [t], 0 ≤ x.off := by
  have hl := h.len
  have key : ∀ i (hi : i < ps.length), ps[i].off = (i : Int) + 1 := fun i hi => h.offs i _ (List.getElem?_eq_getElem hi)
  constructor
  · rw [List.pairwise_append]
    refine ⟨?_, List.pairwise_singleton _ _, fun a ha b hb => ?_⟩
    · rw [List.pairwise_iff_getElem]
      intro i j hi hj hij
      rw [key i hi, key j hj]
      omega
    · rw [List.mem_singleton.1 hb, ht]
      obtain ⟨i, hi, rfl⟩ := List.mem_iff_getElem.1 ha
      rw [key i hi]
      omega
  · intro x hx
    rcases List.mem_append.1 hx with hx | hx
    · obtain ⟨i, hi, rfl⟩ := List.mem_iff_getElem.1 hx
      rw [key i hi]
      omega
    · rw [List.mem_singleton.1 hx, ht]
      omega
/-- All that the law asks of the pieces of letters. -/
theorem parted_all {ps : List Tok} {j k : Nat} {t : Tok} {L : List Int} {dg : Bool} (hP : Pieces ps j) (ht : t.off = (k : Int) + 1) (hjk : j ≤ k) (hL : prOk L = true) (hB : allBytes (ps ++ [t]) = lettP L dg) :
    (codesOf 0 (ps ++ [t])).map (·.1) = L ∧ decide (0 < endOf 0 (ps ++ [t])) = dg ∧ (codesOf 0 (ps ++ [t])).Pairwise (fun x y => x.2.off ≤ y.2.off) ∧ ∀ x ∈ codesOf 0 (ps ++ [t]), 0 ≤ x.2.off ∧ x.2.text.size ≠ 0 := by
  obtain ⟨h1, h2⟩ := nums_of_codes (ps ++ [t]) 0
  obtain ⟨h3, h4⟩ := lett_nums L dg hL
  obtain ⟨h5, h6⟩ := hP.rise t k ht hjk
  obtain ⟨h7, h8⟩ := codes_rise _ h5 0
  refine ⟨by rw [h1, hB, h3], by rw [h2, hB, h4], h7, fun x hx => ⟨h6 _ (h8 x hx).1, fun e => (h8 x hx).2 ?_⟩⟩
  refine List.length_eq_zero_iff.1 ?_
  rw [Tok.size]
  exact e
theorem lettP_len (L : List Int) (dg : Bool) (h : prOk L = true) : (lettP L dg).length ≤ 21 * L.length + 1 := by
  have := prB_len L h
  unfold lettP
  rw [List.length_append]
  split <;> simp only [List.length_cons, List.length_nil] <;> omega

set_option maxRecDepth 100000 in
set_option maxHeartbeats 4000000 in
theorem says_any (w : World) (a : Option Addr) (n c : Nat) (cs : List (Int × Tok)) (hl : cs.length = n) (hn : n ≤ 4294967300) (hC : CodesAt w a cs) (b : Option Addr) (d : Nat) (hI : IntsAt w b (cs.map (·.1))) :
    Calls Tryd.prog 23 #[.slice a n c, .slice b n d] w fun e w' => e = .returned (.bool true) ∧ Below w.heap.size w w' := by
  have HC : Hid (CodesAt w a cs) := hC
  have HI : Hid (IntsAt w b (cs.map (·.1))) := hI
  have HL : Hid (cs.length = n) := hl
  clear hC hI hl
  go_enter Tryd.func23, Tryd.ntmps23
  go_wp2_with fail
  go_loopw [5] (fun i wx => ∃ j : Nat, j ≤ n ∧ i = .int .i64 j ∧ Hid (Below w.heap.size w wx)) (fun i _ => n - (intOf i).toNat)
  case atStart => exact ⟨0, Nat.zero_le _, rfl, Below.refl _ _⟩
  case round =>
    obtain ⟨j, hj, rfl, hb⟩ := hrel
    by_cases hlt : j < n
    · have n1 : (j : Int) < (n : Int) := by omega
      obtain ⟨k, hk⟩ : ∃ k, cs[j]? = some k := ⟨cs[j]'(by rw [HL.out]; exact hlt), List.getElem?_eq_getElem _⟩
      obtain ⟨g1, o1, rfl, x0, x1, x2, x3, x4⟩ := (HC.out.under hb.out) j k hk
      obtain ⟨g2, o2, rfl, y0⟩ := (HI.out.under hb.out) j k.1 (by rw [List.getElem?_map, hk]; rfl)
      clear hk x1 x2 x3 x4
      go_wp2_with fail
      go_quiet (fail)
      have Bq : Hid (Below w.heap.size w (wr.drewN nq)) := below_drewN hb.out nq
      generalize wr.drewN nq = wq at *
      go_wp2
      exact ⟨⟨j + 1, by omega, by go_num, Bq.out⟩, by simp [intOf]; omega⟩
    · have n1 : ¬ (j : Int) < (n : Int) := by omega
      go_wp2
      go_ret
      exact ⟨rfl, hb.out⟩
end Go.Proofs.YtffchjigpppoaaaDoor
