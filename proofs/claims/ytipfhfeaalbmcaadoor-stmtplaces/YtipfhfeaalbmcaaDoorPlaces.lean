/- Every word that is told stands in the text where it says, in order: said without the program. -/
import Derived.Test.YtipfhfeaalbmcaaDoorRRead
namespace Go.Proofs.YtipfhfeaalbmcaaDoor
open Go.RowKit
open scoped List

deriving instance DecidableEq for Tok
def emp (t : Tok) : Bool := t.text.toList.isEmpty
theorem emp_iff {t : Tok} : emp t = true ↔ t.text = ⟨#[]⟩ := by
  unfold emp
  rw [ByteArray.toList_eq]
  obtain ⟨⟨⟨l⟩⟩, a, b, c⟩ := t
  cases l <;> simp
def waitL (t : Tok) : List Tok := if emp t = true then [] else [t]
def finL (s : Stm) : List Tok := if s.fin ≠ s.key ∧ emp s.fin = false then [s.fin] else []
/-- A statement's words as they stand in the text. -/
def allT (s : Stm) : List Tok := waitL s.label ++ ([s.key] ++ (s.words ++ (s.proof ++ finL s)))
/-- Words that stand in a text one behind the other, from a on, up to the byte E. -/
def Chn (s : ByteArray) (E : Nat) : Nat → List Tok → Prop
  | a, [] => a ≤ E
  | a, t :: r => ∃ n m : Nat, t.off = n ∧ a ≤ n ∧ n < m ∧ m ≤ s.size ∧ t.text = s.extract n m ∧ Chn s E m r
theorem Chn.less {s : ByteArray} {E a b : Nat} {l : List Tok} (h : Chn s E a l) (hb : b ≤ a) : Chn s E b l := by
  cases l with
  | nil => exact Nat.le_trans hb h
  | cons t r =>
    obtain ⟨n, m, h1, h2, h3⟩ := h
    exact ⟨n, m, h1, Nat.le_trans hb h2, h3⟩
theorem Chn.le {s : ByteArray} {E : Nat} : ∀ {l : List Tok} {a : Nat}, Chn s E a l → a ≤ E
  | [], a, h => h
  | t :: r, a, h => by
    obtain ⟨n, m, _, h2, h3, _, _, h4⟩ := h
    have := h4.le
    omega
theorem Chn.sub {s : ByteArray} {E : Nat} {l l' : List Tok} (hs : l' <+ l) : ∀ {a : Nat}, Chn s E a l → Chn s E a l' := by
  induction hs with
  | slnil => intro a h; exact h
  | cons t hs ih =>
    intro a h
    obtain ⟨n, m, _, h2, h3, _, _, h4⟩ := h
    exact (ih h4).less (by omega)
  | cons_cons t hs ih =>
    intro a h
    obtain ⟨n, m, h1, h2, h3, h5, h6, h4⟩ := h
    exact ⟨n, m, h1, h2, h3, h5, h6, ih h4⟩
theorem Chn.snoc {s : ByteArray} {E E' : Nat} {t : Tok} {n m : Nat} (h1 : t.off = n) (h2 : E ≤ n) (h3 : n < m) (h4 : m ≤ s.size) (h5 : t.text = s.extract n m) (h6 : m ≤ E') : ∀ {l : List Tok} {a : Nat}, Chn s E a l → Chn s E' a (l ++ [t])
  | [], a, h => ⟨n, m, h1, Nat.le_trans h h2, h3, h4, h5, h6⟩
  | u :: r, a, h => by
    obtain ⟨p, q, g1, g2, g3, g4, g5, g6⟩ := h
    exact ⟨p, q, g1, g2, g3, g4, g5, Chn.snoc h1 h2 h3 h4 h5 h6 g6⟩
theorem told_chn {s : ByteArray} {q : Nat} {l : List K.Tok} (h : K.ToldTo s q l) : ∀ E, q ≤ E → Chn s E 0 (l.map toT) := by
  induction h with
  | nil => intro E hE; exact Nat.zero_le _
  | @snoc p q n m l t hT hp hS ho hsh hm ih =>
    intro E hE
    rw [List.map_append]
    exact Chn.snoc (E := p) (n := n) (m := m) hS.off hp hS.lt hS.le hS.text (by omega) (ih p (Nat.le_refl _))
theorem told_size {s : ByteArray} {q : Nat} {l : List K.Tok} (h : K.ToldTo s q l) : Chn s s.size 0 (l.map toT) := by
  cases h with
  | nil => exact Nat.zero_le _
  | @snoc p q n m l t hT hp hS ho hsh hm =>
    rw [List.map_append]
    exact Chn.snoc (E := p) (n := n) (m := m) hS.off hp hS.lt hS.le hS.text hS.le (told_chn hT p (Nat.le_refl _))
theorem told_ahead {s : ByteArray} {q : Nat} {l : List K.Tok} (h : K.ToldTo s q l) : ∀ (j : Nat) (t : K.Tok), l[j]? = some t → ∃ n m, K.Stands s t n m ∧ Chn s n 0 ((l.take j).map toT) := by
  induction h with
  | nil => intro j t ht; simp at ht
  | @snoc p q n m l x hT hp hS ho hsh hm ih =>
    intro j t ht
    by_cases hj : j < l.length
    · rw [List.getElem?_append_left hj] at ht
      obtain ⟨n', m', h1, h2⟩ := ih j t ht
      exact ⟨n', m', h1, by rw [List.take_append_of_le_length (by omega)]; exact h2⟩
    · have hj' : j = l.length := by
        have := (List.getElem?_eq_some_iff.1 ht).1
        simp only [List.length_append, List.length_singleton] at this
        omega
      subst hj'
      simp only [List.getElem?_concat_length, Option.some.injEq] at ht
      subst ht
      exact ⟨n, m, hS, by rw [List.take_append_of_le_length (Nat.le_refl _), List.take_length]; exact told_chn hT n hp⟩

/-- What holds of a reader behind some words. -/
structure InvR (P : PS) (pre : List Tok) : Prop where
  sub : (P.l.flatMap allT ++ waitL P.wt) <+ pre
  wt0 : emp P.wt = true → P.wt = zTok
  opw : P.opn = true → P.wt = zTok
  fin : ∀ s ∈ P.l.dropLast, emp s.fin = false
  cls : P.opn = false → ∀ s ∈ P.l, emp s.fin = false
  opn : P.opn = true → ∃ l s, P.l = l ++ [s] ∧ s.fin = zTok ∧ (s.proving = false → s.proof = []) ∧ (s.kind ≠ 7 → s.proving = false) ∧ s.key.text ≠ dotS
  fk : ∀ s ∈ P.l, emp s.key = false ∧ (s.fin = s.key ∨ s.fin.text ≠ s.key.text)
theorem kw_dot : ∀ k, k < 10 → kwB k ≠ dotS := by decide
theorem kindN_kw {s : ByteArray} (h : kindN s ≠ 0) : kwB (kindN s) = s := by
  unfold kindN at h ⊢
  cases hf : (List.range 10).find? fun k => decide (kwB k = s) with
  | none => rw [hf] at h; exact absurd rfl h
  | some j =>
    have := List.find?_some hf
    simpa using this
theorem emp_z : emp zTok = true := by unfold emp; rw [ByteArray.toList_eq]; rfl
theorem waitL_z : waitL zTok = [] := by unfold waitL; rw [if_pos emp_z]
theorem allT_fin {s : Stm} (h : s.fin = zTok) : allT s = waitL s.label ++ ([s.key] ++ (s.words ++ s.proof)) := by
  unfold allT finL
  rw [if_neg (by rw [h]; intro e; have := e.2; rw [emp_z] at this; cases this)]
  simp
theorem inv0 : InvR ps0 [] := ⟨by show (([] : List Stm).flatMap allT ++ waitL zTok) <+ []; rw [waitL_z]; exact List.Sublist.refl _, fun _ => rfl, (fun e => by cases e), (fun s hs => by cases hs), (fun _ s hs => by cases hs), (fun e => by cases e), (fun s hs => by cases hs)⟩
theorem InvR.more {P : PS} {pre : List Tok} {t : Tok} (h : InvR P pre) : InvR P (pre ++ [t]) := ⟨h.sub.trans (List.sublist_append_left _ _), h.wt0, h.opw, h.fin, h.cls, h.opn, h.fk⟩

theorem inv_step {P : PS} {pre : List Tok} {t : Tok} (h : InvR P pre) (ht : emp t = false) (hc : (takeF P t).1 = 0) : InvR (takeF P t).2 (pre ++ [t]) := by
  unfold takeF at hc ⊢
  cases ho : P.opn with
  | true =>
    obtain ⟨l, s, hl, hf, hpr, h7, hkd⟩ := h.opn ho
    have hke : emp s.key = false := (h.fk s (by rw [hl]; simp)).1
    have hkz : zTok.text ≠ s.key.text := fun e => by rw [emp_iff.2 (show s.key.text = ⟨#[]⟩ from e.symm)] at hke; cases hke
    have hw := h.opw ho
    rw [if_pos ho] at hc
    rw [if_pos rfl]
    have e1 : P.l.getLast? = some s := by rw [hl]; simp
    have e2 : P.l.dropLast = l := by rw [hl]; simp
    rw [e1] at hc ⊢
    dsimp only at hc ⊢
    have hfl : ∀ s', ((P.l.dropLast ++ [s']).flatMap allT ++ waitL P.wt) = l.flatMap allT ++ allT s' := fun s' => by rw [e2, hw, waitL_z]; simp
    have hsub : (l.flatMap allT ++ allT s) <+ pre := by have := h.sub; rw [hl, hw, waitL_z] at this; simpa using this
    have grow : ∀ s', allT s' = allT s ++ [t] → (l.flatMap allT ++ allT s') <+ pre ++ [t] := fun s' e => by rw [e, ← List.append_assoc]; exact hsub.append (List.Sublist.refl _)
    have hfin : ∀ u ∈ l, emp u.fin = false := fun u hu => h.fin u (by rw [e2]; exact hu)
    have mk : ∀ s' (b : Bool), (l.flatMap allT ++ allT s') <+ pre ++ [t] → (s'.key = s.key ∧ s'.fin.text ≠ s.key.text) → (b = true → emp s'.fin = false) → (b = false → s'.fin = zTok ∧ (s'.proving = false → s'.proof = []) ∧ (s'.kind ≠ 7 → s'.proving = false) ∧ s'.key.text ≠ dotS) → InvR ⟨P.l.dropLast ++ [s'], !b, P.wt⟩ (pre ++ [t]) := fun s' b g1 g0 g2 g3 => by
      refine ⟨by rw [hfl]; exact g1, h.wt0, fun _ => hw, fun u hu => ?_, fun e u hu => ?_, fun e => ?_, fun u hu => ?_⟩
      · have hu' : u ∈ l := by simpa [e2] using hu
        exact hfin u hu'
      · have hb : b = true := by simpa using e
        rcases List.mem_append.1 hu with hu | hu
        · exact hfin u (by rw [← e2]; exact hu)
        · rw [List.mem_singleton.1 hu]; exact g2 hb
      · have hb : b = false := by simpa using e
        exact ⟨P.l.dropLast, s', rfl, g3 hb⟩
      · rcases List.mem_append.1 hu with hu | hu
        · exact h.fk u (List.dropLast_subset _ hu)
        · rw [List.mem_singleton.1 hu, g0.1]; exact ⟨hke, .inr g0.2⟩
    unfold withinF at hc ⊢
    by_cases hp : plainB t.text = true
    · rw [if_pos hp] at hc ⊢
      dsimp only at hc ⊢
      unfold addF at hc ⊢
      by_cases h7p : s.kind = 7 ∧ s.proving = true
      · rw [if_pos h7p]
        refine mk _ false (grow _ ?_) ⟨rfl, by rw [hf]; exact hkz⟩ (fun e => by cases e) fun _ => ⟨hf, fun e => ?_, h7, hkd⟩
        · rw [allT_fin hf, allT_fin (s := { s with proof := s.proof ++ [t] }) hf]; simp
        · have e' : s.proving = false := e
          rw [h7p.2] at e'; cases e'
      · rw [if_neg h7p] at hc ⊢
        have hnp : s.proving = false := by
          cases hq : s.proving with
          | false => rfl
          | true =>
            by_cases hk : s.kind = 7
            · exact absurd ⟨hk, hq⟩ h7p
            · rw [h7 hk] at hq; cases hq
        by_cases hm : (s.words.length : Int) = mstI s.kind.toNat
        · rw [if_pos hm] at hc; cases hc
        · rw [if_neg hm]
          refine mk _ false (grow _ ?_) ⟨rfl, by rw [hf]; exact hkz⟩ (fun e => by cases e) fun _ => ⟨hf, hpr, h7, hkd⟩
          rw [allT_fin hf, allT_fin (s := { s with words := s.words ++ [t] }) hf]
          simp [hpr hnp]
    · rw [if_neg hp] at hc ⊢
      by_cases he : t.text = eqS
      · rw [if_pos he] at hc ⊢
        dsimp only at hc ⊢
        unfold begF at hc ⊢
        by_cases hk : s.kind = 7
        · rw [if_pos hk] at hc ⊢
          by_cases hq : s.proving = true
          · rw [if_pos hq] at hc; cases hc
          · rw [if_neg hq] at hc ⊢
            by_cases hlt : (s.words.length : Int) < lstI 7
            · rw [if_pos hlt] at hc; cases hc
            · rw [if_neg hlt]
              refine mk _ false ?_ ⟨rfl, by rw [hf]; exact hkz⟩ (fun e => by cases e) fun _ => ⟨hf, (fun e => by cases e), fun e => absurd hk e, hkd⟩
              have e : allT { s with proving := true } = allT s := rfl
              rw [e]
              exact hsub.trans (List.sublist_append_left _ _)
        · rw [if_neg hk] at hc; cases hc
      · rw [if_neg he] at hc ⊢
        by_cases hd : t.text = dotS
        · rw [if_pos hd] at hc ⊢
          dsimp only at hc ⊢
          rw [decide_eq_true hc]
          unfold endF at hc ⊢
          by_cases h7p : s.kind = 7 ∧ s.proving = false
          · rw [if_pos h7p] at hc; cases hc
          · rw [if_neg h7p] at hc ⊢
            by_cases hlt : (s.words.length : Int) < lstI s.kind.toNat
            · rw [if_pos hlt] at hc; cases hc
            · rw [if_neg hlt]
              refine mk _ true (grow _ ?_) ⟨rfl, fun e => hkd (e.symm.trans hd)⟩ (fun _ => ht) (fun e => by cases e)
              rw [allT_fin hf]
              unfold allT finL
              rw [if_pos ⟨fun e => hkd (by rw [← e]; exact hd), ht⟩]
              simp
        · rw [if_neg hd] at hc; cases hc
  | false =>
    rw [if_neg (by rw [ho]; exact Bool.false_ne_true)] at hc
    rw [if_neg Bool.false_ne_true]
    unfold betweenF at hc ⊢
    by_cases hp : plainB t.text = true
    · rw [if_pos hp] at hc ⊢
      by_cases hw : wtB P.wt = true
      · rw [if_pos hw] at hc; cases hc
      · rw [if_neg hw]
        have hwe : emp P.wt = true := by unfold wtB at hw; unfold emp; simpa using hw
        refine ⟨?_, fun e => ?_, fun e => ?_, h.fin, fun _ => h.cls ho, fun e => ?_, h.fk⟩
        · have := h.sub
          rw [waitL, if_pos hwe, List.append_nil] at this
          show (P.l.flatMap allT ++ waitL t) <+ _
          rw [waitL, if_neg (by rw [ht]; exact Bool.false_ne_true)]
          exact this.append (List.Sublist.refl _)
        · have e' : emp t = true := e
          rw [ht] at e'; cases e'
        · have e' : P.opn = true := e
          rw [ho] at e'; cases e'
        · have e' : P.opn = true := e
          rw [ho] at e'; cases e'
    · rw [if_neg hp] at hc ⊢
      by_cases hk : kindN t.text = 0
      · rw [if_pos hk] at hc; cases hc
      · rw [if_neg hk] at hc ⊢
        by_cases hl : labB (kindN t.text) ≠ wtB P.wt
        · rw [if_pos hl] at hc; cases hc
        · rw [if_neg hl]
          have hall := h.cls ho
          have hkw := kindN_kw hk
          have hlt := kindN_lt t.text
          generalize kindN t.text = k at hk hl hkw hlt ⊢
          have hlab : brk k = true → P.wt = zTok := fun hb => by
            have hlb : labB k = false := by
              unfold brk at hb
              simp at hb
              rcases hb with hb | hb
              · obtain rfl : k = 8 := by omega
                rfl
              · obtain rfl : k = 9 := by omega
                rfl
            have : wtB P.wt = false := by rw [← hlb]; exact (Decidable.not_not.1 hl).symm
            exact h.wt0 (by unfold wtB at this; unfold emp; simpa using this)
          have hA : allT (newS k P.wt t) = waitL P.wt ++ [t] := by
            unfold newS
            by_cases hb : brk k = true
            · rw [if_pos hb, hlab hb, waitL_z]
              unfold allT finL
              rw [if_neg (fun e => e.1 rfl)]
              simp [waitL_z]
            · rw [if_neg hb, allT_fin rfl]
              simp
          refine ⟨?_, fun _ => rfl, fun _ => rfl, fun u hu => ?_, fun e u hu => ?_, fun e => ?_, fun u hu => ?_⟩
          · show ((P.l ++ [newS k P.wt t]).flatMap allT ++ waitL zTok) <+ _
            rw [waitL_z, List.append_nil, List.flatMap_append, List.flatMap_singleton, hA, ← List.append_assoc]
            exact h.sub.append (List.Sublist.refl _)
          · have hu' : u ∈ P.l := by simpa using hu
            exact hall u hu'
          · have hb : brk k = true := by simpa using e
            rcases List.mem_append.1 hu with hu | hu
            · exact hall u hu
            · rw [List.mem_singleton.1 hu]
              unfold newS
              rw [if_pos hb]
              exact ht
          · have hb : ¬ brk k = true := by simpa using e
            refine ⟨P.l, _, rfl, ?_⟩
            unfold newS
            rw [if_neg hb]
            exact ⟨rfl, fun _ => rfl, fun _ => rfl, by rw [← hkw]; exact kw_dot k hlt⟩
          · rcases List.mem_append.1 hu with hu | hu
            · exact h.fk u hu
            · rw [List.mem_singleton.1 hu]
              unfold newS
              split
              · exact ⟨ht, .inl rfl⟩
              · refine ⟨ht, .inr fun e => ?_⟩
                rw [emp_iff.2 (show t.text = ⟨#[]⟩ from e.symm)] at ht
                cases ht
theorem err_stays {P : PS} {t : Tok} (hp : P.opn = true → ∃ l s, P.l = l ++ [s]) (hc : (takeF P t).1 ≠ 0) : (takeF P t).2 = P := by
  unfold takeF at hc ⊢
  cases ho : P.opn with
  | true =>
    obtain ⟨l, s, hl⟩ := hp ho
    rw [if_pos ho] at hc
    rw [if_pos rfl]
    have e1 : P.l.getLast? = some s := by rw [hl]; simp
    have e2 : P.l.dropLast ++ [s] = P.l := by rw [hl]; simp
    rw [e1] at hc ⊢
    dsimp only at hc ⊢
    have key : (withinF s t).2.1 = s ∧ (withinF s t).2.2 = false := by
      unfold withinF at hc ⊢
      split at hc
      · rename_i hp
        rw [if_pos hp]
        dsimp only at hc ⊢
        unfold addF at hc ⊢
        split at hc
        · exact absurd rfl hc
        · rename_i h7
          rw [if_neg h7]
          split at hc
          · rename_i hm
            rw [if_pos hm]
            exact ⟨rfl, rfl⟩
          · exact absurd rfl hc
      · rename_i hp
        rw [if_neg hp]
        split at hc
        · rename_i he
          rw [if_pos he]
          dsimp only at hc ⊢
          unfold begF at hc ⊢
          split at hc
          · rename_i h7
            rw [if_pos h7]
            split at hc
            · rename_i hq
              rw [if_pos hq]
              exact ⟨rfl, rfl⟩
            · rename_i hq
              rw [if_neg hq]
              split at hc
              · rename_i hm
                rw [if_pos hm]
                exact ⟨rfl, rfl⟩
              · exact absurd rfl hc
          · rename_i h7
            rw [if_neg h7]
            exact ⟨rfl, rfl⟩
        · rename_i he
          rw [if_neg he]
          split at hc
          · rename_i hd
            rw [if_pos hd]
            dsimp only at hc ⊢
            refine ⟨?_, decide_eq_false hc⟩
            unfold endF at hc ⊢
            split at hc
            · rename_i h7
              rw [if_pos h7]
            · rename_i h7
              rw [if_neg h7]
              split at hc
              · rename_i hm
                rw [if_pos hm]
              · exact absurd rfl hc
          · rename_i hd
            rw [if_neg hd]
            exact ⟨rfl, rfl⟩
    rw [key.1, key.2, e2]
    cases P
    simp at ho
    simp [ho]
  | false =>
    rw [if_neg (by rw [ho]; exact Bool.false_ne_true)] at hc
    rw [if_neg Bool.false_ne_true]
    unfold betweenF at hc ⊢
    split at hc
    · rename_i hp
      rw [if_pos hp]
      split at hc
      · rename_i hw
        rw [if_pos hw]
      · exact absurd rfl hc
    · rename_i hp
      rw [if_neg hp]
      split at hc
      · rename_i hk
        rw [if_pos hk]
      · rename_i hk
        rw [if_neg hk]
        split at hc
        · rename_i hl
          rw [if_pos hl]
        · exact absurd rfl hc
theorem runT_inv : ∀ (ts : List Tok) (P : PS) (pre : List Tok), InvR P pre → (∀ t ∈ ts, emp t = false) →
    ((runT P ts).2 = none → InvR (runT P ts).1 (pre ++ ts)) ∧ ∀ t c, (runT P ts).2 = some (t, c) → c ≠ 0 ∧ ∃ a b, ts = a ++ t :: b ∧ InvR (runT P ts).1 (pre ++ a)
  | [], P, pre, h, _ => ⟨fun _ => by rw [List.append_nil]; exact h, fun t c e => by cases e⟩
  | u :: ts, P, pre, h, ht => by
    unfold runT
    by_cases hc : (takeF P u).1 = 0
    · rw [if_pos hc]
      obtain ⟨h1, h2⟩ := runT_inv ts _ (pre ++ [u]) (inv_step h (ht u (by simp)) hc) fun t ht' => ht t (by simp [ht'])
      refine ⟨fun e => by have := h1 e; rw [List.append_assoc] at this; exact this, fun t c e => ?_⟩
      obtain ⟨g1, a, b, g2, g3⟩ := h2 t c e
      exact ⟨g1, u :: a, b, by rw [g2]; rfl, by rw [List.append_assoc] at g3; exact g3⟩
    · rw [if_neg hc]
      refine ⟨fun e => (by cases e), fun t c e => ?_⟩
      cases e
      have he := err_stays (t := u) (fun ho => by obtain ⟨l, s, e, _⟩ := h.opn ho; exact ⟨l, s, e⟩) hc
      exact ⟨hc, [], ts, rfl, by show InvR (takeF P u).2 _; rw [he]; simpa using h⟩
theorem words_emp (s : ByteArray) : ∀ t ∈ wordsF s, emp t = false := fun t ht => by
  unfold wordsF at ht
  obtain ⟨u, hu, rfl⟩ := List.mem_map.1 ht
  obtain ⟨⟨q, hq⟩, _⟩ := K.scan_stands s
  obtain ⟨i, hi⟩ := List.getElem?_of_mem hu
  obtain ⟨n, m, hS, _⟩ := hq.at i u hi
  cases he : emp (toT u) with
  | false => rfl
  | true =>
    have h1 := emp_iff.1 he
    have h2 : (toT u).text = s.extract n m := hS.text
    rw [h1] at h2
    have h3 := congrArg ByteArray.size h2
    rw [ByteArray.size_extract] at h3
    have := hS.lt
    have := hS.le
    have h4 : (⟨#[]⟩ : ByteArray).size = 0 := rfl
    omega
theorem ext_nil (s : ByteArray) (n : Nat) : s.extract n (n + 0) = ⟨#[]⟩ := by
  apply ByteArray.ext
  apply Array.toList_inj.1
  rw [Lib.extract_data]
  simp
theorem read_places (s : ByteArray) : ∃ E, Chn s E 0 ((readF s).1.l.flatMap allT) ∧ (∀ u ∈ (readF s).1.l, u.fin = u.key ∨ u.fin.text ≠ u.key.text) ∧ (∀ u ∈ (readF s).1.l.dropLast, emp u.fin = false) ∧ ((readF s).2 = none → ∀ u ∈ (readF s).1.l, emp u.fin = false) ∧
    ∀ t c, (readF s).2 = some (t, c) → c ≠ 0 ∧ ∃ n : Nat, t.off = n ∧ E ≤ n ∧ n + t.text.size ≤ s.size ∧ s.extract n (n + t.text.size) = t.text := by
  obtain ⟨⟨q, hq⟩, _, hF⟩ := K.scan_stands s
  obtain ⟨g1, g2⟩ := runT_inv (wordsF s) ps0 [] inv0 (words_emp s)
  have subl : ∀ {P : PS} {pre : List Tok}, InvR P pre → P.l.flatMap allT <+ pre := fun h => (List.sublist_append_left _ _).trans h.sub
  have ex : ∀ {n m : Nat}, m ≤ s.size → n < m → (s.extract n m).size = m - n := fun h1 h2 => by rw [ByteArray.size_extract]; omega
  unfold readF
  generalize hr : runT ps0 (wordsF s) = r at g1 g2 ⊢
  obtain ⟨P, f⟩ := r
  cases f with
  | some f =>
    obtain ⟨t, c⟩ := f
    obtain ⟨hc, a, b, hab, hI⟩ := g2 t c rfl
    rw [List.nil_append] at hI
    have hj : (K.scanF s).1[a.length]? = some (⟨t.text, t.off, t.line, t.col⟩ : K.Tok) := by
      have h1 : (wordsF s)[a.length]? = some t := by rw [hab]; simp
      unfold wordsF at h1
      rw [List.getElem?_map] at h1
      cases hk : (K.scanF s).1[a.length]? with
      | none => rw [hk] at h1; cases h1
      | some u =>
        rw [hk] at h1
        simp only [Option.map_some, Option.some.injEq] at h1
        rw [← h1]
        rfl
    obtain ⟨n, m, hS, hch⟩ := told_ahead hq _ _ hj
    have ha : ((K.scanF s).1.take a.length).map toT = a := by
      rw [List.map_take]
      show (wordsF s).take a.length = a
      rw [hab]
      simp
    rw [ha] at hch
    refine ⟨n, hch.sub (subl hI), (fun u hu => (hI.fk u hu).2), hI.fin, fun e => (by cases e), fun t' c' e => ?_⟩
    cases e
    have h2 : t.text = s.extract n m := hS.text
    have h3 := ex hS.le hS.lt
    have := hS.le
    have := hS.lt
    refine ⟨hc, n, hS.off, Nat.le_refl _, ?_, ?_⟩
    · rw [h2, h3]; omega
    · rw [h2, h3, show n + (m - n) = m by omega]
  | none =>
    have hI := g1 rfl
    rw [List.nil_append] at hI
    dsimp only
    cases hsc : (K.scanF s).2 with
    | some f =>
      obtain ⟨t, c⟩ := f
      dsimp only
      rcases hF t c hsc with ⟨q, n, hT, hqn, hB⟩ | ⟨q, n, m, hT, hqn, hS, hcd⟩
      · refine ⟨n, (told_chn hT n hqn).sub (subl hI), (fun u hu => (hI.fk u hu).2), hI.fin, fun e => (by cases e), fun t' c' e => ?_⟩
        cases e
        have h1 : (toT t).text = ⟨#[]⟩ := hB.text
        have hlt := hB.lt
        refine ⟨by rcases hB.code with ⟨h, _⟩ | ⟨h, _⟩ <;> omega, n, hB.off, Nat.le_refl _, ?_, ?_⟩
        · rw [h1]; exact Nat.le_of_lt hlt
        · rw [h1]
          exact ext_nil s n
      · refine ⟨n, (told_chn hT n hqn).sub (subl hI), (fun u hu => (hI.fk u hu).2), hI.fin, fun e => (by cases e), fun t' c' e => ?_⟩
        cases e
        have h2 : (toT t).text = s.extract n m := hS.text
        have h3 := ex hS.le hS.lt
        have := hS.le
        have := hS.lt
        refine ⟨by rcases hcd with h | ⟨h, _⟩ | ⟨h, _⟩ <;> omega, n, hS.off, Nat.le_refl _, ?_, ?_⟩
        · rw [h2, h3]; omega
        · rw [h2, h3, show n + (m - n) = m by omega]
    | none =>
      dsimp only
      have hch : ∀ E, q ≤ E → Chn s E 0 (P.l.flatMap allT) := fun E hE => (told_chn hq E hE).sub (subl hI)
      by_cases hm : (P.opn || wtB P.wt) = true
      · rw [if_pos hm]
        have hch' : Chn s s.size 0 (P.l.flatMap allT) := (told_size hq).sub (subl hI)
        refine ⟨s.size, hch', (fun u hu => (hI.fk u hu).2), hI.fin, fun e => (by cases e), fun t' c' e => ?_⟩
        cases e
        refine ⟨by omega, s.size, rfl, Nat.le_refl _, Nat.le_refl _, ?_⟩
        exact ext_nil s s.size
      · rw [if_neg hm]
        have ho : P.opn = false := by cases h : P.opn <;> simp [h] at hm ⊢
        exact ⟨q, hch q (Nat.le_refl _), (fun u hu => (hI.fk u hu).2), hI.fin, fun _ => hI.cls ho, fun t' c' e => by cases e⟩
theorem SmallP.up {P : PS} {j k : Nat} (h : SmallP P j) (hk : j ≤ k) : SmallP P k := ⟨Nat.le_trans h.1 hk, fun s hs => ⟨Nat.le_trans (h.2 s hs).1 hk, Nat.le_trans (h.2 s hs).2 hk⟩⟩
theorem runT_small : ∀ (ts : List Tok) (P : PS) (j : Nat), SmallP P j → SmallP (runT P ts).1 (j + ts.length)
  | [], P, j, h => h
  | t :: ts, P, j, h => by
    unfold runT
    split
    · exact (runT_small ts _ (j + 1) (takeF_small h)).up (by simp; omega)
    · exact (takeF_small h).up (by simp)
theorem read_small (s : ByteArray) : SmallP (readF s).1 16384 := by
  have h := (runT_small (wordsF s) ps0 0 ⟨Nat.le_refl _, fun s hs => by cases hs⟩).up (k := 16384) (by have := words_few s; omega)
  unfold readF
  generalize runT ps0 (wordsF s) = r at h ⊢
  obtain ⟨P, f⟩ := r
  cases f with
  | some f => exact h
  | none =>
    dsimp only at h ⊢
    cases (K.scanF s).2 with
    | some f => exact h
    | none =>
      dsimp only
      split <;> exact h
end Go.Proofs.YtipfhfeaalbmcaaDoor
