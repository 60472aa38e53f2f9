/- The document's reader, said without memory, and that it says what the program's says. -/
import Derived.Test.YtipfhfeaalbmcabDoorRfW
import Derived.Test.YtipfhfeaalbmcabDoorReadF
namespace Go.Proofs.YtipfhfeaalbmcabDoor
open Go.RowKit

theorem iteFF {α : Type} (a b : α) : (if (false = false) then a else b) = a := if_pos rfl
theorem iteTT {α : Type} (a b : α) : (if (true = true) then a else b) = a := if_pos rfl
theorem iteTF {α : Type} (a b : α) : (if (true = false) then a else b) = b := if_neg (fun e => by cases e)
theorem iteFT {α : Type} (a b : α) : (if (false = true) then a else b) = b := if_neg (fun e => by cases e)
/-- What the document's reader holds. -/
structure DS where
  fin : List Stm
  lb : Tok
  wts : Bool
  opn : Bool
  p : Stm
def rnewS (k : Int) (wts : Bool) (lb ky : Tok) : Stm := ⟨k, if wts = true then lb else zTok, ky, false, [], [], zTok⟩
def rbrkS (k : Int) (wts : Bool) (lb ky : Tok) : Stm := ⟨k, if wts = true then lb else zTok, ky, false, [], [], ky⟩
def rbetweenF (D : DS) (t : Tok) : Int × DS :=
  if keyB t.text = false then (if D.wts = true then (60, D) else (0, ⟨D.fin, t, true, D.opn, D.p⟩))
  else if kindN t.text = 0 then (60, D)
  else if labB (kindN t.text) ≠ D.wts then (61, D)
  else if brkB (kindN t.text) = true then (0, ⟨D.fin ++ [rbrkS (kindN t.text) D.wts D.lb t], zTok, false, false, D.p⟩)
  else (0, ⟨D.fin, zTok, false, true, rnewS (kindN t.text) D.wts D.lb t⟩)
def rtakeF (D : DS) (t : Tok) : Int × DS :=
  if D.opn = true then ((rwithinF D.p t).1, if (rwithinF D.p t).2.2 = true then ⟨D.fin ++ [(rwithinF D.p t).2.1], D.lb, D.wts, false, zStm⟩ else ⟨D.fin, D.lb, D.wts, true, (rwithinF D.p t).2.1⟩)
  else rbetweenF D t
def rrunT : DS → List Tok → DS × Option (Tok × Int)
  | D, [] => (D, none)
  | D, t :: ts => if (rtakeF D t).1 = 0 then rrunT (rtakeF D t).2 ts else ((rtakeF D t).2, some (t, (rtakeF D t).1))
def ds0 : DS := ⟨[], zTok, false, false, zStm⟩
def toldD (D : DS) : List Stm := if D.opn = true then D.fin ++ [D.p] else D.fin
def rreadF (s : ByteArray) : DS × Option (Tok × Int) :=
  match rrunT ds0 (wordsF s) with
  | (D, some f) => (D, some f)
  | (D, none) => match (K.scanF s).2 with
    | some f => (D, some (toT f.1, f.2))
    | none => if (D.opn || D.wts) = true then (D, some (endTok s, 63)) else (D, none)
theorem rrunT_snoc : ∀ (ts : List Tok) (P : DS) (t : Tok) (Q : DS), rrunT P ts = (Q, none) → rrunT P (ts ++ [t]) = if (rtakeF Q t).1 = 0 then ((rtakeF Q t).2, none) else ((rtakeF Q t).2, some (t, (rtakeF Q t).1))
  | [], P, t, Q, h => by
    cases h
    rfl
  | u :: ts, P, t, Q, h => by
    unfold rrunT at h
    rw [List.cons_append]
    unfold rrunT
    by_cases hc : (rtakeF P u).1 = 0
    · rw [if_pos hc] at h ⊢
      exact rrunT_snoc ts _ t Q h
    · rw [if_neg hc] at h
      cases h
theorem rrunT_stop : ∀ (ts us : List Tok) (P Q : DS) (f : Tok × Int), rrunT P ts = (Q, some f) → rrunT P (ts ++ us) = (Q, some f)
  | [], us, P, Q, f, h => by cases h
  | u :: ts, us, P, Q, f, h => by
    unfold rrunT at h
    rw [List.cons_append]
    unfold rrunT
    by_cases hc : (rtakeF P u).1 = 0
    · rw [if_pos hc] at h ⊢
      exact rrunT_stop ts us _ Q f h
    · rw [if_neg hc] at h ⊢
      exact h
/-- A statement that may be open. -/
structure KOk (s : Stm) : Prop where
  k1 : 1 ≤ s.kind
  k7 : s.kind ≤ 7
  pr : s.proving = true → s.kind = 7
  m : (s.words.length : Int) ≤ mstI s.kind.toNat
theorem full_eq {k n : Nat} (h0 : 0 < k) (h : k < 10) (hm : (n : Int) ≤ mstI k) (hn : n ≤ 1048576) : fullB k n = decide ((n : Int) = mstI k) := by
  unfold fullB
  rcases rm_cases h h0 with ⟨e1, e2⟩ | ⟨e1, e2⟩
  · rw [e1, decide_eq_false (by omega), Bool.false_and, eq_comm, decide_eq_false_iff_not]
    rw [e2]
    omega
  · rw [decide_eq_true e1, Bool.true_and, e2, Bool.eq_iff_iff, decide_eq_true_iff, decide_eq_true_iff]
    omega
theorem within_eq {s : Stm} {t : Tok} (h : KOk s) (hn : s.words.length ≤ 1048576) (hp : plainB t.text = !keyB t.text) : withinF s t = rwithinF s t := by
  obtain ⟨k1, k7, pr, m⟩ := h
  obtain ⟨k, hk⟩ : ∃ k : Nat, s.kind = k := ⟨s.kind.toNat, by omega⟩
  have ek : s.kind.toNat = k := by rw [hk, Int.toNat_natCast]
  rw [ek] at m
  unfold withinF rwithinF
  cases hky : keyB t.text with
  | false =>
    rw [hky] at hp
    have hp : plainB t.text = true := hp
    rw [if_pos hp, iteFF]
    unfold addF
    cases hpr : s.proving with
    | true => rw [if_pos ⟨pr hpr, rfl⟩, iteTT]
    | false =>
      rw [if_neg (fun e => by cases e.2), iteFT, ek, full_eq (by omega) (by omega) m hn]
      by_cases he : (s.words.length : Int) = mstI k
      · rw [if_pos he, if_pos (decide_eq_true he)]
      · rw [if_neg he, if_neg (by rw [decide_eq_false he]; exact Bool.false_ne_true)]
  | true =>
    rw [hky] at hp
    rw [if_neg (by rw [hp]; exact Bool.false_ne_true), iteTF]
    by_cases he : t.text = eqS
    · have hd : t.text ≠ dotS := by rw [he]; decide
      rw [if_pos he]
      unfold begF
      by_cases h7 : s.kind = 7
      · have e7 : k = 7 := by omega
        rw [if_pos h7]
        cases hpr : s.proving with
        | true => rw [iteTT, if_neg (show ¬ (t.text = eqS ∧ s.kind = 7 ∧ true = false) from fun e => by cases e.2.2), if_pos hd]
        | false =>
          rw [iteFT, if_pos (show t.text = eqS ∧ s.kind = 7 ∧ false = false from ⟨he, h7, rfl⟩), ek, e7]
          by_cases hl : (s.words.length : Int) < lstI 7
          · rw [if_pos hl, if_pos hl]
          · rw [if_neg hl, if_neg hl]
      · rw [if_neg h7, if_neg (show ¬ (t.text = eqS ∧ s.kind = 7 ∧ s.proving = false) from fun e => h7 e.2.1), if_pos hd]
    · rw [if_neg he, if_neg (show ¬ (t.text = eqS ∧ s.kind = 7 ∧ s.proving = false) from fun e => he e.1)]
      by_cases hd : t.text = dotS
      · rw [if_pos hd, if_neg (show ¬ (t.text ≠ dotS) from fun e => e hd)]
        unfold endF
        by_cases h7 : s.kind = 7 ∧ s.proving = false
        · rw [if_pos h7, if_pos (show (s.words.length : Int) < lstI s.kind.toNat ∨ s.kind = 7 ∧ s.proving = false from .inr h7)]
          rfl
        · rw [if_neg h7]
          by_cases hl : (s.words.length : Int) < lstI s.kind.toNat
          · rw [if_pos hl, if_pos (show (s.words.length : Int) < lstI s.kind.toNat ∨ s.kind = 7 ∧ s.proving = false from .inl hl)]
            rfl
          · rw [if_neg hl, if_neg (show ¬ ((s.words.length : Int) < lstI s.kind.toNat ∨ s.kind = 7 ∧ s.proving = false) from fun e => e.elim hl h7)]
            rfl
      · rw [if_neg hd, if_pos hd]
theorem within_ok {s : Stm} {t : Tok} (h : KOk s) (hn : s.words.length ≤ 1048576) : KOk (rwithinF s t).2.1 := by
  obtain ⟨k1, k7, pr, m⟩ := h
  obtain ⟨k, hk⟩ : ∃ k : Nat, s.kind = k := ⟨s.kind.toNat, by omega⟩
  have ek : s.kind.toNat = k := by rw [hk, Int.toNat_natCast]
  unfold rwithinF
  split
  · split
    · exact ⟨k1, k7, pr, m⟩
    · split
      · exact ⟨k1, k7, pr, m⟩
      · rename_i hf
        refine ⟨k1, k7, pr, ?_⟩
        rw [ek] at hf m ⊢
        rw [full_eq (by omega) (by omega) m hn] at hf
        have : (s.words.length : Int) ≠ mstI k := fun e => hf (decide_eq_true e)
        simp only [List.length_append, List.length_singleton]
        omega
  · split
    · rename_i he
      split
      · exact ⟨k1, k7, pr, m⟩
      · exact ⟨k1, k7, fun _ => he.2.1, m⟩
    · split
      · exact ⟨k1, k7, pr, m⟩
      · split
        · exact ⟨k1, k7, pr, m⟩
        · exact ⟨k1, k7, pr, m⟩
/-- The two readers hold the same. -/
structure Agr (P : PS) (D : DS) : Prop where
  o : P.opn = D.opn
  l : P.l = toldD D
  w : P.wt = D.lb
  ws : wtB D.lb = D.wts
  z : D.wts = false → D.lb = zTok
  k : D.opn = true → KOk D.p
theorem wtB_z : wtB zTok = false := by unfold wtB zTok; rw [ByteArray.toList_eq]; rfl
theorem new_eq {k : Nat} {D : DS} {t : Tok} (hk : k < 10) (hz : D.wts = false → D.lb = zTok) (hl : labB k = D.wts) : newS k D.lb t = if brkB k = true then rbrkS k D.wts D.lb t else rnewS k D.wts D.lb t := by
  have hb : brk (k : Int) = brkB k := by
    rcases ten hk with rfl | rfl | rfl | rfl | rfl | rfl | rfl | rfl | rfl | rfl <;> rfl
  have hw : brkB k = true → D.wts = false := fun e => by
    rw [← hl]
    rcases ten hk with rfl | rfl | rfl | rfl | rfl | rfl | rfl | rfl | rfl | rfl <;> first | rfl | cases e
  unfold newS rbrkS rnewS
  rw [hb]
  cases hbk : brkB k with
  | true =>
    rw [iteTT, iteTT, hw hbk, iteFT]
  | false =>
    rw [iteFT, iteFT]
    cases hwt : D.wts with
    | true => rw [iteTT]
    | false => rw [iteFT, hz hwt]
theorem take_eq {P : PS} {D : DS} {t : Tok} (h : Agr P D) (hn : D.p.words.length ≤ 1048576) (hp : plainB t.text = !keyB t.text) (hw : wtB t = true) : (takeF P t).1 = (rtakeF D t).1 ∧ Agr (takeF P t).2 (rtakeF D t).2 := by
  obtain ⟨o, l, w, ws, z, k⟩ := h
  unfold takeF rtakeF
  cases ho : D.opn with
  | true =>
    rw [ho] at o
    have hl : P.l = D.fin ++ [D.p] := by rw [l]; unfold toldD; rw [if_pos ho]
    rw [if_pos o, iteTT, hl, List.getLast?_concat, List.dropLast_concat]
    dsimp only
    rw [within_eq (k ho) hn hp]
    refine ⟨rfl, ?_⟩
    cases hr : (rwithinF D.p t).2.2 with
    | true =>
      rw [iteTT]
      exact ⟨rfl, rfl, w, ws, z, fun e => by cases e⟩
    | false =>
      rw [iteFT]
      exact ⟨rfl, rfl, w, ws, z, fun _ => within_ok (k ho) hn⟩
  | false =>
    rw [ho] at o
    have hl : P.l = D.fin := by rw [l]; unfold toldD; rw [if_neg (by rw [ho]; exact Bool.false_ne_true)]
    have ag : Agr P D := ⟨by rw [o, ho], l, w, ws, z, k⟩
    rw [if_neg (by rw [o]; exact Bool.false_ne_true), iteFT]
    unfold betweenF rbetweenF
    cases hky : keyB t.text with
    | false =>
      rw [hky] at hp
      have hp : plainB t.text = true := hp
      rw [if_pos hp, iteFF, w, ws]
      cases hwt : D.wts with
      | true => exact ⟨rfl, ag⟩
      | false =>
        rw [iteFT, iteFT]
        refine ⟨rfl, by dsimp only; rw [o, ho], ?_, rfl, hw, (fun e => by cases e), fun e => ?_⟩
        · dsimp only; rw [hl]; unfold toldD; dsimp only; rw [ho, iteFT]
        · dsimp only at e; rw [ho] at e; cases e
    | true =>
      rw [hky] at hp
      rw [if_neg (by rw [hp]; exact Bool.false_ne_true), iteTF, w, ws]
      by_cases hk0 : kindN t.text = 0
      · rw [if_pos hk0, if_pos hk0]
        exact ⟨rfl, ag⟩
      · rw [if_neg hk0, if_neg hk0]
        by_cases hlb : labB (kindN t.text) ≠ D.wts
        · rw [if_pos hlb, if_pos hlb]
          exact ⟨rfl, ag⟩
        · rw [if_neg hlb, if_neg hlb]
          have hl2 : labB (kindN t.text) = D.wts := Classical.byContradiction hlb
          have hkt := kindN_lt t.text
          generalize kindN t.text = kk at hk0 hl2 hkt
          have hb : brk (kk : Int) = brkB kk := by
            rcases ten hkt with rfl | rfl | rfl | rfl | rfl | rfl | rfl | rfl | rfl | rfl <;> rfl
          rw [new_eq hkt z hl2, hb, hl]
          cases hbk : brkB kk with
          | true =>
            rw [iteTT, iteTT]
            exact ⟨rfl, rfl, rfl, rfl, wtB_z, fun _ => rfl, fun e => by cases e⟩
          | false =>
            rw [iteFT, iteFT]
            have hk7 : kk ≤ 7 ∧ 0 ≤ mstI kk := by
              rcases ten hkt with rfl | rfl | rfl | rfl | rfl | rfl | rfl | rfl | rfl | rfl <;> first | (exact ⟨by omega, by decide⟩) | cases hbk
            refine ⟨rfl, rfl, rfl, rfl, wtB_z, fun _ => rfl, fun _ => ⟨?_, ?_, (fun e => by cases e), ?_⟩⟩
            · show (1 : Int) ≤ (kk : Int); omega
            · show (kk : Int) ≤ 7; omega
            · show ((0 : Nat) : Int) ≤ mstI (kk : Int).toNat; rw [Int.toNat_natCast]; exact hk7.2
theorem rwithin_small {s : Stm} {t : Tok} {j : Nat} (h : SmallS s j) : SmallS (rwithinF s t).2.1 (j + 1) := by
  unfold rwithinF
  split
  · split
    · exact ⟨h.up.1, by simp only [List.length_append, List.length_singleton]; exact Nat.succ_le_succ h.2⟩
    · split
      · exact h.up
      · exact ⟨by simp only [List.length_append, List.length_singleton]; exact Nat.succ_le_succ h.1, h.up.2⟩
  · split
    · split
      · exact h.up
      · exact h.up
    · split
      · exact h.up
      · split
        · exact h.up
        · exact h.up
/-- No list of the document's reader is longer than so many. -/
structure SmallD (D : DS) (j : Nat) : Prop where
  n : D.fin.length ≤ j
  f : ∀ s ∈ D.fin, SmallS s j
  p : SmallS D.p j
theorem SmallD.up {D : DS} {j : Nat} (h : SmallD D j) : SmallD D (j + 1) := ⟨Nat.le_succ_of_le h.n, fun s hs => (h.f s hs).up, h.p.up⟩
theorem small_z (j : Nat) : SmallS zStm j := ⟨Nat.zero_le _, Nat.zero_le _⟩
theorem rtakeF_small {D : DS} {t : Tok} {j : Nat} (h : SmallD D j) : SmallD (rtakeF D t).2 (j + 1) := by
  have snoc : ∀ x, SmallS x (j + 1) → ∀ s ∈ D.fin ++ [x], SmallS s (j + 1) := fun x hx s hs => by
    rcases List.mem_append.1 hs with hs | hs
    · exact (h.f s hs).up
    · rw [List.mem_singleton.1 hs]; exact hx
  have len : ∀ x : Stm, (D.fin ++ [x]).length ≤ j + 1 := fun x => by
    rw [List.length_append, List.length_singleton]; exact Nat.succ_le_succ h.n
  unfold rtakeF
  split
  · dsimp only
    split
    · exact ⟨len _, snoc _ (rwithin_small h.p), small_z _⟩
    · exact ⟨h.up.n, h.up.f, rwithin_small h.p⟩
  · unfold rbetweenF
    split
    · split
      · exact h.up
      · exact ⟨h.up.n, h.up.f, h.up.p⟩
    · split
      · exact h.up
      · split
        · exact h.up
        · split
          · exact ⟨len _, snoc _ ⟨Nat.zero_le _, Nat.zero_le _⟩, h.up.p⟩
          · exact ⟨h.up.n, h.up.f, ⟨Nat.zero_le _, Nat.zero_le _⟩⟩
theorem run_eq : ∀ (ts : List Tok) (P : PS) (D : DS) (j : Nat), Agr P D → SmallD D j → j + ts.length ≤ 1048576 → (∀ t ∈ ts, plainB t.text = !keyB t.text ∧ wtB t = true) → (runT P ts).2 = (rrunT D ts).2 ∧ Agr (runT P ts).1 (rrunT D ts).1
  | [], P, D, j, h, _, _, _ => ⟨rfl, h⟩
  | t :: ts, P, D, j, h, hs, hj, ht => by
    rw [List.length_cons] at hj
    obtain ⟨e1, e2⟩ := take_eq (t := t) h (by have := hs.p.1; omega) (ht t (List.mem_cons_self ..)).1 (ht t (List.mem_cons_self ..)).2
    unfold runT rrunT
    rw [e1]
    split
    · exact run_eq ts _ _ (j + 1) e2 (rtakeF_small hs) (by omega) fun u hu => ht u (List.mem_cons_of_mem _ hu)
    · exact ⟨rfl, e2⟩
theorem agr0 : Agr ps0 ds0 := ⟨rfl, rfl, rfl, wtB_z, fun _ => rfl, fun e => by cases e⟩
theorem word_ok (s : ByteArray) : ∀ t ∈ wordsF s, plainB t.text = !keyB t.text ∧ wtB t = true := fun t ht => by
  unfold wordsF at ht
  obtain ⟨u, hu, rfl⟩ := List.mem_map.1 ht
  obtain ⟨⟨q, hq⟩, _⟩ := K.scan_stands s
  obtain ⟨i, hi⟩ := List.getElem?_of_mem hu
  obtain ⟨n, m, hS, _⟩ := hq.at i u hi
  have hsz : (toT u).text.size = m - n := by
    show u.text.size = m - n
    rw [hS.text, ByteArray.size_extract]
    have := hS.le
    omega
  have hlt := hS.lt
  have hpos : 0 < (toT u).text.size := by omega
  have hok : (toT u).text.data.toList.all okB = true := by
    rw [List.all_eq_true]
    intro b hb
    have hb' : b ∈ u.text.data := Array.mem_toList_iff.1 hb
    rw [hS.text] at hb'
    obtain ⟨i, hi, e⟩ := Array.mem_iff_getElem.1 hb'
    have hsz2 : (s.extract n m).data.size = m - n := by
      show (s.extract n m).size = m - n
      rw [ByteArray.size_extract]; have := hS.le; omega
    have hi' : n + i < s.size := by have := hS.le; omega
    have eb : s[n + i] = b := by
      rw [← e]
      simp only [ByteArray.data_extract, Array.getElem_extract]
      rfl
    have hk := hS.word (n + i) (by omega) (by omega) hi'
    rw [eb] at hk
    have h1 := K.kind1 (b.toNat : Int) (by omega)
    have h0 := K.kind0 (b.toNat : Int) (by omega)
    unfold okB
    have : 33 ≤ (b.toNat : Int) ∧ (b.toNat : Int) ≤ 126 := by
      refine Classical.byContradiction fun hn => ?_
      by_cases hbl : (b.toNat : Int) = 9 ∨ (b.toNat : Int) = 10 ∨ (b.toNat : Int) = 12 ∨ (b.toNat : Int) = 13 ∨ (b.toNat : Int) = 32
      · have := h1.2 hbl; omega
      · have := h0.2 ⟨hbl, hn⟩; omega
    rw [decide_eq_true (by omega), decide_eq_true (by omega)]
    rfl
  refine ⟨?_, ?_⟩
  · unfold plainB
    rw [hok, decide_eq_true hpos]
    simp
  · unfold wtB
    rw [nempty hpos]
    rfl
theorem read_eq (s : ByteArray) : (readF s).2 = (rreadF s).2 ∧ (readF s).1.l = toldD (rreadF s).1 := by
  obtain ⟨e1, e2⟩ := run_eq (wordsF s) ps0 ds0 0 agr0 ⟨Nat.le_refl _, (fun _ h => by cases h), small_z _⟩ (by have := words_few s; omega) (word_ok s)
  unfold readF rreadF
  obtain ⟨P, f, hP⟩ : ∃ P f, runT ps0 (wordsF s) = (P, f) := ⟨_, _, rfl⟩
  obtain ⟨D, g, hD⟩ : ∃ D g, rrunT ds0 (wordsF s) = (D, g) := ⟨_, _, rfl⟩
  rw [hP, hD] at e1 e2
  rw [hP, hD]
  dsimp only at e1 e2
  subst e1
  cases f with
  | some f => exact ⟨rfl, e2.l⟩
  | none =>
    dsimp only
    cases (K.scanF s).2 with
    | some f => exact ⟨rfl, e2.l⟩
    | none =>
      dsimp only
      rw [e2.o, e2.w, e2.ws]
      split
      · exact ⟨rfl, e2.l⟩
      · exact ⟨rfl, e2.l⟩
theorem rread_small (s : ByteArray) : SmallD (rreadF s).1 16384 := by
  have go : ∀ (ts : List Tok) (D : DS) (j : Nat), SmallD D j → SmallD (rrunT D ts).1 (j + ts.length) := by
    intro ts
    induction ts with
    | nil => exact fun D j h => h
    | cons t ts ih =>
      intro D j h
      unfold rrunT
      rw [List.length_cons]
      have e : j + (ts.length + 1) = (j + 1) + ts.length := by omega
      split
      · rw [e]; exact ih _ _ (rtakeF_small h)
      · have up : ∀ n, SmallD (rtakeF D t).2 (j + 1 + n) := fun n => by
          induction n with
          | zero => exact rtakeF_small h
          | succ n ih => exact ih.up
        rw [e]; exact up _
  have h := go (wordsF s) ds0 0 ⟨Nat.le_refl _, (fun _ h => by cases h), small_z _⟩
  have up : ∀ n, SmallD (rrunT ds0 (wordsF s)).1 (0 + (wordsF s).length + n) := fun n => by
    induction n with
    | zero => exact h
    | succ n ih => exact ih.up
  have h2 := up (16384 - (wordsF s).length)
  rw [show 0 + (wordsF s).length + (16384 - (wordsF s).length) = 16384 by have := words_few s; omega] at h2
  unfold rreadF
  obtain ⟨D, g, hD⟩ : ∃ D g, rrunT ds0 (wordsF s) = (D, g) := ⟨_, _, rfl⟩
  rw [hD] at h2
  rw [hD]
  cases g with
  | some f => exact h2
  | none =>
    dsimp only
    cases (K.scanF s).2 with
    | some f => exact h2
    | none =>
      dsimp only
      split
      · exact h2
      · exact h2
end Go.Proofs.YtipfhfeaalbmcabDoor
