/- Laid together: BkScan, BkRead, BkPure. -/
import Derived.Test.YtipfhfeaalbmcaaDoorKTok
import Derived.Test.YtipfhfeaalbmcaaDoorPPure
import Derived.Test.YtipfhfeaalbmcaaDoorReadF
namespace Go.Proofs.YtipfhfeaalbmcaaDoor.K
open Go.RowKit

theorem isOpen_data (t : ByteArray) : isOpen t = (t.data.toList == [36, 40]) := by unfold isOpen; rw [Lib.toList_data]
theorem isShut_data (t : ByteArray) : isShut t = (t.data.toList == [36, 41]) := by unfold isShut; rw [Lib.toList_data]
/-- The words that are whole, with their places, and what is left of the last. -/
def cut2 : Nat → List UInt8 → List UInt8 → List (Nat × List UInt8) × List UInt8
  | _, cur, [] => ([], cur)
  | k, cur, b :: r => if kindF b.toNat = 1 then ((if cur.isEmpty then [] else [(k - cur.length, cur)]) ++ (cut2 (k + 1) [] r).1, (cut2 (k + 1) [] r).2) else cut2 (k + 1) (cur ++ [b]) r
def offOf (e : Tok × Int) : (Int × List UInt8) × Int := ((e.1.off, e.1.text.data.toList), e.2)
def asEv (w : Nat × List UInt8) : (Int × List UInt8) × Int := (((w.1 : Int), w.2), 0)
theorem cur_len (s : ByteArray) (start k : Nat) (h1 : start ≤ k) (h2 : k ≤ s.size) : ((s.data.toList.drop start).take (k - start)).length = k - start := by
  have : s.data.toList.length = s.size := rfl
  rw [List.length_take, List.length_drop, this]; omega
theorem cur_empty (s : ByteArray) (start k : Nat) (h1 : start ≤ k) (h2 : k ≤ s.size) : ((s.data.toList.drop start).take (k - start)).isEmpty = !decide (start < k) := by
  have h := cur_len s start k h1 h2
  cases hc : (s.data.toList.drop start).take (k - start) with
  | nil =>
    rw [hc] at h; simp at h
    simp; omega
  | cons a m =>
    rw [hc] at h; simp at h
    simp; omega
theorem cur_text (s : ByteArray) (start k line ls : Nat) : (wordAt s start k line ls).text.data.toList = (s.data.toList.drop start).take (k - start) := by
  unfold wordAt; rw [Lib.extract_data]
theorem cur_more (s : ByteArray) (start k : Nat) (h1 : start ≤ k) (h2 : k < s.size) : (s.data.toList.drop start).take (k + 1 - start) = (s.data.toList.drop start).take (k - start) ++ [s[k]] := by
  rw [show k + 1 - start = k - start + 1 by omega, List.take_add_one]
  congr 1
  rw [List.getElem?_drop, show start + (k - start) = k by omega, List.getElem?_eq_getElem (by simpa using h2)]
  rfl
theorem app2 {α : Type} {a b c d : List α} (h1 : a = c) (h2 : b = d) : a ++ b = c ++ d := by rw [h1, h2]
/-- The bytes from k up to m. -/
def mid (s : ByteArray) (k m : Nat) : List UInt8 := (s.data.toList.drop k).take (m - k)
theorem mid_cons (s : ByteArray) (k m : Nat) (h : k < m) (hm : m ≤ s.size) : mid s k m = s[k] :: mid s (k + 1) m := by
  unfold mid
  rw [drop_cons s k (by omega), show m - k = (m - (k + 1)) + 1 by omega, List.take_succ_cons]
theorem evs_pre (s : ByteArray) (m : Nat) (hm : m ≤ s.size) (h6 : m ≤ 65536) (hk : ∀ k (h : k < s.size), k < m → kindF s[k].toNat ≠ 0) : ∀ (j k start line ls : Nat), k + j = m → start ≤ k →
    ∃ E line' ls', evs s (s.data.toList.drop k) k start line ls = E ++ evs s (s.data.toList.drop m) m (m - (cut2 k ((s.data.toList.drop start).take (k - start)) (mid s k m)).2.length) line' ls' ∧ E.map offOf = (cut2 k ((s.data.toList.drop start).take (k - start)) (mid s k m)).1.map asEv := by
  intro j
  induction j with
  | zero =>
    intro k start line ls hj hst
    obtain rfl : k = m := by omega
    have e : mid s k k = [] := by unfold mid; rw [Nat.sub_self, List.take_zero]
    rw [e, cut2]
    refine ⟨[], line, ls, ?_, rfl⟩
    dsimp only
    rw [cur_len s start k hst hm, show k - (k - start) = start by omega, List.nil_append]
  | succ j ih =>
    intro k start line ls hj hst
    have hlt : k < s.size := by omega
    have hne : ¬ k = 65536 := by omega
    have hc : codeAt k s[k] = 0 := by unfold codeAt; rw [if_neg hne, if_neg (hk k hlt (by omega))]
    rw [mid_cons s k m (by omega) hm, cut2]
    by_cases hb : kindF s[k].toNat = 1
    · obtain ⟨E, l1, l2, e1, e2⟩ := ih (k + 1) (k + 1) (if s[k] = 10 then line + 1 else line) (if s[k] = 10 then k + 1 else ls) (by omega) (Nat.le_refl _)
      rw [Nat.sub_self, List.take_zero] at e1 e2
      rw [if_pos hb, ev_blank s k start line ls hlt hc hb, e1, cur_empty s start k hst (by omega), cur_len s start k hst (by omega)]
      refine ⟨(if start < k then [(wordAt s start k line ls, 0)] else []) ++ E, l1, l2, by rw [List.append_assoc], ?_⟩
      rw [List.map_append, List.map_append, e2]
      refine app2 ?_ rfl
      by_cases h : start < k
      · rw [if_pos h, show k - (k - start) = start by omega]
        simp only [h, decide_true, Bool.not_true, List.map_cons, List.map_nil, Bool.false_eq_true, if_false]
        unfold offOf asEv
        dsimp only
        rw [cur_text]
        rfl
      · rw [if_neg h]; simp [h]
    · obtain ⟨E, l1, l2, e1, e2⟩ := ih (k + 1) start line ls (by omega) (by omega)
      rw [cur_more s start k hst hlt] at e1 e2
      rw [if_neg hb, ev_skip s k start line ls hlt hc hb]
      exact ⟨E, l1, l2, e1, e2⟩
theorem ev_part (s : ByteArray) (A B : List UInt8) (h : s.data.toList = A ++ B) (h6 : A.length ≤ 65536) (hk : ∀ b ∈ A, kindF b.toNat ≠ 0) (hc : (cut2 0 [] A).2 = []) :
    ∃ E line ls, events s = E ++ evs s B A.length A.length line ls ∧ E.map offOf = (cut2 0 [] A).1.map asEv := by
  have hsz : s.size = A.length + B.length := by
    have : s.data.toList.length = s.size := rfl
    rw [← this, h, List.length_append]
  have hA : mid s 0 A.length = A := by unfold mid; rw [h]; simp
  have hB : s.data.toList.drop A.length = B := by rw [h]; simp
  obtain ⟨E, l1, l2, e1, e2⟩ := evs_pre s A.length (by omega) h6 (fun k hk' hkA => hk _ (by
    have : s[k] = (A ++ B)[k]'(by rw [List.length_append]; omega) := by
      have h2 : s[k] = s.data.toList[k]'(by simpa using hk') := rfl
      rw [h2]; simp only [h]
    rw [this, List.getElem_append_left hkA]
    exact List.getElem_mem _)) A.length 0 0 1 0 (by omega) (Nat.le_refl _)
  rw [hA, Nat.sub_self, List.take_zero, hc, hB] at e1
  rw [hA, Nat.sub_self, List.take_zero] at e2
  exact ⟨E, l1, l2, by unfold events; simpa using e1, e2⟩
/-- A word: bytes that may be, no blank. -/
def Wd (w : List UInt8) : Prop := w ≠ [] ∧ ∀ b ∈ w, 2 ≤ kindF b.toNat
/-- No bracket of a comment. -/
def Nb (w : List UInt8) : Prop := w ≠ [36, 40] ∧ w ≠ [36, 41]
theorem cut2_word (w : List UInt8) (hw : ∀ b ∈ w, kindF b.toNat ≠ 1) : ∀ (k : Nat) (cur r : List UInt8), cut2 k cur (w ++ r) = cut2 (k + w.length) (cur ++ w) r := by
  induction w with
  | nil => intro k cur r; simp
  | cons b w ih =>
    intro k cur r
    rw [List.cons_append, cut2, if_neg (hw b List.mem_cons_self), ih (fun x hx => hw x (List.mem_cons_of_mem _ hx)), List.append_assoc, List.length_cons, show k + 1 + w.length = k + (w.length + 1) by omega]; rfl
def bytesL (l : List (ByteArray × UInt8)) : List UInt8 := l.flatMap fun p => p.1.data.toList ++ [p.2]
/-- Where the words lie. -/
def offL : Nat → List (ByteArray × UInt8) → List (Nat × List UInt8)
  | _, [] => []
  | k, p :: l => (k, p.1.data.toList) :: offL (k + p.1.size + 1) l
theorem offL_append : ∀ (l m : List (ByteArray × UInt8)) (k : Nat), offL k (l ++ m) = offL k l ++ offL (k + (bytesL l).length) m
  | [], m, k => by simp [offL, bytesL]
  | p :: l, m, k => by
    have e : k + (bytesL (p :: l)).length = k + p.1.size + 1 + (bytesL l).length := by
      have : p.1.data.toList.length = p.1.size := rfl
      unfold bytesL
      rw [List.flatMap_cons, List.length_append, List.length_append, this, List.length_singleton]
      omega
    rw [List.cons_append, offL, offL, offL_append l m, List.cons_append, e]
theorem offL_texts : ∀ (l : List (ByteArray × UInt8)) (k : Nat), (offL k l).map (·.2) = l.map (·.1.data.toList)
  | [], _ => rfl
  | p :: l, k => by rw [offL, List.map_cons, List.map_cons, offL_texts l]
theorem cut2_bytes : ∀ (l : List (ByteArray × UInt8)) (k : Nat), (∀ p ∈ l, Wd p.1.data.toList ∧ kindF p.2.toNat = 1) → cut2 k [] (bytesL l) = (offL k l, [])
  | [], k, _ => rfl
  | p :: l, k, h => by
    obtain ⟨⟨h1, h2⟩, h3⟩ := h p List.mem_cons_self
    have e : bytesL (p :: l) = p.1.data.toList ++ p.2 :: bytesL l := by unfold bytesL; simp
    have hl : p.1.data.toList.length = p.1.size := rfl
    rw [e, cut2_word _ (fun b hb => by have := h2 b hb; omega), List.nil_append, cut2, if_pos h3, cut2_bytes l _ fun q hq => h q (List.mem_cons_of_mem _ hq), hl, offL]
    have he : p.1.data.toList.isEmpty = false := by cases hp : p.1.data.toList with
      | nil => exact absurd hp h1
      | cons a b => rfl
    rw [he, Nat.add_sub_cancel]
    rfl
theorem takeF_nb (told : List Tok) (t : Tok) (h : Nb t.text.data.toList) : takeF ⟨told, zeroTok⟩ t = if told.length = 16384 then (13, ⟨told, zeroTok⟩) else (0, ⟨told ++ [t], zeroTok⟩) := by
  have h0 : ¬ inCmt ⟨told, zeroTok⟩ = true := by rw [inCmt_data]; show ¬ (!zeroTok.text.data.toList.isEmpty) = true; decide
  have h1 : ¬ isOpen t.text = true := by rw [isOpen_data, beq_iff_eq]; exact h.1
  have h2 : ¬ isShut t.text = true := by rw [isShut_data, beq_iff_eq]; exact h.2
  unfold takeF
  rw [if_neg h0, if_neg h1, if_neg h2]
theorem runF_cons0 (r : Rd) (t : Tok) (es : List (Tok × Int)) (r' : Rd) (h : takeF r t = (0, r')) : runF r ((t, 0) :: es) = runF r' es := by
  simp only [runF, h, if_true]
theorem run_words : ∀ (ws : List (Nat × List UInt8)) (E : List (Tok × Int)) (told : List Tok), E.map offOf = ws.map asEv → (∀ p ∈ ws, Nb p.2) → told.length + ws.length ≤ 16384 →
    ∃ ts, runF ⟨told, zeroTok⟩ E = (⟨told ++ ts, zeroTok⟩, none) ∧ ts.map (fun t => (t.off, t.text.data.toList)) = ws.map (fun w => ((w.1 : Int), w.2)) := by
  intro ws
  induction ws with
  | nil =>
    intro E told hE _ _
    have : E = [] := by simpa using hE
    subst this
    exact ⟨[], by simp [runF], rfl⟩
  | cons x ws ih =>
    intro E told hE hp hl
    cases E with
    | nil => simp at hE
    | cons e E =>
      obtain ⟨t, c⟩ := e
      simp only [List.map_cons, List.cons.injEq, offOf, asEv, Prod.mk.injEq] at hE
      obtain ⟨⟨⟨ho, hx⟩, rfl⟩, hE⟩ := hE
      simp only [List.length_cons] at hl
      have hP : Nb t.text.data.toList := by rw [hx]; exact hp x List.mem_cons_self
      have htk : takeF ⟨told, zeroTok⟩ t = (0, ⟨told ++ [t], zeroTok⟩) := by rw [takeF_nb told t hP, if_neg (by omega)]
      obtain ⟨ts, h1, h2⟩ := ih E (told ++ [t]) hE (fun p hp' => hp p (List.mem_cons_of_mem _ hp')) (by rw [List.length_append]; simp only [List.length_cons, List.length_nil]; omega)
      refine ⟨t :: ts, ?_, by rw [List.map_cons, List.map_cons, h2, ho, hx]⟩
      rw [runF_cons0 _ _ _ _ htk, h1, List.append_assoc]
      rfl
theorem takeF_told2 (r : Rd) (t : Tok) : ∃ m, (takeF r t).2.told = r.told ++ m := by
  unfold takeF
  split
  · exact ⟨[], by simp⟩
  · split
    · exact ⟨[], by simp⟩
    · split
      · exact ⟨[], by simp⟩
      · split
        · exact ⟨[], by simp⟩
        · exact ⟨[t], rfl⟩
theorem runF_told2 : ∀ (es : List (Tok × Int)) (r : Rd), ∃ m, (runF r es).1.told = r.told ++ m
  | [], r => ⟨[], by simp [runF]⟩
  | (t, c) :: es, r => by
    unfold runF
    split
    · obtain ⟨m, hm⟩ := takeF_told2 r t
      split
      · obtain ⟨m2, h2⟩ := runF_told2 es (takeF r t).2
        exact ⟨m ++ m2, by rw [h2, hm, List.append_assoc]⟩
      · exact ⟨m, hm⟩
    · exact ⟨[], by simp⟩
theorem scanF_told (s : ByteArray) : (scanF s).1 = (runF rd0 (events s)).1.told := by
  unfold scanF
  obtain ⟨r, f⟩ := runF rd0 (events s)
  cases f <;> rfl
/-- Words that may stand in a text. -/
structure WsOk (l : List (ByteArray × UInt8)) : Prop where
  w : ∀ p ∈ l, Wd p.1.data.toList ∧ kindF p.2.toNat = 1
  nb : ∀ p ∈ l, Nb p.1.data.toList
  b6 : (bytesL l).length ≤ 65536
  n : l.length ≤ 16384
theorem WsOk.kinds {l : List (ByteArray × UInt8)} (h : WsOk l) : ∀ b ∈ bytesL l, kindF b.toNat ≠ 0 := fun b hb => by
  unfold bytesL at hb
  obtain ⟨p, hp, hb⟩ := List.mem_flatMap.1 hb
  rcases List.mem_append.1 hb with hb | hb
  · have := (h.w p hp).1.2 b hb; omega
  · rw [List.mem_singleton.1 hb]; have := (h.w p hp).2; omega
theorem offL_len : ∀ (l : List (ByteArray × UInt8)) (k : Nat), (offL k l).length = l.length
  | [], _ => rfl
  | p :: l, k => by rw [offL, List.length_cons, List.length_cons, offL_len l]
theorem WsOk.nbO {l : List (ByteArray × UInt8)} (h : WsOk l) : ∀ p ∈ offL 0 l, Nb p.2 := fun p hp => by
  have : p.2 ∈ (offL 0 l).map (·.2) := List.mem_map_of_mem hp
  rw [offL_texts] at this
  obtain ⟨q, hq, e⟩ := List.mem_map.1 this
  rw [← e]
  exact h.nb q hq
theorem scan_all (s : ByteArray) (l : List (ByteArray × UInt8)) (h : s.data.toList = bytesL l) (hl : WsOk l) : ∃ ts, scanF s = (ts, none) ∧ ts.map (fun t => (t.off, t.text.data.toList)) = (offL 0 l).map (fun w => ((w.1 : Int), w.2)) := by
  have hc := cut2_bytes l 0 hl.w
  obtain ⟨E, l1, l2, e1, e2⟩ := ev_part s (bytesL l) [] (by rw [h, List.append_nil]) hl.b6 hl.kinds (by rw [hc])
  rw [hc] at e2
  have e3 : events s = E := by rw [e1]; simp [evs]
  obtain ⟨ts, h1, h2⟩ := run_words _ E [] e2 hl.nbO (by rw [offL_len]; simpa using hl.n)
  refine ⟨ts, ?_, h2⟩
  have h3 : runF rd0 (events s) = (⟨ts, zeroTok⟩, none) := by rw [e3]; simpa [rd0] using h1
  refine scanF_good s ⟨ts, zeroTok⟩ h3 ?_
  rw [inCmt_data]
  rfl
theorem scan_part (s : ByteArray) (l : List (ByteArray × UInt8)) (B : List UInt8) (h : s.data.toList = bytesL l ++ B) (hl : WsOk l) : ∃ ts rest, (scanF s).1 = ts ++ rest ∧ ts.map (fun t => (t.off, t.text.data.toList)) = (offL 0 l).map (fun w => ((w.1 : Int), w.2)) := by
  have hc := cut2_bytes l 0 hl.w
  obtain ⟨E, l1, l2, e1, e2⟩ := ev_part s (bytesL l) B h hl.b6 hl.kinds (by rw [hc])
  rw [hc] at e2
  obtain ⟨ts, h1, h2⟩ := run_words _ E [] e2 hl.nbO (by rw [offL_len]; simpa using hl.n)
  have h3 : runF rd0 E = (⟨ts, zeroTok⟩, none) := by simpa [rd0] using h1
  obtain ⟨m, hm⟩ := runF_told2 (evs s B (bytesL l).length (bytesL l).length l1 l2) ⟨ts, zeroTok⟩
  refine ⟨ts, m, ?_, h2⟩
  rw [scanF_told, e1, runF_append, h3]
  exact hm
end Go.Proofs.YtipfhfeaalbmcaaDoor.K

namespace Go.Proofs.YtipfhfeaalbmcaaDoor
open Go.RowKit

theorem iteFF {α : Type} (a b : α) : (if (false = false) then a else b) = a := if_pos rfl
theorem iteTT {α : Type} (a b : α) : (if (true = true) then a else b) = a := if_pos rfl
theorem iteTF {α : Type} (a b : α) : (if (true = false) then a else b) = b := if_neg (fun e => by cases e)
theorem iteFT {α : Type} (a b : α) : (if (false = true) then a else b) = b := if_neg (fun e => by cases e)
/-- Alike: but for places; the keyword and the end are the kind's. -/
structure Alk (a b : Stm) : Prop where
  k : a.kind = b.kind
  lb : a.label.text = b.label.text
  w : textsL a.words = textsL b.words
  p : textsL a.proof = textsL b.proof
theorem runT_app : ∀ (ts us : List Tok) (P Q : PS), runT P ts = (Q, none) → runT P (ts ++ us) = runT Q us
  | [], us, P, Q, h => by cases h; rfl
  | t :: ts, us, P, Q, h => by
    unfold runT at h
    rw [List.cons_append]
    conv => lhs; unfold runT
    by_cases hc : (takeF P t).1 = 0
    · rw [if_pos hc] at h ⊢
      exact runT_app ts us _ Q h
    · rw [if_neg hc] at h
      cases h
theorem runT_one {P Q : PS} {t : Tok} (h : takeF P t = (0, Q)) : runT P [t] = (Q, none) := by
  unfold runT
  rw [h, if_pos rfl]
  rfl
theorem wtB_z : wtB zTok = false := by unfold wtB zTok; rw [ByteArray.toList_eq]; rfl
theorem plain_wt {t : Tok} (h : plainB t.text = true) : wtB t = true := by
  unfold plainB at h
  simp only [Bool.and_eq_true, decide_eq_true_eq] at h
  unfold wtB
  rw [nempty h.1.1]
  rfl
theorem take_label {L : List Stm} {t : Tok} (h : plainB t.text = true) : takeF ⟨L, false, zTok⟩ t = (0, ⟨L, false, t⟩) := by
  unfold takeF
  rw [iteFT]
  unfold betweenF
  rw [if_pos h, wtB_z, iteFT]
theorem kw_plain : ∀ k, k < 10 → plainB (kwB k) = false := by decide
theorem kw_kind : ∀ k, k < 10 → kindN (kwB k) = k := by decide
theorem take_key {L : List Stm} {t wt : Tok} {k : Nat} (hk : k < 10) (hk0 : 0 < k) (ht : t.text = kwB k) (hl : labB k = wtB wt) : takeF ⟨L, false, wt⟩ t = (0, ⟨L ++ [newS k wt t], !brk k, zTok⟩) := by
  unfold takeF
  rw [iteFT]
  unfold betweenF
  rw [ht, if_neg (by rw [kw_plain k hk]; exact Bool.false_ne_true), kw_kind k hk, if_neg (by omega), if_neg (by rw [hl]; exact fun e => e rfl)]
theorem take_open {L : List Stm} {s : Stm} {wt t : Tok} : takeF ⟨L ++ [s], true, wt⟩ t = ((withinF s t).1, ⟨L ++ [(withinF s t).2.1], !(withinF s t).2.2, wt⟩) := by
  unfold takeF
  rw [iteTT]
  dsimp only
  rw [List.getLast?_concat, List.dropLast_concat]
theorem run_addW : ∀ (ts : List Tok) (L : List Stm) (s : Stm) (wt : Tok), (∀ t ∈ ts, plainB t.text = true) → ¬ (s.kind = 7 ∧ s.proving = true) → ((s.words.length + ts.length : Nat) : Int) ≤ mstI s.kind.toNat → runT ⟨L ++ [s], true, wt⟩ ts = (⟨L ++ [{ s with words := s.words ++ ts }], true, wt⟩, none)
  | [], L, s, wt, _, _, _ => by rw [List.append_nil]; rfl
  | t :: ts, L, s, wt, hp, hs, hm => by
    rw [List.length_cons] at hm
    have h1 : withinF s t = (0, { s with words := s.words ++ [t] }, false) := by
      unfold withinF
      rw [if_pos (hp t List.mem_cons_self)]
      unfold addF
      rw [if_neg hs, if_neg (by omega)]
    have h2 : takeF ⟨L ++ [s], true, wt⟩ t = (0, ⟨L ++ [{ s with words := s.words ++ [t] }], true, wt⟩) := by rw [take_open, h1]; rfl
    unfold runT
    rw [h2, if_pos rfl]
    have h3 := run_addW ts L { s with words := s.words ++ [t] } wt (fun u hu => hp u (List.mem_cons_of_mem _ hu)) hs (by simp only [List.length_append, List.length_singleton]; omega)
    rw [h3]
    simp
theorem run_addP : ∀ (ts : List Tok) (L : List Stm) (s : Stm) (wt : Tok), (∀ t ∈ ts, plainB t.text = true) → s.kind = 7 ∧ s.proving = true → runT ⟨L ++ [s], true, wt⟩ ts = (⟨L ++ [{ s with proof := s.proof ++ ts }], true, wt⟩, none)
  | [], L, s, wt, _, _ => by rw [List.append_nil]; rfl
  | t :: ts, L, s, wt, hp, hs => by
    have h1 : withinF s t = (0, { s with proof := s.proof ++ [t] }, false) := by
      unfold withinF
      rw [if_pos (hp t List.mem_cons_self)]
      unfold addF
      rw [if_pos hs]
    have h2 : takeF ⟨L ++ [s], true, wt⟩ t = (0, ⟨L ++ [{ s with proof := s.proof ++ [t] }], true, wt⟩) := by rw [take_open, h1]; rfl
    unfold runT
    rw [h2, if_pos rfl]
    have h3 := run_addP ts L { s with proof := s.proof ++ [t] } wt (fun u hu => hp u (List.mem_cons_of_mem _ hu)) hs
    rw [h3]
    simp
theorem eqS_plain : plainB eqS = false := by decide
theorem dotS_plain : plainB dotS = false := by decide
theorem take_eqS {L : List Stm} {s : Stm} {wt t : Tok} (ht : t.text = eqS) (hk : s.kind = 7) (hp : s.proving = false) (hl : lstI 7 ≤ (s.words.length : Int)) : takeF ⟨L ++ [s], true, wt⟩ t = (0, ⟨L ++ [{ s with proving := true }], true, wt⟩) := by
  have h1 : withinF s t = (0, { s with proving := true }, false) := by
    unfold withinF
    rw [ht, if_neg (by rw [eqS_plain]; exact Bool.false_ne_true), if_pos rfl]
    unfold begF
    rw [if_pos hk, if_neg (by rw [hp]; exact Bool.false_ne_true), if_neg (by omega)]
  rw [take_open, h1]
  rfl
theorem take_dot {L : List Stm} {s : Stm} {wt t : Tok} (ht : t.text = dotS) (hk : ¬ (s.kind = 7 ∧ s.proving = false)) (hl : lstI s.kind.toNat ≤ (s.words.length : Int)) : takeF ⟨L ++ [s], true, wt⟩ t = (0, ⟨L ++ [{ s with fin := t }], false, wt⟩) := by
  have h1 : withinF s t = (0, { s with fin := t }, true) := by
    unfold withinF
    rw [ht, if_neg (by rw [dotS_plain]; exact Bool.false_ne_true), if_neg (by decide), if_pos rfl]
    unfold endF
    rw [if_neg hk, if_neg (by omega)]
    rfl
  rw [take_open, h1]
  rfl
/-- A statement that is whole, as it is read. -/
structure Whole (s : Stm) : Prop where
  may : mayS s = true
  pr : s.proving = decide (s.kind = 7)
  ky : s.key.text = kwB s.kind.toNat
  fn : s.fin.text = if brkB s.kind.toNat then kwB s.kind.toNat else endS
structure MayP (s : Stm) (k : Nat) : Prop where
  k0 : 0 < k
  k10 : k < 10
  lb : labOk (labB k) s.label.text = true
  lo : lstI k ≤ (s.words.length : Int)
  hi : (s.words.length : Int) ≤ mstI k
  w : allPl s.words = true
  p : (k = 7 ∧ allPl s.proof = true) ∨ (k ≠ 7 ∧ s.proof = [])
theorem may_parts {s : Stm} (h : mayS s = true) : ∃ k : Nat, s.kind = k ∧ MayP s k := by
  unfold mayS mayK at h
  simp only [Bool.and_eq_true, decide_eq_true_eq] at h
  obtain ⟨⟨⟨⟨h1, h2⟩, h3⟩, h4⟩, h5⟩ := h
  unfold wordsOk at h4
  simp only [Bool.and_eq_true, decide_eq_true_eq] at h4
  obtain ⟨k, hk⟩ : ∃ k : Nat, s.kind = k := ⟨s.kind.toNat, by omega⟩
  rw [hk, Int.toNat_natCast] at h3 h4
  refine ⟨k, hk, by omega, by omega, h3, h4.1.1, h4.1.2, h4.2, ?_⟩
  by_cases h7 : s.kind = 7
  · rw [if_pos h7] at h5
    exact .inl ⟨by omega, h5⟩
  · rw [if_neg h7] at h5
    exact .inr ⟨by omega, List.eq_nil_of_length_eq_zero (by simpa using h5)⟩
theorem parts_may {s : Stm} {k : Nat} (hk : s.kind = k) (h : MayP s k) : mayS s = true := by
  unfold mayS mayK wordsOk
  have h1 := h.k0
  have h2 := h.k10
  rw [hk, Int.toNat_natCast, h.lb, h.w, decide_eq_true h.lo, decide_eq_true h.hi, decide_eq_true (show (0 : Int) < (k : Int) by omega), decide_eq_true (show (k : Int) < 10 by omega)]
  rcases h.p with ⟨h7, hp⟩ | ⟨h7, hp⟩
  · rw [if_pos (by omega), hp]; rfl
  · rw [if_neg (by omega), hp]; rfl
theorem allPl_mem {ts : List Tok} (h : allPl ts = true) : ∀ t ∈ ts, plainB t.text = true := fun t ht => by
  unfold allPl at h
  exact List.all_eq_true.1 h t ht
theorem allPl_texts {a b : List Tok} (h : textsL a = textsL b) : allPl a = allPl b := by
  have e : ∀ l : List Tok, allPl l = (textsL l).all plainB := fun l => by unfold allPl textsL; rw [List.all_map]; rfl
  rw [e, e, h]
theorem texts_len {a b : List Tok} (h : textsL a = textsL b) : a.length = b.length := by
  have := congrArg List.length h
  rwa [textsL_len, textsL_len] at this
theorem may_alk {a b : Stm} (h : Alk a b) : mayS a = mayS b := by
  unfold mayS mayK wordsOk
  rw [h.k, h.lb, texts_len h.w, texts_len h.p, allPl_texts h.w, allPl_texts h.p]
theorem line_alk {a b : Stm} (h : Alk a b) : lineWS a = lineWS b := by
  unfold lineWS lineW
  rw [h.k, h.lb, h.w, h.p]
theorem brk_nat {k : Nat} (h : k < 10) : brk (k : Int) = brkB k := by
  rcases ten h with rfl | rfl | rfl | rfl | rfl | rfl | rfl | rfl | rfl | rfl <;> rfl
theorem brk_facts : ∀ k, k < 10 → brkB k = true → labB k = false ∧ mstI k = 0 ∧ k ≠ 7 := by decide
theorem nil_text {t : ByteArray} (h : t.toList.isEmpty = true) : zTok.text = t := by
  rw [ByteArray.toList_eq] at h
  have h0 : t.data.toList = [] := List.isEmpty_iff.1 h
  obtain ⟨⟨d⟩⟩ := t
  simp at h0
  subst h0
  rfl
/-- One statement's words. -/
theorem read_line (s : Stm) (hs : mayS s = true) (ts : List Tok) (ht : textsL ts = lineWS s) (L : List Stm) : ∃ s', runT ⟨L, false, zTok⟩ ts = (⟨L ++ [s'], false, zTok⟩, none) ∧ Alk s' s ∧ Whole s' := by
  obtain ⟨k, hk, hm⟩ := may_parts hs
  obtain ⟨k0, k10, hlb, hlo, hhi, hw, hp⟩ := hm
  have ek : s.kind.toNat = k := by rw [hk, Int.toNat_natCast]
  unfold lineWS lineW at ht
  rw [ek] at ht
  unfold textsL at ht
  obtain ⟨t4, t5, rfl, h4, h5⟩ := List.map_eq_append_iff.1 ht
  obtain ⟨t3, tp, rfl, h3, hpf⟩ := List.map_eq_append_iff.1 h4
  obtain ⟨t2, tw, rfl, h2, hwd⟩ := List.map_eq_append_iff.1 h3
  obtain ⟨tl, tk, rfl, h1, hky⟩ := List.map_eq_append_iff.1 h2
  obtain ⟨key, rfl⟩ : ∃ key, tk = [key] := List.length_eq_one_iff.1 (by have := congrArg List.length hky; simpa using this)
  have hkt : key.text = kwB k := by simpa using hky
  -- the label and the keyword
  obtain ⟨wt, hwt, hwl, hrun1⟩ : ∃ wt : Tok, wt.text = s.label.text ∧ labB k = wtB wt ∧ runT ⟨L, false, zTok⟩ tl = (⟨L, false, wt⟩, none) := by
    cases hl : labB k with
    | true =>
      rw [hl] at h1 hlb
      obtain ⟨lt, rfl⟩ : ∃ lt, tl = [lt] := List.length_eq_one_iff.1 (by have := congrArg List.length h1; simpa using this)
      have hlt : lt.text = s.label.text := by simpa using h1
      have hpl : plainB lt.text = true := by rw [hlt]; exact hlb
      exact ⟨lt, hlt, (plain_wt hpl).symm, runT_one (take_label hpl)⟩
    | false =>
      rw [hl] at h1 hlb
      have : tl = [] := by simpa using h1
      subst this
      exact ⟨zTok, nil_text hlb, wtB_z.symm, rfl⟩
  have hrun2 : runT ⟨L, false, zTok⟩ (tl ++ [key]) = (⟨L ++ [newS k wt key], !brk k, zTok⟩, none) := by
    rw [runT_app _ _ _ _ hrun1]
    exact runT_one (take_key k10 k0 hkt hwl)
  rw [brk_nat k10] at hrun2
  cases hb : brkB k with
  | true =>
    obtain ⟨b1, b2, b3⟩ := brk_facts k k10 hb
    have hw0 : s.words = [] := List.eq_nil_of_length_eq_zero (by omega)
    have hp0 : s.proof = [] := by rcases hp with ⟨e, _⟩ | ⟨_, e⟩; exact absurd e b3; exact e
    rw [hw0] at hwd
    have e1 : tw = [] := by simpa using hwd
    rw [if_neg b3] at hpf
    have e2 : tp = [] := by simpa using hpf
    rw [hb] at h5
    have e3 : t5 = [] := by simpa using h5
    subst e1 e2 e3
    rw [hb] at hrun2
    simp only [List.append_nil]
    refine ⟨_, hrun2, ?_, ?_⟩
    · have hn : newS (k : Int) wt key = ⟨k, zTok, key, false, [], [], key⟩ := by unfold newS; rw [brk_nat k10, hb, if_pos rfl]
      rw [hn]
      refine ⟨hk.symm, ?_, by rw [hw0], by rw [hp0]⟩
      rw [b1] at hlb
      exact nil_text hlb
    · have hn : newS (k : Int) wt key = ⟨k, zTok, key, false, [], [], key⟩ := by unfold newS; rw [brk_nat k10, hb, if_pos rfl]
      rw [hn]
      have em : mayS (⟨k, zTok, key, false, [], [], key⟩ : Stm) = true := by
        refine parts_may (k := k) rfl ⟨k0, k10, ?_, ?_, ?_, rfl, .inr ⟨b3, rfl⟩⟩
        · rw [b1]; unfold labOk zTok; rw [ByteArray.toList_eq]; rfl
        · rw [hw0] at hlo; exact hlo
        · show ((0 : Nat) : Int) ≤ mstI k; rw [b2]; exact Int.le_refl _
      refine ⟨em, ?_, ?_, ?_⟩
      · show false = decide ((k : Int) = 7); rw [decide_eq_false (by omega)]
      · show key.text = kwB (k : Int).toNat; rw [Int.toNat_natCast]; exact hkt
      · show key.text = if brkB (k : Int).toNat = true then kwB (k : Int).toNat else endS; rw [Int.toNat_natCast, hb, if_pos rfl]; exact hkt
  | false =>
    rw [hb] at h5 hrun2
    obtain ⟨dot, rfl⟩ : ∃ dot, t5 = [dot] := List.length_eq_one_iff.1 (by have := congrArg List.length h5; simpa using this)
    have hdt : dot.text = dotS := (show dot.text = endS by simpa using h5)
    have hn : newS (k : Int) wt key = ⟨k, wt, key, false, [], [], zTok⟩ := by unfold newS; rw [brk_nat k10, hb, iteFT]
    rw [hn] at hrun2
    have hwl2 : tw.length = s.words.length := by have := congrArg List.length hwd; simpa using this
    have hwpl : ∀ t ∈ tw, plainB t.text = true := allPl_mem (by rw [allPl_texts (b := s.words) hwd]; exact hw)
    have hrun3 : runT ⟨L, false, zTok⟩ (tl ++ [key] ++ tw) = (⟨L ++ [⟨k, wt, key, false, tw, [], zTok⟩], true, zTok⟩, none) := by
      rw [runT_app _ _ _ _ hrun2]
      have := run_addW tw L ⟨k, wt, key, false, [], [], zTok⟩ zTok hwpl (fun e => by cases e.2) (by show ((0 + tw.length : Nat) : Int) ≤ mstI (k : Int).toNat; rw [Int.toNat_natCast]; omega)
      simpa using this
    have hwt2 : textsL tw = textsL s.words := hwd
    by_cases h7 : k = 7
    · have hpp : allPl s.proof = true := by rcases hp with ⟨_, e⟩ | ⟨e, _⟩; exact e; exact absurd h7 e
      rw [if_pos h7] at hpf
      obtain ⟨eqt, pt, rfl, he, hpt⟩ := List.map_eq_cons_iff.1 hpf
      have hppl : ∀ t ∈ pt, plainB t.text = true := allPl_mem (by rw [allPl_texts (b := s.proof) hpt]; exact hpp)
      have hrun4 : runT ⟨L, false, zTok⟩ (tl ++ [key] ++ tw ++ (eqt :: pt)) = (⟨L ++ [⟨k, wt, key, true, tw, pt, zTok⟩], true, zTok⟩, none) := by
        rw [runT_app _ _ _ _ hrun3]
        have h8 := take_eqS (L := L) (s := ⟨k, wt, key, false, tw, [], zTok⟩) (wt := zTok) he (by show (k : Int) = 7; omega) rfl (by show lstI 7 ≤ (tw.length : Int); rw [h7] at hlo; omega)
        unfold runT
        rw [h8, if_pos rfl]
        have := run_addP pt L ⟨k, wt, key, true, tw, [], zTok⟩ zTok hppl ⟨by show (k : Int) = 7; omega, rfl⟩
        simpa using this
      have ha : Alk ⟨k, wt, key, true, tw, pt, dot⟩ s := ⟨hk.symm, hwt, hwt2, hpt⟩
      refine ⟨⟨k, wt, key, true, tw, pt, dot⟩, ?_, ha, ?_⟩
      · rw [runT_app _ _ _ _ hrun4]
        exact runT_one (take_dot (s := ⟨k, wt, key, true, tw, pt, zTok⟩) hdt (fun e => by cases e.2) (by show lstI (k : Int).toNat ≤ (tw.length : Int); rw [Int.toNat_natCast]; omega))
      · refine ⟨?_, ?_, ?_, ?_⟩
        · rw [may_alk ha]; exact hs
        · show true = decide ((k : Int) = 7); rw [decide_eq_true (by omega)]
        · show key.text = kwB (k : Int).toNat; rw [Int.toNat_natCast]; exact hkt
        · show dot.text = if brkB (k : Int).toNat = true then kwB (k : Int).toNat else endS; rw [Int.toNat_natCast, hb, iteFT]; exact hdt
    · have hp0 : s.proof = [] := by rcases hp with ⟨e, _⟩ | ⟨_, e⟩; exact absurd e h7; exact e
      rw [if_neg h7] at hpf
      have e2 : tp = [] := by simpa using hpf
      subst e2
      rw [List.append_nil]
      have ha : Alk ⟨k, wt, key, false, tw, [], dot⟩ s := ⟨hk.symm, hwt, hwt2, by rw [hp0]⟩
      refine ⟨⟨k, wt, key, false, tw, [], dot⟩, ?_, ha, ?_⟩
      · rw [runT_app _ _ _ _ hrun3]
        exact runT_one (take_dot (s := ⟨k, wt, key, false, tw, [], zTok⟩) hdt (fun e => h7 (by have := e.1; dsimp only at this; omega)) (by show lstI (k : Int).toNat ≤ (tw.length : Int); rw [Int.toNat_natCast]; omega))
      · refine ⟨?_, ?_, ?_, ?_⟩
        · rw [may_alk ha]; exact hs
        · show false = decide ((k : Int) = 7); rw [decide_eq_false (by omega)]
        · show key.text = kwB (k : Int).toNat; rw [Int.toNat_natCast]; exact hkt
        · show dot.text = if brkB (k : Int).toNat = true then kwB (k : Int).toNat else endS; rw [Int.toNat_natCast, hb, iteFT]; exact hdt
/-- Two lists, each alike to its fellow. -/
def AlkL (a b : List Stm) : Prop := a.length = b.length ∧ ∀ (i : Nat) (x y : Stm), a[i]? = some x → b[i]? = some y → Alk x y
theorem read_lines : ∀ (l : List Stm) (ts : List Tok) (L : List Stm), l.all mayS = true → textsL ts = l.flatMap lineWS → ∃ l', runT ⟨L, false, zTok⟩ ts = (⟨L ++ l', false, zTok⟩, none) ∧ AlkL l' l ∧ ∀ x ∈ l', Whole x
  | [], ts, L, _, ht => by
    have : ts = [] := by simpa [textsL] using ht
    subst this
    exact ⟨[], by rw [List.append_nil]; rfl, ⟨rfl, fun i x y h => by simp at h⟩, fun x h => by cases h⟩
  | s :: l, ts, L, hm, ht => by
    rw [List.all_cons, Bool.and_eq_true] at hm
    rw [List.flatMap_cons] at ht
    unfold textsL at ht
    obtain ⟨t1, t2, rfl, h1, h2⟩ := List.map_eq_append_iff.1 ht
    obtain ⟨s', r1, a1, w1⟩ := read_line s hm.1 t1 h1 L
    obtain ⟨l', r2, a2, w2⟩ := read_lines l t2 (L ++ [s']) hm.2 h2
    refine ⟨s' :: l', ?_, ⟨by rw [List.length_cons, List.length_cons, a2.1], fun i x y hx hy => ?_⟩, fun x hx => ?_⟩
    · rw [runT_app _ _ _ _ r1, r2, List.append_assoc]; rfl
    · cases i with
      | zero => simp at hx hy; rw [← hx, ← hy]; exact a1
      | succ i => exact a2.2 i x y (by simpa using hx) (by simpa using hy)
    · rcases List.mem_cons.1 hx with rfl | hx
      · exact w1
      · exact w2 x hx
end Go.Proofs.YtipfhfeaalbmcaaDoor

namespace Go.Proofs.YtipfhfeaalbmcaaDoor
open Go.RowKit

theorem kind_ok {b : UInt8} (h : okB b = true) : 2 ≤ K.kindF b.toNat := by
  unfold okB at h
  simp only [Bool.and_eq_true, decide_eq_true_eq] at h
  have h1 := K.kind1 (b.toNat : Int) (by omega)
  have h0 := K.kind0 (b.toNat : Int) (by omega)
  have hr := K.kindF_range (b.toNat : Int) (by omega)
  refine Classical.byContradiction fun hn => ?_
  have : K.kindF (b.toNat : Int) = 0 ∨ K.kindF (b.toNat : Int) = 1 := by omega
  rcases this with e | e
  · have := (h0.1 e).2; omega
  · have := h1.1 e; omega
theorem plain_wd {t : ByteArray} (h : plainB t = true) : K.Wd t.data.toList ∧ K.Nb t.data.toList := by
  unfold plainB at h
  simp only [Bool.and_eq_true, decide_eq_true_eq] at h
  obtain ⟨⟨h1, h2⟩, h3⟩ := h
  have hl : t.data.toList.length = t.size := rfl
  have nk : ∀ c, t.data.toList ≠ [36, c] := fun c e => by
    have hk : keyB t = true := by
      rw [keyB_at h1]
      have e0 : t[0]'h1 = t.data.toList[0]'(by rw [hl]; exact h1) := rfl
      rw [e0]
      simp only [e]
      rfl
    rw [hk] at h2
    cases h2
  refine ⟨⟨fun e => ?_, fun b hb => kind_ok (List.all_eq_true.1 h3 b hb)⟩, nk 40, nk 41⟩
  rw [e] at hl
  simp at hl
  omega
def WdNb (t : ByteArray) : Prop := K.Wd t.data.toList ∧ K.Nb t.data.toList
theorem wdnb_of {t : ByteArray} (h : t.data.toList ≠ [] ∧ (t.data.toList.all fun b => decide (2 ≤ K.kindF b.toNat)) = true ∧ t.data.toList ≠ [36, 40] ∧ t.data.toList ≠ [36, 41]) : WdNb t :=
  ⟨⟨h.1, fun b hb => of_decide_eq_true (List.all_eq_true.1 h.2.1 b hb)⟩, h.2.2⟩
theorem kw_wd : ∀ k, k < 10 → 0 < k → WdNb (kwB k) := fun k h h0 => by
  refine wdnb_of ?_
  rcases ten h with rfl | rfl | rfl | rfl | rfl | rfl | rfl | rfl | rfl | rfl
  · omega
  all_goals decide
theorem end_wd : WdNb endS := wdnb_of (by decide)
theorem proof_wd : WdNb proofS := wdnb_of (by decide)
theorem line_wd {s : Stm} (h : mayS s = true) : ∀ x ∈ lineWS s, WdNb x := fun x hx => by
  obtain ⟨k, hk, hm⟩ := may_parts h
  have ek : s.kind.toNat = k := by rw [hk, Int.toNat_natCast]
  have tx : ∀ {l : List Tok}, allPl l = true → x ∈ textsL l → WdNb x := fun hl hx => by
    obtain ⟨t, ht, rfl⟩ := List.mem_map.1 hx
    exact plain_wd (allPl_mem hl t ht)
  unfold lineWS lineW at hx
  rw [ek] at hx
  rcases List.mem_append.1 hx with hx | hx
  · rcases List.mem_append.1 hx with hx | hx
    · rcases List.mem_append.1 hx with hx | hx
      · rcases List.mem_append.1 hx with hx | hx
        · have hlb := hm.lb
          cases hl : labB k with
          | true =>
            rw [hl] at hx hlb
            have : x = s.label.text := by simpa using hx
            rw [this]
            exact plain_wd hlb
          | false => rw [hl] at hx; simp at hx
        · rw [List.mem_singleton.1 hx]; exact kw_wd k hm.k10 hm.k0
      · exact tx hm.w hx
    · rcases hm.p with ⟨h7, hp⟩ | ⟨h7, hp⟩
      · rw [if_pos h7] at hx
        rcases List.mem_cons.1 hx with rfl | hx
        · exact proof_wd
        · exact tx hp hx
      · rw [if_neg h7] at hx; cases hx
  · cases hb : brkB k with
    | true => rw [hb] at hx; simp at hx
    | false =>
      rw [hb] at hx
      have : x = endS := by simpa using hx
      rw [this]
      exact end_wd
theorem lineS_words {s : Stm} (h : mayS s = true) : (lineS s).map (·.1) = lineWS s ∧ ∀ p ∈ lineS s, K.kindF p.2.toNat = 1 := by
  obtain ⟨f, z, e1, e2⟩ := line_front s h
  rw [e1, e2]
  refine ⟨by rw [List.map_append, List.map_map]; show List.map id f ++ [z] = _; rw [List.map_id], fun p hp => ?_⟩
  rcases List.mem_append.1 hp with hp | hp
  · obtain ⟨x, _, rfl⟩ := List.mem_map.1 hp
    show K.kindF ((32 : UInt8).toNat : Nat) = 1
    decide
  · rw [List.mem_singleton.1 hp]
    show K.kindF ((10 : UInt8).toNat : Nat) = 1
    decide
theorem lines_words : ∀ (l : List Stm), l.all mayS = true → (l.flatMap lineS).map (·.1) = l.flatMap lineWS ∧ ∀ p ∈ l.flatMap lineS, WdNb p.1 ∧ K.kindF p.2.toNat = 1
  | [], _ => ⟨rfl, fun p h => by cases h⟩
  | s :: l, h => by
    rw [List.all_cons, Bool.and_eq_true] at h
    obtain ⟨i1, i2⟩ := lines_words l h.2
    obtain ⟨j1, j2⟩ := lineS_words h.1
    rw [List.flatMap_cons, List.flatMap_cons, List.map_append, i1, j1]
    refine ⟨rfl, fun p hp => ?_⟩
    rcases List.mem_append.1 hp with hp | hp
    · exact ⟨line_wd h.1 _ (by rw [← j1]; exact List.mem_map_of_mem hp), j2 p hp⟩
    · exact i2 p hp
theorem print_fit {l : List Stm} (h : printE l = 0) : l.all mayS = true ∧ printB l = ⟨(K.bytesL (l.flatMap lineS)).toArray⟩ ∧ K.WsOk (l.flatMap lineS) := by
  rw [(print_same l).1]
  rw [(print_same l).2] at h
  unfold rprintE at h
  split at h
  · rename_i ha
    split at h
    · cases h
    · rename_i hn
      obtain ⟨e1, e2⟩ := lines_bytes l ha
      obtain ⟨_, w2⟩ := lines_words l ha
      have e3 : K.bytesL (l.flatMap lineS) = rbytes l := e1
      refine ⟨ha, ?_, ⟨fun p hp => ⟨(w2 p hp).1.1, (w2 p hp).2⟩, fun p hp => (w2 p hp).1.2, ?_, ?_⟩⟩
      · unfold rprintB; rw [if_pos ⟨ha, hn⟩, e3]
      · rw [e3]; exact Nat.le_of_not_lt fun e => hn (.inl e)
      · rw [e2]; exact Nat.le_of_not_lt fun e => hn (.inr e)
  · cases h
theorem text_ext {a b : ByteArray} (h : a.data.toList = b.data.toList) : a = b := by
  obtain ⟨⟨a⟩⟩ := a
  obtain ⟨⟨b⟩⟩ := b
  simp at h
  rw [h]
theorem toks_texts {ts : List K.Tok} {l : List (ByteArray × UInt8)} {k : Nat} (h : ts.map (fun t => (t.off, t.text.data.toList)) = (K.offL k l).map (fun w => ((w.1 : Int), w.2))) : textsL (ts.map toT) = l.map (·.1) := by
  have h2 : ts.map (fun t => t.text.data.toList) = l.map (·.1.data.toList) := by
    have := congrArg (List.map Prod.snd) h
    rw [List.map_map, List.map_map] at this
    have e : (List.map (Prod.snd ∘ fun w => ((w.1 : Int), w.2)) (K.offL k l)) = (K.offL k l).map (·.2) := rfl
    rw [e, K.offL_texts] at this
    exact this
  clear h
  induction ts generalizing l with
  | nil =>
    have : l = [] := by simpa using h2.symm
    rw [this]; rfl
  | cons t ts ih =>
    cases l with
    | nil => simp at h2
    | cons p l =>
      rw [List.map_cons, List.map_cons] at h2
      injection h2 with a b
      rw [List.map_cons, List.map_cons]
      show (toT t).text :: textsL (ts.map toT) = _
      rw [ih b]
      show t.text :: _ = _
      rw [text_ext a]
/-- The words of a printed text. -/
theorem words_print {l : List Stm} (h : printE l = 0) : textsL (wordsF (printB l)) = l.flatMap lineWS ∧ (K.scanF (printB l)).2 = none := by
  obtain ⟨ha, hb, hw⟩ := print_fit h
  obtain ⟨ts, e1, e2⟩ := K.scan_all (printB l) _ (by rw [hb]) hw
  unfold wordsF
  rw [e1, toks_texts e2, (lines_words l ha).1]
  exact ⟨rfl, rfl⟩
theorem read_print {l : List Stm} (h : printE l = 0) : ∃ l', readF (printB l) = (⟨l', false, zTok⟩, none) ∧ AlkL l' l ∧ ∀ x ∈ l', Whole x := by
  obtain ⟨e1, e2⟩ := words_print h
  obtain ⟨l', r, a, w⟩ := read_lines l _ [] (print_fit h).1 e1
  refine ⟨l', ?_, a, w⟩
  have r' : runT ps0 (wordsF (printB l)) = (⟨l', false, zTok⟩, none) := r
  unfold readF
  rw [r']
  dsimp only
  rw [e2]
  dsimp only
  rw [wtB_z]
  rfl
theorem alkL_line {a b : List Stm} (h : AlkL a b) : a.map lineWS = b.map lineWS ∧ a.map mayS = b.map mayS := by
  obtain ⟨hl, h⟩ := h
  constructor
  all_goals
    apply List.ext_getElem?
    intro i
    rw [List.getElem?_map, List.getElem?_map]
    cases ha : a[i]? with
    | none =>
      have : b[i]? = none := by rw [List.getElem?_eq_none_iff] at ha ⊢; omega
      rw [this]
    | some x =>
      obtain ⟨y, hy⟩ : ∃ y, b[i]? = some y := ⟨_, List.getElem?_eq_getElem (by have := (List.getElem?_eq_some_iff.1 ha).1; omega)⟩
      rw [hy]
      first
        | (show some (lineWS x) = some (lineWS y); rw [line_alk (h i x y ha hy)])
        | (show some (mayS x) = some (mayS y); rw [may_alk (h i x y ha hy)])
theorem print_alk {a b : List Stm} (h : AlkL a b) : printB a = printB b ∧ printE a = printE b := by
  obtain ⟨e1, e2⟩ := alkL_line h
  have f1 : rbytes a = rbytes b := by
    have g : ∀ l : List Stm, rbytes l = (l.map lineWS).flatMap fun x => jn x ++ [10] := fun l => by unfold rbytes; rw [List.flatMap_map]
    rw [g, g, e1]
  have f2 : rcount a = rcount b := by
    have g : ∀ l : List Stm, rcount l = ((l.map lineWS).map List.length).sum := fun l => by unfold rcount; rw [List.map_map]; rfl
    rw [g, g, e1]
  have f3 : a.all mayS = b.all mayS := by
    have g : ∀ l : List Stm, l.all mayS = (l.map mayS).all id := fun l => by rw [List.all_map]; rfl
    rw [g, g, e2]
  rw [(print_same a).1, (print_same b).1, (print_same a).2, (print_same b).2]
  unfold rprintB rprintE
  rw [f1, f2, f3]
  exact ⟨rfl, rfl⟩
/-- A statement that is open. -/
structure Part (s : Stm) (k : Nat) : Prop where
  e : s.kind = k
  k0 : 0 < k
  k10 : k < 10
  b : brkB k = false
  lb : labOk (labB k) s.label.text = true
  hi : (s.words.length : Int) ≤ mstI k
  w : allPl s.words = true
  p : allPl s.proof = true
  pr : s.proving = true → k = 7 ∧ lstI 7 ≤ (s.words.length : Int)
  np : s.proving = false → s.proof = []
  ky : s.key.text = kwB k
structure Inv2 (P : PS) : Prop where
  c : P.opn = false → (∀ x ∈ P.l, Whole x) ∧ (wtB P.wt = true → plainB P.wt.text = true)
  o : P.opn = true → ∃ L s k, P.l = L ++ [s] ∧ (∀ x ∈ L, Whole x) ∧ Part s k ∧ wtB P.wt = false
theorem allPl_snoc {l : List Tok} {t : Tok} (h : allPl l = true) (ht : plainB t.text = true) : allPl (l ++ [t]) = true := by
  unfold allPl at h ⊢
  rw [List.all_append, h, List.all_cons, ht]
  rfl
theorem kindN_is {t : ByteArray} (h : kindN t ≠ 0) : kwB (kindN t) = t := by
  unfold kindN at h ⊢
  cases hf : (List.range 10).find? fun k => decide (kwB k = t) with
  | none => rw [hf] at h; exact absurd rfl h
  | some k =>
    have h2 := List.find?_some hf
    exact of_decide_eq_true h2
theorem mem_snoc {α : Type} {Pr : α → Prop} {l : List α} {x : α} (hl : ∀ t ∈ l, Pr t) (hx : Pr x) : ∀ t ∈ l ++ [x], Pr t := fun t ht => by
  rcases List.mem_append.1 ht with ht | ht
  · exact hl t ht
  · rw [List.mem_singleton.1 ht]; exact hx
theorem inv_within {s : Stm} {k : Nat} {t : Tok} (h : Part s k) (h0 : (withinF s t).1 = 0) : ((withinF s t).2.2 = false ∧ Part (withinF s t).2.1 k) ∨ ((withinF s t).2.2 = true ∧ Whole (withinF s t).2.1) := by
  have ek : s.kind.toNat = k := by rw [h.e, Int.toNat_natCast]
  unfold withinF at h0 ⊢
  by_cases hp : plainB t.text = true
  · rw [if_pos hp] at h0 ⊢
    refine .inl ⟨rfl, ?_⟩
    dsimp only at h0 ⊢
    unfold addF at h0 ⊢
    by_cases h7 : s.kind = 7 ∧ s.proving = true
    · rw [if_pos h7]
      exact ⟨h.e, h.k0, h.k10, h.b, h.lb, h.hi, h.w, allPl_snoc h.p hp, h.pr, (fun e => by rw [h7.2] at e; cases e), h.ky⟩
    · rw [if_neg h7] at h0 ⊢
      by_cases hm : (s.words.length : Int) = mstI s.kind.toNat
      · rw [if_pos hm] at h0; cases h0
      · rw [if_neg hm]
        rw [ek] at hm
        refine ⟨h.e, h.k0, h.k10, h.b, h.lb, ?_, allPl_snoc h.w hp, h.p, (fun e => ⟨(h.pr e).1, ?_⟩), h.np, h.ky⟩
        · show ((s.words ++ [t]).length : Int) ≤ mstI k
          rw [List.length_append, List.length_singleton]
          have := h.hi
          omega
        · show lstI 7 ≤ ((s.words ++ [t]).length : Int)
          rw [List.length_append, List.length_singleton]
          have := (h.pr e).2
          omega
  · rw [if_neg hp] at h0 ⊢
    by_cases he : t.text = eqS
    · rw [if_pos he] at h0 ⊢
      refine .inl ⟨rfl, ?_⟩
      dsimp only at h0 ⊢
      unfold begF at h0 ⊢
      by_cases h7 : s.kind = 7
      · rw [if_pos h7] at h0 ⊢
        by_cases hpr : s.proving = true
        · rw [if_pos hpr] at h0; cases h0
        · rw [if_neg hpr] at h0 ⊢
          by_cases hl : (s.words.length : Int) < lstI 7
          · rw [if_pos hl] at h0; cases h0
          · rw [if_neg hl]
            have h7k : k = 7 := by have := h.e; omega
            exact ⟨h.e, h.k0, h.k10, h.b, h.lb, h.hi, h.w, h.p, (fun _ => ⟨h7k, by show lstI 7 ≤ (s.words.length : Int); omega⟩), (fun e => by cases e), h.ky⟩
      · rw [if_neg h7] at h0; cases h0
    · rw [if_neg he] at h0 ⊢
      by_cases hd : t.text = dotS
      · rw [if_pos hd] at h0 ⊢
        dsimp only at h0 ⊢
        unfold endF at h0 ⊢
        by_cases h7 : s.kind = 7 ∧ s.proving = false
        · rw [if_pos h7] at h0; cases h0
        · rw [if_neg h7] at h0 ⊢
          by_cases hl : (s.words.length : Int) < lstI s.kind.toNat
          · rw [if_pos hl] at h0; cases h0
          · rw [if_neg hl]
            rw [ek] at hl
            refine .inr ⟨rfl, ?_⟩
            have hpr : s.proving = decide (s.kind = 7) := by
              cases hp : s.proving with
              | true => rw [decide_eq_true (by have := (h.pr hp).1; have := h.e; omega)]
              | false => rw [decide_eq_false (fun e => h7 ⟨e, hp⟩)]
            refine ⟨parts_may (k := k) h.e ⟨h.k0, h.k10, h.lb, by show lstI k ≤ (s.words.length : Int); omega, h.hi, h.w, ?_⟩, hpr, ?_, ?_⟩
            · by_cases h7k : k = 7
              · exact .inl ⟨h7k, h.p⟩
              · refine .inr ⟨h7k, h.np ?_⟩
                rw [hpr, decide_eq_false (by have := h.e; omega)]
            · show s.key.text = kwB s.kind.toNat; rw [ek]; exact h.ky
            · show t.text = if brkB s.kind.toNat = true then kwB s.kind.toNat else endS
              rw [ek, h.b, iteFT, hd]; rfl
      · rw [if_neg hd] at h0; cases h0
theorem inv_take {P : PS} {t : Tok} (h : Inv2 P) (h0 : (takeF P t).1 = 0) : Inv2 (takeF P t).2 := by
  obtain ⟨l, opn, wt⟩ := P
  cases opn with
  | true =>
    obtain ⟨L, s, k, e, hL, hp, hw⟩ := h.o rfl
    dsimp only at e hw
    subst e
    rw [take_open] at h0 ⊢
    rcases inv_within hp h0 with ⟨e1, h1⟩ | ⟨e1, h1⟩
    · refine ⟨fun e => ?_, fun _ => ⟨L, _, k, rfl, hL, h1, hw⟩⟩
      dsimp only at e; rw [e1] at e; cases e
    · refine ⟨fun _ => ⟨mem_snoc hL h1, fun e => ?_⟩, fun e => ?_⟩
      · dsimp only at e; rw [hw] at e; cases e
      · dsimp only at e; rw [e1] at e; cases e
  | false =>
    obtain ⟨hL, hw⟩ := h.c rfl
    dsimp only at hL hw
    unfold takeF at h0 ⊢
    rw [iteFT] at h0 ⊢
    unfold betweenF at h0 ⊢
    by_cases hp : plainB t.text = true
    · rw [if_pos hp] at h0 ⊢
      cases hwt : wtB wt with
      | true => rw [hwt, iteTT] at h0; cases h0
      | false =>
        rw [iteFT]
        exact ⟨fun _ => ⟨hL, fun _ => hp⟩, fun e => by cases e⟩
    · rw [if_neg hp] at h0 ⊢
      by_cases hk0 : kindN t.text = 0
      · rw [if_pos hk0] at h0; cases h0
      · rw [if_neg hk0] at h0 ⊢
        by_cases hlb : labB (kindN t.text) ≠ wtB wt
        · rw [if_pos hlb] at h0; cases h0
        · rw [if_neg hlb]
          have hl2 : labB (kindN t.text) = wtB wt := Classical.byContradiction hlb
          have hkt := kindN_lt t.text
          have hkw := kindN_is hk0
          generalize kindN t.text = kk at hk0 hl2 hkt hkw
          have hlo : labOk (labB kk) wt.text = true := by
            cases hl : labB kk with
            | true => exact hw (by rw [← hl2, hl])
            | false =>
              rw [hl] at hl2
              show wt.text.toList.isEmpty = true
              unfold wtB at hl2
              cases hq : wt.text.toList.isEmpty with
              | true => rfl
              | false => rw [hq] at hl2; cases hl2
          cases hb : brkB kk with
          | true =>
            obtain ⟨b1, b2, b3⟩ := brk_facts kk hkt hb
            have hn : newS (kk : Int) wt t = ⟨kk, zTok, t, false, [], [], t⟩ := by unfold newS; rw [brk_nat hkt, hb, if_pos rfl]
            rw [brk_nat hkt, hb, hn]
            refine ⟨fun _ => ⟨mem_snoc hL ⟨?_, ?_, ?_, ?_⟩, fun e => ?_⟩, fun e => by cases e⟩
            · refine parts_may (k := kk) rfl ⟨by omega, hkt, ?_, ?_, ?_, rfl, .inr ⟨b3, rfl⟩⟩
              · rw [b1]; unfold labOk zTok; rw [ByteArray.toList_eq]; rfl
              · show lstI kk ≤ ((0 : Nat) : Int)
                have : ∀ k, k < 10 → brkB k = true → lstI k ≤ 0 := by decide
                exact this kk hkt hb
              · show ((0 : Nat) : Int) ≤ mstI kk; rw [b2]; exact Int.le_refl _
            · show false = decide ((kk : Int) = 7); rw [decide_eq_false (by omega)]
            · show t.text = kwB (kk : Int).toNat; rw [Int.toNat_natCast]; exact hkw.symm
            · show t.text = if brkB (kk : Int).toNat = true then kwB (kk : Int).toNat else endS; rw [Int.toNat_natCast, hb, if_pos rfl]; exact hkw.symm
            · dsimp only at e; rw [wtB_z] at e; cases e
          | false =>
            have hn : newS (kk : Int) wt t = ⟨kk, wt, t, false, [], [], zTok⟩ := by unfold newS; rw [brk_nat hkt, hb, iteFT]
            rw [brk_nat hkt, hb, hn]
            refine ⟨(fun e => by cases e), fun _ => ⟨l, _, kk, rfl, hL, ⟨rfl, by omega, hkt, hb, hlo, ?_, rfl, rfl, (fun e => by cases e), fun _ => rfl, hkw.symm⟩, wtB_z⟩⟩
            show ((0 : Nat) : Int) ≤ mstI kk
            have : ∀ k, k < 10 → 0 < k → 0 ≤ mstI k := by decide
            exact this kk hkt (by omega)
theorem inv_run : ∀ (ts : List Tok) (P Q : PS), Inv2 P → runT P ts = (Q, none) → Inv2 Q
  | [], P, Q, h, hr => by cases hr; exact h
  | t :: ts, P, Q, h, hr => by
    unfold runT at hr
    split at hr
    · rename_i h0
      exact inv_run ts _ Q (inv_take h h0) hr
    · cases hr
/-- What is read without a fault is whole. -/
theorem read_whole {s : ByteArray} (h : (readF s).2 = none) : (readF s).1.opn = false ∧ ∀ x ∈ (readF s).1.l, Whole x := by
  unfold readF at h ⊢
  obtain ⟨P, f, hP⟩ : ∃ P f, runT ps0 (wordsF s) = (P, f) := ⟨_, _, rfl⟩
  rw [hP] at h ⊢
  cases f with
  | some f => cases h
  | none =>
    dsimp only at h ⊢
    have hi : Inv2 P := inv_run _ _ _ ⟨fun _ => ⟨(fun x h => by cases h), fun e => by rw [show ps0.wt = zTok from rfl, wtB_z] at e; cases e⟩, fun e => by cases e⟩ hP
    cases hs : (K.scanF s).2 with
    | some f => rw [hs] at h; cases h
    | none =>
      rw [hs] at h
      dsimp only at h ⊢
      by_cases hc : (P.opn || wtB P.wt) = true
      · rw [if_pos hc] at h; cases h
      · rw [if_neg hc]
        have ho : P.opn = false := by
          cases hq : P.opn with
          | true => rw [hq] at hc; exact absurd rfl hc
          | false => rfl
        exact ⟨ho, (hi.c ho).1⟩
theorem whole_all {l : List Stm} (h : ∀ x ∈ l, Whole x) : l.all mayS = true := List.all_eq_true.2 fun x hx => (h x hx).may
end Go.Proofs.YtipfhfeaalbmcaaDoor
