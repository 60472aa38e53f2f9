/- Laid together: BackPure, BackTok, BackWalk. -/
import Derived.Test.YtffchjigpppoaaaDoorKScanB
import Derived.Test.YtffchjigpppoaaaDoorSplitsPure
namespace Go.Proofs.YtffchjigpppoaaaDoor.K
open Go.RowKit

theorem isOpen_data (t : ByteArray) : isOpen t = (t.data.toList == [36, 40]) := by unfold isOpen; rw [Lib.toList_data]
theorem isShut_data (t : ByteArray) : isShut t = (t.data.toList == [36, 41]) := by unfold isShut; rw [Lib.toList_data]
theorem inCmt_data (r : Rd) : inCmt r = !r.opn.text.data.toList.isEmpty := by unfold inCmt; rw [Lib.toList_data]
def cutW : List UInt8 → List UInt8 → List (List UInt8)
  | cur, [] => if cur.isEmpty then [] else [cur]
  | cur, b :: r => if kindF b.toNat = 1 then (if cur.isEmpty then [] else [cur]) ++ cutW [] r else cutW (cur ++ [b]) r
/-- An event's text, and its error. -/
def textOf (e : Tok × Int) : List UInt8 × Int := (e.1.text.data.toList, e.2)
theorem cur_len (s : ByteArray) (start k : Nat) (h1 : start ≤ k) (h2 : k ≤ s.size) : ((s.data.toList.drop start).take (k - start)).length = k - start := by
  have : s.data.toList.length = s.size := rfl
  rw [List.length_take, List.length_drop, this]; omega
theorem cur_empty (s : ByteArray) (start k : Nat) (h1 : start ≤ k) (h2 : k ≤ s.size) : ((s.data.toList.drop start).take (k - start)).isEmpty = !decide (start < k) := by
  have h := cur_len s start k h1 h2
  cases hc : (s.data.toList.drop start).take (k - start) with
  | nil =>
    rw [hc] at h; simp at h
    simp; omega
  | cons a m =>
    rw [hc] at h; simp at h
    simp; omega
theorem cur_text (s : ByteArray) (start k line ls : Nat) : (wordAt s start k line ls).text.data.toList = (s.data.toList.drop start).take (k - start) := by
  unfold wordAt; rw [Lib.extract_data]
theorem cur_more (s : ByteArray) (start k : Nat) (h1 : start ≤ k) (h2 : k < s.size) : (s.data.toList.drop start).take (k + 1 - start) = (s.data.toList.drop start).take (k - start) ++ [s[k]] := by
  rw [show k + 1 - start = k - start + 1 by omega, List.take_add_one]
  congr 1
  rw [List.getElem?_drop, show start + (k - start) = k by omega, List.getElem?_eq_getElem (by simpa using h2)]
  rfl
theorem app2 {α : Type} {a b c d : List α} (h1 : a = c) (h2 : b = d) : a ++ b = c ++ d := by rw [h1, h2]
theorem evs_cut (s : ByteArray) (hs : s.size ≤ 65536) (hk : ∀ k (h : k < s.size), kindF s[k].toNat ≠ 0) : ∀ (j k start line ls : Nat), k + j = s.size → start ≤ k →
    (evs s (s.data.toList.drop k) k start line ls).map textOf = (cutW ((s.data.toList.drop start).take (k - start)) (s.data.toList.drop k)).map (fun w => (w, (0 : Int))) := by
  intro j
  induction j with
  | zero =>
    intro k start line ls hj hst
    rw [ev_end s k start line ls (by omega), drop_end s k (by omega), cutW, cur_empty s start k hst (by omega)]
    by_cases h : start < k
    · rw [if_pos h]; simp [h, textOf, cur_text]
    · rw [if_neg h]; simp [h]
  | succ j ih =>
    intro k start line ls hj hst
    have hlt : k < s.size := by omega
    have hne : ¬ k = 65536 := by omega
    have hc : codeAt k s[k] = 0 := by unfold codeAt; rw [if_neg hne, if_neg (hk k hlt)]
    by_cases hb : kindF s[k].toNat = 1
    · rw [ev_blank s k start line ls hlt hc hb, drop_cons s k hlt, cutW, if_pos hb, List.map_append, List.map_append, ih (k + 1) (k + 1) _ _ (by omega) (Nat.le_refl _), cur_empty s start k hst (by omega)]
      refine app2 ?_ ?_
      · by_cases h : start < k
        · rw [if_pos h]; simp [h, textOf, cur_text]
        · rw [if_neg h]; simp [h]
      · rw [Nat.sub_self, List.take_zero]
    · rw [ev_skip s k start line ls hlt hc hb, ih (k + 1) start line ls (by omega) (by omega), drop_cons s k hlt, cutW, if_neg hb, cur_more s start k hst hlt]
theorem events_cut (s : ByteArray) (hs : s.size ≤ 65536) (hk : ∀ k (h : k < s.size), kindF s[k].toNat ≠ 0) : (events s).map textOf = (cutW [] s.data.toList).map (fun w => (w, (0 : Int))) := by
  have := evs_cut s hs hk s.size 0 0 1 0 (by omega) (Nat.le_refl _)
  simpa [events] using this
theorem cut_word (w : List UInt8) (hw : ∀ b ∈ w, kindF b.toNat ≠ 1) : ∀ (cur r : List UInt8), cutW cur (w ++ r) = cutW (cur ++ w) r := by
  induction w with
  | nil => intro cur r; simp
  | cons b w ih =>
    intro cur r
    rw [List.cons_append, cutW, if_neg (hw b List.mem_cons_self), ih (fun x hx => hw x (List.mem_cons_of_mem _ hx)), List.append_assoc]; rfl
set_option maxRecDepth 100000 in
/-- A gap behind what has been read of a word. -/
def Plain (w : List UInt8) : Prop := w ≠ [] ∧ ∀ b ∈ w, 2 ≤ kindF b.toNat ∧ b ≠ 36
theorem plain_open {w : List UInt8} (h : Plain w) : (w == [36, 40]) = false ∧ (w == [36, 41]) = false := by
  constructor
  · rw [beq_eq_false_iff_ne]; intro e; rw [e] at h; exact (h.2 36 (by simp)).2 rfl
  · rw [beq_eq_false_iff_ne]; intro e; rw [e] at h; exact (h.2 36 (by simp)).2 rfl
theorem takeF_plain (told : List Tok) (t : Tok) (h : Plain t.text.data.toList) : takeF ⟨told, zeroTok⟩ t = if told.length = 16384 then (13, ⟨told, zeroTok⟩) else (0, ⟨told ++ [t], zeroTok⟩) := by
  have h0 : ¬ inCmt ⟨told, zeroTok⟩ = true := by rw [inCmt_data]; show ¬ (!zeroTok.text.data.toList.isEmpty) = true; decide
  have h1 : ¬ isOpen t.text = true := by rw [isOpen_data, (plain_open h).1]; decide
  have h2 : ¬ isShut t.text = true := by rw [isShut_data, (plain_open h).2]; decide
  unfold takeF
  rw [if_neg h0, if_neg h1, if_neg h2]
theorem runF_cons0 (r : Rd) (t : Tok) (es : List (Tok × Int)) (r' : Rd) (h : takeF r t = (0, r')) : runF r ((t, 0) :: es) = runF r' es := by
  simp only [runF, h, if_true]
theorem run_words : ∀ (ws : List (List UInt8)) (E : List (Tok × Int)) (told : List Tok), E.map textOf = ws.map (fun w => (w, (0 : Int))) → (∀ p ∈ ws, Plain p) → told.length + ws.length ≤ 16384 →
    ∃ ts, runF ⟨told, zeroTok⟩ E = (⟨told ++ ts, zeroTok⟩, none) ∧ ts.map (fun t => t.text.data.toList) = ws := by
  intro ws
  induction ws with
  | nil =>
    intro E told hE _ _
    have : E = [] := by simpa using hE
    subst this
    exact ⟨[], by simp [runF], rfl⟩
  | cons x ws ih =>
    intro E told hE hp hl
    cases E with
    | nil => simp at hE
    | cons e E =>
      obtain ⟨t, c⟩ := e
      simp only [List.map_cons, List.cons.injEq, textOf, Prod.mk.injEq] at hE
      obtain ⟨⟨hx, rfl⟩, hE⟩ := hE
      simp only [List.length_cons] at hl
      have hP : Plain t.text.data.toList := by rw [hx]; exact hp x List.mem_cons_self
      have htk : takeF ⟨told, zeroTok⟩ t = (0, ⟨told ++ [t], zeroTok⟩) := by rw [takeF_plain told t hP, if_neg (by omega)]
      obtain ⟨ts, h1, h2⟩ := ih E (told ++ [t]) hE (fun p hp' => hp p (List.mem_cons_of_mem _ hp')) (by rw [List.length_append]; simp only [List.length_cons, List.length_nil]; omega)
      refine ⟨t :: ts, ?_, by rw [List.map_cons, h2, hx]⟩
      rw [runF_cons0 _ _ _ _ htk, h1, List.append_assoc]
      rfl
/-- What a scan tells of a text that is cut into plain words. -/
theorem scan_words (s : ByteArray) (ws : List (List UInt8)) (hs : s.size ≤ 65536) (hk : ∀ b ∈ s.data.toList, kindF b.toNat ≠ 0) (hc : cutW [] s.data.toList = ws) (hp : ∀ p ∈ ws, Plain p) (hl : ws.length ≤ 16384) :
    ∃ ts, scanF s = (ts, none) ∧ ts.map (fun t => t.text.data.toList) = ws := by
  have hk2 : ∀ k (h : k < s.size), kindF s[k].toNat ≠ 0 := fun k h => hk _ (List.getElem_mem (l := s.data.toList) (by simpa using h))
  have hE := events_cut s hs hk2
  rw [hc] at hE
  obtain ⟨ts, h1, h2⟩ := run_words ws (events s) [] hE hp (by simpa using hl)
  refine ⟨ts, ?_, h2⟩
  have h3 : runF rd0 (events s) = (⟨ts, zeroTok⟩, none) := by simpa [rd0] using h1
  refine scanF_good s ⟨ts, zeroTok⟩ h3 ?_
  rw [inCmt_data]
  rfl
/-- The words of a text in lines, behind the first. -/
def tailL (n : Nat) : List ByteArray → List UInt8
  | [] => []
  | x :: r => if n + 1 + x.size ≤ 72 then 32 :: (x.data.toList ++ tailL (n + 1 + x.size) r) else 10 :: (x.data.toList ++ tailL x.size r)
theorem fold_tail (r : List ByteArray) : ∀ b n, (r.foldl stp (b, n)).1 = b ++ tailL n r := by
  induction r with
  | nil => intro b n; simp [tailL]
  | cons x r ih =>
    intro b n
    rw [List.foldl_cons]
    by_cases h : n + 1 + x.size ≤ 72
    · rw [show stp (b, n) x = (b ++ (32 :: x.data.toList), n + 1 + x.size) from if_pos h, ih]
      simp [tailL, h]
    · rw [show stp (b, n) x = (b ++ (10 :: x.data.toList), x.size) from if_neg h, ih]
      simp [tailL, h]
/-- A byte of a plain word. -/
def Pl (b : UInt8) : Prop := 2 ≤ kindF b.toNat ∧ b ≠ 36
theorem Pl.ne1 {b : UInt8} (h : Pl b) : kindF b.toNat ≠ 1 := by have := h.1; omega
theorem cut_sep (d : UInt8) (hd : kindF d.toNat = 1) (cur r : List UInt8) (hc : cur ≠ []) : cutW cur (d :: r) = cur :: cutW [] r := by
  simp only [cutW, if_pos hd]
  rw [show cur.isEmpty = false by cases cur with | nil => exact absurd rfl hc | cons _ _ => rfl]
  rfl
theorem cut_tail (r : List ByteArray) : ∀ (cur : List UInt8) (n : Nat) (Q : List UInt8), cur ≠ [] → (∀ x ∈ r, x.data.toList ≠ [] ∧ ∀ b ∈ x.data.toList, Pl b) →
    ∃ last, last ≠ [] ∧ cutW cur (tailL n r ++ Q) = ((cur :: r.map (fun x => x.data.toList)).dropLast) ++ cutW last Q ∧ (cur :: r.map (fun x => x.data.toList)).getLast? = some last := by
  induction r with
  | nil => intro cur n Q hc _; exact ⟨cur, hc, by simp [tailL], rfl⟩
  | cons x r ih =>
    intro cur n Q hc hr
    obtain ⟨hx1, hx2⟩ := hr x List.mem_cons_self
    have key : ∀ d : UInt8, kindF d.toNat = 1 → ∀ m, ∃ last, last ≠ [] ∧ cutW cur (d :: (x.data.toList ++ tailL m r) ++ Q) = ((cur :: (x :: r).map (fun x => x.data.toList)).dropLast) ++ cutW last Q ∧ (cur :: (x :: r).map (fun x => x.data.toList)).getLast? = some last := by
      intro d hd m
      obtain ⟨last, h1, h2, h3⟩ := ih x.data.toList m Q hx1 (fun y hy => hr y (List.mem_cons_of_mem _ hy))
      refine ⟨last, h1, ?_, ?_⟩
      · rw [List.cons_append, cut_sep d hd cur _ hc, List.append_assoc, cut_word _ (fun b hb => (hx2 b hb).ne1) [] _, List.nil_append, h2]
        rfl
      · rw [List.map_cons, List.getLast?_cons_cons]; exact h3
    simp only [tailL]
    split
    · exact key 32 (by decide) _
    · exact key 10 (by decide) _
theorem cut_end (cur : List UInt8) (h : cur ≠ []) : cutW cur [] = [cur] := by
  simp only [cutW]
  rw [show cur.isEmpty = false by cases cur with | nil => exact absurd rfl h | cons _ _ => rfl]
  rfl
theorem drop_last {α : Type} (l : List α) (x : α) (h : l.getLast? = some x) : l.dropLast ++ [x] = l := by
  rw [List.getLast?_eq_some_iff] at h
  obtain ⟨ys, rfl⟩ := h
  simp
theorem cut_lines (l : List ByteArray) (hl : ∀ x ∈ l, x.data.toList ≠ [] ∧ ∀ b ∈ x.data.toList, Pl b) : cutW [] (linesOf l) = l.map (fun x => x.data.toList) := by
  cases l with
  | nil => rfl
  | cons x r =>
    obtain ⟨hx1, hx2⟩ := hl x List.mem_cons_self
    show cutW [] ((r.foldl stp ([] ++ x.data.toList, x.size)).1) = _
    rw [fold_tail, List.nil_append, cut_word _ (fun b hb => (hx2 b hb).ne1) [] _, List.nil_append]
    obtain ⟨last, h1, h2, h3⟩ := cut_tail r x.data.toList x.size [] hx1 (fun y hy => hl y (List.mem_cons_of_mem _ hy))
    rw [List.append_nil] at h2
    rw [h2, cut_end last h1]
    exact drop_last _ _ h3
/-- Letters on lines of their own are words that are together the letters. -/
theorem cut_brk (P : List UInt8) : ∀ (i : Nat) (cur : List UInt8), (∀ b ∈ cur, Pl b) → (∀ b ∈ P, Pl b) → (cutW cur (brk i P)).flatten = cur ++ P ∧ (∀ w ∈ cutW cur (brk i P), w ≠ [] ∧ ∀ b ∈ w, Pl b) ∧ (cutW cur (brk i P)).length + P.length ≤ (brk i P).length + 1 := by
  induction P with
  | nil =>
    intro i cur hc _
    simp only [brk, cutW]
    cases cur with
    | nil => simp
    | cons x r => simp only [List.isEmpty_cons, Bool.false_eq_true, if_false, List.flatten_cons, List.flatten_nil, List.append_nil, List.mem_singleton, true_and]; exact ⟨fun w hw => by rw [hw]; exact ⟨by simp, hc⟩, by simp⟩
  | cons c P ih =>
    intro i cur hc hP
    have hcP := hP c List.mem_cons_self
    have hPP : ∀ b ∈ P, Pl b := fun b hb => hP b (List.mem_cons_of_mem _ hb)
    have one : ∀ cur', (∀ b ∈ cur', Pl b) → cutW cur' (c :: brk (i + 1) P) = cutW (cur' ++ [c]) (brk (i + 1) P) := fun cur' _ => by
      simp only [cutW, if_neg hcP.ne1]
    have hcc : ∀ cur' : List UInt8, (∀ b ∈ cur', Pl b) → ∀ b ∈ cur' ++ [c], Pl b := fun cur' h b hb => by
      rcases List.mem_append.1 hb with hb | hb
      · exact h b hb
      · rw [List.mem_singleton.1 hb]; exact hcP
    by_cases h72 : i % 72 = 0
    · have e : brk i (c :: P) = 10 :: (c :: brk (i + 1) P) := by simp [brk, h72]
      obtain ⟨h1, h2, h3⟩ := ih (i + 1) ([] ++ [c]) (hcc [] (by simp)) hPP
      have one0 := one [] (by simp)
      rw [e]
      cases cur with
      | nil =>
        have e2 : cutW [] (10 :: (c :: brk (i + 1) P)) = cutW [] (c :: brk (i + 1) P) := by
          simp only [cutW, if_pos (show kindF ((10 : UInt8).toNat : Int) = 1 by decide), List.isEmpty_nil, if_true, List.nil_append]
        rw [e2, one0]
        exact ⟨by rw [h1]; simp, h2, by simp only [List.length_cons, List.nil_append] at *; omega⟩
      | cons x r =>
        rw [cut_sep 10 (by decide) (x :: r) _ (by simp), one0]
        refine ⟨by rw [List.flatten_cons, h1]; simp, fun w hw => ?_, by simp only [List.length_cons, List.nil_append] at *; omega⟩
        rcases List.mem_cons.1 hw with rfl | hw
        · exact ⟨by simp, hc⟩
        · exact h2 w hw
    · have e : brk i (c :: P) = c :: brk (i + 1) P := by simp [brk, h72]
      obtain ⟨h1, h2, h3⟩ := ih (i + 1) (cur ++ [c]) (hcc cur hc) hPP
      rw [e, one cur hc]
      exact ⟨by rw [h1]; simp, h2, by simp only [List.length_cons] at *; omega⟩
end Go.Proofs.YtffchjigpppoaaaDoor.K

namespace Go.Proofs.YtffchjigpppoaaaDoor
open Go.RowKit

def toT (t : K.Tok) : Tok := ⟨t.text, t.off, t.line, t.col⟩
theorem rowT_toT (ts : List K.Tok) : rowT (ts.map toT) = K.rowOf ts := by
  induction ts with
  | nil => rfl
  | cons t r ih =>
    show tokCells (toT t) ++ rowT (r.map toT) = _
    rw [ih]
    rfl
theorem texts_toT (ts : List K.Tok) (ws : List (List UInt8)) (h : ts.map (fun t => t.text.data.toList) = ws) : (ts.map toT).map Tok.bytes = ws := by
  rw [← h, List.map_map]
  rfl
theorem name_pl {b : UInt8} (h : 97 ≤ b.toNat ∧ b.toNat ≤ 122) : K.Pl b := by
  refine ⟨?_, fun e => by subst e; simp at h⟩
  have h4 := (K.kind4 (b.toNat : Int) (Int.natCast_nonneg _)).2 (by omega)
  omega
theorem pl_of_range {b : UInt8} (h : b = 63 ∨ (65 ≤ b.toNat ∧ b.toNat ≤ 90) ∨ b = 40 ∨ b = 41) : K.Pl b := by
  rcases h with rfl | h | rfl | rfl
  · exact ⟨by decide, by decide⟩
  · refine ⟨?_, fun e => by subst e; simp at h⟩
    have h4 := (K.kind4 (b.toNat : Int) (Int.natCast_nonneg _)).2 (by omega)
    omega
  · exact ⟨by decide, by decide⟩
  · exact ⟨by decide, by decide⟩
theorem prB_pl (l : List Int) : ∀ b ∈ prB l, K.Pl b := fun b hb => by
  unfold prB at hb
  obtain ⟨x, _, hx⟩ := List.mem_flatMap.1 hb
  unfold wrT at hx
  split at hx
  · rw [List.mem_singleton.1 hx]; exact pl_of_range (.inr (.inl (by decide)))
  · split at hx
    · rw [List.mem_singleton.1 hx]; exact pl_of_range (.inl rfl)
    · have := enc_range _ _ hx
      exact pl_of_range (.inr (.inl (by omega)))
theorem word_pl (x : Int) : (nameB x).data.toList ≠ [] ∧ ∀ b ∈ (nameB x).data.toList, K.Pl b := by
  refine ⟨fun e => ?_, fun b hb => name_pl (nameB_range x b hb)⟩
  have h1 := nameB_size x
  have h2 : (nameB x).data.toList.length = (nameB x).size := rfl
  rw [e] at h2
  simp at h2
  omega
theorem names_pl (l : List Int) : ∀ x ∈ l.map nameB, x.data.toList ≠ [] ∧ ∀ b ∈ x.data.toList, K.Pl b := fun x hx => by
  obtain ⟨y, _, rfl⟩ := List.mem_map.1 hx
  exact word_pl y
theorem pack_pl (l : List Int) : ∀ x ∈ packW (l.map nameB), x.data.toList ≠ [] ∧ ∀ b ∈ x.data.toList, K.Pl b := fun x hx => by
  unfold packW at hx
  rcases List.mem_cons.1 hx with rfl | hx
  · exact ⟨by decide, fun b hb => by rw [List.mem_singleton.1 hb]; exact pl_of_range (.inr (.inr (.inl rfl)))⟩
  · rcases List.mem_append.1 hx with hx | hx
    · exact names_pl l x hx
    · rw [List.mem_singleton.1 hx]
      exact ⟨by decide, fun b hb => by rw [List.mem_singleton.1 hb]; exact pl_of_range (.inr (.inr (.inr rfl)))⟩
theorem kind_of_pl {b : UInt8} (h : K.Pl b) : K.kindF b.toNat ≠ 0 := by have := h.1; omega
theorem tail_kinds (r : List ByteArray) (hr : ∀ x ∈ r, x.data.toList ≠ [] ∧ ∀ b ∈ x.data.toList, K.Pl b) : ∀ n, ∀ b ∈ K.tailL n r, K.kindF b.toNat ≠ 0 := by
  induction r with
  | nil => intro n b hb; cases hb
  | cons x r ih =>
    intro n b hb
    have hx := (hr x List.mem_cons_self).2
    have ih2 := ih (fun y hy => hr y (List.mem_cons_of_mem _ hy))
    simp only [K.tailL] at hb
    split at hb
    · rcases List.mem_cons.1 hb with rfl | hb
      · decide
      · rcases List.mem_append.1 hb with hb | hb
        · exact kind_of_pl (hx b hb)
        · exact ih2 _ b hb
    · rcases List.mem_cons.1 hb with rfl | hb
      · decide
      · rcases List.mem_append.1 hb with hb | hb
        · exact kind_of_pl (hx b hb)
        · exact ih2 _ b hb
theorem lines_kinds (l : List ByteArray) (hl : ∀ x ∈ l, x.data.toList ≠ [] ∧ ∀ b ∈ x.data.toList, K.Pl b) : ∀ b ∈ linesOf l, K.kindF b.toNat ≠ 0 := by
  cases l with
  | nil => intro b hb; cases hb
  | cons x r =>
    intro b hb
    have hb2 : b ∈ (r.foldl stp ([] ++ x.data.toList, x.size)).1 := hb
    rw [K.fold_tail, List.nil_append] at hb2
    rcases List.mem_append.1 hb2 with hb2 | hb2
    · exact kind_of_pl ((hl x List.mem_cons_self).2 b hb2)
    · exact tail_kinds r (fun y hy => hl y (List.mem_cons_of_mem _ hy)) _ b hb2
theorem brk_kinds (P : List UInt8) (hP : ∀ b ∈ P, K.Pl b) : ∀ i, ∀ b ∈ brk i P, K.kindF b.toNat ≠ 0 := by
  induction P with
  | nil => intro i b hb; cases hb
  | cons c P ih =>
    intro i b hb
    simp only [brk] at hb
    rcases List.mem_append.1 hb with hb | hb
    · split at hb
      · rw [List.mem_singleton.1 hb]; decide
      · cases hb
    · rcases List.mem_cons.1 hb with rfl | hb
      · exact kind_of_pl (hP _ List.mem_cons_self)
      · exact ih (fun x hx => hP x (List.mem_cons_of_mem _ hx)) _ b hb
/-- The plain text, scanned. -/
theorem scan_plain (l : List Int) (hl : l.length ≤ 4000) (hs : (linesOf (l.map nameB)).length ≤ 65536) :
    ∃ ts, K.scanF (strB (linesOf (l.map nameB))) = (ts, none) ∧ (ts.map toT).map Tok.bytes = (l.map nameB).map (fun x => x.data.toList) := by
  have e : (strB (linesOf (l.map nameB))).data.toList = linesOf (l.map nameB) := by simp [strB]
  obtain ⟨ts, h1, h2⟩ := K.scan_words (strB (linesOf (l.map nameB))) ((l.map nameB).map (fun x => x.data.toList)) (by rw [strB_size]; exact hs) (by rw [e]; exact lines_kinds _ (names_pl l)) (by rw [e]; exact K.cut_lines _ (names_pl l))
    (fun p hp => by
      obtain ⟨x, hx, rfl⟩ := List.mem_map.1 hp
      exact names_pl l x hx) (by rw [List.length_map, List.length_map]; omega)
  exact ⟨ts, h1, texts_toT ts _ h2⟩
/-- The packed text, scanned. -/
theorem scan_packed (l z : List Int) (hl : l.length ≤ 4000) (hz : (prB z).length ≤ 42000) (hs : (linesOf (packW (l.map nameB)) ++ brk 0 (prB z)).length ≤ 65536) :
    ∃ ts Ws, K.scanF (strB (linesOf (packW (l.map nameB)) ++ brk 0 (prB z))) = (ts, none) ∧ (ts.map toT).map Tok.bytes = (packW (l.map nameB)).map (fun x => x.data.toList) ++ Ws ∧ Ws.flatten = prB z ∧ Ws.length ≤ 600 := by
  have e : (strB (linesOf (packW (l.map nameB)) ++ brk 0 (prB z))).data.toList = linesOf (packW (l.map nameB)) ++ brk 0 (prB z) := by simp [strB]
  have hP := prB_pl z
  -- the cut of the whole
  have hcut : ∃ Ws, K.cutW [] (linesOf (packW (l.map nameB)) ++ brk 0 (prB z)) = (packW (l.map nameB)).map (fun x => x.data.toList) ++ Ws ∧ Ws.flatten = prB z ∧ (∀ w ∈ Ws, w ≠ [] ∧ ∀ b ∈ w, K.Pl b) ∧ Ws.length + (prB z).length ≤ (brk 0 (prB z)).length := by
    have hpl := pack_pl l
    obtain ⟨x, r, hxr⟩ : ∃ x r, packW (l.map nameB) = x :: r := ⟨_, _, rfl⟩
    rw [hxr] at hpl ⊢
    obtain ⟨hx1, hx2⟩ := hpl x List.mem_cons_self
    have e1 : linesOf (x :: r) = x.data.toList ++ K.tailL x.size r := by
      show (r.foldl stp ([] ++ x.data.toList, x.size)).1 = _
      rw [K.fold_tail, List.nil_append]
    obtain ⟨last, h1, h2, h3⟩ := K.cut_tail r x.data.toList x.size (brk 0 (prB z)) hx1 (fun y hy => hpl y (List.mem_cons_of_mem _ hy))
    rw [e1, List.append_assoc, K.cut_word _ (fun b hb => (hx2 b hb).ne1) [] _, List.nil_append, h2]
    have hd := K.drop_last _ _ h3
    have hd2 : (x :: r).map (fun x => x.data.toList) = (x.data.toList :: r.map (fun x => x.data.toList)).dropLast ++ [last] := hd.symm
    rw [hd2]
    cases hq : prB z with
    | nil =>
      refine ⟨[], ?_, rfl, (by intro w hw; cases hw), Nat.le_refl _⟩
      show _ ++ K.cutW last [] = _
      rw [K.cut_end last h1, List.append_nil]
    | cons c Q =>
      rw [hq] at hP
      have e2 : brk 0 (c :: Q) = 10 :: (c :: brk 1 Q) := rfl
      have hc1 : ¬ K.kindF (c.toNat : Int) = 1 := (hP c List.mem_cons_self).ne1
      obtain ⟨h4, h5, h6⟩ := K.cut_brk Q 1 [c] (fun b hb => by rw [List.mem_singleton.1 hb]; exact hP c List.mem_cons_self) (fun b hb => hP b (List.mem_cons_of_mem _ hb))
      refine ⟨K.cutW [c] (brk 1 Q), ?_, h4, h5, ?_⟩
      · rw [e2, K.cut_sep 10 (by decide) last _ h1]
        have e3 : K.cutW [] (c :: brk 1 Q) = K.cutW [c] (brk 1 Q) := by simp only [K.cutW, if_neg hc1, List.nil_append]
        rw [e3]
        simp
      · rw [e2]
        simp only [List.length_cons]
        omega
  obtain ⟨Ws, c1, c2, c3, c4⟩ := hcut
  have hWs : Ws.length ≤ 600 := by
    have hbl := brk_size (prB z)
    omega
  have hpk := packW_len (l.map nameB)
  rw [List.length_map] at hpk
  obtain ⟨ts, h1, h2⟩ := K.scan_words (strB (linesOf (packW (l.map nameB)) ++ brk 0 (prB z))) ((packW (l.map nameB)).map (fun x => x.data.toList) ++ Ws) (by rw [strB_size]; exact hs)
    (by
      rw [e]
      intro b hb
      rcases List.mem_append.1 hb with hb | hb
      · exact lines_kinds _ (pack_pl l) b hb
      · exact brk_kinds _ hP 0 b hb)
    (by rw [e]; exact c1)
    (fun p hp => by
      rcases List.mem_append.1 hp with hp | hp
      · obtain ⟨x, hx, rfl⟩ := List.mem_map.1 hp
        exact pack_pl l x hx
      · exact c3 p hp)
    (by rw [List.length_append, List.length_map]; omega)
  exact ⟨ts, Ws, h1, texts_toT ts _ h2, c2, hWs⟩
/-- A plain proof's words, taken apart. -/
theorem parse_names (l : List Int) (ts : List Tok) (h : ts.map Tok.bytes = (l.map nameB).map (fun x => x.data.toList)) : parseT ts = ⟨1, ts, [], false, false⟩ := by
  cases ts with
  | nil => rfl
  | cons t r =>
    have hlp : isT lp t = false := by
      cases l with
      | nil => simp at h
      | cons x l =>
        simp only [List.map_cons, List.cons.injEq] at h
        unfold isT
        rw [ByteArray.toList_eq, show t.text.data.toList = (nameB x).data.toList from h.1, beq_eq_false_iff_ne]
        intro e
        have := nameB_range x 40 (by rw [e]; decide)
        simp at this
    show (if isT lp t = true then _ else _) = _
    rw [hlp, if_neg Bool.false_ne_true]
/-- A packed proof's words, taken apart. -/
theorem parse_pack (l z : List Int) (ts : List Tok) (Ws : List (List UInt8)) (h : ts.map Tok.bytes = (packW (l.map nameB)).map (fun x => x.data.toList) ++ Ws) (hW : Ws.flatten = prB z) (hz : prOk z = true) :
    ∃ ls cs, parseT ts = ⟨2, ls, cs, false, false⟩ ∧ ls.map Tok.bytes = (l.map nameB).map (fun x => x.data.toList) ∧ cs.map (·.1) = z := by
  cases ts with
  | nil => simp [packW] at h
  | cons t r =>
    have h' : t.bytes = [40] ∧ r.map Tok.bytes = (l.map nameB).map (fun x => x.data.toList) ++ ([41] :: Ws) := by
      simp only [packW, List.map_cons, List.map_append, List.map_nil, List.cons_append, List.cons.injEq, List.append_assoc, List.nil_append] at h
      exact h
    obtain ⟨h1, h2⟩ := h'
    have hlp : isT lp t = true := by
      unfold isT
      rw [ByteArray.toList_eq, show t.text.data.toList = [40] from h1]
      rfl
    obtain ⟨n, hn⟩ : ∃ n, l.length = n := ⟨_, rfl⟩
    have hnl : ((l.map nameB).map (fun x => x.data.toList)).length = n := by simp [hn]
    have hat : ∀ (i : Nat) (y : Tok), r[i]? = some y → ((l.map nameB).map (fun x => x.data.toList) ++ ([41] :: Ws))[i]? = some y.bytes := fun i y hy => by rw [← h2, List.getElem?_map, hy]; rfl
    have hrl : n < r.length := by
      have := congrArg List.length h2
      rw [List.length_map, List.length_append, hnl, List.length_cons] at this
      omega
    have hrn : r[n]? = some r[n] := List.getElem?_eq_getElem hrl
    have hrp : isT rp r[n] = true := by
      have := hat n _ hrn
      rw [List.getElem?_append_right (by omega), hnl, Nat.sub_self] at this
      unfold isT
      rw [ByteArray.toList_eq, show r[n].text.data.toList = [41] from (Option.some.inj this).symm]
      rfl
    have hidx : r.findIdx? (isT rp) = some n := by
      refine idxT_at hrn hrp fun y hy => ?_
      obtain ⟨i, hi, rfl⟩ := List.mem_iff_getElem.1 hy
      rw [List.length_take] at hi
      rw [List.getElem_take]
      have h3 := hat i _ (List.getElem?_eq_getElem (by omega))
      rw [List.getElem?_append_left (by omega)] at h3
      have h4 := List.mem_of_getElem? h3
      obtain ⟨x, hx, hxe⟩ := List.mem_map.1 h4
      obtain ⟨v, _, rfl⟩ := List.mem_map.1 hx
      unfold isT
      rw [ByteArray.toList_eq, show (r[i]'(by omega)).text.data.toList = (nameB v).data.toList from hxe.symm, beq_eq_false_iff_ne]
      intro e
      have := nameB_range v 41 (by rw [e]; decide)
      simp at this
    have hall : allBytes (r.drop (n + 1)) = prB z := by
      have h5 : (r.drop (n + 1)).map Tok.bytes = Ws := by
        rw [List.map_drop, h2, List.drop_append, hnl, List.drop_eq_nil_of_le (by omega), List.nil_append, show n + 1 - n = 1 by omega]
        rfl
      rw [← hW, ← h5]
      unfold allBytes
      rw [List.flatMap_def]
    obtain ⟨h6, h7⟩ := nums_of_codes (r.drop (n + 1)) 0
    obtain ⟨h8, h9⟩ := nums_print z hz
    rw [hall, h8] at h6
    rw [hall, h9] at h7
    refine ⟨r.take n, codesOf 0 (r.drop (n + 1)), ?_, ?_, h6⟩
    · show (if isT lp t = true then _ else _) = _
      rw [if_pos hlp, hidx]
      simp only [h7]
      rfl
    · rw [List.map_take, h2, List.take_append, hnl, List.take_of_length_le (by omega), Nat.sub_self, List.take_zero, List.append_nil]
end Go.Proofs.YtffchjigpppoaaaDoor

namespace Go.Proofs.YtffchjigpppoaaaDoor
open Go.RowKit

set_option maxRecDepth 100000 in
set_option maxHeartbeats 4000000 in
theorem words_any (w : World) (s : ByteArray) (mx : Int) (ts : List K.Tok) (hs : s.size ≤ 65536) (hK : KBs w) (hm : w.cell? ⟨4, 0, none⟩ = some (.int .i64 mx)) (hF : K.scanF s = (ts, none)) :
    Calls Tryd.prog 24 #[.string s] w fun e w' => ∃ a c, e = .returned (.tuple #[.slice a ts.length c, .bool true]) ∧ ts.length ≤ c ∧ ToksAt w' a (ts.map toT) ∧ Below w.heap.size w w' := by
  have SC : Hid _ := callsIn_wide.1 (K.scan_in s w mx (by omega) hK hm)
  have HF : Hid (K.scanF s = (ts, none)) := hF
  clear hF hK hm
  go_enter Tryd.func24, Tryd.ntmps24
  go_wp2_with fail
  refine Calls.mono SC.out ?_
  rintro e w1 ⟨v, fv, rfl, ho, hb⟩
  unfold K.ScanOut at ho
  rw [HF.out] at ho
  obtain ⟨hown, hfv⟩ := ho
  simp only at hown hfv
  subst hfv
  have hown2 : w1.ownsRow w.heap.size 41 4 v ts.length (rowT (ts.map toT)) := by rw [rowT_toT]; exact hown
  obtain ⟨a, c, rfl, hc, hT⟩ := own_toks hown2
  have B1 : Hid (Below w.heap.size w w1) := hb
  have T1 : Hid (ToksAt w1 a (ts.map toT)) := hT
  clear hown hown2 hT hb SC
  go_wp2
  go_ret2
  exact ⟨_, _, rfl, hc, T1.out, B1.out⟩

set_option maxRecDepth 100000 in
set_option maxHeartbeats 4000000 in
theorem reads_any (w : World) (a : Option Addr) (n c : Nat) (ts : List Tok) (hl : ts.length = n) (hn : n ≤ 4294967300) (hT : ToksAt w a ts) (b : Option Addr) (d : Nat) (L : List ByteArray) (hI : StrsAt w b L) (hE : ts.map Tok.bytes = L.map (fun x => x.data.toList)) :
    Calls Tryd.prog 25 #[.slice a n c, .slice b n d] w fun e w' => e = .returned (.bool true) ∧ Below w.heap.size w w' := by
  have HC : Hid (ToksAt w a ts) := hT
  have HI : Hid (StrsAt w b L) := hI
  have HL : Hid (ts.length = n) := hl
  have HE : Hid (∀ (j : Nat) (t : Tok), ts[j]? = some t → L[j]? = some t.text) := fun j t ht => by
    have h1 := congrArg (·[j]?) hE
    simp only [List.getElem?_map, ht, Option.map_some] at h1
    cases hx : L[j]? with
    | none => rw [hx] at h1; cases h1
    | some x =>
      rw [hx] at h1
      have h2 : t.text.data.toList = x.data.toList := Option.some.inj h1
      have h3 : t.text = x := by rw [← strB_of t.text, h2, strB_of]
      rw [h3]
  clear hT hI hl hE
  go_enter Tryd.func25, Tryd.ntmps25
  go_wp2_with fail
  go_loopw [5] (fun i wx => ∃ j : Nat, j ≤ n ∧ i = .int .i64 j ∧ Hid (Below w.heap.size w wx)) (fun i _ => n - (intOf i).toNat)
  case atStart => exact ⟨0, Nat.zero_le _, rfl, Below.refl _ _⟩
  case round =>
    obtain ⟨j, hj, rfl, hb⟩ := hrel
    by_cases hlt : j < n
    · have n1 : (j : Int) < (n : Int) := by omega
      obtain ⟨k, hk⟩ : ∃ k, ts[j]? = some k := ⟨ts[j]'(by rw [HL.out]; exact hlt), List.getElem?_eq_getElem _⟩
      obtain ⟨g1, o1, rfl, x0, x1, x2, x3⟩ := (HC.out.under hb.out) j k hk
      obtain ⟨g2, o2, rfl, y0⟩ := (HI.out.up hb.out) j k.text (HE.out j k hk)
      clear hk x1 x2 x3
      go_wp2_with fail
      go_quiet (fail)
      have Bq : Hid (Below w.heap.size w (wr.drewN nq)) := below_drewN hb.out nq
      generalize wr.drewN nq = wq at *
      go_wp2
      exact ⟨⟨j + 1, by omega, by go_num, Bq.out⟩, by simp [intOf]; omega⟩
    · have n1 : ¬ (j : Int) < (n : Int) := by omega
      go_wp2
      go_ret
      exact ⟨rfl, hb.out⟩

def endT : Tok := ⟨⟨#[36, 46]⟩, 9, 0, 0⟩

set_option maxRecDepth 100000 in
set_option maxHeartbeats 16000000 in
theorem back_walk (w : World) (a : Option Addr) (n c : Nat) (l : List Int) (hl : l.length = n) (hn : n ≤ 9223372036854775807) (h : IntsAt w a l) (hr : ∀ x ∈ l, -9223372036854775808 ≤ x ∧ x ≤ 9223372036854775807) (hK : KBs w) (hT : Tabs w) (mx : Int) (hmx : w.cell? ⟨4, 0, none⟩ = some (.int .i64 mx))
    (b : Option Addr) (m d : Nat) (z : List Int) (hz : z.length = m) (hm : m ≤ 9223372036854775807) (hI : IntsAt w b z) (hrz : ∀ x ∈ z, -9223372036854775808 ≤ x ∧ x ≤ 9223372036854775807) :
    Calls Tryd.prog 8 #[.slice a n c, .slice b m d] w fun e w' => e = .returned (.bool true) ∧ Below w.heap.size w w' := by
  obtain ⟨L, hL⟩ : ∃ L, (l.take 4000).map nameB = L := ⟨_, rfl⟩
  obtain ⟨Z, hZ⟩ : ∃ Z, (z.take 2000).map numF = Z := ⟨_, rfl⟩
  obtain ⟨p, hp⟩ : ∃ p, min n 4000 = p := ⟨_, rfl⟩
  obtain ⟨q, hq⟩ : ∃ q, min m 2000 = q := ⟨_, rfl⟩
  have hp4 : p ≤ 4000 := by omega
  have hq2 : q ≤ 2000 := by omega
  have hl4 : (l.take 4000).length = p := by rw [List.length_take]; omega
  have hLp : L.length = p := by rw [← hL, List.length_map]; exact hl4
  have hZq : Z.length = q := by rw [← hZ, List.length_map, List.length_take]; omega
  have hLe : lenTo L p ≤ 33 * p := by rw [← hL]; exact names_lenTo _ p hl4
  have hS1 : L.any noStep = false := by rw [← hL]; exact names_noStep _
  have hS2 : L.any noName = false := by rw [← hL]; exact names_noName _
  have hok : prOk Z = true := by rw [← hZ]; exact nums_ok _
  have hPl := prB_len Z hok
  obtain ⟨S, hS⟩ : ∃ S, linesOf L = S := ⟨_, rfl⟩
  obtain ⟨X, hX⟩ : ∃ X, linesOf (packW L) ++ brk 0 (prB Z) = X := ⟨_, rfl⟩
  have hSl : S.length ≤ 1000000 := by
    have h1 := (lines_len L p (by omega)).1
    rw [List.take_of_length_le (by omega), hS] at h1
    omega
  have hXl : X.length ≤ 2000000 := by
    have h1 := (lines_len (packW L) (p + 2) (by rw [packW_len]; omega)).1
    rw [List.take_of_length_le (by rw [packW_len]; omega), lenTo_packW L hLp] at h1
    have h2 := brk_len (prB Z) 0
    rw [← hX, List.length_append]
    omega
  have NM : Hid _ := names_any w a n c l hl hn h hr
  have NU : Hid (∀ wx, Below w.heap.size w wx → Calls Tryd.prog 10 #[.slice b m d] wx fun e w' => ∃ a' c', e = .returned (.slice a' q c') ∧ w'.ownsRow wx.heap.size 3 1 (.slice a' q c') q (Z.map intV) ∧ Below wx.heap.size wx w') := fun wx hx => by
    have h1 := numbers_any wx b m d z hz hm (hI.up hx) hrz
    rw [hZ, hq] at h1
    exact h1
  rw [hL, hp] at NM
  have eP : plainT L = strB S := by unfold plainT; rw [hS1, hS]; rfl
  have eE : plainE L = 0 := by unfold plainE; rw [hS1]; rfl
  have eU : packT L Z = strB X := by unfold packT; rw [hS2, hX, hok]; rfl
  have eG : packE L Z = 0 := by unfold packE prE; rw [hS2, hok]; rfl
  have PL : Hid (∀ wx a' c', Below w.heap.size w wx → p ≤ c' → StrsAt wx a' L → Calls Tryd.prog 11 #[.slice a' p c'] wx fun e w' => e = .returned (.tuple #[.string (strB S), .int .i64 0]) ∧ Below wx.heap.size wx w') := fun wx a' c' hx hcx hs => by
    have h1 := plain_any wx a' p c' L hLp hcx (by omega) hs (hK.under hx)
    rw [eP, eE] at h1
    exact h1
  have PU : Hid (∀ wx a' c' b' d', Below w.heap.size w wx → p ≤ c' → q ≤ d' → StrsAt wx a' L → IntsAt wx b' Z → Calls Tryd.prog 12 #[.slice a' p c', .slice b' q d'] wx fun e w' => e = .returned (.tuple #[.string (strB X), .int .i64 0]) ∧ Below wx.heap.size wx w') := fun wx a' c' b' d' hx hcx hdx hs hi => by
    have h1 := packed_any wx a' p c' L hLp hcx (by omega) hs (hK.under hx) b' q d' Z hZq hdx (by omega) hi
    rw [eU, eG] at h1
    exact h1
  have WD : Hid (∀ wx (s : ByteArray) (ts : List K.Tok), Below w.heap.size w wx → s.size ≤ 65536 → K.scanF s = (ts, none) → Calls Tryd.prog 24 #[.string s] wx fun e w' => ∃ a c, e = .returned (.tuple #[.slice a ts.length c, .bool true]) ∧ ts.length ≤ c ∧ ToksAt w' a (ts.map toT) ∧ Below wx.heap.size wx w') := fun wx s ts hx hs hF => words_any wx s mx ts hs (hK.under hx) ((hx.cell (p := ⟨4, 0, none⟩) (World.block_lt_of_cell? _ _ hmx)).trans hmx) hF
  have PA : Hid (∀ wx a' c' (ts : List Tok) (k : Nat), Below w.heap.size w wx → ts.length = k → k ≤ 4294967296 → k ≤ c' → ToksAt wx a' ts → (allBytes ts).length ≤ 4294967296 → Calls Tryd.prog 18 #[.slice a' k c', .agg #[.string ⟨#[36, 46]⟩, .int .i64 9, .int .i64 0, .int .i64 0]] wx fun e w' => ProofIs wx w' e (parseT ts) endT) := fun wx a' c' ts k hx h1 h2 h3 h4 h5 => parse_any wx a' k c' ts endT h1 h2 h3 h4 (hT.under hT.size hx) h5
  have HSs : (strB S).size = S.length := strB_size _
  have HXs : (strB X).size = X.length := strB_size _
  have HSP : Hid (S.length ≤ 65536 → ∃ ts, K.scanF (strB S) = (ts, none) ∧ (ts.map toT).map Tok.bytes = L.map (fun x => x.data.toList)) := fun h1 => by
    rw [← hS, ← hL] at h1
    obtain ⟨ts, h2, h3⟩ := scan_plain (l.take 4000) (by omega) h1
    rw [hL, hS] at h2
    rw [hL] at h3
    exact ⟨ts, h2, h3⟩
  have HPP : Hid (∀ ts : List Tok, ts.map Tok.bytes = L.map (fun x => x.data.toList) → parseT ts = ⟨1, ts, [], false, false⟩) := fun ts h1 => parse_names (l.take 4000) ts (by rw [hL]; exact h1)
  have HSX : Hid (X.length ≤ 65536 → ∃ ts ls cs, K.scanF (strB X) = (ts, none) ∧ ts.length ≤ 65536 ∧ (allBytes (ts.map toT)).length ≤ 4294967296 ∧ parseT (ts.map toT) = ⟨2, ls, cs, false, false⟩ ∧ ls.map Tok.bytes = L.map (fun x => x.data.toList) ∧ cs.map (·.1) = Z) := fun h1 => by
    rw [← hX, ← hL] at h1
    obtain ⟨ts, Ws, h2, h3, h4, hwl⟩ := scan_packed (l.take 4000) Z (by omega) (by omega) h1
    rw [hL, hX] at h2
    obtain ⟨ls, cs, h5, h6, h7⟩ := parse_pack (l.take 4000) Z (ts.map toT) Ws h3 h4 hok
    rw [hL] at h6 h3
    have hlen := congrArg List.length h3
    have hall : allBytes (ts.map toT) = (ts.map toT |>.map Tok.bytes).flatten := by unfold allBytes; rw [List.flatMap_def]
    refine ⟨ts, ls, cs, h2, ?_, ?_, h5, h6, h7⟩
    · rw [List.length_map, List.length_map, List.length_append, List.length_map, packW_len] at hlen
      omega
    · have hpf : ((packW L).map (fun x => x.data.toList)).flatten.length = (L.flatMap fun x => x.data.toList).length + 2 := by
        rw [List.flatMap_def]
        simp [packW]
      have h8 := hLe
      unfold lenTo at h8
      rw [List.take_of_length_le (by omega)] at h8
      rw [hall, h3, List.flatten_append, h4, List.length_append, hpf]
      omega
  have HLp : Hid (L.length = p) := hLp
  have HZl : Hid (Z.length = q) := hZq
  have HLa : Hid (((L.map (fun x => x.data.toList)).flatten).length ≤ 4294967296) := by
    show _ ≤ _
    have h1 := hLe
    unfold lenTo at h1
    rw [List.take_of_length_le (by omega), List.flatMap_def] at h1
    omega
  clear hL hZ hp hq hl4 hLp hZq hLe hS1 hS2 hok hS hX hPl eP eE eU eG h hr hK hT hz hI hrz hl hmx
  go_enter Tryd.func8, Tryd.ntmps8
  go_wp2_with fail
  refine Calls.mono NM.out ?_
  rintro e w1 ⟨a1, c1, rfl, ho1, hb1⟩
  have B1 : Hid (Below w.heap.size w w1) := hb1
  obtain ⟨_, _, e1, hc1, hs1⟩ := own_strs ho1
  cases e1
  have S1 : Hid (StrsAt w1 a1 L) := hs1
  clear hb1 NM ho1 hs1
  go_wp2_with fail
  refine Calls.mono (NU.out w1 B1.out) ?_
  rintro e w2 ⟨a2, c2, rfl, ho2, hb2⟩
  have B2 : Hid (Below w.heap.size w w2) := B1.out.trans (hb2.mono B1.out.size)
  have S2 : Hid (StrsAt w2 a1 L) := S1.out.up hb2
  obtain ⟨_, _, e2, hc2, hs2⟩ := own_ints ho2
  cases e2
  have I2 : Hid (IntsAt w2 a2 Z) := hs2
  clear hb2 NU ho2 hs2 B1 S1
  go_wp2_with fail
  refine Calls.mono (PL.out w2 a1 c1 B2.out hc1 S2.out) ?_
  rintro e w3 ⟨rfl, hb3⟩
  have B3 : Hid (Below w.heap.size w w3) := B2.out.trans (hb3.mono B2.out.size)
  have S3 : Hid (StrsAt w3 a1 L) := S2.out.up hb3
  have I3 : Hid (IntsAt w3 a2 Z) := I2.out.up hb3
  clear hb3 PL B2 S2 I2
  go_wp2_with fail
  refine Calls.mono (PU.out w3 a1 c1 a2 c2 B3.out hc1 hc2 S3.out I3.out) ?_
  rintro e w5 ⟨rfl, hb5⟩
  have B5 : Hid (Below w.heap.size w w5) := B3.out.trans (hb5.mono B3.out.size)
  have S5 : Hid (StrsAt w5 a1 L) := S3.out.up hb5
  have I5 : Hid (IntsAt w5 a2 Z) := I3.out.up hb5
  clear hb5 PU B3 S3 I3
  obtain ⟨ns, hns⟩ : ∃ ns, S.length = ns := ⟨_, rfl⟩
  obtain ⟨nx, hnx⟩ : ∃ nx, X.length = nx := ⟨_, rfl⟩
  rw [hns] at HSs hSl HSP
  rw [hnx] at HXs hXl HSX
  clear hns hnx
  by_cases hbig : 65536 < ns
  · have d1 : decide ((65536 : Int) < (ns : Int)) = true := decide_eq_true (by omega)
    have d2 : (65536 : Int) < (ns : Int) := by omega
    go_wp2
    go_ret
    exact ⟨rfl, B5.out⟩
  have d1 : decide ((65536 : Int) < (ns : Int)) = false := decide_eq_false (by omega)
  have d2 : ¬ (65536 : Int) < (ns : Int) := by omega
  by_cases hbig2 : 65536 < nx
  · have d3 : decide ((65536 : Int) < (nx : Int)) = true := decide_eq_true (by omega)
    have d4 : (65536 : Int) < (nx : Int) := by omega
    go_wp2
    go_ret
    exact ⟨rfl, B5.out⟩
  have d3 : decide ((65536 : Int) < (nx : Int)) = false := decide_eq_false (by omega)
  have d4 : ¬ (65536 : Int) < (nx : Int) := by omega
  obtain ⟨ts, hts, htb⟩ := HSP.out (by omega)
  obtain ⟨us, ls, cs, hus, hul, hua, hup, hlb, hcz⟩ := HSX.out (by omega)
  have W1 : Hid _ := WD.out w5 (strB S) ts B5.out (by omega) hts
  have W2 : Hid (∀ wx, Below w.heap.size w wx → Calls Tryd.prog 24 #[.string (strB X)] wx fun e w' => ∃ a c, e = .returned (.tuple #[.slice a us.length c, .bool true]) ∧ us.length ≤ c ∧ ToksAt w' a (us.map toT) ∧ Below wx.heap.size wx w') := fun wx hx => WD.out wx (strB X) us hx (by omega) hus
  have HTB : Hid ((ts.map toT).map Tok.bytes = L.map (fun x => x.data.toList)) := htb
  have HUP : Hid (parseT (us.map toT) = ⟨2, ls, cs, false, false⟩) := hup
  have HUA : Hid ((allBytes (us.map toT)).length ≤ 4294967296) := hua
  have HLB : Hid (ls.map Tok.bytes = L.map (fun x => x.data.toList)) := hlb
  have HCZ : Hid (cs.map (·.1) = Z) := hcz
  have htl : ts.length = p := by
    have h1 := congrArg List.length htb
    rw [List.length_map, List.length_map, List.length_map, HLp.out] at h1
    exact h1
  have hll : ls.length = p := by
    have h1 := congrArg List.length hlb
    rw [List.length_map, List.length_map, HLp.out] at h1
    exact h1
  have hcl : cs.length = q := by rw [← HZl.out, ← hcz, List.length_map]
  have HTL : Hid (ts.length = p) := htl
  have HLL : Hid (ls.length = p) := hll
  have HCL : Hid (cs.length = q) := hcl
  obtain ⟨nu, hnu⟩ : ∃ nu, us.length = nu := ⟨_, rfl⟩
  have HNU : Hid (us.length = nu) := hnu
  rw [hnu] at W2 hul
  rw [htl] at W1
  clear hts htb hus hua hup hlb hcz htl hll hcl hnu WD HSP HSX
  go_wp2_with fail
  refine Calls.mono W1.out ?_
  rintro e w6 ⟨a6, c6, rfl, hc6, ht6, hb6⟩
  have B6 : Hid (Below w.heap.size w w6) := B5.out.trans (hb6.mono B5.out.size)
  have S6 : Hid (StrsAt w6 a1 L) := S5.out.up hb6
  have I6 : Hid (IntsAt w6 a2 Z) := I5.out.up hb6
  have T6 : Hid (ToksAt w6 a6 (ts.map toT)) := ht6
  clear hb6 ht6 W1 B5 S5 I5
  go_wp2_with fail
  refine Calls.mono (W2.out w6 B6.out) ?_
  rintro e w7 ⟨a7, c7, rfl, hc7, ht7, hb7⟩
  have B7 : Hid (Below w.heap.size w w7) := B6.out.trans (hb7.mono B6.out.size)
  have S7 : Hid (StrsAt w7 a1 L) := S6.out.up hb7
  have I7 : Hid (IntsAt w7 a2 Z) := I6.out.up hb7
  have T7 : Hid (ToksAt w7 a6 (ts.map toT)) := T6.out.under hb7
  have U7 : Hid (ToksAt w7 a7 (us.map toT)) := ht7
  clear hb7 ht7 W2 B6 S6 I6 T6
  have E8 : Hid _ := box_new w7 endT
  have HB8 : Hid _ := below_alloc w7 (.cells #[.string endT.text, .int .i64 endT.off, .int .i64 endT.line, .int .i64 endT.col] 41)
  go_wp2_with fail
  obtain ⟨w8, hw8⟩ : ∃ w8, w8 = w7.alloc (.cells #[.string ⟨#[36, 46]⟩, .int .i64 9, .int .i64 0, .int .i64 0] 41) := ⟨_, rfl⟩
  replace E8 : Hid (BoxAt w8 w7.heap.size endT) := by rw [hw8]; exact E8.out
  replace HB8 : Hid (Below w7.heap.size w7 w8) := by rw [hw8]; exact HB8.out
  rw [← hw8]
  clear hw8
  obtain ⟨Be, hBe⟩ : ∃ Be, w7.heap.size = Be := ⟨_, rfl⟩
  rw [hBe] at E8 ⊢
  have B8 : Hid (Below w.heap.size w w8) := B7.out.trans (HB8.out.mono B7.out.size)
  have S8 : Hid (StrsAt w8 a1 L) := S7.out.up HB8.out
  have I8 : Hid (IntsAt w8 a2 Z) := I7.out.up HB8.out
  have T8 : Hid (ToksAt w8 a6 (ts.map toT)) := T7.out.under HB8.out
  have U8 : Hid (ToksAt w8 a7 (us.map toT)) := U7.out.under HB8.out
  clear HB8 B7 S7 I7 T7 U7 hBe
  have PC : Hid _ := PA.out w8 a6 c6 (ts.map toT) p B8.out (by rw [List.length_map]; exact HTL.out) (by omega) hc6 T8.out (by unfold allBytes; rw [List.flatMap_def, HTB.out]; exact HLa.out)
  rw [HPP.out _ HTB.out] at PC
  unfold ProofIs proofV endT at PC
  dsimp only at PC
  rw [List.length_map, HTL.out] at PC
  refine Calls.mono PC.out ?_
  rintro e w9 ⟨u9, v9, rfl, hu9, hv9, _, hb9⟩
  obtain ⟨bl, dl, rfl, _, htk⟩ := own_toks hu9
  obtain ⟨bc, dc, rfl, _, _⟩ := own_cell hv9
  simp only [List.length_nil] at *
  obtain ⟨w10, hw10⟩ : ∃ w10, w10 = w9.alloc (.cells #[.int .i64 1, .slice bl p dl, .slice bc 0 dc, .bool false, .bool false, .string ⟨#[36, 46]⟩, .int .i64 9, .int .i64 0, .int .i64 0] 43) := ⟨_, rfl⟩
  have hb10 : Below w8.heap.size w8 w10 := by rw [hw10]; exact hb9.alloc hb9.size _
  have K10 : Hid (w10.heap[w9.heap.size]? = some (.cells #[.int .i64 1, .slice bl p dl, .slice bc 0 dc, .bool false, .bool false, .string ⟨#[36, 46]⟩, .int .i64 9, .int .i64 0, .int .i64 0] 43 (0, 0))) := by rw [hw10]; exact heap_alloc_new w9 _
  have L10 : Hid (ToksAt w10 bl (ts.map toT)) := by rw [hw10]; exact htk.under (below_alloc _ _)
  have B10 : Hid (Below w.heap.size w w10) := B8.out.trans (hb10.mono B8.out.size)
  have S10 : Hid (StrsAt w10 a1 L) := S8.out.up hb10
  have I10 : Hid (IntsAt w10 a2 Z) := I8.out.up hb10
  have U10 : Hid (ToksAt w10 a7 (us.map toT)) := U8.out.under hb10
  have E10 : Hid (BoxAt w10 Be endT) := (hb10.block Be (Array.getElem?_eq_some_iff.1 E8.out).1).trans E8.out
  have E9 : BoxAt w9 Be endT := (hb9.block Be (Array.getElem?_eq_some_iff.1 E8.out).1).trans E8.out
  have hBlt : Be < w9.heap.size := (Array.getElem?_eq_some_iff.1 E9).1
  have hBne : ¬ Be = w9.heap.size := by omega
  have y0 : w9.cell? ⟨Be, 0, none⟩ = some (.string ⟨#[36, 46]⟩) := E9.cells.1
  have y1 : w9.cell? ⟨Be, 1, none⟩ = some (.int .i64 9) := E9.cells.2.1
  have y2 : w9.cell? ⟨Be, 2, none⟩ = some (.int .i64 0) := E9.cells.2.2.1
  have y3 : w9.cell? ⟨Be, 3, none⟩ = some (.int .i64 0) := E9.cells.2.2.2
  clear hb9 hu9 hv9 htk PC hb10 B8 S8 I8 T8 U8 E8 E9
  have x0 : w10.cell? ⟨Be, 0, none⟩ = some (.string ⟨#[36, 46]⟩) := E10.out.cells.1
  have x1 : w10.cell? ⟨Be, 1, none⟩ = some (.int .i64 9) := E10.out.cells.2.1
  have x2 : w10.cell? ⟨Be, 2, none⟩ = some (.int .i64 0) := E10.out.cells.2.2.1
  have x3 : w10.cell? ⟨Be, 3, none⟩ = some (.int .i64 0) := E10.out.cells.2.2.2
  rw [hw10] at x0 x1 x2 x3
  go_wp2_with fail
  try rw [← hw10]
  clear hw10 x0 x1 x2 x3 y0 y1 y2 y3 hBne hBlt
  obtain ⟨Bp, hBp⟩ : ∃ Bp, w9.heap.size = Bp := ⟨_, rfl⟩
  try rw [hBp]
  rw [hBp] at K10
  clear hBp
  have PC : Hid _ := PA.out w10 a7 c7 (us.map toT) nu B10.out (by rw [List.length_map]; exact HNU.out) (by omega) hc7 U10.out HUA.out
  rw [HUP.out] at PC
  unfold ProofIs proofV endT at PC
  dsimp only at PC
  rw [HLL.out, HCL.out] at PC
  refine Calls.mono PC.out ?_
  rintro e w11 ⟨u11, v11, rfl, hu11, hv11, _, hb11⟩
  obtain ⟨el, fl, rfl, _, hlk⟩ := own_toks hu11
  obtain ⟨ec, fc, rfl, _, hck⟩ := own_codes hv11
  obtain ⟨w12, hw12⟩ : ∃ w12, w12 = w11.alloc (.cells #[.int .i64 2, .slice el p fl, .slice ec q fc, .bool false, .bool false, .string ⟨#[36, 46]⟩, .int .i64 9, .int .i64 0, .int .i64 0] 43) := ⟨_, rfl⟩
  have hb12 : Below w10.heap.size w10 w12 := by rw [hw12]; exact hb11.alloc hb11.size _
  have Q12 : Hid (w12.heap[w11.heap.size]? = some (.cells #[.int .i64 2, .slice el p fl, .slice ec q fc, .bool false, .bool false, .string ⟨#[36, 46]⟩, .int .i64 9, .int .i64 0, .int .i64 0] 43 (0, 0))) := by rw [hw12]; exact heap_alloc_new w11 _
  have M12 : Hid (ToksAt w12 el ls) := by rw [hw12]; exact hlk.under (below_alloc _ _)
  have C12 : Hid (CodesAt w12 ec cs) := by rw [hw12]; exact hck.under (below_alloc _ _)
  have K12 : Hid (w12.heap[Bp]? = some (.cells #[.int .i64 1, .slice bl p dl, .slice bc 0 dc, .bool false, .bool false, .string ⟨#[36, 46]⟩, .int .i64 9, .int .i64 0, .int .i64 0] 43 (0, 0))) := (hb12.block Bp (Array.getElem?_eq_some_iff.1 K10.out).1).trans K10.out
  have L12 : Hid (ToksAt w12 bl (ts.map toT)) := L10.out.under hb12
  have B12 : Hid (Below w.heap.size w w12) := B10.out.trans (hb12.mono B10.out.size)
  have S12 : Hid (StrsAt w12 a1 L) := S10.out.up hb12
  have I12 : Hid (IntsAt w12 a2 Z) := I10.out.up hb12
  have E12 : Hid (BoxAt w12 Be endT) := (hb12.block Be (Array.getElem?_eq_some_iff.1 E10.out).1).trans E10.out
  clear hb11 hu11 hv11 hlk hck PC hb12 K10 L10 B10 S10 I10 U10 E10
  have HBq : Hid (w11.heap.size < w12.heap.size) := (Array.getElem?_eq_some_iff.1 Q12.out).1
  have CE : Hid (∀ wx, Below w12.heap.size w12 wx → (wx.cell? ⟨Bp, 5, none⟩ = some (.string ⟨#[36, 46]⟩) ∧ wx.cell? ⟨Bp, 6, none⟩ = some (.int .i64 9) ∧ wx.cell? ⟨Bp, 7, none⟩ = some (.int .i64 0) ∧ wx.cell? ⟨Bp, 8, none⟩ = some (.int .i64 0)) ∧ (wx.cell? ⟨w11.heap.size, 5, none⟩ = some (.string ⟨#[36, 46]⟩) ∧ wx.cell? ⟨w11.heap.size, 6, none⟩ = some (.int .i64 9) ∧ wx.cell? ⟨w11.heap.size, 7, none⟩ = some (.int .i64 0) ∧ wx.cell? ⟨w11.heap.size, 8, none⟩ = some (.int .i64 0)) ∧ (wx.cell? ⟨Be, 0, none⟩ = some (.string ⟨#[36, 46]⟩) ∧ wx.cell? ⟨Be, 1, none⟩ = some (.int .i64 9) ∧ wx.cell? ⟨Be, 2, none⟩ = some (.int .i64 0) ∧ wx.cell? ⟨Be, 3, none⟩ = some (.int .i64 0)) ∧ wx.cell? ⟨w11.heap.size, 1, none⟩ = some (.slice el p fl) ∧ wx.cell? ⟨w11.heap.size, 2, none⟩ = some (.slice ec q fc)) := fun wx hx => by
    have hk := (hx.block Bp (Array.getElem?_eq_some_iff.1 K12.out).1).trans K12.out
    have hq := (hx.block _ (Array.getElem?_eq_some_iff.1 Q12.out).1).trans Q12.out
    have he : BoxAt wx Be endT := (hx.block Be (Array.getElem?_eq_some_iff.1 E12.out).1).trans E12.out
    exact ⟨⟨cell_whole hk 5, cell_whole hk 6, cell_whole hk 7, cell_whole hk 8⟩, ⟨cell_whole hq 5, cell_whole hq 6, cell_whole hq 7, cell_whole hq 8⟩, he.cells, cell_whole hq 1, cell_whole hq 2⟩
  have p0 : w12.cell? ⟨Bp, 0, none⟩ = some (.int .i64 1) := cell_whole K12.out 0
  have p1 : w12.cell? ⟨Bp, 1, none⟩ = some (.slice bl p dl) := cell_whole K12.out 1
  have p2 : w12.cell? ⟨Bp, 2, none⟩ = some (.slice bc 0 dc) := cell_whole K12.out 2
  have p3 : w12.cell? ⟨Bp, 3, none⟩ = some (.bool false) := cell_whole K12.out 3
  have p4 : w12.cell? ⟨Bp, 4, none⟩ = some (.bool false) := cell_whole K12.out 4
  have q0 : w12.cell? ⟨w11.heap.size, 0, none⟩ = some (.int .i64 2) := cell_whole Q12.out 0
  have q3 : w12.cell? ⟨w11.heap.size, 3, none⟩ = some (.bool false) := cell_whole Q12.out 3
  have q4 : w12.cell? ⟨w11.heap.size, 4, none⟩ = some (.bool false) := cell_whole Q12.out 4
  rw [hw12] at p0 p1 p2 p3 p4 q0 q3 q4
  go_wp2_with fail
  rw [← hw12]
  clear p0 p1 p2 p3 p4 q0 q3 q4 hw12
  obtain ⟨Bq, hBq⟩ : ∃ Bq, w11.heap.size = Bq := ⟨_, rfl⟩
  try rw [hBq]
  rw [hBq] at CE
  clear hBq HBq K12 Q12 E12
  refine Calls.mono (reads_any w12 bl p dl (ts.map toT) (by rw [List.length_map]; exact HTL.out) (by omega) L12.out a1 c1 L S12.out HTB.out) ?_
  rintro e w13 ⟨rfl, hb13⟩
  have HB13 : Hid (Below w12.heap.size w12 w13) := hb13
  obtain ⟨_, _, _, r1, _⟩ := CE.out w13 hb13
  clear hb13
  go_wp2_with fail
  refine Calls.mono (reads_any w13 el p fl ls HLL.out (by omega) (M12.out.under HB13.out) a1 c1 L (S12.out.up HB13.out) HLB.out) ?_
  rintro e w14 ⟨rfl, hb14⟩
  have HB14 : Hid (Below w12.heap.size w12 w14) := HB13.out.trans (hb14.mono HB13.out.size)
  obtain ⟨_, _, _, _, r2⟩ := CE.out w14 HB14.out
  clear hb14 r1
  go_wp2_with fail
  refine Calls.mono (says_any w14 ec q fc cs HCL.out (by omega) (C12.out.under HB14.out) a2 c2 (by rw [HCZ.out]; exact I12.out.up HB14.out)) ?_
  rintro e w15 ⟨rfl, hb15⟩
  have HB15 : Hid (Below w12.heap.size w12 w15) := HB14.out.trans (hb15.mono HB14.out.size)
  obtain ⟨⟨s5, s6, s7, s8⟩, ⟨t5, t6, t7, t8⟩, ⟨x0, x1, x2, x3⟩, _, _⟩ := CE.out w15 HB15.out
  have BE : Hid (Below w.heap.size w w15) := B12.out.trans (HB15.out.mono B12.out.size)
  clear hb15 r2
  go_wp2
  go_ret
  exact ⟨by first | rfl | simp, BE.out⟩
end Go.Proofs.YtffchjigpppoaaaDoor
