/- For every two lists of plans and every list of numbers that are together of bulk at most 1048576 the law that blanks, comments and a second text change nothing but places (StmtParted) returns true and leaves its arguments as they were. The card ties the tables of bytes and of kinds to the text of this seat. -/
import Derived.Test.YtipfhfeaalbmcaaDoorBkPu
import Derived.Test.YtipfhfeaalbmcaaDoorBkWord
import Derived.Test.YtipfhfeaalbmcaaDoorBkPlan0
import Derived.Test.YtipfhfeaalbmcaaDoorRPrint
import Derived.Test.YtipfhfeaalbmcaaDoorBackP
namespace Go.Proofs.YtipfhfeaalbmcaaDoor.K
open Go.RowKit

theorem cut2_append : ∀ (A B : List UInt8) (k : Nat) (cur : List UInt8), cut2 k cur (A ++ B) = ((cut2 k cur A).1 ++ (cut2 (k + A.length) (cut2 k cur A).2 B).1, (cut2 (k + A.length) (cut2 k cur A).2 B).2)
  | [], B, k, cur => by simp [cut2]
  | b :: A, B, k, cur => by
    rw [List.cons_append, cut2, cut2]
    split
    · rw [cut2_append A B, List.length_cons, show k + (A.length + 1) = k + 1 + A.length by omega]
      dsimp only
      rw [List.append_assoc]
    · rw [cut2_append A B, List.length_cons, show k + (A.length + 1) = k + 1 + A.length by omega]
/-- Bytes that say just these words, whatever is told ahead. -/
structure Says (A : List UInt8) (ws : List (List UInt8)) : Prop where
  c : ∀ j, (cut2 j [] A).2 = []
  k : ∀ b ∈ A, kindF b.toNat ≠ 0
  r : ∀ j (E : List (Tok × Int)) (told : List Tok), E.map offOf = (cut2 j [] A).1.map asEv → told.length + ws.length ≤ 16384 → ∃ ts, runF ⟨told, zeroTok⟩ E = (⟨told ++ ts, zeroTok⟩, none) ∧ ts.map (·.text.data.toList) = ws
theorem says_nil : Says [] [] := ⟨fun _ => rfl, (fun b h => by cases h), fun j E told h _ => by
  have : E = [] := by simpa [cut2] using h
  subst this
  exact ⟨[], by simp [runF], rfl⟩⟩
theorem Says.app {A B : List UInt8} {ws vs : List (List UInt8)} (h : Says A ws) (h2 : Says B vs) : Says (A ++ B) (ws ++ vs) := by
  refine ⟨fun j => ?_, fun b hb => ?_, fun j E told hE hl => ?_⟩
  · rw [cut2_append, h.c]; exact h2.c _
  · rcases List.mem_append.1 hb with hb | hb
    · exact h.k b hb
    · exact h2.k b hb
  · rw [cut2_append, h.c] at hE
    dsimp only at hE
    rw [List.map_append] at hE
    obtain ⟨E1, E2, rfl, e1, e2⟩ := List.map_eq_append_iff.1 hE
    rw [List.length_append] at hl
    obtain ⟨ts, r1, t1⟩ := h.r j E1 told e1 (by omega)
    have hlen : ts.length = ws.length := by rw [← t1, List.length_map]
    obtain ⟨us, r2, t2⟩ := h2.r _ E2 (told ++ ts) e2 (by rw [List.length_append]; omega)
    refine ⟨ts ++ us, ?_, by rw [List.map_append, t1, t2]⟩
    rw [runF_append, r1]
    dsimp only
    rw [r2, List.append_assoc]
theorem ev_cons {E : List (Tok × Int)} {x : Nat × List UInt8} {ws : List (Nat × List UInt8)} (h : E.map offOf = (x :: ws).map asEv) : ∃ t E', E = (t, 0) :: E' ∧ t.text.data.toList = x.2 ∧ E'.map offOf = ws.map asEv := by
  cases E with
  | nil => simp at h
  | cons e E =>
    obtain ⟨t, c⟩ := e
    simp only [List.map_cons, List.cons.injEq, offOf, asEv, Prod.mk.injEq] at h
    obtain ⟨⟨⟨_, hx⟩, rfl⟩, hE⟩ := h
    exact ⟨t, E, rfl, hx, hE⟩
theorem says_word {w : List UInt8} {b : UInt8} (hw : Wd w) (hn : Nb w) (hb : kindF b.toNat = 1) : Says (w ++ [b]) [w] := by
  have hc : ∀ j, cut2 j [] (w ++ [b]) = ([(j, w)], []) := fun j => by
    rw [cut2_word _ (fun b hb => by have := hw.2 b hb; omega), List.nil_append, cut2, if_pos hb]
    have he : w.isEmpty = false := by cases hp : w with
      | nil => exact absurd hp hw.1
      | cons a b => rfl
    rw [he, Nat.add_sub_cancel]
    rfl
  refine ⟨fun j => by rw [hc], fun x hx => ?_, fun j E told hE hl => ?_⟩
  · rcases List.mem_append.1 hx with hx | hx
    · have := hw.2 x hx; omega
    · rw [List.mem_singleton.1 hx]; omega
  · rw [hc] at hE
    obtain ⟨t, E', rfl, hx, h2⟩ := ev_cons hE
    have : E' = [] := by simpa using h2
    subst this
    have hP : Nb t.text.data.toList := by rw [hx]; exact hn
    have htk : takeF ⟨told, zeroTok⟩ t = (0, ⟨told ++ [t], zeroTok⟩) := by rw [takeF_nb told t hP, if_neg (by simp only [List.length_singleton] at hl; omega)]
    exact ⟨[t], by rw [runF_cons0 _ _ _ _ htk]; rfl, by rw [List.map_cons, List.map_nil, hx]⟩
theorem says_blank {b : UInt8} (hb : kindF b.toNat = 1) : Says [b] [] := by
  have hc : ∀ j, cut2 j [] [b] = ([], []) := fun j => by
    rw [cut2, if_pos hb]
    rfl
  refine ⟨fun j => by rw [hc], fun x hx => ?_, fun j E told hE hl => ?_⟩
  · rw [List.mem_singleton.1 hx]; omega
  · rw [hc] at hE
    have : E = [] := by simpa using hE
    subst this
    exact ⟨[], by simp [runF], rfl⟩
theorem step_open {told : List Tok} {t : Tok} {es : List (Tok × Int)} (h : t.text.data.toList = [36, 40]) : runF ⟨told, zeroTok⟩ ((t, 0) :: es) = runF ⟨told, t⟩ es := by
  have h0 : ¬ inCmt ⟨told, zeroTok⟩ = true := by rw [inCmt_data]; show ¬ (!zeroTok.text.data.toList.isEmpty) = true; decide
  have h1 : isOpen t.text = true := by rw [isOpen_data, beq_iff_eq]; exact h
  refine runF_cons0 _ _ _ _ ?_
  unfold takeF
  rw [if_neg h0, if_pos h1]
theorem in_cmt {told : List Tok} {o : Tok} (h : o.text.data.toList = [36, 40]) : inCmt ⟨told, o⟩ = true := by rw [inCmt_data]; show (!o.text.data.toList.isEmpty) = true; rw [h]; rfl
theorem step_cmt {told : List Tok} {o t : Tok} {es : List (Tok × Int)} {x : List UInt8} (ho : o.text.data.toList = [36, 40]) (h : t.text.data.toList = x) (hx : (x == [36, 41]) = false) (hm : (Lib.contains x [36, 40] || Lib.contains x [36, 41]) = false) : runF ⟨told, o⟩ ((t, 0) :: es) = runF ⟨told, o⟩ es := by
  refine runF_cons0 _ _ _ _ ?_
  have h1 : isShut t.text = false := by rw [isShut_data, h]; exact hx
  have h2 : hasMark t.text = false := by unfold hasMark; rw [h]; exact hm
  unfold takeF takeC
  rw [if_pos (in_cmt ho), h1, h2]
  rfl
theorem step_shut {told : List Tok} {o t : Tok} {es : List (Tok × Int)} (ho : o.text.data.toList = [36, 40]) (h : t.text.data.toList = [36, 41]) : runF ⟨told, o⟩ ((t, 0) :: es) = runF ⟨told, zeroTok⟩ es := by
  refine runF_cons0 _ _ _ _ ?_
  have h1 : isShut t.text = true := by rw [isShut_data, h]; rfl
  unfold takeF takeC
  rw [if_pos (in_cmt ho), h1]
  rfl
def cmtA : List UInt8 := [36, 40, 32, 97, 32, 36, 46, 32, 36, 99, 32, 99, 111, 109, 109, 101, 110, 116, 32, 36, 41, 32]
def cmtB : List UInt8 := [36, 40, 32, 36, 41, 32, 36, 40, 32, 36, 61, 32, 36, 41, 32]
/-- The words alone, without their places. -/
def cutT : List UInt8 → List UInt8 → List (List UInt8) × List UInt8
  | cur, [] => ([], cur)
  | cur, b :: r => if kindF b.toNat = 1 then ((if cur.isEmpty then [] else [cur]) ++ (cutT [] r).1, (cutT [] r).2) else cutT (cur ++ [b]) r
theorem cut2_T : ∀ (A : List UInt8) (k : Nat) (cur : List UInt8), (cut2 k cur A).1.map (·.2) = (cutT cur A).1 ∧ (cut2 k cur A).2 = (cutT cur A).2
  | [], k, cur => ⟨rfl, rfl⟩
  | b :: r, k, cur => by
    rw [cut2, cutT]
    split
    · obtain ⟨h1, h2⟩ := cut2_T r (k + 1) []
      refine ⟨?_, h2⟩
      rw [List.map_append, h1]
      split <;> rfl
    · exact cut2_T r _ _
theorem ev_next {E : List (Tok × Int)} {x : List UInt8} {xs : List (List UInt8)} {ws : List (Nat × List UInt8)} (h : E.map offOf = ws.map asEv) (hw : ws.map (·.2) = x :: xs) : ∃ (t : Tok) (E' : List (Tok × Int)) (ws' : List (Nat × List UInt8)), E = (t, 0) :: E' ∧ t.text.data.toList = x ∧ E'.map offOf = ws'.map asEv ∧ ws'.map (·.2) = xs := by
  cases ws with
  | nil => cases hw
  | cons y ws =>
    rw [List.map_cons] at hw
    injection hw with h1 h2
    obtain ⟨t, E', e, ht, hE⟩ := ev_cons h
    exact ⟨t, E', ws, e, ht.trans h1, hE, h2⟩
theorem ev_none {E : List (Tok × Int)} {ws : List (Nat × List UInt8)} (h : E.map offOf = ws.map asEv) (hw : ws.map (·.2) = []) : E = [] := by
  have : ws = [] := by simpa using hw
  subst this
  simpa using h
theorem cutA : cutT [] cmtA = ([[36, 40], [97], [36, 46], [36, 99], [99, 111, 109, 109, 101, 110, 116], [36, 41]], []) := by decide +kernel
theorem cutB : cutT [] cmtB = ([[36, 40], [36, 41], [36, 40], [36, 61], [36, 41]], []) := by decide +kernel
theorem says_cmtA : Says cmtA [] := by
  refine ⟨fun j => by rw [(cut2_T cmtA j []).2, cutA], by decide +kernel, fun j E told hE hl => ?_⟩
  have hw := (cut2_T cmtA j []).1
  rw [cutA] at hw
  obtain ⟨t1, E1, ws, rfl, x1, hE, hw⟩ := ev_next hE hw
  obtain ⟨t2, E2, ws, rfl, x2, hE, hw⟩ := ev_next hE hw
  obtain ⟨t3, E3, ws, rfl, x3, hE, hw⟩ := ev_next hE hw
  obtain ⟨t4, E4, ws, rfl, x4, hE, hw⟩ := ev_next hE hw
  obtain ⟨t5, E5, ws, rfl, x5, hE, hw⟩ := ev_next hE hw
  obtain ⟨t6, E6, ws, rfl, x6, hE, hw⟩ := ev_next hE hw
  obtain rfl := ev_none hE hw
  refine ⟨[], ?_, rfl⟩
  rw [step_open x1, step_cmt x1 x2 (by decide +kernel) (by decide +kernel), step_cmt x1 x3 (by decide +kernel) (by decide +kernel), step_cmt x1 x4 (by decide +kernel) (by decide +kernel), step_cmt x1 x5 (by decide +kernel) (by decide +kernel), step_shut x1 x6, List.append_nil]
  rfl
theorem says_cmtB : Says cmtB [] := by
  refine ⟨fun j => by rw [(cut2_T cmtB j []).2, cutB], by decide +kernel, fun j E told hE hl => ?_⟩
  have hw := (cut2_T cmtB j []).1
  rw [cutB] at hw
  obtain ⟨t1, E1, ws, rfl, x1, hE, hw⟩ := ev_next hE hw
  obtain ⟨t2, E2, ws, rfl, x2, hE, hw⟩ := ev_next hE hw
  obtain ⟨t3, E3, ws, rfl, x3, hE, hw⟩ := ev_next hE hw
  obtain ⟨t4, E4, ws, rfl, x4, hE, hw⟩ := ev_next hE hw
  obtain ⟨t5, E5, ws, rfl, x5, hE, hw⟩ := ev_next hE hw
  obtain rfl := ev_none hE hw
  refine ⟨[], ?_, rfl⟩
  rw [step_open x1, step_shut x1 x2, step_open x3, step_cmt x3 x4 (by decide +kernel) (by decide +kernel), step_shut x3 x5, List.append_nil]
  rfl
/-- What is put in. -/
def extra : Nat → List UInt8
  | 1 => [32, 32]
  | 2 => [13, 10, 9, 12]
  | 3 => cmtA
  | 4 => cmtB
  | _ => []
theorem says_extra (k : Nat) : Says (extra k) [] := by
  have h32 : Says [32] [] := says_blank (by decide)
  have h13 : Says [13] [] := says_blank (by decide)
  have h10 : Says [10] [] := says_blank (by decide)
  have h9 : Says [9] [] := says_blank (by decide)
  have h12 : Says [12] [] := says_blank (by decide)
  unfold extra
  split
  · exact h32.app h32
  · exact h13.app (h10.app (h9.app h12))
  · exact says_cmtA
  · exact says_cmtB
  · exact says_nil
theorem extra_len (k : Nat) : (extra k).length ≤ 22 := by
  unfold extra
  split <;> decide
def extraAt (l : List Int) (k : Nat) : List UInt8 := match l with | [] => [] | x :: r => extra (((x :: r).getD (k % (x :: r).length) 0) % 6).toNat
theorem says_extraAt (l : List Int) (k : Nat) : Says (extraAt l k) [] := by
  unfold extraAt
  split
  · exact says_nil
  · exact says_extra _
theorem extraAt_len (l : List Int) (k : Nat) : (extraAt l k).length ≤ 22 := by
  unfold extraAt
  split
  · exact Nat.zero_le _
  · exact extra_len _
def spreadF (l : List Int) : Nat → List UInt8 → List UInt8
  | _, [] => []
  | k, b :: r => if b = 32 ∨ b = 10 then b :: (extraAt l k ++ spreadF l (k + 1) r) else b :: spreadF l k r
/-- How many blanks and ends of lines. -/
def seps : List UInt8 → Nat
  | [] => 0
  | b :: r => (if b = 32 ∨ b = 10 then 1 else 0) + seps r
theorem seps_snoc : ∀ (r : List UInt8) (b : UInt8), seps (r ++ [b]) = seps r + if b = 32 ∨ b = 10 then 1 else 0
  | [], b => by simp [seps]
  | x :: r, b => by rw [List.cons_append, seps, seps, seps_snoc r b]; omega
theorem seps_le : ∀ r : List UInt8, seps r ≤ r.length
  | [] => Nat.le_refl _
  | x :: r => by rw [seps, List.length_cons]; have := seps_le r; split <;> omega
theorem spread_snoc (l : List Int) : ∀ (r : List UInt8) (k : Nat) (b : UInt8), spreadF l k (r ++ [b]) = spreadF l k r ++ if b = 32 ∨ b = 10 then b :: extraAt l (k + seps r) else [b]
  | [], k, b => by
    rw [List.nil_append, spreadF, spreadF, seps, spreadF]
    split
    · simp
    · rfl
  | x :: r, k, b => by
    rw [List.cons_append, spreadF, spreadF, seps]
    by_cases h : x = 32 ∨ x = 10
    · rw [if_pos h, if_pos h, if_pos h, spread_snoc l r, show k + (1 + seps r) = k + 1 + seps r by omega]
      simp
    · rw [if_neg h, if_neg h, if_neg h, spread_snoc l r, show k + (0 + seps r) = k + seps r by omega]
      rfl
theorem spread_len (l : List Int) : ∀ (r : List UInt8) (k : Nat), (spreadF l k r).length ≤ 23 * r.length
  | [], k => Nat.zero_le _
  | b :: r, k => by
    rw [spreadF]
    split
    · rw [List.length_cons, List.length_append, List.length_cons]
      have := spread_len l r (k + 1)
      have := extraAt_len l k
      omega
    · rw [List.length_cons, List.length_cons]
      have := spread_len l r k
      omega
theorem spread_word (l : List Int) : ∀ (w r : List UInt8) (k : Nat), (∀ b ∈ w, 2 ≤ kindF b.toNat) → spreadF l k (w ++ r) = w ++ spreadF l k r
  | [], r, k, _ => rfl
  | b :: w, r, k, h => by
    have hb := h b List.mem_cons_self
    rw [List.cons_append, spreadF, if_neg, spread_word l w r k fun x hx => h x (List.mem_cons_of_mem _ hx)]
    · rfl
    · rintro (rfl | rfl)
      · revert hb; decide
      · revert hb; decide
theorem says_spread (l : List Int) : ∀ (L : List (ByteArray × UInt8)) (k : Nat), (∀ p ∈ L, (Wd p.1.data.toList ∧ Nb p.1.data.toList) ∧ (p.2 = 32 ∨ p.2 = 10)) → Says (spreadF l k (bytesL L)) (L.map (·.1.data.toList))
  | [], k, _ => says_nil
  | p :: L, k, h => by
    obtain ⟨⟨h1, h2⟩, h3⟩ := h p List.mem_cons_self
    have e : bytesL (p :: L) = p.1.data.toList ++ p.2 :: bytesL L := by unfold bytesL; simp
    have hk : kindF p.2.toNat = 1 := by rcases h3 with h3 | h3 <;> rw [h3] <;> decide
    rw [e, spread_word l _ _ k h1.2, spreadF, if_pos h3]
    have i := says_spread l L (k + 1) fun q hq => h q (List.mem_cons_of_mem _ hq)
    have := (says_word h1 h2 hk).app ((says_extraAt l k).app i)
    simpa using this
theorem spread_none : ∀ (r : List UInt8) (k : Nat), spreadF [] k r = r
  | [], k => rfl
  | b :: r, k => by
    rw [spreadF]
    have h : extraAt [] k = [] := rfl
    rw [h, spread_none r, spread_none r, List.nil_append]
    split <;> rfl
theorem says_scan {s : ByteArray} {A : List UInt8} {ws : List (List UInt8)} (h : s.data.toList = A) (hA : Says A ws) (h6 : A.length ≤ 65536) (hn : ws.length ≤ 16384) : ∃ ts, scanF s = (ts, none) ∧ ts.map (·.text.data.toList) = ws := by
  obtain ⟨E, l1, l2, e1, e2⟩ := ev_part s A [] (by rw [h, List.append_nil]) h6 hA.k (hA.c 0)
  have e3 : events s = E := by rw [e1]; simp [evs]
  obtain ⟨ts, h1, h2⟩ := hA.r 0 E [] e2 (by simpa using hn)
  refine ⟨ts, ?_, h2⟩
  have h3 : runF rd0 (events s) = (⟨ts, zeroTok⟩, none) := by rw [e3]; simpa [rd0] using h1
  refine scanF_good s ⟨ts, zeroTok⟩ h3 ?_
  rw [inCmt_data]
  rfl
end Go.Proofs.YtipfhfeaalbmcaaDoor.K

namespace Go.Proofs.YtipfhfeaalbmcaaDoor
open Go.RowKit

theorem texts_of : ∀ (ts : List K.Tok) (ws : List ByteArray), ts.map (·.text.data.toList) = ws.map (·.data.toList) → textsL (ts.map toT) = ws
  | [], [], _ => rfl
  | [], w :: ws, h => by simp at h
  | t :: ts, [], h => by simp at h
  | t :: ts, w :: ws, h => by
    rw [List.map_cons, List.map_cons] at h
    injection h with a b
    rw [List.map_cons]
    show (toT t).text :: textsL (ts.map toT) = _
    rw [texts_of ts ws b]
    show t.text :: _ = _
    rw [text_ext a]
theorem read_says {s : ByteArray} {A : List UInt8} {L : List Stm} (h : s.data.toList = A) (hA : K.Says A ((L.flatMap lineWS).map (·.data.toList))) (hm : L.all mayS = true) (h6 : A.length ≤ 65536) (hn : (L.flatMap lineWS).length ≤ 16384) :
    ∃ L', readF s = (⟨L', false, zTok⟩, none) ∧ AlkL L' L := by
  obtain ⟨ts, e1, e2⟩ := K.says_scan h hA h6 (by rw [List.length_map]; exact hn)
  have ht : textsL (wordsF s) = L.flatMap lineWS := by unfold wordsF; rw [e1]; exact texts_of ts _ e2
  obtain ⟨l', r, a, _⟩ := read_lines L _ [] hm ht
  refine ⟨l', ?_, a⟩
  have r' : runT ps0 (wordsF s) = (⟨l', false, zTok⟩, none) := r
  unfold readF
  rw [r']
  dsimp only
  rw [e1]
  dsimp only
  rw [wtB_z]
  rfl
theorem lineS_seps {s : Stm} (h : mayS s = true) : ∀ p ∈ lineS s, p.2 = 32 ∨ p.2 = 10 := by
  obtain ⟨f, z, e1, e2⟩ := line_front s h
  rw [e1]
  intro p hp
  rcases List.mem_append.1 hp with hp | hp
  · obtain ⟨x, _, rfl⟩ := List.mem_map.1 hp
    exact .inl rfl
  · rw [List.mem_singleton.1 hp]
    exact .inr rfl
theorem lines_says (l : List Int) (L : List Stm) (h : L.all mayS = true) : K.Says (K.spreadF l 0 (K.bytesL (L.flatMap lineS))) ((L.flatMap lineWS).map (·.data.toList)) := by
  obtain ⟨e, w⟩ := lines_words L h
  have hs := K.says_spread l (L.flatMap lineS) 0 fun p hp => ⟨(w p hp).1, by
    obtain ⟨s, hs, hp⟩ := List.mem_flatMap.1 hp
    exact lineS_seps (List.all_eq_true.1 h s hs) p hp⟩
  rw [← e, List.map_map]
  exact hs
/-- Blanks and comments put in: read alike; and with another text behind a blank: the statements of both. -/
theorem parted_read {L M : List Stm} (hL : printE L = 0) (hM : printE M = 0) (cL : (L.flatMap lineWS).length ≤ 5000) (cM : (M.flatMap lineWS).length ≤ 5000) (l : List Int) (u t : ByteArray) (hu : u.data.toList = K.spreadF l 0 (printB L).data.toList) (h6 : u.size + (printB M).size ≤ 65535) (ht : t.data.toList = u.data.toList ++ 32 :: (printB M).data.toList) :
    ∃ L' N', readF u = (⟨L', false, zTok⟩, none) ∧ AlkL L' L ∧ readF t = (⟨N', false, zTok⟩, none) ∧ AlkL N' (L ++ M) := by
  obtain ⟨aL, bL, wL⟩ := print_fit hL
  obtain ⟨aM, bM, wM⟩ := print_fit hM
  have pL : (printB L).data.toList = K.bytesL (L.flatMap lineS) := by rw [bL]
  have pM : (printB M).data.toList = K.bytesL (M.flatMap lineS) := by rw [bM]
  have su : u.data.toList.length = u.size := rfl
  have sM : (printB M).data.toList.length = (printB M).size := rfl
  rw [pL] at hu
  have yL := lines_says l L aL
  have yM := lines_says [] M aM
  rw [K.spread_none] at yM
  obtain ⟨L', r1, r2⟩ := read_says hu yL aL (by rw [← hu, su]; omega) (by omega)
  have y2 : K.Says (u.data.toList ++ 32 :: (printB M).data.toList) (((L ++ M).flatMap lineWS).map (·.data.toList)) := by
    have h32 : K.Says [32] [] := K.says_blank (by decide)
    rw [hu, pM, List.flatMap_append, List.map_append]
    have := yL.app (h32.app yM)
    simpa using this
  obtain ⟨N', r3, r4⟩ := read_says ht y2 (by rw [List.all_append, aL, aM]; rfl) (by rw [List.length_append, List.length_cons, su, sM]; omega) (by rw [List.flatMap_append, List.length_append]; omega)
  exact ⟨L', N', r1, r2, r3, r4⟩
end Go.Proofs.YtipfhfeaalbmcaaDoor

namespace Go.Proofs.YtipfhfeaalbmcaaDoor
open Go.RowKit

/-- Some more bytes. -/
theorem push_bytes {ops : Array Oper} {rest : List Oper} {o : Oper} {a : Act} {Q : Exit → Act → World → Prop} (w : World) (hgd : o.guard = none) (s x : Operand) (ho : o.op = .call { callee := .builtin .append, args := #[s, x], argTypes := #[81, 81] })
    (base : Nat) (v : Value) (l m : List UInt8) (cs : Array Value) (hcs : (m.map byteV).toArray = cs) (k : Nat) (hk : m.length = k) (hk0 : 0 < k) (hs : a.eval s = v) (hown : OwnB w base v l) (hx : a.eval x = .slice (some ⟨w.heap.size, 0, none⟩) k k) (hn : l.length + k ≤ 1099511627776) (hbase : base ≤ w.heap.size)
    (h : ∀ a' c' w', OwnB w' base (.slice a' (l.length + k) c') (l ++ m) → Below base w w' → wpList Tryd.prog ops Q rest (a.put o.dst (.slice a' (l.length + k) c')) w') : wpList Tryd.prog ops Q (o :: rest) a (w.alloc (.cells cs 5)) := by
  obtain ⟨i0, hi0, hz0, hz1, hz3⟩ := info_parts infoY
  subst hcs
  refine wpList_append_lies (w := w.alloc (.cells (m.map byteV).toArray 5)) hgd s x 81 ho base 5 i0 (.int .u8 0) 1 1 Tryd.underlying81 hi0 hz0 hz1 hz3 rfl (by decide) v l.length (l.map byteV) hs (M.owns_alloc hown _) ⟨w.heap.size, 0, none⟩ k k (m.map byteV) hx (by rw [List.length_map, hk, Nat.mul_one]) (fun j' u hu => World.news_of_block (cs := (m.map byteV).toArray) (t := 5) (fr := (0, 0)) (heap_alloc_new w _) j' u (by simpa using hu)) (fun u hu => by obtain ⟨b, _, rfl⟩ := List.mem_map.1 hu; rfl) (by omega) (by unfold maxLen; omega) (by omega) (by simp; omega) _ rfl ?_
  intro g c' w' ho' hg' hl' _
  refine h _ c' w' ?_ (((Below.refl _ w).alloc hbase _).trans ((Below.refl _ _).grown hg' (by simp; omega) (M.own_ge' hown)))
  unfold OwnB
  rw [List.length_append, List.map_append, hk]
  exact ho'
theorem push_str {ops : Array Oper} {rest : List Oper} {o : Oper} {a : Act} {Q : Exit → Act → World → Prop} (w : World) (hgd : o.guard = none) (s x : Operand) (ho : o.op = .call { callee := .builtin .append, args := #[s, x], argTypes := #[81, 9] })
    (base : Nat) (v : Value) (l : List UInt8) (t : ByteArray) (hs : a.eval s = v) (hown : OwnB w base v l) (hx : a.eval x = .string t) (hn : l.length + t.size ≤ 1099511627776) (hbase : base ≤ w.heap.size)
    (h : ∀ a' c' w', OwnB w' base (.slice a' (l.length + t.size) c') (l ++ t.data.toList) → Below base w w' → wpList Tryd.prog ops Q rest (a.put o.dst (.slice a' (l.length + t.size) c')) w') : wpList Tryd.prog ops Q (o :: rest) a w :=
  push_text w hgd s x ho base v l t hs hown hx hn hbase (.slice none 0 0) [] base (World.ownsRow_nil _ _ _ _) (fun _ e => by cases e) fun a' c' w' h1 h2 _ _ => h a' c' w' h1 h2
theorem extra_at {l : List Int} {k n : Nat} {x : Int} {r : Nat} (hl : l.length = n) (hn : 0 < n) (hx : l[k % n]? = some x) (hr : x % 6 = (r : Int)) : K.extraAt l k = K.extra r := by
  unfold K.extraAt
  split
  · simp at hl; omega
  · rename_i y t
    subst hl
    rw [List.getD_eq_getElem?_getD, hx]
    show K.extra (x % 6).toNat = _
    rw [hr, Int.toNat_natCast]

set_option maxRecDepth 100000 in
set_option maxHeartbeats 16000000 in
theorem spread_any (w : World) (s : ByteArray) (a : Option Addr) (n c : Nat) (l : List Int) (hl : l.length = n) (hs : s.size ≤ 65536) (hn : n ≤ 1099511627776) (hA : NumsAt w a l) (hz : ∀ y ∈ l, -9223372036854775808 ≤ y ∧ y ≤ 9223372036854775807) :
    Calls Tryd.prog 21 #[.string s, .slice a n c] w fun e w' => e = .returned (.string ⟨(K.spreadF l 0 s.data.toList).toArray⟩) ∧ Below w.heap.size w w' := by
  obtain ⟨N, hN⟩ : ∃ N, w.heap.size = N := ⟨_, rfl⟩
  rw [hN]
  have HN : Hid (w.heap.size = N) := hN
  have HA : Hid (NumsAt w a l) := hA
  have HZ : Hid _ := hz
  have HL : Hid (l.length = n) := hl
  obtain ⟨sz, hsz⟩ : ∃ sz, s.size = sz := ⟨_, rfl⟩
  have HSZ : Hid (s.size = sz) := hsz
  have hszb : sz ≤ 65536 := by omega
  clear hN hA hz hl hs
  go_enter Tryd.func21, Tryd.ntmps21
  go_wp2_with fail
  go_loopw [5, 6, 7] (fun v5 v6 i wx => ∃ (j q : Nat), j ≤ sz ∧ q ≤ j ∧ i = .int .i64 j ∧ v6 = .int .i64 q ∧ Hid (n ≠ 0 → K.seps (s.data.toList.take j) = q) ∧ Hid (OwnB wx N v5 (K.spreadF l 0 (s.data.toList.take j))) ∧ Hid (Below N w wx)) (fun _ _ i _ => sz - (intOf i).toNat)
  case atStart => exact ⟨0, 0, Nat.zero_le _, Nat.zero_le _, rfl, rfl, fun _ => rfl, World.ownsRow_nil _ _ _ _, Below.refl _ _⟩
  case round =>
    obtain ⟨j, q, hj, hq, rfl, rfl, hQ, hO, hB⟩ := hrel
    by_cases hlt : j < sz
    · have n1 : (j : Int) < (sz : Int) := by omega
      have hjs : j < s.size := by omega
      obtain ⟨b, hb⟩ : ∃ b, s[j] = b := ⟨_, rfl⟩
      have HTK : Hid (s.data.toList.take (j + 1) = s.data.toList.take j ++ [b]) := by show _ = _; rw [K.take_snoc s j hjs, hb]
      obtain ⟨Lb, hLb⟩ : ∃ Lb, Lb = K.spreadF l 0 (s.data.toList.take j) := ⟨_, rfl⟩
      have hLl : Lb.length ≤ 1507328 := by
        rw [hLb]
        have h1 := K.spread_len l (s.data.toList.take j) 0
        have h2 : (s.data.toList.take j).length ≤ j := by rw [List.length_take]; omega
        omega
      have HLb : Hid (Lb = K.spreadF l 0 (s.data.toList.take j)) := hLb
      have OB : Hid (OwnB wr N u5 Lb) := by show OwnB _ _ _ _; rw [hLb]; exact hO.out
      have HNr : Hid (N ≤ wr.heap.size) := by have h1 := hB.out.size; have h2 := HN.out; show N ≤ _; omega
      clear hLb hO
      have T : ((((b.toNat : Nat) : Int) == 32) = true ∧ (b = 32 ∨ b = 10)) ∨ ((((b.toNat : Nat) : Int) == 32) = false ∧ (((b.toNat : Nat) : Int) == 10) = true ∧ (b = 32 ∨ b = 10)) ∨ ((((b.toNat : Nat) : Int) == 32) = false ∧ (((b.toNat : Nat) : Int) == 10) = false ∧ ¬ (b = 32 ∨ b = 10)) := by
        by_cases h1 : b = 32
        · subst h1; exact .inl ⟨rfl, .inl rfl⟩
        · have e1 : (((b.toNat : Nat) : Int) == 32) = false := by
            rw [beq_eq_false_iff_ne]; intro e; exact h1 (UInt8.toNat.inj (show b.toNat = (32 : UInt8).toNat from by show b.toNat = 32; omega))
          by_cases h2 : b = 10
          · subst h2; exact .inr (.inl ⟨rfl, rfl, .inr rfl⟩)
          · have e2 : (((b.toNat : Nat) : Int) == 10) = false := by
              rw [beq_eq_false_iff_ne]; intro e; exact h2 (UInt8.toNat.inj (show b.toNat = (10 : UInt8).toNat from by show b.toNat = 10; omega))
            exact .inr (.inr ⟨e1, e2, fun e => e.elim h1 h2⟩)
      by_cases hn0 : n = 0
      · subst hn0
        have HE1 : Hid (K.spreadF l 0 (s.data.toList.take (j + 1)) = Lb ++ [b]) := by
          show _ = _
          rw [HLb.out, List.eq_nil_of_length_eq_zero HL.out, K.spread_none, K.spread_none, HTK.out]
        clear hQ HTK HLb
        rcases T with ⟨T1, _⟩ | ⟨T1, T2, _⟩ | ⟨T1, T2, _⟩
        all_goals
          go_wp2_with (at_builtin; refine push_bytes wr rfl _ _ rfl N u5 Lb [b] _ (by rfl) 1 rfl (by omega) (by rfl) OB.out (by rfl) (by omega) HNr.out ?_; intro a1 c1 w1 ho1 hb1; have O1 : Hid (OwnB w1 N (.slice a1 (Lb.length + 1) c1) (Lb ++ [b])) := ho1; have B1 : Hid (Below N w w1) := hB.out.trans hb1; clear ho1 hb1)
          refine ⟨⟨j + 1, q, by omega, by omega, by go_num, rfl, fun e => absurd rfl e, ?_, B1.out⟩, by simp [intOf]; omega⟩
          show OwnB _ _ _ _
          rw [HE1.out]
          exact O1.out
      · have hn1 : 0 < n := by omega
        have n2 : (0 : Int) < (n : Int) := by omega
        have z0 : ¬ (n : Int) = 0 := by omega
        rcases T with ⟨T1, T3⟩ | ⟨T1, T2, T3⟩ | ⟨T1, T2, T3⟩
        case inr.inr =>
          have HE1 : Hid (K.spreadF l 0 (s.data.toList.take (j + 1)) = Lb ++ [b]) := by
            show _ = _
            rw [HTK.out, K.spread_snoc, if_neg T3, ← HLb.out]
          have HQ1 : Hid (n ≠ 0 → K.seps (s.data.toList.take (j + 1)) = q) := fun e => by rw [HTK.out, K.seps_snoc, if_neg T3, hQ.out e]; rfl
          clear hQ HTK HLb T3 hn0
          go_wp2_with (at_builtin; refine push_bytes wr rfl _ _ rfl N u5 Lb [b] _ (by rfl) 1 rfl (by omega) (by rfl) OB.out (by rfl) (by omega) HNr.out ?_; intro a1 c1 w1 ho1 hb1; have O1 : Hid (OwnB w1 N (.slice a1 (Lb.length + 1) c1) (Lb ++ [b])) := ho1; have B1 : Hid (Below N w w1) := hB.out.trans hb1; clear ho1 hb1)
          refine ⟨⟨j + 1, q, by omega, by omega, by go_num, rfl, HQ1.out, ?_, B1.out⟩, by simp [intOf]; omega⟩
          show OwnB _ _ _ _
          rw [HE1.out]
          exact O1.out
        all_goals
          have hlq : q % n < l.length := by rw [HL.out]; exact Nat.mod_lt _ hn1
          obtain ⟨x, hx⟩ : ∃ x, l[q % n]? = some x := ⟨_, List.getElem?_eq_getElem hlq⟩
          obtain ⟨r, hr, hr6⟩ : ∃ r : Nat, x % ((6 : Nat) : Int) = r ∧ r < 6 := ⟨(x % 6).toNat, by have := Int.emod_nonneg x (show (6 : Int) ≠ 0 by omega); omega, by have := Int.emod_lt_of_pos x (show (0 : Int) < 6 by omega); have := Int.emod_nonneg x (show (6 : Int) ≠ 0 by omega); omega⟩
          have HE1 : Hid (K.spreadF l 0 (s.data.toList.take (j + 1)) = (Lb ++ [b]) ++ K.extra r) := by
            show _ = _
            rw [HTK.out, K.spread_snoc, if_pos T3, ← HLb.out, Nat.zero_add, hQ.out hn0, extra_at HL.out hn1 hx hr]; simp
          have HQ1 : Hid (n ≠ 0 → K.seps (s.data.toList.take (j + 1)) = q + 1) := fun e => by rw [HTK.out, K.seps_snoc, if_pos T3, hQ.out e]
          have MD : Hid (∀ wx, Calls Tryd.prog 38 #[.int .i64 x, .int .i64 6] wx fun e w' => e = .returned (.int .i64 r) ∧ w' = wx) := fun wx => by
            have hz := HZ.out x (List.mem_of_getElem? hx)
            have h := mod_any wx x 6 (by omega) (by omega) hz.1 hz.2
            rw [hr] at h
            exact h
          obtain ⟨g, off, rfl, hg0⟩ := HA.out (q % n) x hx
          obtain ⟨qq, hqq⟩ : ∃ qq, q % n = qq := ⟨_, rfl⟩
          have hqn : qq < n := by rw [← hqq]; exact Nat.mod_lt _ hn1
          have HC : Hid (∀ wx, Below N w wx → wx.cell? ⟨g, off + qq, none⟩ = some (.int .i64 x)) := fun wx hbx => by
            rw [hqq] at hg0
            have hlt : g < w.heap.size := World.block_lt_of_cell? _ _ hg0
            rw [HN.out] at hlt
            exact (hbx.cell (p := ⟨g, _, none⟩) hlt).trans hg0
          have m1 : (q : Int) % (n : Int) = (qq : Int) := by rw [← hqq]; rfl
          have m2 : (qq : Int) < (n : Int) := by omega
          clear hQ HTK HLb T3 hn0 hx hr hlq hg0 hqq
          go_wp2_with (at_builtin; refine push_bytes wr rfl _ _ rfl N u5 Lb [b] _ (by rfl) 1 rfl (by omega) (by rfl) OB.out (by rfl) (by omega) HNr.out ?_; intro a1 c1 w1 ho1 hb1; have O1 : Hid (OwnB w1 N (.slice a1 (Lb.length + 1) c1) (Lb ++ [b])) := ho1; have B1 : Hid (Below N w w1) := hB.out.trans hb1; have y0 := HC.out w1 B1.out; clear ho1 hb1)
          refine Calls.mono (MD.out _) ?_
          rintro e wz ⟨rfl, hwz⟩
          subst wz
          have HN1 : Hid (N ≤ w1.heap.size) := by have h1 := B1.out.size; have h2 := HN.out; show N ≤ _; omega
          have hL2 : (Lb ++ [b]).length = Lb.length + 1 := by rw [List.length_append]; rfl
          have O2 : Hid (OwnB w1 N (.slice a1 (Lb.length + 1) c1) (Lb ++ [b])) := O1.out
          clear O1 MD y0 m1 m2 HC
          have six : r = 0 ∨ r = 1 ∨ r = 2 ∨ r = 3 ∨ r = 4 ∨ r = 5 := by omega
          rcases six with rfl | rfl | rfl | rfl | rfl | rfl
          case inl =>
            go_wp2
            refine ⟨⟨j + 1, q + 1, by omega, by omega, by go_num, by go_num, HQ1.out, ?_, B1.out⟩, by simp [intOf]; omega⟩
            show OwnB _ _ _ _
            rw [HE1.out]
            show OwnB _ _ _ (_ ++ [])
            rw [List.append_nil]
            exact O2.out
          case inr.inl =>
            go_wp2_with (at_builtin; refine push_str w1 rfl _ _ rfl N _ (Lb ++ [b]) ⟨#[32, 32]⟩ (by rfl) O2.out (by rfl) (by rw [hL2]; show _ + 2 ≤ _; omega) HN1.out ?_; intro a2 c2 w2 ho2 hb2; rw [hL2] at ho2 ⊢; have O3 : Hid (OwnB w2 N (.slice a2 (Lb.length + 1 + 2) c2) ((Lb ++ [b]) ++ K.extra 1)) := ho2; have B2 : Hid (Below N w w2) := B1.out.trans hb2; clear ho2 hb2)
            refine ⟨⟨j + 1, q + 1, by omega, by omega, by go_num, by go_num, HQ1.out, ?_, B2.out⟩, by simp [intOf]; omega⟩
            show OwnB _ _ _ _
            rw [HE1.out]
            exact O3.out
          case inr.inr.inl =>
            go_wp2_with (at_builtin; refine push_bytes w1 rfl _ _ rfl N _ (Lb ++ [b]) [13, 10, 9, 12] _ (by rfl) 4 rfl (by omega) (by rfl) O2.out (by rfl) (by rw [hL2]; omega) HN1.out ?_; intro a2 c2 w2 ho2 hb2; rw [hL2] at ho2 ⊢; have O3 : Hid (OwnB w2 N (.slice a2 (Lb.length + 1 + 4) c2) ((Lb ++ [b]) ++ K.extra 2)) := ho2; have B2 : Hid (Below N w w2) := B1.out.trans hb2; clear ho2 hb2)
            refine ⟨⟨j + 1, q + 1, by omega, by omega, by go_num, by go_num, HQ1.out, ?_, B2.out⟩, by simp [intOf]; omega⟩
            show OwnB _ _ _ _
            rw [HE1.out]
            exact O3.out
          case inr.inr.inr.inl =>
            go_wp2_with (at_builtin; refine push_str w1 rfl _ _ rfl N _ (Lb ++ [b]) ⟨#[36, 40, 32, 97, 32, 36, 46, 32, 36, 99, 32, 99, 111, 109, 109, 101, 110, 116, 32, 36, 41, 32]⟩ (by rfl) O2.out (by rfl) (by rw [hL2]; show _ + 22 ≤ _; omega) HN1.out ?_; intro a2 c2 w2 ho2 hb2; rw [hL2] at ho2 ⊢; have O3 : Hid (OwnB w2 N (.slice a2 (Lb.length + 1 + 22) c2) ((Lb ++ [b]) ++ K.extra 3)) := ho2; have B2 : Hid (Below N w w2) := B1.out.trans hb2; clear ho2 hb2)
            refine ⟨⟨j + 1, q + 1, by omega, by omega, by go_num, by go_num, HQ1.out, ?_, B2.out⟩, by simp [intOf]; omega⟩
            show OwnB _ _ _ _
            rw [HE1.out]
            exact O3.out
          case inr.inr.inr.inr.inl =>
            go_wp2_with (at_builtin; refine push_str w1 rfl _ _ rfl N _ (Lb ++ [b]) ⟨#[36, 40, 32, 36, 41, 32, 36, 40, 32, 36, 61, 32, 36, 41, 32]⟩ (by rfl) O2.out (by rfl) (by rw [hL2]; show _ + 15 ≤ _; omega) HN1.out ?_; intro a2 c2 w2 ho2 hb2; rw [hL2] at ho2 ⊢; have O3 : Hid (OwnB w2 N (.slice a2 (Lb.length + 1 + 15) c2) ((Lb ++ [b]) ++ K.extra 4)) := ho2; have B2 : Hid (Below N w w2) := B1.out.trans hb2; clear ho2 hb2)
            refine ⟨⟨j + 1, q + 1, by omega, by omega, by go_num, by go_num, HQ1.out, ?_, B2.out⟩, by simp [intOf]; omega⟩
            show OwnB _ _ _ _
            rw [HE1.out]
            exact O3.out
          case inr.inr.inr.inr.inr =>
            go_wp2
            refine ⟨⟨j + 1, q + 1, by omega, by omega, by go_num, by go_num, HQ1.out, ?_, B1.out⟩, by simp [intOf]; omega⟩
            show OwnB _ _ _ _
            rw [HE1.out]
            show OwnB _ _ _ (_ ++ [])
            rw [List.append_nil]
            exact O2.out
    · have n1 : ¬ (j : Int) < (sz : Int) := by omega
      have hall : s.data.toList.take j = s.data.toList := List.take_of_length_le (by have : s.data.toList.length = s.size := rfl; omega)
      have OB := hO.out
      rw [hall] at OB
      obtain ⟨a5, c5, hv5, _, _⟩ := M.own_cell OB
      have cv : (convert 81 9 u5).run Tryd.prog wr = .ok (.string ⟨(K.spreadF l 0 s.data.toList).toArray⟩) wr := conv_own OB
      subst hv5
      clear OB hall hO hQ
      generalize (K.spreadF l 0 s.data.toList).length = m5 at *
      go_wp2
      go_ret
      exact ⟨rfl, hB.out⟩
end Go.Proofs.YtipfhfeaalbmcaaDoor

namespace Go.Proofs.YtipfhfeaalbmcaaDoor
open Go.RowKit Go.Deep

/-- A statement, and where its lists lie. -/
structure Sg where
  s : Stm
  aw : Option Addr
  cw : Nat
  ap : Option Addr
  cp : Nat
def sgC (x : Sg) : List Value := (stmC x.s (.slice x.aw x.s.words.length x.cw) (.slice x.ap x.s.proof.length x.cp)).toList
def rowG (l : List Sg) : List Value := l.flatMap sgC
theorem sgC_len (x : Sg) : (sgC x).length = 16 := rfl
theorem rowG_append (l m : List Sg) : rowG (l ++ m) = rowG l ++ rowG m := by unfold rowG; rw [List.flatMap_append]
theorem rowG_len : ∀ l : List Sg, (rowG l).length = l.length * 16
  | [] => rfl
  | x :: l => by
    have e : rowG (x :: l) = sgC x ++ rowG l := rfl
    rw [e, List.length_append, rowG_len l, List.length_cons, sgC_len]; omega
theorem rowG_at : ∀ (ts : List Sg) (i j : Nat) (t : Sg), ts[i]? = some t → j < 16 → (rowG ts)[i * 16 + j]? = (sgC t)[j]?
  | [], i, j, t, h, _ => by simp at h
  | x :: r, 0, j, t, h, hj => by
    simp at h; subst h
    have e : rowG (x :: r) = sgC x ++ rowG r := rfl
    rw [e, Nat.zero_mul, Nat.zero_add, List.getElem?_append_left (by rw [sgC_len]; exact hj)]
  | x :: r, i + 1, j, t, h, hj => by
    have e : rowG (x :: r) = sgC x ++ rowG r := rfl
    have h2 : r[i]? = some t := by simpa using h
    rw [e, List.getElem?_append_right (by rw [sgC_len]; omega), sgC_len, show (i + 1) * 16 + j - 16 = i * 16 + j by omega]
    exact rowG_at r i j t h2 hj
theorem rowG_one (l : List Sg) : ∀ u ∈ rowG l, u.oneCell' = true := fun u hu => by
  unfold rowG at hu
  obtain ⟨x, _, hx⟩ := List.mem_flatMap.1 hu
  simp [sgC, stmC, stmA] at hx
  rcases hx with rfl | rfl | rfl | rfl | rfl | rfl | rfl | rfl | rfl | rfl | rfl | rfl | rfl | rfl | rfl | rfl <;> rfl
structure SgOk (W : World) (x : Sg) : Prop where
  w : ToksAt W x.aw x.s.words
  p : ToksAt W x.ap x.s.proof
  nw : x.s.words.length ≤ x.cw
  np : x.s.proof.length ≤ x.cp
theorem SgOk.under {w w' : World} {x : Sg} (h : SgOk w x) (hb : Below w.heap.size w w') : SgOk w' x := ⟨h.w.under hb, h.p.under hb, h.nw, h.np⟩
theorem stmts_sg {w : World} {a : Option Addr} {l : List Stm} (h : StmtsAt w a l) : ∃ its : List Sg, its.map (·.s) = l ∧ (∀ x ∈ its, SgOk w x) ∧ ∀ (j : Nat) (u : Value), (rowG its)[j]? = some u → ∃ ad, a = some ad ∧ w.cell? (ad.add j) = some u := by
  have key : ∀ i, i < l.length → ∃ q : Sg, l[i]? = some q.s ∧ SgOk w q ∧ ∀ (j : Nat) (u : Value), (sgC q)[j]? = some u → ∃ ad, a = some ad ∧ w.cell? (ad.add (i * 16 + j)) = some u := fun i hi => by
    have hs : l[i]? = some l[i] := List.getElem?_eq_getElem hi
    obtain ⟨b, off, aw, cw, ap, cp, e, hc, h1, h2, h3, h4⟩ := h i _ hs
    refine ⟨⟨l[i], aw, cw, ap, cp⟩, hs, ⟨h1, h2, h3, h4⟩, fun j u hu => ⟨_, e, ?_⟩⟩
    rw [Addr.add_lit, ← Nat.add_assoc]
    exact hc j u (by simpa [sgC] using hu)
  have inh : Inhabited Sg := ⟨⟨⟨0, zTok, zTok, false, [], [], zTok⟩, none, 0, none, 0⟩⟩
  obtain ⟨F, hF⟩ := choose_lt key
  refine ⟨(List.range l.length).map F, ?_, fun x hx => ?_, fun j u hu => ?_⟩
  · apply List.ext_getElem?
    intro i
    rw [List.map_map, List.getElem?_map]
    by_cases hi : i < l.length
    · rw [List.getElem?_range hi, (hF i hi).1]; rfl
    · rw [List.getElem?_eq_none (by rw [List.length_range]; omega), List.getElem?_eq_none (by omega)]; rfl
  · obtain ⟨i, hi, rfl⟩ := List.mem_map.1 hx
    exact (hF i (List.mem_range.1 hi)).2.1
  · have hlt := (List.getElem?_eq_some_iff.1 hu).1
    rw [rowG_len, List.length_map, List.length_range] at hlt
    have hi : j / 16 < l.length := by omega
    have hg : ((List.range l.length).map F)[j / 16]? = some (F (j / 16)) := by rw [List.getElem?_map, List.getElem?_range hi]; rfl
    have k := rowG_at _ (j / 16) (j % 16) _ hg (by omega)
    rw [show j / 16 * 16 + j % 16 = j by omega, hu] at k
    obtain ⟨ad, e, hc⟩ := (hF _ hi).2.2 (j % 16) u k.symm
    rw [show j / 16 * 16 + j % 16 = j by omega] at hc
    exact ⟨ad, e, hc⟩
theorem sg_stmts {W : World} {N : Nat} {v : Value} {n : Nat} {its : List Sg} (_ : its.length = n) (h : W.ownsRow N 36 16 v n (rowG its)) (hi : ∀ x ∈ its, SgOk W x) : ∃ a c, v = .slice a n c ∧ StmtsAt W a (its.map (·.s)) := by
  obtain ⟨a, c, e, hc, hcell⟩ := M.own_cell h
  refine ⟨a, c, e, fun i s hs => ?_⟩
  rw [List.getElem?_map] at hs
  obtain ⟨x, hx, rfl⟩ := Option.map_eq_some_iff.1 hs
  have hm := hi x (List.mem_of_getElem? hx)
  obtain ⟨g, rfl, _⟩ := hcell (i * 16 + 0) _ ((rowG_at its i 0 x hx (by omega)).trans rfl)
  refine ⟨g, 0, x.aw, x.cw, x.ap, x.cp, rfl, fun j u hu => ?_, hm.w, hm.p, hm.nw, hm.np⟩
  have hu' : (sgC x)[j]? = some u := by simpa [sgC] using hu
  have hj : j < 16 := (List.getElem?_eq_some_iff.1 hu').1
  obtain ⟨_, e', hc'⟩ := hcell (i * 16 + j) u ((rowG_at its i j x hx hj).trans hu')
  cases e'
  rw [Nat.zero_add]
  exact hc'
theorem infoSG : (Tryd.prog.info? 36).map (fun i => (i.zero, i.size, i.bytes)) = some (some (.agg #[.int .i64 0, .string ⟨#[]⟩, .int .i64 0, .int .i64 0, .int .i64 0, .string ⟨#[]⟩, .int .i64 0, .int .i64 0, .int .i64 0, .bool false, .slice none 0 0, .slice none 0 0, .string ⟨#[]⟩, .int .i64 0, .int .i64 0, .int .i64 0]), 16, 184) := by kernel_rfl
theorem wcount_le {L : List Pln} : ((madeF 0 L).flatMap lineWS).length ≤ 5000 := by
  have h := (made_fit L 0 (by omega)).2.2.1
  have e : ∀ l : List Stm, (l.flatMap lineWS).length = rcount l := fun l => by
    unfold rcount
    rw [List.length_flatMap]
  rw [e]; omega

set_option maxRecDepth 100000 in
set_option maxHeartbeats 16000000 in
theorem parted_walk (w : World) (a0 a1 a2 : Option Addr) (n0 n1 n2 c0 c1 c2 : Nat) (l m : List Pln) (ns : List Int) (hl : l.length = n0) (hm : m.length = n1) (hns : ns.length = n2) (hn0 : n0 ≤ 1099511627776) (hn1 : n1 ≤ 1099511627776) (hn2 : n2 ≤ 1099511627776)
    (hA : PlansAt w a0 l) (hM : PlansAt w a1 m) (hN : NumsAt w a2 ns) (hok : ∀ p ∈ l, PlnOk p) (hmk : ∀ p ∈ m, PlnOk p) (hnb : ∀ y ∈ ns, -9223372036854775808 ≤ y ∧ y ≤ 9223372036854775807) (hT : RdW w) :
    Calls Tryd.prog 6 #[.slice a0 n0 c0, .slice a1 n1 c1, .slice a2 n2 c2] w fun e w' => e = .returned (.bool true) ∧ Below w.heap.size w w' := by
  obtain ⟨iS, hiS, iSz, iSs, iSb⟩ := info_parts infoSG
  have HT : Hid (RdW w) := hT
  have MD : Hid _ := made_pl w a0 n0 c0 l hl hn0 hA hok
  have ME : Hid (∀ wx, Below w.heap.size w wx → Calls Tryd.prog 20 #[.slice a1 n1 c1] wx (MdPost wx (madeF 0 m))) := fun wx hb => made_pl wx a1 n1 c1 m hm hn1 (hM.under hb) hmk
  have SP : Hid (∀ wx s, s.size ≤ 65536 → Below w.heap.size w wx → Calls Tryd.prog 21 #[.string s, .slice a2 n2 c2] wx fun e w' => e = .returned (.string ⟨(K.spreadF ns 0 s.data.toList).toArray⟩) ∧ Below wx.heap.size wx w') := fun wx s hs hb => spread_any wx s a2 n2 c2 ns hns hs hn2 (hN.under hb) hnb
  obtain ⟨_, _, _, l4, l5⟩ := made_fit l 0 (by omega)
  obtain ⟨_, _, _, m4, m5⟩ := made_fit m 0 (by omega)
  have lp := made_prints l
  have mp := made_prints m
  have lc := wcount_le (L := l)
  have mc := wcount_le (L := m)
  obtain ⟨L, hL⟩ : ∃ L, madeF 0 l = L := ⟨_, rfl⟩
  obtain ⟨M', hM'⟩ : ∃ M, madeF 0 m = M := ⟨_, rfl⟩
  rw [hL] at MD l4 l5 lp lc
  rw [hM'] at ME m4 m5 mp mc
  obtain ⟨sL, hsL⟩ : ∃ u, printB L = u := ⟨_, rfl⟩
  obtain ⟨sM, hsM⟩ : ∃ u, printB M' = u := ⟨_, rfl⟩
  have sz : ∀ X : List Stm, printE X = 0 → (printB X).size ≤ 65536 := fun X h => by
    have h := (print_fit h).2
    have h6 := h.2.b6
    rw [h.1]
    show (K.bytesL (X.flatMap lineS)).toArray.size ≤ 65536
    rw [List.size_toArray]
    exact h6
  have zL : sL.size ≤ 65536 := by rw [← hsL]; exact sz L lp
  have zM : sM.size ≤ 65536 := by rw [← hsM]; exact sz M' mp
  obtain ⟨u, hu⟩ : ∃ u : ByteArray, u = ⟨(K.spreadF ns 0 sL.data.toList).toArray⟩ := ⟨_, rfl⟩
  have hud : u.data.toList = K.spreadF ns 0 sL.data.toList := by rw [hu]
  have zU : u.size ≤ 1507328 := by
    have h1 := K.spread_len ns sL.data.toList 0
    have h2 : sL.data.toList.length = sL.size := rfl
    have h3 : u.data.toList.length = u.size := rfl
    rw [← h3, hud]; omega
  obtain ⟨nL, hnL⟩ : ∃ n, L.length = n := ⟨_, rfl⟩
  obtain ⟨nM, hnM⟩ : ∃ n, M'.length = n := ⟨_, rfl⟩
  have HF : Hid (printE L = 0 ∧ printB L = sL ∧ L.length = nL ∧ (∀ x ∈ L, StmSm x)) := ⟨lp, hsL, hnL, l5⟩
  have HG : Hid (printE M' = 0 ∧ printB M' = sM ∧ M'.length = nM ∧ (∀ x ∈ M', StmSm x)) := ⟨mp, hsM, hnM, m5⟩
  have HU : Hid (u = ⟨(K.spreadF ns 0 sL.data.toList).toArray⟩) := hu
  have kL : nL ≤ 5000 := by omega
  have kM : nM ≤ 5000 := by omega
  have HR : Hid (u.size + sM.size ≤ 65535 → ∀ t : ByteArray, t.data.toList = u.data.toList ++ 32 :: sM.data.toList → ∃ L' N', readF u = (⟨L', false, zTok⟩, none) ∧ AlkL L' L ∧ readF t = (⟨N', false, zTok⟩, none) ∧ AlkL N' (L ++ M')) := fun h6 t ht => by
    subst hsL hsM
    exact parted_read lp mp lc mc ns u t hud h6 ht
  have RD : Hid (∀ (t : ByteArray), t.size ≤ 140737488355328 → ∀ wx, Below w.heap.size w wx → Calls Tryd.prog 9 #[.string t] wx (ReadPost wx t)) := fun t ht wx hb => read_any wx t ht (HT.out.under hb)
  clear hT hA hM hN hok hmk hnb hL hM' l4 l5 m4 m5 lp mp lc mc hsL hsM sz hu hud hnL hnM hl hm hns hn0 hn1 hn2
  obtain ⟨zu, hzu⟩ : ∃ zu, u.size = zu := ⟨_, rfl⟩
  obtain ⟨zm, hzm⟩ : ∃ zm, sM.size = zm := ⟨_, rfl⟩
  go_enter Tryd.func6, Tryd.ntmps6
  go_wp2_with fail
  refine Calls.mono MD.out ?_
  rintro e w1 ⟨b1, d1, rfl, hs1, hb1⟩
  rw [HF.out.2.2.1]
  have B1 : Hid (Below w.heap.size w w1) := hb1
  have S1 : Hid (StmtsAt w1 b1 L) := hs1
  have M2 : Hid _ := ME.out w1 hb1
  clear hs1 hb1 MD ME
  go_wp2_with fail
  refine Calls.mono M2.out ?_
  rintro e w2 ⟨b2, d2, rfl, hs2, hb2⟩
  rw [HG.out.2.2.1]
  have B2 : Hid (Below w.heap.size w w2) := B1.out.trans (hb2.mono B1.out.size)
  have S2 : Hid (StmtsAt w2 b1 L) := S1.out.under hb2
  have T2 : Hid (StmtsAt w2 b2 M') := hs2
  have PR : Hid _ := print_any w2 b1 nL d1 L HF.out.2.2.1 (by omega) HF.out.2.2.2 S2.out (HT.out.sh.under B2.out)
  rw [HF.out.1, HF.out.2.1] at PR
  clear hs2 hb2 M2 S1 B1
  go_wp2_with fail
  refine Calls.mono PR.out ?_
  rintro e w3 ⟨rfl, hb3⟩
  have B3 : Hid (Below w.heap.size w w3) := B2.out.trans (hb3.mono B2.out.size)
  have S3 : Hid (StmtsAt w3 b1 L) := S2.out.under hb3
  have T3 : Hid (StmtsAt w3 b2 M') := T2.out.under hb3
  have PR2 : Hid _ := print_any w3 b2 nM d2 M' HG.out.2.2.1 (by omega) HG.out.2.2.2 T3.out (HT.out.sh.under B3.out)
  rw [HG.out.1, HG.out.2.1] at PR2
  clear hb3 PR S2 T2 B2
  go_wp2_with fail
  refine Calls.mono PR2.out ?_
  rintro e w4 ⟨rfl, hb4⟩
  have B4 : Hid (Below w.heap.size w w4) := B3.out.trans (hb4.mono B3.out.size)
  have S4 : Hid (StmtsAt w4 b1 L) := S3.out.under hb4
  have T4 : Hid (StmtsAt w4 b2 M') := T3.out.under hb4
  have SR : Hid _ := SP.out w4 sL zL B4.out
  rw [← HU.out] at SR
  clear hb4 PR2 S3 T3 B3 SP HU
  go_wp2_with fail
  refine Calls.mono SR.out ?_
  rintro e w5 ⟨rfl, hb5⟩
  have B5 : Hid (Below w.heap.size w w5) := B4.out.trans (hb5.mono B4.out.size)
  have S5 : Hid (StmtsAt w5 b1 L) := S4.out.under hb5
  have T5 : Hid (StmtsAt w5 b2 M') := T4.out.under hb5
  clear hb5 SR S4 T4 B4
  by_cases hbig : 65535 < zu + zm
  · have k1 : (65535 : Int) < (zu : Int) + (zm : Int) := by omega
    go_wp2
    go_ret
    exact ⟨rfl, B5.out⟩
  · have k1 : ¬ (65535 : Int) < (zu : Int) + (zm : Int) := by omega
    obtain ⟨t, ht⟩ : ∃ t : ByteArray, t = u ++ ⟨#[32]⟩ ++ sM := ⟨_, rfl⟩
    have htd : t.data.toList = u.data.toList ++ 32 :: sM.data.toList := by rw [ht]; simp
    have htz : t.size ≤ 65536 := by
      have h1 : t.data.toList.length = t.size := rfl
      have h2 : u.data.toList.length = u.size := rfl
      have h3 : sM.data.toList.length = sM.size := rfl
      rw [← h1, htd, List.length_append, List.length_cons]; omega
    obtain ⟨L', N', r1, r2, r3, r4⟩ := HR.out (by omega) t htd
    have HR2 : Hid (readF u = (⟨L', false, zTok⟩, none) ∧ AlkL L' L ∧ readF t = (⟨N', false, zTok⟩, none) ∧ AlkL N' (L ++ M')) := ⟨r1, r2, r3, r4⟩
    have HT1 : Hid (t = u ++ ⟨#[32]⟩ ++ sM) := ht
    have R1 : Hid _ := RD.out u (by omega) w5 B5.out
    clear r1 r2 r3 r4 ht htd HR
    go_wp2_with fail
    refine Calls.mono R1.out ?_
    rintro e w6 ⟨v6, f6, its6, rfl, hr6⟩
    obtain ⟨a6, c6, ev, hst⟩ := hr6.stmts
    have hft := hr6.ft
    rw [HR2.out.1] at ev hst hft
    dsimp only at ev hst hft
    have hf6 : f6 = .pointer none := hft
    rw [HR2.out.2.1.1, HF.out.2.2.1] at ev
    subst ev hf6
    have B6 : Hid (Below w.heap.size w w6) := B5.out.trans (hr6.bel.mono B5.out.size)
    have S6 : Hid (StmtsAt w6 b1 L) := S5.out.under hr6.bel
    have T6 : Hid (StmtsAt w6 b2 M') := T5.out.under hr6.bel
    have X6 : Hid (StmtsAt w6 a6 L') := hst
    have R2 : Hid _ := RD.out t (by omega) w6 B6.out
    rw [HT1.out] at R2
    clear hr6 hst hft R1 S5 T5 B5
    go_wp2_with fail
    refine Calls.mono R2.out ?_
    rintro e w7 ⟨v7, f7, its7, rfl, hr7⟩
    rw [← HT1.out] at hr7
    obtain ⟨a7, c7, ev, hst⟩ := hr7.stmts
    have hft := hr7.ft
    rw [HR2.out.2.2.1] at ev hst hft
    dsimp only at ev hst hft
    have hf7 : f7 = .pointer none := hft
    have hnN : N'.length = nL + nM := by rw [HR2.out.2.2.2.1, List.length_append, HF.out.2.2.1, HG.out.2.2.1]
    rw [hnN] at ev
    subst ev hf7
    have B7 : Hid (Below w.heap.size w w7) := B6.out.trans (hr7.bel.mono B6.out.size)
    have S7 : Hid (StmtsAt w7 b1 L) := S6.out.under hr7.bel
    have T7 : Hid (StmtsAt w7 b2 M') := T6.out.under hr7.bel
    have X7 : Hid (StmtsAt w7 a6 L') := X6.out.under hr7.bel
    have Y7 : Hid (StmtsAt w7 a7 N') := hst
    obtain ⟨iL, eL, okL, cL⟩ := stmts_sg S7.out
    obtain ⟨iM, eM, okM, cM⟩ := stmts_sg T7.out
    have zL : iL.length = nL := by rw [← HF.out.2.2.1, ← eL, List.length_map]
    have zM : iM.length = nM := by rw [← HG.out.2.2.1, ← eM, List.length_map]
    have GL : Hid (iL.map (·.s) = L ∧ iL.length = nL ∧ (∀ x ∈ iL, SgOk w7 x)) := ⟨eL, zL, okL⟩
    have GM : Hid (iM.map (·.s) = M' ∧ iM.length = nM ∧ (∀ x ∈ iM, SgOk w7 x)) := ⟨eM, zM, okM⟩
    have CL : Hid _ := cL
    have CM : Hid _ := cM
    have HNN : Hid (N'.length = nL + nM) := hnN
    clear hr7 hst hft R2 S6 T6 X6 B6 eL okL cL eM okM cM zL zM hnN
    obtain ⟨N7, hN7⟩ : ∃ N7, w7.heap.size = N7 := ⟨_, rfl⟩
    have H7 : Hid (w7.heap.size = N7) := hN7
    clear hN7
    go_wp2_with (at_builtin; first
      | (refine wpList_append_more (w := w7) rfl _ _ 22 rfl N7 36 iS _ 16 184 Tryd.underlying22 hiS iSz iSs iSb rfl (by decide) _ 0 [] (by rfl) (World.ownsRow_nil _ _ _ _) b1 nL d1 (rowG iL) (by rfl) (by rw [rowG_len, GL.out.2.1]) CL.out (rowG_one _) (by unfold maxLen; omega) (by omega) (Nat.le_of_eq H7.out.symm) ?_
         intro a8 c8 w8 ho8 hb8
         have O8 : Hid (w8.ownsRow N7 36 16 (.slice a8 nL c8) nL (rowG iL)) := by
           have h := ho8
           rw [Nat.zero_add, List.nil_append] at h
           exact h
         have B8 : Hid (Below N7 w7 w8) := hb8
         rw [Nat.zero_add]
         clear ho8 hb8)
      | (refine wpList_append_more (w := w8) rfl _ _ 22 rfl N7 36 iS _ 16 184 Tryd.underlying22 hiS iSz iSs iSb rfl (by decide) _ nL (rowG iL) (by rfl) O8.out b2 nM d2 (rowG iM) (by rfl) (by rw [rowG_len, GM.out.2.1]) (fun j' u' hu' => by
           obtain ⟨ad, e1, e2⟩ := CM.out j' u' hu'
           refine ⟨ad, e1, ?_⟩
           have hlt : (ad.add j').block < w7.heap.size := World.block_lt_of_cell? _ _ e2
           rw [H7.out] at hlt
           exact (B8.out.cell hlt).trans e2) (rowG_one _) (by unfold maxLen; omega) (by omega) (by have h1 := B8.out.size; have h2 := H7.out; omega) ?_
         intro a9 c9 w9 ho9 hb9
         rw [← rowG_append] at ho9
         have O9 : Hid (w9.ownsRow N7 36 16 (.slice a9 (nL + nM) c9) (nL + nM) (rowG (iL ++ iM))) := ho9
         have B9 : Hid (Below w7.heap.size w7 w9) := by
           show Below _ _ _
           rw [H7.out]
           exact B8.out.trans hb9
         have AK : Hid _ := alike_eq w9 a6 b1 nL c6 d1 L' L (by rw [HR2.out.2.1.1]; exact HF.out.2.2.1) (by omega) (fun x hx => by
           obtain ⟨i, hi⟩ := List.getElem?_of_mem hx
           obtain ⟨y, hy⟩ : ∃ y, L[i]? = some y := ⟨_, List.getElem?_eq_getElem (by rw [← HR2.out.2.1.1]; exact (List.getElem?_eq_some_iff.1 hi).1)⟩
           have k := HR2.out.2.1.2 i x y hi hy
           have z := HF.out.2.2.2 y (List.mem_of_getElem? hy)
           rw [texts_len k.w, texts_len k.p]
           exact ⟨z.nw, z.np⟩) HR2.out.2.1 (X7.out.under B9.out) (S7.out.under B9.out)
         clear ho9 hb9 O8 B8))
    refine Calls.mono AK.out ?_
    rintro e w10 ⟨rfl, hb10⟩
    obtain ⟨a9', c9', e9, hst9⟩ := sg_stmts (by rw [List.length_append, GL.out.2.1, GM.out.2.1]) O9.out (fun x hx => by
      rcases List.mem_append.1 hx with hx | hx
      · exact (GL.out.2.2 x hx).under B9.out
      · exact (GM.out.2.2 x hx).under B9.out)
    cases e9
    rw [List.map_append, GL.out.1, GM.out.1] at hst9
    have AK2 : Hid _ := alike_eq w10 a7 a9 (nL + nM) c7 c9 N' (L ++ M') HNN.out (by omega) (fun x hx => by
      obtain ⟨i, hi⟩ := List.getElem?_of_mem hx
      obtain ⟨y, hy⟩ : ∃ y, (L ++ M')[i]? = some y := ⟨_, List.getElem?_eq_getElem (by rw [← HR2.out.2.2.2.1]; exact (List.getElem?_eq_some_iff.1 hi).1)⟩
      have k := HR2.out.2.2.2.2 i x y hi hy
      have z : StmSm y := by
        rcases List.mem_append.1 (List.mem_of_getElem? hy) with h | h
        · exact HF.out.2.2.2 y h
        · exact HG.out.2.2.2 y h
      rw [texts_len k.w, texts_len k.p]
      exact ⟨z.nw, z.np⟩) HR2.out.2.2.2 ((Y7.out.under B9.out).under hb10) (hst9.under hb10)
    have B10 : Hid (Below w.heap.size w w10) := B7.out.trans ((B9.out.mono B7.out.size).trans (hb10.mono (Nat.le_trans B7.out.size B9.out.size)))
    clear hb10 hst9 AK O9 B9 S7 T7 X7 Y7 B7
    go_wp2_with fail
    refine Calls.mono AK2.out ?_
    rintro e w11 ⟨rfl, hb11⟩
    have B11 : Hid (Below w.heap.size w w11) := B10.out.trans (hb11.mono B10.out.size)
    clear hb11 AK2
    go_wp2
    go_ret
    exact ⟨rfl, B11.out⟩
end Go.Proofs.YtipfhfeaalbmcaaDoor

namespace Go.Proofs.YtipfhfeaalbmcaaDoor
open Go.ChangeShapes Go.WideShapes Go.ChangeAt Go.RowKit Go.Deep Go.Shelf Go.Lib

theorem parted_reads (os : Os) {H : Type} (enc : TypeId × Value → H) : ∃ places, DataW.whole enc Tryd.prog ((World.doorLaid Tryd.prog 400 os).forCall (fun _ _ => 0) ⟨#[], #[.slice none 0 0, .slice none 0 0, .slice none 0 0], []⟩).memory Tryd.f6.params.toList Rows.stmtPartedSpec.vars false #[Value.slice none 0 0, Value.slice none 0 0, Value.slice none 0 0].toList 8 = some ([.nil, .nil, .nil], [], places) :=
  ⟨[], by kernel_rfl⟩

set_option maxRecDepth 100000 in
set_option maxHeartbeats 1000000 in
theorem parted_lifted (os : Os) (started : os.Started) (H : Type) (enc : TypeId × Value → H) (F : Stop.Interp) :
    ReturnsInHanded {} Tryd.checked os 6 .any ((Rows.OpenSpec.upto Rows.stmtPartedSpec).preRow enc Tryd.prog Tryd.f6 Rows.stmtPartedUptoRow.domain false Rows.stmtPartedUptoRow.laid) (((Rows.OpenSpec.upto Rows.stmtPartedSpec).at F).post enc Tryd.prog Tryd.f6 false true false false) := by
  obtain ⟨places, hx⟩ := parted_reads os enc
  refine returnsInHanded_of_row (C := Tryd.checked) (s := Rows.OpenSpec.upto Rows.stmtPartedSpec) rown started (by kernel_rfl) Tryd.func6
    (witness_row_at (enc := enc) (C := Tryd.checked) false (World.doorLaid Tryd.prog 400 os) #[.slice none 0 0, .slice none 0 0, .slice none 0 0] rfl (by kernel_rfl) (by kernel_rfl) (by kernel_rfl)
      (OpenSpec.preRow_of_cond 8 hx (by kernel_rfl) (fun k hk => by cases hk; kernel_rfl) (by kernel_rfl) (door_met os _))) ?_
  intro W base args ds gs before hval0 hW _ hcond _ hL hsh _
  have hk := hcond _ rfl
  have hval : ∀ (j : Nat) t v, Tryd.f6.params[j]? = some t → args[j]? = some v → Value.okWide Tryd.prog W .any base t v := hval0
  have hW' := hW
  obtain ⟨p, q, hA0, hV, rfl, hfz, hnd⟩ := hW
  have hA : DataW.TrodAll enc Tryd.prog W 0 (fun _ => true) true Tryd.f6.params.toList args.toList ds p := hA0
  rw [Tryd.params6] at hA hval
  obtain ⟨v0, v1, v2, d0, d1, d2, p0, p1, p2, rfl, rfl, rfl, h0, h1, h2⟩ := trodAll_three hA
  obtain ⟨rfl, rfl⟩ := trodVars_none hV
  obtain ⟨wa0, wn0, wc0, rfl⟩ := okWide_slice Tryd.underlying58 (hval 0 58 v0 rfl rfl)
  obtain ⟨wa1, wn1, wc1, rfl⟩ := okWide_slice Tryd.underlying58 (hval 1 58 v1 rfl rfl)
  obtain ⟨wa2', wn2', wc2', rfl⟩ := okWide_slice Tryd.underlying59 (hval 2 59 v2 rfl rfl)
  have hk0 := h0
  have hk1 := h1
  have hk2 := h2
  obtain ⟨f0, hf0⟩ := h0
  obtain ⟨f1, hf1⟩ := h1
  obtain ⟨f2, hf2⟩ := h2
  simp only [List.append_nil] at hW' hk
  have hbulk : Rows.uptoBulkAll (H := H) [d0, d1, d2] ≤ 1048576 := of_decide_eq_true hk
  simp only [Rows.uptoBulkAll] at hbulk
  have hl0 : ∀ x ∈ p0, x.block < W.heap.size := fun x hx => by simpa using hW'.lt x (by simp [hx])
  have hl1 : ∀ x ∈ p1, x.block < W.heap.size := fun x hx => by simpa using hW'.lt x (by simp [hx])
  have hl2 : ∀ x ∈ p2, x.block < W.heap.size := fun x hx => by simpa using hW'.lt x (by simp [hx])
  obtain ⟨l, hll, hS, hz, hpo⟩ := plans_in hf0
  obtain ⟨m, hml, hM, hy, hmo⟩ := plans_in hf1
  obtain ⟨wa2, ns, wc2, e2, hN, hnb, hnl⟩ := nums_in hf2
  cases e2
  have hz' : wn0 ≤ Rows.uptoBulk d0 := hz
  have hy' : wn1 ≤ Rows.uptoBulk d1 := hy
  have hn' : ns.length ≤ Rows.uptoBulk d2 := hnl
  refine (parted_walk W wa0 wa1 wa2' wn0 wn1 ns.length wc0 wc1 wc2' l m ns hll hml rfl (by omega) (by omega) (by omega) hS hM hN (hpo (by show Rows.uptoBulk d0 ≤ _; omega)) (hmo (by show Rows.uptoBulk d1 ≤ _; omega)) hnb (rdw_of_laid hL hsh)).mono fun e W' ⟨he, bel⟩ => ?_
  subst he
  exact ⟨_, rfl, _, _, _, [], _, [], hW', trodAll_mk1 (shut_bool Tryd.underlying4 _), trodAll_mk3 (Below.trod rlaidOut (by kernel_rfl) (of_decide_eq_true (by kernel_rfl)) hk0 bel hl0) (Below.trod rlaidOut (by kernel_rfl) (of_decide_eq_true (by kernel_rfl)) hk1 bel hl1) (Below.trod rlaidOut (by kernel_rfl) (of_decide_eq_true (by kernel_rfl)) hk2 bel hl2), rfl, bel.frame _, fun h => by cases h⟩

theorem parted_row : Rows.StmtPartedUptoSaid :=
  OpenClaim.holds_of_cond 6 Tryd.f6 rfl rfl rfl rfl rfl rfl rfl ⟨rfl, rfl, rfl, rfl, rfl⟩ rfl rfl rfl rfl rfl (by kernel_rfl) Tryd.func6 (by kernel_rfl)
    (of_decide_eq_true (by kernel_rfl)) (by unfold Func.isWrapper; first | (rw [if_pos (by decide +kernel)]; kernel_rfl) | (rw [if_neg (by decide +kernel)]; exact ⟨rfl, rfl⟩))
    (fun os started H enc _ F => by rw [OpenClaim.pre_eq_preRow]; exact parted_lifted os started H enc F)

theorem parted_holds : Rows.StmtPartedUptoCardSaid :=
  Claim7.holds_tied_plain_at .later [] _ _ _ _ parted_row (fun _ h => by cases h) (by kernel_rfl) (fun _ h => by cases h) stmtPartedUpto_row_tie rfl ⟨rfl, rfl⟩ (by kernel_rfl) rfl
    (fun f fn hf hfn => by
      obtain rfl : f = 6 := Option.some.inj ((show Tryd.prog.funcNamed "lemma/lemmalaw06.StmtParted" = some 6 by kernel_rfl).symm.trans hf) |>.symm
      obtain rfl : fn = Tryd.f6 := (Option.some.inj (Tryd.func6.symm.trans hfn)).symm
      exact ⟨by kernel_rfl, fun j t ht => by
        rw [Tryd.params6] at ht
        have hm : t ∈ [58, 58, 59] := by simpa using Array.mem_of_getElem? ht
        have hall : ([58, 58, 59].all fun u => !Tryd.prog.wantsStandIn u) = true := by kernel_rfl
        exact (show Tryd.prog.wantsStandIn t = false by simpa using List.all_eq_true.1 hall t hm)⟩)
    (by kernel_rfl)
#print axioms parted_holds
end Go.Proofs.YtipfhfeaalbmcaaDoor
