/- Words with blanks and comments about them: what a scan tells of such a text: said without the program. -/
import Derived.Test.YtekbddpdcjbinaaDoorSame
namespace Go.Proofs.YtekbddpdcjbinaaDoor

/-- The words of a row of bytes; cur: what of a word has been read. -/
def cutW : List UInt8 → List UInt8 → List (List UInt8)
  | cur, [] => if cur.isEmpty then [] else [cur]
  | cur, b :: r => if kindF b.toNat = 1 then (if cur.isEmpty then [] else [cur]) ++ cutW [] r else cutW (cur ++ [b]) r
/-- An event's text, and its error. -/
def textOf (e : Tok × Int) : List UInt8 × Int := (e.1.text.data.toList, e.2)
theorem cur_len (s : ByteArray) (start k : Nat) (h1 : start ≤ k) (h2 : k ≤ s.size) : ((s.data.toList.drop start).take (k - start)).length = k - start := by
  have : s.data.toList.length = s.size := rfl
  rw [List.length_take, List.length_drop, this]; omega
theorem cur_empty (s : ByteArray) (start k : Nat) (h1 : start ≤ k) (h2 : k ≤ s.size) : ((s.data.toList.drop start).take (k - start)).isEmpty = !decide (start < k) := by
  have h := cur_len s start k h1 h2
  cases hc : (s.data.toList.drop start).take (k - start) with
  | nil =>
    rw [hc] at h; simp at h
    simp; omega
  | cons a m =>
    rw [hc] at h; simp at h
    simp; omega
theorem cur_text (s : ByteArray) (start k line ls : Nat) : (wordAt s start k line ls).text.data.toList = (s.data.toList.drop start).take (k - start) := by
  unfold wordAt; rw [Lib.extract_data]
theorem cur_more (s : ByteArray) (start k : Nat) (h1 : start ≤ k) (h2 : k < s.size) : (s.data.toList.drop start).take (k + 1 - start) = (s.data.toList.drop start).take (k - start) ++ [s[k]] := by
  rw [show k + 1 - start = k - start + 1 by omega, List.take_add_one]
  congr 1
  rw [List.getElem?_drop, show start + (k - start) = k by omega, List.getElem?_eq_getElem (by simpa using h2)]
  rfl
theorem app2 {α : Type} {a b c d : List α} (h1 : a = c) (h2 : b = d) : a ++ b = c ++ d := by rw [h1, h2]
theorem evs_cut (s : ByteArray) (hs : s.size ≤ 65536) (hk : ∀ k (h : k < s.size), kindF s[k].toNat ≠ 0) : ∀ (j k start line ls : Nat), k + j = s.size → start ≤ k →
    (evs s (s.data.toList.drop k) k start line ls).map textOf = (cutW ((s.data.toList.drop start).take (k - start)) (s.data.toList.drop k)).map (fun w => (w, (0 : Int))) := by
  intro j
  induction j with
  | zero =>
    intro k start line ls hj hst
    rw [ev_end s k start line ls (by omega), drop_end s k (by omega), cutW, cur_empty s start k hst (by omega)]
    by_cases h : start < k
    · rw [if_pos h]; simp [h, textOf, cur_text]
    · rw [if_neg h]; simp [h]
  | succ j ih =>
    intro k start line ls hj hst
    have hlt : k < s.size := by omega
    have hne : ¬ k = 65536 := by omega
    have hc : codeAt k s[k] = 0 := by unfold codeAt; rw [if_neg hne, if_neg (hk k hlt)]
    by_cases hb : kindF s[k].toNat = 1
    · rw [ev_blank s k start line ls hlt hc hb, drop_cons s k hlt, cutW, if_pos hb, List.map_append, List.map_append, ih (k + 1) (k + 1) _ _ (by omega) (Nat.le_refl _), cur_empty s start k hst (by omega)]
      refine app2 ?_ ?_
      · by_cases h : start < k
        · rw [if_pos h]; simp [h, textOf, cur_text]
        · rw [if_neg h]; simp [h]
      · rw [Nat.sub_self, List.take_zero]
    · rw [ev_skip s k start line ls hlt hc hb, ih (k + 1) start line ls (by omega) (by omega), drop_cons s k hlt, cutW, if_neg hb, cur_more s start k hst hlt]
theorem events_cut (s : ByteArray) (hs : s.size ≤ 65536) (hk : ∀ k (h : k < s.size), kindF s[k].toNat ≠ 0) : (events s).map textOf = (cutW [] s.data.toList).map (fun w => (w, (0 : Int))) := by
  have := evs_cut s hs hk s.size 0 0 1 0 (by omega) (Nat.le_refl _)
  simpa [events] using this

/-- What may stand between two words, by its number. -/
def gapL : Nat → List UInt8
  | 0 => [32] | 1 => [10] | 2 => [9] | 3 => [13, 10] | 4 => [12] | 5 => [32, 10, 32]
  | 6 => [32, 36, 40, 32, 36, 41, 32]
  | 7 => [10, 36, 40, 32, 97, 32, 99, 111, 109, 109, 101, 110, 116, 32, 36, 99, 32, 36, 46, 32, 36, 41, 10]
  | _ => [32, 36, 40, 32, 120, 32, 36, 41, 32, 36, 40, 32, 121, 36, 32, 36, 41, 32]
/-- The words that stand in it. -/
def gapW : Nat → List (List UInt8)
  | 6 => [[36, 40], [36, 41]]
  | 7 => [[36, 40], [97], [99, 111, 109, 109, 101, 110, 116], [36, 99], [36, 46], [36, 41]]
  | 0 => [] | 1 => [] | 2 => [] | 3 => [] | 4 => [] | 5 => []
  | _ => [[36, 40], [120], [36, 41], [36, 40], [121, 36], [36, 41]]
theorem gap_cases (k : Nat) : (gapL k, gapW k) ∈ [(gapL 0, gapW 0), (gapL 1, gapW 1), (gapL 2, gapW 2), (gapL 3, gapW 3), (gapL 4, gapW 4), (gapL 5, gapW 5), (gapL 6, gapW 6), (gapL 7, gapW 7), (gapL 8, gapW 8)] := by
  match k with
  | 0 => simp
  | 1 => simp
  | 2 => simp
  | 3 => simp
  | 4 => simp
  | 5 => simp
  | 6 => simp
  | 7 => simp
  | n + 8 => show (gapL 8, gapW 8) ∈ _; simp
theorem cut_word (w : List UInt8) (hw : ∀ b ∈ w, kindF b.toNat ≠ 1) : ∀ (cur r : List UInt8), cutW cur (w ++ r) = cutW (cur ++ w) r := by
  induction w with
  | nil => intro cur r; simp
  | cons b w ih =>
    intro cur r
    rw [List.cons_append, cutW, if_neg (hw b List.mem_cons_self), ih (fun x hx => hw x (List.mem_cons_of_mem _ hx)), List.append_assoc]; rfl
set_option maxRecDepth 100000 in
/-- A gap behind what has been read of a word. -/
theorem cut_gap (k : Nat) (cur r : List UInt8) : cutW cur (gapL k ++ r) = (if cur.isEmpty then [] else [cur]) ++ (gapW k ++ cutW [] r) := by
  have h := gap_cases k
  simp only [List.mem_cons, List.not_mem_nil, or_false, Prod.mk.injEq] at h
  rcases h with ⟨e1, e2⟩ | ⟨e1, e2⟩ | ⟨e1, e2⟩ | ⟨e1, e2⟩ | ⟨e1, e2⟩ | ⟨e1, e2⟩ | ⟨e1, e2⟩ | ⟨e1, e2⟩ | ⟨e1, e2⟩ <;> rw [e1, e2] <;> rfl

/-- A word that the law lays: word bytes, no dollar sign. -/
def Plain (w : List UInt8) : Prop := w ≠ [] ∧ ∀ b ∈ w, 2 ≤ kindF b.toNat ∧ b ≠ 36
theorem plain_open {w : List UInt8} (h : Plain w) : (w == [36, 40]) = false ∧ (w == [36, 41]) = false := by
  constructor
  · rw [beq_eq_false_iff_ne]; intro e; rw [e] at h; exact (h.2 36 (by simp)).2 rfl
  · rw [beq_eq_false_iff_ne]; intro e; rw [e] at h; exact (h.2 36 (by simp)).2 rfl
theorem takeF_plain (told : List Tok) (t : Tok) (h : Plain t.text.data.toList) : takeF ⟨told, zeroTok⟩ t = if told.length = 16384 then (13, ⟨told, zeroTok⟩) else (0, ⟨told ++ [t], zeroTok⟩) := by
  have h0 : ¬ inCmt ⟨told, zeroTok⟩ = true := by rw [inCmt_data]; show ¬ (!zeroTok.text.data.toList.isEmpty) = true; decide
  have h1 : ¬ isOpen t.text = true := by rw [isOpen_data, (plain_open h).1]; decide
  have h2 : ¬ isShut t.text = true := by rw [isShut_data, (plain_open h).2]; decide
  unfold takeF
  rw [if_neg h0, if_neg h1, if_neg h2]
theorem runF_cons0 (r : Rd) (t : Tok) (es : List (Tok × Int)) (r' : Rd) (h : takeF r t = (0, r')) : runF r ((t, 0) :: es) = runF r' es := by
  simp only [runF, h, if_true]
/-- A comment: its words change nothing. -/
theorem run_cmt (told : List Tok) (es : List (Tok × Int)) : ∀ (mid : List (Tok × Int)) (o : Tok), o.text.data.toList = [36, 40] → (∀ e ∈ mid, e.2 = 0 ∧ isShut e.1.text = false ∧ hasMark e.1.text = false) → ∀ z : Tok, z.text.data.toList = [36, 41] →
    runF ⟨told, o⟩ (mid ++ (z, 0) :: es) = runF ⟨told, zeroTok⟩ es := by
  intro mid
  induction mid with
  | nil =>
    intro o ho _ z hz
    have hi : inCmt ⟨told, o⟩ = true := by rw [inCmt_data, ho]; rfl
    refine runF_cons0 _ _ _ _ ?_
    unfold takeF takeC
    rw [if_pos hi, if_pos (by rw [isShut_data, hz]; rfl)]
  | cons e mid ih =>
    intro o ho hm z hz
    obtain ⟨t, c⟩ := e
    obtain ⟨hc, h1, h2⟩ := hm (t, c) List.mem_cons_self
    have hc' : c = 0 := hc
    subst hc'
    have hi : inCmt ⟨told, o⟩ = true := by rw [inCmt_data, ho]; rfl
    rw [List.cons_append, runF_cons0 ⟨told, o⟩ t _ ⟨told, o⟩ (by unfold takeF takeC; rw [if_pos hi, if_neg (by rw [h1]; decide), if_neg (by rw [h2]; decide)])]
    exact ih o ho (fun x hx => hm x (List.mem_cons_of_mem _ hx)) z hz
theorem run_open (told : List Tok) (t : Tok) (ht : t.text.data.toList = [36, 40]) (es : List (Tok × Int)) : runF ⟨told, zeroTok⟩ ((t, 0) :: es) = runF ⟨told, t⟩ es := by
  have h0 : ¬ inCmt ⟨told, zeroTok⟩ = true := by rw [inCmt_data]; show ¬ (!zeroTok.text.data.toList.isEmpty) = true; decide
  refine runF_cons0 _ _ _ _ ?_
  unfold takeF
  rw [if_neg h0, if_pos (by rw [isOpen_data, ht]; rfl)]
theorem mid_ok (t : Tok) (w : List UInt8) (h : t.text.data.toList = w) (h1 : (w == [36, 41]) = false) (h2 : (Lib.contains w [36, 40] || Lib.contains w [36, 41]) = false) : isShut t.text = false ∧ hasMark t.text = false := by
  refine ⟨by rw [isShut_data, h]; exact h1, ?_⟩
  unfold hasMark; rw [h]; exact h2
/-- A gap's words change nothing. -/
theorem run_gap (k : Nat) (told : List Tok) (G es : List (Tok × Int)) (h : G.map textOf = (gapW k).map (fun w => (w, (0 : Int)))) : runF ⟨told, zeroTok⟩ (G ++ es) = runF ⟨told, zeroTok⟩ es := by
  have hk := gap_cases k
  simp only [List.mem_cons, List.not_mem_nil, or_false, Prod.mk.injEq] at hk
  have nil : gapW k = [] → runF ⟨told, zeroTok⟩ (G ++ es) = runF ⟨told, zeroTok⟩ es := by
    intro e
    rw [e] at h
    have : G = [] := by simpa using h
    rw [this]; rfl
  have one : ∀ (ws : List (List UInt8)), (∀ w ∈ ws, (w == [36, 41]) = false ∧ (Lib.contains w [36, 40] || Lib.contains w [36, 41]) = false) → ∀ (H es : List (Tok × Int)), H.map textOf = ([36, 40] :: ws ++ [[36, 41]]).map (fun w => (w, (0 : Int))) → runF ⟨told, zeroTok⟩ (H ++ es) = runF ⟨told, zeroTok⟩ es := by
    intro ws hw H es hH
    rw [List.cons_append, List.map_cons] at hH
    obtain ⟨a, H', rfl, ha, hH⟩ := List.map_eq_cons_iff.1 hH
    rw [List.map_append] at hH
    obtain ⟨m, z, rfl, hm, hz⟩ := List.map_eq_append_iff.1 hH
    obtain ⟨ta, ca⟩ := a
    simp only [textOf, Prod.mk.injEq] at ha
    obtain ⟨ha1, rfl⟩ := ha
    rw [List.map_cons, List.map_nil] at hz
    obtain ⟨b, z', rfl, hb, hz'⟩ := List.map_eq_cons_iff.1 hz
    have hz0 : z' = [] := by simpa using hz'
    subst hz0
    obtain ⟨tb, cb⟩ := b
    simp only [textOf, Prod.mk.injEq] at hb
    obtain ⟨hb1, rfl⟩ := hb
    rw [List.cons_append, run_open told ta ha1, List.append_assoc]
    refine run_cmt told es m ta ha1 (fun e he => ?_) tb hb1
    have hme : textOf e ∈ ws.map (fun w => (w, (0 : Int))) := by rw [← hm]; exact List.mem_map_of_mem he
    obtain ⟨w, hw1, hw2⟩ := List.mem_map.1 hme
    simp only [textOf, Prod.mk.injEq] at hw2
    exact ⟨hw2.2.symm, mid_ok e.1 w hw2.1.symm (hw w hw1).1 (hw w hw1).2⟩
  rcases hk with ⟨_, e⟩ | ⟨_, e⟩ | ⟨_, e⟩ | ⟨_, e⟩ | ⟨_, e⟩ | ⟨_, e⟩ | ⟨_, e⟩ | ⟨_, e⟩ | ⟨_, e⟩
  · exact nil e
  · exact nil e
  · exact nil e
  · exact nil e
  · exact nil e
  · exact nil e
  · rw [e] at h; exact one [] (fun w hw => by cases hw) G es h
  · rw [e] at h; exact one [[97], [99, 111, 109, 109, 101, 110, 116], [36, 99], [36, 46]] (by decide) G es h
  · rw [e] at h
    have e8 : gapW 8 = ([36, 40] :: [[120]] ++ [[36, 41]]) ++ ([36, 40] :: [[121, 36]] ++ [[36, 41]]) := rfl
    rw [e8, List.map_append] at h
    obtain ⟨A, B, rfl, hA, hB⟩ := List.map_eq_append_iff.1 h
    rw [List.append_assoc, one [[120]] (by decide) A _ hA, one [[121, 36]] (by decide) B _ hB]
/-- Words and gaps one behind the other. -/
theorem run_spread : ∀ (ws : List (List UInt8 × Nat)) (E : List (Tok × Int)) (told : List Tok), E.map textOf = (ws.flatMap (fun p => p.1 :: gapW p.2)).map (fun w => (w, (0 : Int))) → (∀ p ∈ ws, Plain p.1) → told.length ≤ 16384 →
    (told.length + ws.length ≤ 16384 → ∃ ts, runF ⟨told, zeroTok⟩ E = (⟨told ++ ts, zeroTok⟩, none) ∧ ts.map (fun t => t.text.data.toList) = ws.map (·.1)) ∧
    (16384 < told.length + ws.length → ∃ r t, runF ⟨told, zeroTok⟩ E = (r, some (t, 13)) ∧ r.told.length = 16384) := by
  intro ws
  induction ws with
  | nil =>
    intro E told hE _ hl
    have : E = [] := by simpa using hE
    subst this
    exact ⟨fun _ => ⟨[], by simp [runF], rfl⟩, fun h => by simp at h; omega⟩
  | cons p ws ih =>
    intro E told hE hp hl
    rw [List.flatMap_cons, List.cons_append, List.map_cons, List.map_append] at hE
    obtain ⟨a, E', rfl, ha, hE⟩ := List.map_eq_cons_iff.1 hE
    obtain ⟨G, R, rfl, hG, hR⟩ := List.map_eq_append_iff.1 hE
    obtain ⟨t, c⟩ := a
    simp only [textOf, Prod.mk.injEq] at ha
    obtain ⟨ha, rfl⟩ := ha
    have hP : Plain t.text.data.toList := by rw [ha]; exact hp p List.mem_cons_self
    have htk := takeF_plain told t hP
    by_cases hf : told.length = 16384
    · rw [if_pos hf] at htk
      refine ⟨fun h => by simp at h; omega, fun _ => ⟨⟨told, zeroTok⟩, t, ?_, hf⟩⟩
      simp only [runF, htk, if_true, show ¬ (13 : Int) = 0 by omega, if_false]
    · rw [if_neg hf] at htk
      rw [runF_cons0 _ _ _ _ htk, run_gap p.2 (told ++ [t]) G R hG]
      have hi := ih R (told ++ [t]) hR (fun q hq => hp q (List.mem_cons_of_mem _ hq)) (by simp; omega)
      have hlen : (told ++ [t]).length = told.length + 1 := by simp
      refine ⟨fun h => ?_, fun h => ?_⟩
      · obtain ⟨ts, h1, h2⟩ := hi.1 (by rw [hlen]; simp at h; omega)
        exact ⟨t :: ts, by rw [h1]; simp, by simp [ha, h2]⟩
      · exact hi.2 (by rw [hlen]; simp at h; omega)

/-- The bytes of words with gaps behind them. -/
def layL (ws : List (List UInt8 × Nat)) : List UInt8 := ws.flatMap (fun p => p.1 ++ gapL p.2)
theorem cut_lay : ∀ ws : List (List UInt8 × Nat), (∀ p ∈ ws, Plain p.1) → cutW [] (layL ws) = ws.flatMap (fun p => p.1 :: gapW p.2) := by
  intro ws
  induction ws with
  | nil => intro _; rfl
  | cons p ws ih =>
    intro hp
    have hP := hp p List.mem_cons_self
    have hne : p.1.isEmpty = false := by
      cases h : p.1 with
      | nil => exact absurd h hP.1
      | cons _ _ => rfl
    have e : layL (p :: ws) = p.1 ++ (gapL p.2 ++ layL ws) := by simp [layL]
    rw [e, cut_word p.1 (fun b hb h => by have := (hP.2 b hb).1; omega), List.nil_append, cut_gap, hne, ih (fun q hq => hp q (List.mem_cons_of_mem _ hq)), List.flatMap_cons]
    rfl
set_option maxRecDepth 100000 in
theorem gap_kinds (k : Nat) : (∀ b ∈ gapL k, kindF b.toNat ≠ 0) ∧ (gapL k).length ≤ 23 := by
  have hk := gap_cases k
  simp only [List.mem_cons, List.not_mem_nil, or_false, Prod.mk.injEq] at hk
  rcases hk with ⟨e, _⟩ | ⟨e, _⟩ | ⟨e, _⟩ | ⟨e, _⟩ | ⟨e, _⟩ | ⟨e, _⟩ | ⟨e, _⟩ | ⟨e, _⟩ | ⟨e, _⟩ <;> rw [e] <;> decide
theorem lay_kinds : ∀ ws : List (List UInt8 × Nat), (∀ p ∈ ws, Plain p.1) → ∀ b ∈ layL ws, kindF b.toNat ≠ 0 := by
  intro ws hp b hb
  obtain ⟨p, hpm, hb⟩ := List.mem_flatMap.1 hb
  rcases List.mem_append.1 hb with h | h
  · have := ((hp p hpm).2 b h).1; omega
  · exact (gap_kinds p.2).1 b h
/-- What a scan tells of words with gaps about them. -/
theorem spread_scan (s : ByteArray) (g : Option Nat) (ws : List (List UInt8 × Nat)) (hs : s.data.toList = (match g with | none => [] | some k => gapL k) ++ layL ws) (h6 : s.size ≤ 65536) (hp : ∀ p ∈ ws, Plain p.1) :
    (ws.length ≤ 16384 → (scanF s).2 = none ∧ (scanF s).1.map (fun t => t.text.data.toList) = ws.map (·.1)) ∧
    (16384 < ws.length → ∃ t, (scanF s).2 = some (t, 13) ∧ (scanF s).1.length = 16384) := by
  have hk : ∀ k (h : k < s.size), kindF s[k].toNat ≠ 0 := by
    intro k h
    have hm : s[k] ∈ s.data.toList := by
      have : s.data.toList[k]? = some s[k] := by rw [List.getElem?_eq_getElem (by simpa using h)]; rfl
      exact List.mem_of_getElem? this
    rw [hs] at hm
    rcases List.mem_append.1 hm with h | h
    · cases g with
      | none => cases h
      | some k0 => exact (gap_kinds k0).1 _ h
    · exact lay_kinds ws hp _ h
  have he := events_cut s h6 hk
  have run0 : ∃ E, runF rd0 (events s) = runF ⟨[], zeroTok⟩ E ∧ E.map textOf = (ws.flatMap (fun p => p.1 :: gapW p.2)).map (fun w => (w, (0 : Int))) := by
    rw [hs] at he
    cases g with
    | none =>
      rw [List.nil_append, cut_lay ws hp] at he
      exact ⟨events s, rfl, he⟩
    | some k0 =>
      rw [cut_gap, List.isEmpty_nil, if_pos rfl, List.nil_append, cut_lay ws hp, List.map_append] at he
      obtain ⟨G, R, hGR, hG, hR⟩ := List.map_eq_append_iff.1 he
      exact ⟨R, by rw [hGR]; exact run_gap k0 [] G R hG, hR⟩
  obtain ⟨E, hE1, hE2⟩ := run0
  obtain ⟨r1, r2⟩ := run_spread ws E [] hE2 hp (Nat.zero_le _)
  have hz : inCmt ⟨[], zeroTok⟩ = false := by rw [inCmt_data]; rfl
  refine ⟨fun h => ?_, fun h => ?_⟩
  · obtain ⟨ts, h1, h2⟩ := r1 (by simpa using h)
    have hz' : inCmt ⟨[] ++ ts, zeroTok⟩ = false := by rw [inCmt_data]; rfl
    unfold scanF
    rw [hE1, h1]
    simp only [hz', Bool.false_eq_true, if_false]
    exact ⟨trivial, by simpa using h2⟩
  · obtain ⟨r, t, h1, h2⟩ := r2 (by simpa using h)
    unfold scanF
    rw [hE1, h1]
    exact ⟨t, rfl, h2⟩

/-- The word that the law makes of a string's bytes. -/
def goodB (b : UInt8) : Bool := decide (2 ≤ kindF b.toNat) && !(b == 36)
def wordL (l : List UInt8) : List UInt8 := (l.filter goodB).take 40
def wordB (l : List UInt8) : List UInt8 := if (wordL l).isEmpty then [119] else wordL l
theorem wordB_plain (l : List UInt8) : Plain (wordB l) ∧ (wordB l).length ≤ 40 := by
  unfold wordB
  by_cases h : (wordL l).isEmpty = true
  · rw [if_pos h]
    refine ⟨⟨by simp, fun b hb => ?_⟩, by simp⟩
    have : b = 119 := by simpa using hb
    subst this; decide
  · rw [if_neg h]
    refine ⟨⟨fun e => h (by rw [e]; rfl), fun b hb => ?_⟩, by unfold wordL; rw [List.length_take]; omega⟩
    have hb' : goodB b = true := (List.mem_filter.1 (List.mem_of_mem_take hb)).2
    unfold goodB at hb'
    simp only [Bool.and_eq_true, decide_eq_true_eq, Bool.not_eq_true', beq_eq_false_iff_ne] at hb'
    exact hb'
/-- The gap's number of any number. -/
def gapN (n : Int) : Nat := (n.tmod 9).natAbs
end Go.Proofs.YtekbddpdcjbinaaDoor
