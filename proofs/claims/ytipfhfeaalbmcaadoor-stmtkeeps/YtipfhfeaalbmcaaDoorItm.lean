/- Statements that have begun: where they lie, how they turn. -/
import Derived.Test.YtipfhfeaalbmcaaDoorAddW
namespace Go.Proofs.YtipfhfeaalbmcaaDoor
open Go.RowKit

def zTok : Tok := ⟨⟨#[]⟩, 0, 0, 0⟩
def clauseF (k : Int) (lb ky : Tok) (wd : Value) (fn : Tok) : Array Value := #[.int .i64 k, .string lb.text, .int .i64 lb.off, .int .i64 lb.line, .int .i64 lb.col, .string ky.text, .int .i64 ky.off, .int .i64 ky.line, .int .i64 ky.col, wd, .string fn.text, .int .i64 fn.off, .int .i64 fn.line, .int .i64 fn.col]
def theoremF (k : Int) (lb ky : Tok) (wd : Value) (fn : Tok) (pr : Bool) (pf : Value) : Array Value := #[.int .i64 k, .string lb.text, .int .i64 lb.off, .int .i64 lb.line, .int .i64 lb.col, .string ky.text, .int .i64 ky.off, .int .i64 ky.line, .int .i64 ky.col, wd, .string fn.text, .int .i64 fn.off, .int .i64 fn.line, .int .i64 fn.col, .bool pr, pf]
/-- A statement that has begun: its block, and the slices of its words and of its proof. -/
structure Itm where
  s : Stm
  g : Nat
  vw : Value
  vp : Value
def brk (k : Int) : Bool := decide (k = 8) || decide (k = 9)
def itmC (x : Itm) : Array Value := if brk x.s.kind then brackC x.s.kind x.s.key else if x.s.kind = 7 then theoremF x.s.kind x.s.label x.s.key x.vw x.s.fin x.s.proving x.vp else clauseF x.s.kind x.s.label x.s.key x.vw x.s.fin
def itmT (x : Itm) : TypeId := if brk x.s.kind then 126 else if x.s.kind = 7 then 120 else 118
def itmY (x : Itm) : TypeId := if brk x.s.kind then 123 else if x.s.kind = 7 then 116 else 121
def itmI (x : Itm) : Value := .iface (itmY x) (.pointer (some ⟨x.g, 0, none⟩))
theorem itmC_thm {x : Itm} (h7 : x.s.kind = 7) : itmC x = theoremF x.s.kind x.s.label x.s.key x.vw x.s.fin x.s.proving x.vp := by
  have hb : brk x.s.kind = false := by rw [h7]; rfl
  unfold itmC
  rw [if_neg (by rw [hb]; exact Bool.false_ne_true), if_pos h7]
theorem itmC_cl {x : Itm} (hb : brk x.s.kind = false) (h7 : x.s.kind ≠ 7) : itmC x = clauseF x.s.kind x.s.label x.s.key x.vw x.s.fin := by
  unfold itmC
  rw [if_neg (by rw [hb]; exact Bool.false_ne_true), if_neg h7]
theorem itmC_br {x : Itm} (hb : brk x.s.kind = true) : itmC x = brackC x.s.kind x.s.key := by
  unfold itmC
  rw [if_pos hb]
def blk (x : Itm) (b : Nat) : Prop := b = x.g ∨ x.vw.ownBlock = some b ∨ x.vp.ownBlock = some b
/-- How it lies. -/
structure ItmAt (W : World) (N : Nat) (x : Itm) : Prop where
  k1 : 1 ≤ x.s.kind
  k9 : x.s.kind ≤ 9
  box : W.heap[x.g]? = some (.cells (itmC x) (itmT x) (0, 0))
  ge : N ≤ x.g
  ow : W.ownsRow N 34 4 x.vw x.s.words.length (rowT x.s.words)
  op : W.ownsRow N 34 4 x.vp x.s.proof.length (rowT x.s.proof)
  gw : x.vw.ownBlock ≠ some x.g
  gp : x.vp.ownBlock ≠ some x.g
  wp : ∀ b, x.vw.ownBlock = some b → x.vp.ownBlock ≠ some b
  nt : x.s.kind ≠ 7 → x.s.proof = [] ∧ x.s.proving = false ∧ x.vp = .slice none 0 0
  nb : brk x.s.kind = true → x.s.words = [] ∧ x.vw = .slice none 0 0 ∧ x.s.label = zTok ∧ x.s.fin = x.s.key
theorem ItmAt.lt {W : World} {N : Nat} {x : Itm} (h : ItmAt W N x) : ∀ b, blk x b → b < W.heap.size := fun b e => by
  rcases e with rfl | e | e
  · exact (Array.getElem?_eq_some_iff.1 h.box).1
  · exact M.own_lt h.ow b e
  · exact M.own_lt h.op b e
theorem ItmAt.ge' {W : World} {N : Nat} {x : Itm} (h : ItmAt W N x) : ∀ b, blk x b → N ≤ b := fun b e => by
  rcases e with rfl | e | e
  · exact h.ge
  · exact M.own_ge' h.ow b e
  · exact M.own_ge' h.op b e
theorem ItmAt.ch {W W' : World} {N : Nat} {x : Itm} {X : Nat → Prop} (h : ItmAt W N x) (hc : M.Ch X W W') (hx : ∀ b, blk x b → ¬ X b) : ItmAt W' N x :=
  ⟨h.k1, h.k9, (hc.block x.g (h.lt _ (.inl rfl)) (hx _ (.inl rfl))).trans h.box, h.ge, M.owns_ch h.ow hc fun b e => hx b (.inr (.inl e)), M.owns_ch h.op hc fun b e => hx b (.inr (.inr e)), h.gw, h.gp, h.wp, h.nt, h.nb⟩
theorem ItmAt.under {W W' : World} {N : Nat} {x : Itm} (h : ItmAt W N x) (hb : Below W.heap.size W W') : ItmAt W' N x := h.ch (M.Ch.of_below (X := fun _ => False) hb) fun _ _ e => e
/-- One that turns: its block stays, its rows stay or are new. -/
structure Step (w w' : World) (N : Nat) (x x' : Itm) : Prop where
  at' : ItmAt w' N x'
  g : x'.g = x.g
  y : itmY x' = itmY x
  bl : ∀ b, blk x' b → blk x b ∨ w.heap.size ≤ b
  ch : M.Ch (blk x) w w'
theorem Step.refl {w : World} {N : Nat} {x : Itm} (h : ItmAt w N x) : Step w w N x x := ⟨h, rfl, rfl, fun _ e => .inl e, M.Ch.refl _ _⟩
theorem Step.below {w w' : World} {N : Nat} {x : Itm} (h : ItmAt w N x) (hb : Below w.heap.size w w') : Step w w' N x x := ⟨h.under hb, rfl, rfl, fun _ e => .inl e, M.Ch.of_below hb⟩
theorem Step.from {w w0 w' : World} {N : Nat} {x x' : Itm} (hb : Below w.heap.size w w0) (h : Step w0 w' N x x') : Step w w' N x x' :=
  ⟨h.at', h.g, h.y, fun b e => (h.bl b e).elim .inl fun e => .inr (Nat.le_trans hb.size e), (M.Ch.of_below hb).trans h.ch⟩
theorem Step.iface {w w' : World} {N : Nat} {x x' : Itm} (h : Step w w' N x x') : itmI x' = itmI x := by unfold itmI; rw [h.y, h.g]

theorem itm_words {w w' : World} {N : Nat} {x : Itm} {tk : Tok} (h : ItmAt w N x) (hb : brk x.s.kind = false) (ha : AppPost w w' N x.g 9 (itmC x) (itmT x) x.vw x.s.words tk) : ∃ x', x'.s = { x.s with words := x.s.words ++ [tk] } ∧ Step w w' N x x' := by
  obtain ⟨v', h1, h2, h3, h4⟩ := ha
  have hc : (itmC x).setIfInBounds 9 v' = itmC ⟨{ x.s with words := x.s.words ++ [tk] }, x.g, v', x.vp⟩ := by
    by_cases h7 : x.s.kind = 7
    · rw [itmC_thm h7, itmC_thm (x := ⟨{ x.s with words := x.s.words ++ [tk] }, x.g, v', x.vp⟩) h7]; rfl
    · rw [itmC_cl hb h7, itmC_cl (x := ⟨{ x.s with words := x.s.words ++ [tk] }, x.g, v', x.vp⟩) hb h7]; rfl
  have lg : x.g < w.heap.size := h.lt _ (.inl rfl)
  refine ⟨⟨{ x.s with words := x.s.words ++ [tk] }, x.g, v', x.vp⟩, rfl, ⟨h.k1, h.k9, ?_, h.ge, by simpa using h1, M.owns_ch h.op h3 fun b e e2 => ?_, fun e => ?_, h.gp, fun b e e2 => ?_, h.nt, fun e => ?_⟩, rfl, rfl, fun b e => ?_, h3.mono fun b e => ?_⟩
  · rw [← hc]; exact h4
  · rcases e2 with rfl | e2
    · exact h.gp e
    · exact h.wp b e2 e
  · rcases h2 _ e with e | e
    · exact h.gw e
    · exact absurd lg (Nat.not_lt.2 e)
  · rcases h2 _ e with e | e
    · exact h.wp b e e2
    · have := M.own_lt h.op b e2; omega
  · have e' : brk x.s.kind = true := e
    rw [hb] at e'; cases e'
  · rcases e with rfl | e | e
    · exact .inl (.inl rfl)
    · exact (h2 b e).elim (fun e => .inl (.inr (.inl e))) .inr
    · exact .inl (.inr (.inr e))
  · exact e.elim .inl fun e => .inr (.inl e)
theorem itm_proof {w w' : World} {N : Nat} {x : Itm} {tk : Tok} (h : ItmAt w N x) (h7 : x.s.kind = 7) (ha : AppPost w w' N x.g 15 (itmC x) (itmT x) x.vp x.s.proof tk) : ∃ x', x'.s = { x.s with proof := x.s.proof ++ [tk] } ∧ Step w w' N x x' := by
  obtain ⟨v', h1, h2, h3, h4⟩ := ha
  have hb : brk x.s.kind = false := by rw [h7]; rfl
  have hc : (itmC x).setIfInBounds 15 v' = itmC ⟨{ x.s with proof := x.s.proof ++ [tk] }, x.g, x.vw, v'⟩ := by
    rw [itmC_thm h7, itmC_thm (x := ⟨{ x.s with proof := x.s.proof ++ [tk] }, x.g, x.vw, v'⟩) h7]; rfl
  have lg : x.g < w.heap.size := h.lt _ (.inl rfl)
  refine ⟨⟨{ x.s with proof := x.s.proof ++ [tk] }, x.g, x.vw, v'⟩, rfl, ⟨h.k1, h.k9, ?_, h.ge, M.owns_ch h.ow h3 fun b e e2 => ?_, by simpa using h1, h.gw, fun e => ?_, fun b e e2 => ?_, fun e => absurd h7 e, fun e => ?_⟩, rfl, rfl, fun b e => ?_, h3.mono fun b e => ?_⟩
  · rw [← hc]; exact h4
  · rcases e2 with rfl | e2
    · exact h.gw e
    · exact h.wp b e e2
  · rcases h2 _ e with e | e
    · exact h.gp e
    · exact absurd lg (Nat.not_lt.2 e)
  · rcases h2 _ e2 with e2 | e2
    · exact h.wp b e e2
    · have := M.own_lt h.ow b e; omega
  · have e' : brk x.s.kind = true := e
    rw [hb] at e'; cases e'
  · rcases e with rfl | e | e
    · exact .inl (.inl rfl)
    · exact .inl (.inr (.inl e))
    · exact (h2 b e).elim (fun e => .inl (.inr (.inr e))) .inr
  · exact e.elim .inl fun e => .inr (.inr e)
theorem itm_proving {w w' : World} {N : Nat} {x : Itm} (h : ItmAt w N x) (h7 : x.s.kind = 7) (h3 : M.Ch (fun b => b = x.g) w w') (h4 : w'.heap[x.g]? = some (.cells ((itmC x).setIfInBounds 14 (.bool true)) (itmT x) (0, 0))) : ∃ x', x'.s = { x.s with proving := true } ∧ Step w w' N x x' := by
  have hb : brk x.s.kind = false := by rw [h7]; rfl
  have hc : (itmC x).setIfInBounds 14 (.bool true) = itmC ⟨{ x.s with proving := true }, x.g, x.vw, x.vp⟩ := by
    rw [itmC_thm h7, itmC_thm (x := ⟨{ x.s with proving := true }, x.g, x.vw, x.vp⟩) h7]; rfl
  refine ⟨⟨{ x.s with proving := true }, x.g, x.vw, x.vp⟩, rfl, ⟨h.k1, h.k9, ?_, h.ge, M.owns_ch h.ow h3 fun b e e2 => h.gw (by rw [← e2]; exact e), M.owns_ch h.op h3 fun b e e2 => h.gp (by rw [← e2]; exact e), h.gw, h.gp, h.wp, fun e => absurd h7 e, fun e => ?_⟩, rfl, rfl, fun b e => .inl e, h3.mono fun b e => .inl e⟩
  · rw [← hc]; exact h4
  · have e' : brk x.s.kind = true := e
    rw [hb] at e'; cases e'
theorem itm_fin {w w' : World} {N : Nat} {x : Itm} {tk : Tok} (h : ItmAt w N x) (hb : brk x.s.kind = false) (h3 : M.Ch (fun b => b = x.g) w w') (h4 : w'.heap[x.g]? = some (.cells (put4 (itmC x) 10 tk) (itmT x) (0, 0))) : ∃ x', x'.s = { x.s with fin := tk } ∧ Step w w' N x x' := by
  have hc : put4 (itmC x) 10 tk = itmC ⟨{ x.s with fin := tk }, x.g, x.vw, x.vp⟩ := by
    by_cases h7 : x.s.kind = 7
    · rw [itmC_thm h7, itmC_thm (x := ⟨{ x.s with fin := tk }, x.g, x.vw, x.vp⟩) h7]; rfl
    · rw [itmC_cl hb h7, itmC_cl (x := ⟨{ x.s with fin := tk }, x.g, x.vw, x.vp⟩) hb h7]; rfl
  refine ⟨⟨{ x.s with fin := tk }, x.g, x.vw, x.vp⟩, rfl, ⟨h.k1, h.k9, ?_, h.ge, M.owns_ch h.ow h3 fun b e e2 => h.gw (by rw [← e2]; exact e), M.owns_ch h.op h3 fun b e e2 => h.gp (by rw [← e2]; exact e), h.gw, h.gp, h.wp, h.nt, fun e => ?_⟩, rfl, rfl, fun b e => .inl e, h3.mono fun b e => .inl e⟩
  · rw [← hc]; exact h4
  · have e' : brk x.s.kind = true := e
    rw [hb] at e'; cases e'

def addF (s : Stm) (t : Tok) : Int × Stm := if s.kind = 7 ∧ s.proving = true then (0, { s with proof := s.proof ++ [t] }) else if (s.words.length : Int) = mstI s.kind.toNat then (62, s) else (0, { s with words := s.words ++ [t] })
def begF (s : Stm) : Int × Stm := if s.kind = 7 then (if s.proving = true then (60, s) else if (s.words.length : Int) < lstI 7 then (62, s) else (0, { s with proving := true })) else (60, s)
def endF (s : Stm) (t : Tok) : Int × Stm := if s.kind = 7 ∧ s.proving = false then (62, s) else if (s.words.length : Int) < lstI s.kind.toNat then (62, s) else (0, { s with fin := t })
/-- A call that turns one. -/
def Turns (w : World) (N : Nat) (x : Itm) (r : Int × Stm) (e : Ending) (w' : World) : Prop := ∃ x', e = .returned (.int .i64 r.1) ∧ x'.s = r.2 ∧ Step w w' N x x'
theorem own_slice {W : World} {N n : Nat} {v : Value} {xs : List Value} (h : W.ownsRow N 34 4 v n xs) : ∃ a c, v = .slice a n c := by
  obtain ⟨a, c, e, _⟩ := own_shape h
  exact ⟨a, c, e⟩

theorem addWord_any (w : World) (N : Nat) (x : Itm) (tk : Tok) (h : ItmAt w N x) (hb : brk x.s.kind = false) (hS : ShapesAt w) (hN : N ≤ w.heap.size) (hw : x.s.words.length ≤ 1048576) (hp : x.s.proof.length ≤ 1048576) :
    Calls Tryd.prog 70 #[itmI x, tokV tk] w (Turns w N x (addF x.s tk)) := by
  obtain ⟨k, hk⟩ : ∃ k : Nat, x.s.kind = k := ⟨x.s.kind.toNat, by have := h.k1; omega⟩
  have hk10 : k < 10 := by have := h.k9; omega
  obtain ⟨aw, cw, ew⟩ := own_slice h.ow
  obtain ⟨ap, cp, ep⟩ := own_slice h.op
  have how := h.ow
  have hop := h.op
  have hgw := h.gw
  have hgp := h.gp
  rw [ew] at how hgw
  rw [ep] at hop hgp
  have c0 : (itmC x)[0]? = some (.int .i64 k) := by
    by_cases h7 : x.s.kind = 7
    · rw [itmC_thm h7, ← hk]; rfl
    · rw [itmC_cl hb h7, ← hk]; rfl
  have c9 : (itmC x)[9]? = some (.slice aw x.s.words.length cw) := by
    by_cases h7 : x.s.kind = 7
    · rw [itmC_thm h7, ew]; rfl
    · rw [itmC_cl hb h7, ew]; rfl
  have fin : ∀ e w', (x.s.kind ≠ 7 ∨ x.s.proving ≠ true) → (∃ c, e = Ending.returned (.int .i64 c) ∧ AddR w w' N x.g (itmC x) (itmT x) k (.slice aw x.s.words.length cw) x.s.words tk c) → Turns w N x (addF x.s tk) e w' := by
    rintro e w' hn ⟨c, rfl, hr⟩
    have hnn : ¬ (x.s.kind = 7 ∧ x.s.proving = true) := fun e => hn.elim (fun h => h e.1) fun h => h e.2
    have kt : x.s.kind.toNat = k := by omega
    rcases hr with ⟨h1, rfl, h3⟩ | ⟨h1, rfl, h3⟩
    · refine ⟨x, ?_, ?_, Step.below h h3⟩ <;> unfold addF <;> rw [if_neg hnn, kt, if_pos h1]
    · rw [← ew] at h3
      obtain ⟨x', e1, e2⟩ := itm_words h hb h3
      refine ⟨x', ?_, ?_, e2⟩
      · unfold addF; rw [if_neg hnn, kt, if_neg h1]
      · rw [e1]; unfold addF; rw [if_neg hnn, kt, if_neg h1]
  by_cases h7 : x.s.kind = 7
  · have ey : itmI x = .iface 116 (.pointer (some ⟨x.g, 0, none⟩)) := by unfold itmI itmY; simp only [h7]; rfl
    rw [ey]
    cases hpr : x.s.proving with
    | true =>
      have c14 : (itmC x)[14]? = some (.bool true) := by rw [itmC_thm h7, hpr]; rfl
      have c15 : (itmC x)[15]? = some (.slice ap x.s.proof.length cp) := by rw [itmC_thm h7, ep]; rfl
      refine Calls.mono (addWordP w N x.g _ _ ap _ cp tk x.s.proof h.box c14 c15 hN rfl hp hop hgp) ?_
      rintro e w' ⟨rfl, ha⟩
      rw [← ep] at ha
      obtain ⟨x', e1, e2⟩ := itm_proof h h7 ha
      refine ⟨x', ?_, ?_, e2⟩
      · unfold addF; rw [if_pos ⟨h7, hpr⟩]
      · rw [e1]; unfold addF; rw [if_pos ⟨h7, hpr⟩]
    | false =>
      have c14 : (itmC x)[14]? = some (.bool false) := by rw [itmC_thm h7, hpr]; rfl
      exact Calls.mono (addWordT w N x.g _ _ k hk10 aw _ cw tk x.s.words h.box c0 c9 c14 hS hN rfl hw how hgw) fun e w' he => fin e w' (.inr (by rw [hpr]; exact Bool.false_ne_true)) he
  · have ey : itmI x = .iface 121 (.pointer (some ⟨x.g, 0, none⟩)) := by unfold itmI itmY; simp only [hb, h7]; rfl
    rw [ey]
    exact Calls.mono (addWordC w N x.g _ _ k hk10 aw _ cw tk x.s.words h.box c0 c9 hS hN rfl hw how hgw) fun e w' he => fin e w' (.inl h7) he
theorem beginProof_any (w : World) (N : Nat) (x : Itm) (h : ItmAt w N x) (hb : brk x.s.kind = false) (hS : ShapesAt w) :
    Calls Tryd.prog 71 #[itmI x] w (Turns w N x (begF x.s)) := by
  by_cases h7 : x.s.kind = 7
  · have ey : itmI x = .iface 116 (.pointer (some ⟨x.g, 0, none⟩)) := by unfold itmI itmY; simp only [h7]; rfl
    obtain ⟨aw, cw, ew⟩ := own_slice h.ow
    have c0 : (itmC x)[0]? = some (.int .i64 ((7 : Nat) : Int)) := by rw [itmC_thm h7, h7]; rfl
    have c9 : (itmC x)[9]? = some (.slice aw x.s.words.length cw) := by rw [itmC_thm h7, ew]; rfl
    have c14 : (itmC x)[14]? = some (.bool x.s.proving) := by rw [itmC_thm h7]; rfl
    rw [ey]
    refine Calls.mono (beginT w x.g _ _ 7 (by omega) aw _ cw x.s.proving h.box c0 c9 c14 hS) ?_
    rintro e w' ⟨rfl, hc, hh⟩
    have same : w'.heap[x.g]? = some (.cells (itmC x) (itmT x) (0, 0)) → Step w w' N x x := fun hh => ⟨⟨h.k1, h.k9, hh, h.ge, M.owns_ch h.ow hc fun b e e2 => h.gw (by rw [← e2]; exact e), M.owns_ch h.op hc fun b e e2 => h.gp (by rw [← e2]; exact e), h.gw, h.gp, h.wp, h.nt, h.nb⟩, rfl, rfl, fun b e => .inl e, hc.mono fun b e => .inl e⟩
    unfold Turns
    by_cases hp : x.s.proving = true
    · rw [show begF x.s = (60, x.s) by unfold begF; rw [if_pos h7, if_pos hp]]
      rw [if_pos hp] at hh
      exact ⟨x, by rw [if_pos hp], rfl, same hh⟩
    · rw [if_neg hp] at hh
      by_cases hl : (x.s.words.length : Int) < lstI 7
      · rw [show begF x.s = (62, x.s) by unfold begF; rw [if_pos h7, if_neg hp, if_pos hl]]
        rw [if_pos hl] at hh
        exact ⟨x, by rw [if_neg hp, if_pos hl], rfl, same hh⟩
      · rw [show begF x.s = (0, { x.s with proving := true }) by unfold begF; rw [if_pos h7, if_neg hp, if_neg hl]]
        rw [if_neg hl] at hh
        obtain ⟨x', e1, e2⟩ := itm_proving h h7 hc hh
        exact ⟨x', by rw [if_neg hp, if_neg hl], e1, e2⟩
  · have ey : itmI x = .iface 121 (.pointer (some ⟨x.g, 0, none⟩)) := by unfold itmI itmY; simp only [hb, h7]; rfl
    rw [ey]
    refine Calls.mono (beginC w x.g) ?_
    rintro e w' ⟨rfl, rfl⟩
    refine ⟨x, ?_, ?_, Step.refl h⟩ <;> unfold begF <;> rw [if_neg h7]
end Go.Proofs.YtipfhfeaalbmcaaDoor
