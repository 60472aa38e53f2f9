/- For every list of plans, every number and every string that are together of bulk at most 1048576 the law that a word that may not stand there offends (StmtFaults) returns true and leaves its arguments as they were. The card ties the tables of bytes and of kinds to the text of this seat. -/
import Derived.Test.YtipfhfeaalbmcaaDoorBkPu
import Derived.Test.YtipfhfeaalbmcaaDoorBkWord
import Derived.Test.YtipfhfeaalbmcaaDoorBackW
import Derived.Test.YtipfhfeaalbmcaaDoorBackP
namespace Go.Proofs.YtipfhfeaalbmcaaDoor
open Go.RowKit

/-- Statements ahead of all that the reader holds. -/
def ahead (L : List Stm) (P : PS) : PS := ⟨L ++ P.l, P.opn, P.wt⟩
theorem take_ahead (L : List Stm) (P : PS) (t : Tok) (h : P.opn = true → P.l ≠ []) : takeF (ahead L P) t = ((takeF P t).1, ahead L (takeF P t).2) ∧ ((takeF P t).2.opn = true → (takeF P t).2.l ≠ []) := by
  obtain ⟨l, opn, wt⟩ := P
  cases opn with
  | true =>
    have hne : l ≠ [] := h rfl
    obtain ⟨m, s, rfl⟩ : ∃ m s, l = m ++ [s] := ⟨l.dropLast, l.getLast hne, (List.dropLast_concat_getLast hne).symm⟩
    have e : ahead L ⟨m ++ [s], true, wt⟩ = ⟨(L ++ m) ++ [s], true, wt⟩ := by unfold ahead; rw [List.append_assoc]
    rw [e, take_open, take_open]
    refine ⟨?_, fun _ => by simp⟩
    unfold ahead
    dsimp only
    rw [List.append_assoc]
  | false =>
    unfold takeF ahead
    dsimp only
    rw [iteFT, iteFT]
    unfold betweenF
    dsimp only
    split
    · split
      · exact ⟨rfl, fun e => by cases e⟩
      · exact ⟨rfl, fun e => by cases e⟩
    · split
      · exact ⟨rfl, fun e => by cases e⟩
      · split
        · exact ⟨rfl, fun e => by cases e⟩
        · exact ⟨by rw [List.append_assoc], fun _ => by simp⟩
theorem run_ahead (L : List Stm) : ∀ (ts : List Tok) (P : PS), (P.opn = true → P.l ≠ []) → runT (ahead L P) ts = (ahead L (runT P ts).1, (runT P ts).2)
  | [], P, _ => rfl
  | t :: ts, P, h => by
    obtain ⟨e, h2⟩ := take_ahead L P t h
    unfold runT
    rw [e]
    dsimp only
    split
    · exact run_ahead L ts _ h2
    · rfl
/-- One of the words that may not stand there: what stands ahead of it, the word, its error. -/
structure Bd where
  ah : List ByteArray
  wd : ByteArray
  why : Int
def wl : ByteArray := ⟨#[108]⟩
def ww : ByteArray := ⟨#[119]⟩
def wx : ByteArray := ⟨#[120]⟩
def wp : ByteArray := ⟨#[112]⟩
def wa : ByteArray := ⟨#[97]⟩
def badL : List Bd := [⟨[], dotS, 60⟩, ⟨[], eqS, 60⟩, ⟨[], ⟨#[36, 120]⟩, 60⟩, ⟨[], ⟨#[36]⟩, 60⟩, ⟨[], kwB 3, 61⟩, ⟨[], kwB 7, 61⟩,
  ⟨[wl], kwB 1, 61⟩, ⟨[wl], kwB 2, 61⟩, ⟨[wl], kwB 5, 61⟩, ⟨[wl], kwB 8, 61⟩, ⟨[wl], kwB 9, 61⟩, ⟨[wl], ⟨#[109]⟩, 60⟩, ⟨[wl], dotS, 60⟩, ⟨[wl], ⟨#[36, 113]⟩, 60⟩,
  ⟨[kwB 1], dotS, 62⟩, ⟨[kwB 2], dotS, 62⟩, ⟨[kwB 5, wx], dotS, 62⟩, ⟨[wl, kwB 3, ww], dotS, 62⟩, ⟨[wl, kwB 3, ww, wx], ⟨#[121]⟩, 62⟩, ⟨[wl, kwB 4], dotS, 62⟩, ⟨[wl, kwB 6], dotS, 62⟩, ⟨[wl, kwB 7], dotS, 62⟩, ⟨[wl, kwB 7, ww], dotS, 62⟩, ⟨[wl, kwB 7], eqS, 62⟩,
  ⟨[kwB 1, wa], eqS, 60⟩, ⟨[wl, kwB 6, ww], eqS, 60⟩, ⟨[wl, kwB 7, ww, eqS, wp], eqS, 60⟩, ⟨[kwB 1, wa], kwB 1, 60⟩, ⟨[wl, kwB 7, ww], kwB 8, 60⟩, ⟨[wl, kwB 7, ww, eqS], kwB 9, 60⟩, ⟨[wl, kwB 4, ww], ⟨#[36, 40, 120]⟩, 60⟩]
/-- What the reader comes to, behind the statements: nothing, or one that is broken off. -/
def BadOk (b : Bd) : Prop := ∀ ts : List Tok, textsL ts = b.ah ++ [b.wd] → ∃ t Q, ts.getLast? = some t ∧ runT ps0 ts = (Q, some (t, b.why)) ∧ Q.l.length ≤ 1 ∧ ∀ x ∈ Q.l, x.fin.text = ⟨#[]⟩
theorem texts1 {ts : List Tok} {a : ByteArray} (h : textsL ts = [a]) : ∃ o l c, ts = [⟨a, o, l, c⟩] := by
  match ts, h with
  | [⟨x, o, l, c⟩], h => simp [textsL] at h; subst h; exact ⟨o, l, c, rfl⟩
theorem texts_cons {ts : List Tok} {a : ByteArray} {r : List ByteArray} (h : textsL ts = a :: r) : ∃ o l c us, ts = ⟨a, o, l, c⟩ :: us ∧ textsL us = r := by
  match ts, h with
  | ⟨x, o, l, c⟩ :: us, h =>
    unfold textsL at h
    rw [List.map_cons] at h
    injection h with h1 h2
    dsimp only at h1
    subst h1
    exact ⟨o, l, c, us, rfl, h2⟩
theorem bad0 (o0 l0 c0 : Int) : runT ps0 [⟨dotS, o0, l0, c0⟩] = (⟨[], false, zTok⟩, some (⟨dotS, o0, l0, c0⟩, 60)) := by kernel_rfl
theorem badOk0 : BadOk ⟨[], dotS, 60⟩ := by
  intro ts h
  replace h : textsL ts = [dotS] := h
  obtain ⟨o0, l0, c0, t0, e0, h0⟩ := texts_cons h
  have e : t0 = [] := by simpa [textsL] using h0
  subst e
  subst e0
  refine ⟨_, _, rfl, bad0 o0 l0 c0, by simp, ?_⟩
  intro x hx
  cases hx
theorem bad1 (o0 l0 c0 : Int) : runT ps0 [⟨eqS, o0, l0, c0⟩] = (⟨[], false, zTok⟩, some (⟨eqS, o0, l0, c0⟩, 60)) := by kernel_rfl
theorem badOk1 : BadOk ⟨[], eqS, 60⟩ := by
  intro ts h
  replace h : textsL ts = [eqS] := h
  obtain ⟨o0, l0, c0, t0, e0, h0⟩ := texts_cons h
  have e : t0 = [] := by simpa [textsL] using h0
  subst e
  subst e0
  refine ⟨_, _, rfl, bad1 o0 l0 c0, by simp, ?_⟩
  intro x hx
  cases hx
theorem bad2 (o0 l0 c0 : Int) : runT ps0 [⟨⟨#[36, 120]⟩, o0, l0, c0⟩] = (⟨[], false, zTok⟩, some (⟨⟨#[36, 120]⟩, o0, l0, c0⟩, 60)) := by kernel_rfl
theorem badOk2 : BadOk ⟨[], ⟨#[36, 120]⟩, 60⟩ := by
  intro ts h
  replace h : textsL ts = [⟨#[36, 120]⟩] := h
  obtain ⟨o0, l0, c0, t0, e0, h0⟩ := texts_cons h
  have e : t0 = [] := by simpa [textsL] using h0
  subst e
  subst e0
  refine ⟨_, _, rfl, bad2 o0 l0 c0, by simp, ?_⟩
  intro x hx
  cases hx
theorem bad3 (o0 l0 c0 : Int) : runT ps0 [⟨⟨#[36]⟩, o0, l0, c0⟩] = (⟨[], false, zTok⟩, some (⟨⟨#[36]⟩, o0, l0, c0⟩, 60)) := by kernel_rfl
theorem badOk3 : BadOk ⟨[], ⟨#[36]⟩, 60⟩ := by
  intro ts h
  replace h : textsL ts = [⟨#[36]⟩] := h
  obtain ⟨o0, l0, c0, t0, e0, h0⟩ := texts_cons h
  have e : t0 = [] := by simpa [textsL] using h0
  subst e
  subst e0
  refine ⟨_, _, rfl, bad3 o0 l0 c0, by simp, ?_⟩
  intro x hx
  cases hx
theorem bad4 (o0 l0 c0 : Int) : runT ps0 [⟨kwB 3, o0, l0, c0⟩] = (⟨[], false, zTok⟩, some (⟨kwB 3, o0, l0, c0⟩, 61)) := by kernel_rfl
theorem badOk4 : BadOk ⟨[], kwB 3, 61⟩ := by
  intro ts h
  replace h : textsL ts = [kwB 3] := h
  obtain ⟨o0, l0, c0, t0, e0, h0⟩ := texts_cons h
  have e : t0 = [] := by simpa [textsL] using h0
  subst e
  subst e0
  refine ⟨_, _, rfl, bad4 o0 l0 c0, by simp, ?_⟩
  intro x hx
  cases hx
theorem bad5 (o0 l0 c0 : Int) : runT ps0 [⟨kwB 7, o0, l0, c0⟩] = (⟨[], false, zTok⟩, some (⟨kwB 7, o0, l0, c0⟩, 61)) := by kernel_rfl
theorem badOk5 : BadOk ⟨[], kwB 7, 61⟩ := by
  intro ts h
  replace h : textsL ts = [kwB 7] := h
  obtain ⟨o0, l0, c0, t0, e0, h0⟩ := texts_cons h
  have e : t0 = [] := by simpa [textsL] using h0
  subst e
  subst e0
  refine ⟨_, _, rfl, bad5 o0 l0 c0, by simp, ?_⟩
  intro x hx
  cases hx
theorem bad6 (o0 l0 c0 o1 l1 c1 : Int) : runT ps0 [⟨wl, o0, l0, c0⟩, ⟨kwB 1, o1, l1, c1⟩] = (⟨[], false, ⟨wl, o0, l0, c0⟩⟩, some (⟨kwB 1, o1, l1, c1⟩, 61)) := by kernel_rfl
theorem badOk6 : BadOk ⟨[wl], kwB 1, 61⟩ := by
  intro ts h
  replace h : textsL ts = [wl, kwB 1] := h
  obtain ⟨o0, l0, c0, t0, e0, h0⟩ := texts_cons h
  obtain ⟨o1, l1, c1, t1, e1, h1⟩ := texts_cons h0
  have e : t1 = [] := by simpa [textsL] using h1
  subst e
  subst e1
  subst e0
  refine ⟨_, _, rfl, bad6 o0 l0 c0 o1 l1 c1, by simp, ?_⟩
  intro x hx
  cases hx
theorem bad7 (o0 l0 c0 o1 l1 c1 : Int) : runT ps0 [⟨wl, o0, l0, c0⟩, ⟨kwB 2, o1, l1, c1⟩] = (⟨[], false, ⟨wl, o0, l0, c0⟩⟩, some (⟨kwB 2, o1, l1, c1⟩, 61)) := by kernel_rfl
theorem badOk7 : BadOk ⟨[wl], kwB 2, 61⟩ := by
  intro ts h
  replace h : textsL ts = [wl, kwB 2] := h
  obtain ⟨o0, l0, c0, t0, e0, h0⟩ := texts_cons h
  obtain ⟨o1, l1, c1, t1, e1, h1⟩ := texts_cons h0
  have e : t1 = [] := by simpa [textsL] using h1
  subst e
  subst e1
  subst e0
  refine ⟨_, _, rfl, bad7 o0 l0 c0 o1 l1 c1, by simp, ?_⟩
  intro x hx
  cases hx
theorem bad8 (o0 l0 c0 o1 l1 c1 : Int) : runT ps0 [⟨wl, o0, l0, c0⟩, ⟨kwB 5, o1, l1, c1⟩] = (⟨[], false, ⟨wl, o0, l0, c0⟩⟩, some (⟨kwB 5, o1, l1, c1⟩, 61)) := by kernel_rfl
theorem badOk8 : BadOk ⟨[wl], kwB 5, 61⟩ := by
  intro ts h
  replace h : textsL ts = [wl, kwB 5] := h
  obtain ⟨o0, l0, c0, t0, e0, h0⟩ := texts_cons h
  obtain ⟨o1, l1, c1, t1, e1, h1⟩ := texts_cons h0
  have e : t1 = [] := by simpa [textsL] using h1
  subst e
  subst e1
  subst e0
  refine ⟨_, _, rfl, bad8 o0 l0 c0 o1 l1 c1, by simp, ?_⟩
  intro x hx
  cases hx
theorem bad9 (o0 l0 c0 o1 l1 c1 : Int) : runT ps0 [⟨wl, o0, l0, c0⟩, ⟨kwB 8, o1, l1, c1⟩] = (⟨[], false, ⟨wl, o0, l0, c0⟩⟩, some (⟨kwB 8, o1, l1, c1⟩, 61)) := by kernel_rfl
theorem badOk9 : BadOk ⟨[wl], kwB 8, 61⟩ := by
  intro ts h
  replace h : textsL ts = [wl, kwB 8] := h
  obtain ⟨o0, l0, c0, t0, e0, h0⟩ := texts_cons h
  obtain ⟨o1, l1, c1, t1, e1, h1⟩ := texts_cons h0
  have e : t1 = [] := by simpa [textsL] using h1
  subst e
  subst e1
  subst e0
  refine ⟨_, _, rfl, bad9 o0 l0 c0 o1 l1 c1, by simp, ?_⟩
  intro x hx
  cases hx
theorem bad10 (o0 l0 c0 o1 l1 c1 : Int) : runT ps0 [⟨wl, o0, l0, c0⟩, ⟨kwB 9, o1, l1, c1⟩] = (⟨[], false, ⟨wl, o0, l0, c0⟩⟩, some (⟨kwB 9, o1, l1, c1⟩, 61)) := by kernel_rfl
theorem badOk10 : BadOk ⟨[wl], kwB 9, 61⟩ := by
  intro ts h
  replace h : textsL ts = [wl, kwB 9] := h
  obtain ⟨o0, l0, c0, t0, e0, h0⟩ := texts_cons h
  obtain ⟨o1, l1, c1, t1, e1, h1⟩ := texts_cons h0
  have e : t1 = [] := by simpa [textsL] using h1
  subst e
  subst e1
  subst e0
  refine ⟨_, _, rfl, bad10 o0 l0 c0 o1 l1 c1, by simp, ?_⟩
  intro x hx
  cases hx
theorem bad11 (o0 l0 c0 o1 l1 c1 : Int) : runT ps0 [⟨wl, o0, l0, c0⟩, ⟨⟨#[109]⟩, o1, l1, c1⟩] = (⟨[], false, ⟨wl, o0, l0, c0⟩⟩, some (⟨⟨#[109]⟩, o1, l1, c1⟩, 60)) := by kernel_rfl
theorem badOk11 : BadOk ⟨[wl], ⟨#[109]⟩, 60⟩ := by
  intro ts h
  replace h : textsL ts = [wl, ⟨#[109]⟩] := h
  obtain ⟨o0, l0, c0, t0, e0, h0⟩ := texts_cons h
  obtain ⟨o1, l1, c1, t1, e1, h1⟩ := texts_cons h0
  have e : t1 = [] := by simpa [textsL] using h1
  subst e
  subst e1
  subst e0
  refine ⟨_, _, rfl, bad11 o0 l0 c0 o1 l1 c1, by simp, ?_⟩
  intro x hx
  cases hx
theorem bad12 (o0 l0 c0 o1 l1 c1 : Int) : runT ps0 [⟨wl, o0, l0, c0⟩, ⟨dotS, o1, l1, c1⟩] = (⟨[], false, ⟨wl, o0, l0, c0⟩⟩, some (⟨dotS, o1, l1, c1⟩, 60)) := by kernel_rfl
theorem badOk12 : BadOk ⟨[wl], dotS, 60⟩ := by
  intro ts h
  replace h : textsL ts = [wl, dotS] := h
  obtain ⟨o0, l0, c0, t0, e0, h0⟩ := texts_cons h
  obtain ⟨o1, l1, c1, t1, e1, h1⟩ := texts_cons h0
  have e : t1 = [] := by simpa [textsL] using h1
  subst e
  subst e1
  subst e0
  refine ⟨_, _, rfl, bad12 o0 l0 c0 o1 l1 c1, by simp, ?_⟩
  intro x hx
  cases hx
theorem bad13 (o0 l0 c0 o1 l1 c1 : Int) : runT ps0 [⟨wl, o0, l0, c0⟩, ⟨⟨#[36, 113]⟩, o1, l1, c1⟩] = (⟨[], false, ⟨wl, o0, l0, c0⟩⟩, some (⟨⟨#[36, 113]⟩, o1, l1, c1⟩, 60)) := by kernel_rfl
theorem badOk13 : BadOk ⟨[wl], ⟨#[36, 113]⟩, 60⟩ := by
  intro ts h
  replace h : textsL ts = [wl, ⟨#[36, 113]⟩] := h
  obtain ⟨o0, l0, c0, t0, e0, h0⟩ := texts_cons h
  obtain ⟨o1, l1, c1, t1, e1, h1⟩ := texts_cons h0
  have e : t1 = [] := by simpa [textsL] using h1
  subst e
  subst e1
  subst e0
  refine ⟨_, _, rfl, bad13 o0 l0 c0 o1 l1 c1, by simp, ?_⟩
  intro x hx
  cases hx
theorem bad14 (o0 l0 c0 o1 l1 c1 : Int) : runT ps0 [⟨kwB 1, o0, l0, c0⟩, ⟨dotS, o1, l1, c1⟩] = (⟨[⟨1, zTok, ⟨kwB 1, o0, l0, c0⟩, false, [], [], zTok⟩], true, zTok⟩, some (⟨dotS, o1, l1, c1⟩, 62)) := by kernel_rfl
theorem badOk14 : BadOk ⟨[kwB 1], dotS, 62⟩ := by
  intro ts h
  replace h : textsL ts = [kwB 1, dotS] := h
  obtain ⟨o0, l0, c0, t0, e0, h0⟩ := texts_cons h
  obtain ⟨o1, l1, c1, t1, e1, h1⟩ := texts_cons h0
  have e : t1 = [] := by simpa [textsL] using h1
  subst e
  subst e1
  subst e0
  refine ⟨_, _, rfl, bad14 o0 l0 c0 o1 l1 c1, by simp, ?_⟩
  intro x hx
  rw [List.mem_singleton.1 hx]; rfl
theorem bad15 (o0 l0 c0 o1 l1 c1 : Int) : runT ps0 [⟨kwB 2, o0, l0, c0⟩, ⟨dotS, o1, l1, c1⟩] = (⟨[⟨2, zTok, ⟨kwB 2, o0, l0, c0⟩, false, [], [], zTok⟩], true, zTok⟩, some (⟨dotS, o1, l1, c1⟩, 62)) := by kernel_rfl
theorem badOk15 : BadOk ⟨[kwB 2], dotS, 62⟩ := by
  intro ts h
  replace h : textsL ts = [kwB 2, dotS] := h
  obtain ⟨o0, l0, c0, t0, e0, h0⟩ := texts_cons h
  obtain ⟨o1, l1, c1, t1, e1, h1⟩ := texts_cons h0
  have e : t1 = [] := by simpa [textsL] using h1
  subst e
  subst e1
  subst e0
  refine ⟨_, _, rfl, bad15 o0 l0 c0 o1 l1 c1, by simp, ?_⟩
  intro x hx
  rw [List.mem_singleton.1 hx]; rfl
theorem bad16 (o0 l0 c0 o1 l1 c1 o2 l2 c2 : Int) : runT ps0 [⟨kwB 5, o0, l0, c0⟩, ⟨wx, o1, l1, c1⟩, ⟨dotS, o2, l2, c2⟩] = (⟨[⟨5, zTok, ⟨kwB 5, o0, l0, c0⟩, false, [⟨wx, o1, l1, c1⟩], [], zTok⟩], true, zTok⟩, some (⟨dotS, o2, l2, c2⟩, 62)) := by kernel_rfl
theorem badOk16 : BadOk ⟨[kwB 5, wx], dotS, 62⟩ := by
  intro ts h
  replace h : textsL ts = [kwB 5, wx, dotS] := h
  obtain ⟨o0, l0, c0, t0, e0, h0⟩ := texts_cons h
  obtain ⟨o1, l1, c1, t1, e1, h1⟩ := texts_cons h0
  obtain ⟨o2, l2, c2, t2, e2, h2⟩ := texts_cons h1
  have e : t2 = [] := by simpa [textsL] using h2
  subst e
  subst e2
  subst e1
  subst e0
  refine ⟨_, _, rfl, bad16 o0 l0 c0 o1 l1 c1 o2 l2 c2, by simp, ?_⟩
  intro x hx
  rw [List.mem_singleton.1 hx]; rfl
theorem bad17 (o0 l0 c0 o1 l1 c1 o2 l2 c2 o3 l3 c3 : Int) : runT ps0 [⟨wl, o0, l0, c0⟩, ⟨kwB 3, o1, l1, c1⟩, ⟨ww, o2, l2, c2⟩, ⟨dotS, o3, l3, c3⟩] = (⟨[⟨3, ⟨wl, o0, l0, c0⟩, ⟨kwB 3, o1, l1, c1⟩, false, [⟨ww, o2, l2, c2⟩], [], zTok⟩], true, zTok⟩, some (⟨dotS, o3, l3, c3⟩, 62)) := by kernel_rfl
theorem badOk17 : BadOk ⟨[wl, kwB 3, ww], dotS, 62⟩ := by
  intro ts h
  replace h : textsL ts = [wl, kwB 3, ww, dotS] := h
  obtain ⟨o0, l0, c0, t0, e0, h0⟩ := texts_cons h
  obtain ⟨o1, l1, c1, t1, e1, h1⟩ := texts_cons h0
  obtain ⟨o2, l2, c2, t2, e2, h2⟩ := texts_cons h1
  obtain ⟨o3, l3, c3, t3, e3, h3⟩ := texts_cons h2
  have e : t3 = [] := by simpa [textsL] using h3
  subst e
  subst e3
  subst e2
  subst e1
  subst e0
  refine ⟨_, _, rfl, bad17 o0 l0 c0 o1 l1 c1 o2 l2 c2 o3 l3 c3, by simp, ?_⟩
  intro x hx
  rw [List.mem_singleton.1 hx]; rfl
theorem bad18 (o0 l0 c0 o1 l1 c1 o2 l2 c2 o3 l3 c3 o4 l4 c4 : Int) : runT ps0 [⟨wl, o0, l0, c0⟩, ⟨kwB 3, o1, l1, c1⟩, ⟨ww, o2, l2, c2⟩, ⟨wx, o3, l3, c3⟩, ⟨⟨#[121]⟩, o4, l4, c4⟩] = (⟨[⟨3, ⟨wl, o0, l0, c0⟩, ⟨kwB 3, o1, l1, c1⟩, false, [⟨ww, o2, l2, c2⟩, ⟨wx, o3, l3, c3⟩], [], zTok⟩], true, zTok⟩, some (⟨⟨#[121]⟩, o4, l4, c4⟩, 62)) := by kernel_rfl
theorem badOk18 : BadOk ⟨[wl, kwB 3, ww, wx], ⟨#[121]⟩, 62⟩ := by
  intro ts h
  replace h : textsL ts = [wl, kwB 3, ww, wx, ⟨#[121]⟩] := h
  obtain ⟨o0, l0, c0, t0, e0, h0⟩ := texts_cons h
  obtain ⟨o1, l1, c1, t1, e1, h1⟩ := texts_cons h0
  obtain ⟨o2, l2, c2, t2, e2, h2⟩ := texts_cons h1
  obtain ⟨o3, l3, c3, t3, e3, h3⟩ := texts_cons h2
  obtain ⟨o4, l4, c4, t4, e4, h4⟩ := texts_cons h3
  have e : t4 = [] := by simpa [textsL] using h4
  subst e
  subst e4
  subst e3
  subst e2
  subst e1
  subst e0
  refine ⟨_, _, rfl, bad18 o0 l0 c0 o1 l1 c1 o2 l2 c2 o3 l3 c3 o4 l4 c4, by simp, ?_⟩
  intro x hx
  rw [List.mem_singleton.1 hx]; rfl
theorem bad19 (o0 l0 c0 o1 l1 c1 o2 l2 c2 : Int) : runT ps0 [⟨wl, o0, l0, c0⟩, ⟨kwB 4, o1, l1, c1⟩, ⟨dotS, o2, l2, c2⟩] = (⟨[⟨4, ⟨wl, o0, l0, c0⟩, ⟨kwB 4, o1, l1, c1⟩, false, [], [], zTok⟩], true, zTok⟩, some (⟨dotS, o2, l2, c2⟩, 62)) := by kernel_rfl
theorem badOk19 : BadOk ⟨[wl, kwB 4], dotS, 62⟩ := by
  intro ts h
  replace h : textsL ts = [wl, kwB 4, dotS] := h
  obtain ⟨o0, l0, c0, t0, e0, h0⟩ := texts_cons h
  obtain ⟨o1, l1, c1, t1, e1, h1⟩ := texts_cons h0
  obtain ⟨o2, l2, c2, t2, e2, h2⟩ := texts_cons h1
  have e : t2 = [] := by simpa [textsL] using h2
  subst e
  subst e2
  subst e1
  subst e0
  refine ⟨_, _, rfl, bad19 o0 l0 c0 o1 l1 c1 o2 l2 c2, by simp, ?_⟩
  intro x hx
  rw [List.mem_singleton.1 hx]; rfl
theorem bad20 (o0 l0 c0 o1 l1 c1 o2 l2 c2 : Int) : runT ps0 [⟨wl, o0, l0, c0⟩, ⟨kwB 6, o1, l1, c1⟩, ⟨dotS, o2, l2, c2⟩] = (⟨[⟨6, ⟨wl, o0, l0, c0⟩, ⟨kwB 6, o1, l1, c1⟩, false, [], [], zTok⟩], true, zTok⟩, some (⟨dotS, o2, l2, c2⟩, 62)) := by kernel_rfl
theorem badOk20 : BadOk ⟨[wl, kwB 6], dotS, 62⟩ := by
  intro ts h
  replace h : textsL ts = [wl, kwB 6, dotS] := h
  obtain ⟨o0, l0, c0, t0, e0, h0⟩ := texts_cons h
  obtain ⟨o1, l1, c1, t1, e1, h1⟩ := texts_cons h0
  obtain ⟨o2, l2, c2, t2, e2, h2⟩ := texts_cons h1
  have e : t2 = [] := by simpa [textsL] using h2
  subst e
  subst e2
  subst e1
  subst e0
  refine ⟨_, _, rfl, bad20 o0 l0 c0 o1 l1 c1 o2 l2 c2, by simp, ?_⟩
  intro x hx
  rw [List.mem_singleton.1 hx]; rfl
theorem bad21 (o0 l0 c0 o1 l1 c1 o2 l2 c2 : Int) : runT ps0 [⟨wl, o0, l0, c0⟩, ⟨kwB 7, o1, l1, c1⟩, ⟨dotS, o2, l2, c2⟩] = (⟨[⟨7, ⟨wl, o0, l0, c0⟩, ⟨kwB 7, o1, l1, c1⟩, false, [], [], zTok⟩], true, zTok⟩, some (⟨dotS, o2, l2, c2⟩, 62)) := by kernel_rfl
theorem badOk21 : BadOk ⟨[wl, kwB 7], dotS, 62⟩ := by
  intro ts h
  replace h : textsL ts = [wl, kwB 7, dotS] := h
  obtain ⟨o0, l0, c0, t0, e0, h0⟩ := texts_cons h
  obtain ⟨o1, l1, c1, t1, e1, h1⟩ := texts_cons h0
  obtain ⟨o2, l2, c2, t2, e2, h2⟩ := texts_cons h1
  have e : t2 = [] := by simpa [textsL] using h2
  subst e
  subst e2
  subst e1
  subst e0
  refine ⟨_, _, rfl, bad21 o0 l0 c0 o1 l1 c1 o2 l2 c2, by simp, ?_⟩
  intro x hx
  rw [List.mem_singleton.1 hx]; rfl
theorem bad22 (o0 l0 c0 o1 l1 c1 o2 l2 c2 o3 l3 c3 : Int) : runT ps0 [⟨wl, o0, l0, c0⟩, ⟨kwB 7, o1, l1, c1⟩, ⟨ww, o2, l2, c2⟩, ⟨dotS, o3, l3, c3⟩] = (⟨[⟨7, ⟨wl, o0, l0, c0⟩, ⟨kwB 7, o1, l1, c1⟩, false, [⟨ww, o2, l2, c2⟩], [], zTok⟩], true, zTok⟩, some (⟨dotS, o3, l3, c3⟩, 62)) := by kernel_rfl
theorem badOk22 : BadOk ⟨[wl, kwB 7, ww], dotS, 62⟩ := by
  intro ts h
  replace h : textsL ts = [wl, kwB 7, ww, dotS] := h
  obtain ⟨o0, l0, c0, t0, e0, h0⟩ := texts_cons h
  obtain ⟨o1, l1, c1, t1, e1, h1⟩ := texts_cons h0
  obtain ⟨o2, l2, c2, t2, e2, h2⟩ := texts_cons h1
  obtain ⟨o3, l3, c3, t3, e3, h3⟩ := texts_cons h2
  have e : t3 = [] := by simpa [textsL] using h3
  subst e
  subst e3
  subst e2
  subst e1
  subst e0
  refine ⟨_, _, rfl, bad22 o0 l0 c0 o1 l1 c1 o2 l2 c2 o3 l3 c3, by simp, ?_⟩
  intro x hx
  rw [List.mem_singleton.1 hx]; rfl
theorem bad23 (o0 l0 c0 o1 l1 c1 o2 l2 c2 : Int) : runT ps0 [⟨wl, o0, l0, c0⟩, ⟨kwB 7, o1, l1, c1⟩, ⟨eqS, o2, l2, c2⟩] = (⟨[⟨7, ⟨wl, o0, l0, c0⟩, ⟨kwB 7, o1, l1, c1⟩, false, [], [], zTok⟩], true, zTok⟩, some (⟨eqS, o2, l2, c2⟩, 62)) := by kernel_rfl
theorem badOk23 : BadOk ⟨[wl, kwB 7], eqS, 62⟩ := by
  intro ts h
  replace h : textsL ts = [wl, kwB 7, eqS] := h
  obtain ⟨o0, l0, c0, t0, e0, h0⟩ := texts_cons h
  obtain ⟨o1, l1, c1, t1, e1, h1⟩ := texts_cons h0
  obtain ⟨o2, l2, c2, t2, e2, h2⟩ := texts_cons h1
  have e : t2 = [] := by simpa [textsL] using h2
  subst e
  subst e2
  subst e1
  subst e0
  refine ⟨_, _, rfl, bad23 o0 l0 c0 o1 l1 c1 o2 l2 c2, by simp, ?_⟩
  intro x hx
  rw [List.mem_singleton.1 hx]; rfl
theorem bad24 (o0 l0 c0 o1 l1 c1 o2 l2 c2 : Int) : runT ps0 [⟨kwB 1, o0, l0, c0⟩, ⟨wa, o1, l1, c1⟩, ⟨eqS, o2, l2, c2⟩] = (⟨[⟨1, zTok, ⟨kwB 1, o0, l0, c0⟩, false, [⟨wa, o1, l1, c1⟩], [], zTok⟩], true, zTok⟩, some (⟨eqS, o2, l2, c2⟩, 60)) := by kernel_rfl
theorem badOk24 : BadOk ⟨[kwB 1, wa], eqS, 60⟩ := by
  intro ts h
  replace h : textsL ts = [kwB 1, wa, eqS] := h
  obtain ⟨o0, l0, c0, t0, e0, h0⟩ := texts_cons h
  obtain ⟨o1, l1, c1, t1, e1, h1⟩ := texts_cons h0
  obtain ⟨o2, l2, c2, t2, e2, h2⟩ := texts_cons h1
  have e : t2 = [] := by simpa [textsL] using h2
  subst e
  subst e2
  subst e1
  subst e0
  refine ⟨_, _, rfl, bad24 o0 l0 c0 o1 l1 c1 o2 l2 c2, by simp, ?_⟩
  intro x hx
  rw [List.mem_singleton.1 hx]; rfl
theorem bad25 (o0 l0 c0 o1 l1 c1 o2 l2 c2 o3 l3 c3 : Int) : runT ps0 [⟨wl, o0, l0, c0⟩, ⟨kwB 6, o1, l1, c1⟩, ⟨ww, o2, l2, c2⟩, ⟨eqS, o3, l3, c3⟩] = (⟨[⟨6, ⟨wl, o0, l0, c0⟩, ⟨kwB 6, o1, l1, c1⟩, false, [⟨ww, o2, l2, c2⟩], [], zTok⟩], true, zTok⟩, some (⟨eqS, o3, l3, c3⟩, 60)) := by kernel_rfl
theorem badOk25 : BadOk ⟨[wl, kwB 6, ww], eqS, 60⟩ := by
  intro ts h
  replace h : textsL ts = [wl, kwB 6, ww, eqS] := h
  obtain ⟨o0, l0, c0, t0, e0, h0⟩ := texts_cons h
  obtain ⟨o1, l1, c1, t1, e1, h1⟩ := texts_cons h0
  obtain ⟨o2, l2, c2, t2, e2, h2⟩ := texts_cons h1
  obtain ⟨o3, l3, c3, t3, e3, h3⟩ := texts_cons h2
  have e : t3 = [] := by simpa [textsL] using h3
  subst e
  subst e3
  subst e2
  subst e1
  subst e0
  refine ⟨_, _, rfl, bad25 o0 l0 c0 o1 l1 c1 o2 l2 c2 o3 l3 c3, by simp, ?_⟩
  intro x hx
  rw [List.mem_singleton.1 hx]; rfl
theorem bad26 (o0 l0 c0 o1 l1 c1 o2 l2 c2 o3 l3 c3 o4 l4 c4 o5 l5 c5 : Int) : runT ps0 [⟨wl, o0, l0, c0⟩, ⟨kwB 7, o1, l1, c1⟩, ⟨ww, o2, l2, c2⟩, ⟨eqS, o3, l3, c3⟩, ⟨wp, o4, l4, c4⟩, ⟨eqS, o5, l5, c5⟩] = (⟨[⟨7, ⟨wl, o0, l0, c0⟩, ⟨kwB 7, o1, l1, c1⟩, true, [⟨ww, o2, l2, c2⟩], [⟨wp, o4, l4, c4⟩], zTok⟩], true, zTok⟩, some (⟨eqS, o5, l5, c5⟩, 60)) := by kernel_rfl
theorem badOk26 : BadOk ⟨[wl, kwB 7, ww, eqS, wp], eqS, 60⟩ := by
  intro ts h
  replace h : textsL ts = [wl, kwB 7, ww, eqS, wp, eqS] := h
  obtain ⟨o0, l0, c0, t0, e0, h0⟩ := texts_cons h
  obtain ⟨o1, l1, c1, t1, e1, h1⟩ := texts_cons h0
  obtain ⟨o2, l2, c2, t2, e2, h2⟩ := texts_cons h1
  obtain ⟨o3, l3, c3, t3, e3, h3⟩ := texts_cons h2
  obtain ⟨o4, l4, c4, t4, e4, h4⟩ := texts_cons h3
  obtain ⟨o5, l5, c5, t5, e5, h5⟩ := texts_cons h4
  have e : t5 = [] := by simpa [textsL] using h5
  subst e
  subst e5
  subst e4
  subst e3
  subst e2
  subst e1
  subst e0
  refine ⟨_, _, rfl, bad26 o0 l0 c0 o1 l1 c1 o2 l2 c2 o3 l3 c3 o4 l4 c4 o5 l5 c5, by simp, ?_⟩
  intro x hx
  rw [List.mem_singleton.1 hx]; rfl
theorem bad27 (o0 l0 c0 o1 l1 c1 o2 l2 c2 : Int) : runT ps0 [⟨kwB 1, o0, l0, c0⟩, ⟨wa, o1, l1, c1⟩, ⟨kwB 1, o2, l2, c2⟩] = (⟨[⟨1, zTok, ⟨kwB 1, o0, l0, c0⟩, false, [⟨wa, o1, l1, c1⟩], [], zTok⟩], true, zTok⟩, some (⟨kwB 1, o2, l2, c2⟩, 60)) := by kernel_rfl
theorem badOk27 : BadOk ⟨[kwB 1, wa], kwB 1, 60⟩ := by
  intro ts h
  replace h : textsL ts = [kwB 1, wa, kwB 1] := h
  obtain ⟨o0, l0, c0, t0, e0, h0⟩ := texts_cons h
  obtain ⟨o1, l1, c1, t1, e1, h1⟩ := texts_cons h0
  obtain ⟨o2, l2, c2, t2, e2, h2⟩ := texts_cons h1
  have e : t2 = [] := by simpa [textsL] using h2
  subst e
  subst e2
  subst e1
  subst e0
  refine ⟨_, _, rfl, bad27 o0 l0 c0 o1 l1 c1 o2 l2 c2, by simp, ?_⟩
  intro x hx
  rw [List.mem_singleton.1 hx]; rfl
theorem bad28 (o0 l0 c0 o1 l1 c1 o2 l2 c2 o3 l3 c3 : Int) : runT ps0 [⟨wl, o0, l0, c0⟩, ⟨kwB 7, o1, l1, c1⟩, ⟨ww, o2, l2, c2⟩, ⟨kwB 8, o3, l3, c3⟩] = (⟨[⟨7, ⟨wl, o0, l0, c0⟩, ⟨kwB 7, o1, l1, c1⟩, false, [⟨ww, o2, l2, c2⟩], [], zTok⟩], true, zTok⟩, some (⟨kwB 8, o3, l3, c3⟩, 60)) := by kernel_rfl
theorem badOk28 : BadOk ⟨[wl, kwB 7, ww], kwB 8, 60⟩ := by
  intro ts h
  replace h : textsL ts = [wl, kwB 7, ww, kwB 8] := h
  obtain ⟨o0, l0, c0, t0, e0, h0⟩ := texts_cons h
  obtain ⟨o1, l1, c1, t1, e1, h1⟩ := texts_cons h0
  obtain ⟨o2, l2, c2, t2, e2, h2⟩ := texts_cons h1
  obtain ⟨o3, l3, c3, t3, e3, h3⟩ := texts_cons h2
  have e : t3 = [] := by simpa [textsL] using h3
  subst e
  subst e3
  subst e2
  subst e1
  subst e0
  refine ⟨_, _, rfl, bad28 o0 l0 c0 o1 l1 c1 o2 l2 c2 o3 l3 c3, by simp, ?_⟩
  intro x hx
  rw [List.mem_singleton.1 hx]; rfl
theorem bad29 (o0 l0 c0 o1 l1 c1 o2 l2 c2 o3 l3 c3 o4 l4 c4 : Int) : runT ps0 [⟨wl, o0, l0, c0⟩, ⟨kwB 7, o1, l1, c1⟩, ⟨ww, o2, l2, c2⟩, ⟨eqS, o3, l3, c3⟩, ⟨kwB 9, o4, l4, c4⟩] = (⟨[⟨7, ⟨wl, o0, l0, c0⟩, ⟨kwB 7, o1, l1, c1⟩, true, [⟨ww, o2, l2, c2⟩], [], zTok⟩], true, zTok⟩, some (⟨kwB 9, o4, l4, c4⟩, 60)) := by kernel_rfl
theorem badOk29 : BadOk ⟨[wl, kwB 7, ww, eqS], kwB 9, 60⟩ := by
  intro ts h
  replace h : textsL ts = [wl, kwB 7, ww, eqS, kwB 9] := h
  obtain ⟨o0, l0, c0, t0, e0, h0⟩ := texts_cons h
  obtain ⟨o1, l1, c1, t1, e1, h1⟩ := texts_cons h0
  obtain ⟨o2, l2, c2, t2, e2, h2⟩ := texts_cons h1
  obtain ⟨o3, l3, c3, t3, e3, h3⟩ := texts_cons h2
  obtain ⟨o4, l4, c4, t4, e4, h4⟩ := texts_cons h3
  have e : t4 = [] := by simpa [textsL] using h4
  subst e
  subst e4
  subst e3
  subst e2
  subst e1
  subst e0
  refine ⟨_, _, rfl, bad29 o0 l0 c0 o1 l1 c1 o2 l2 c2 o3 l3 c3 o4 l4 c4, by simp, ?_⟩
  intro x hx
  rw [List.mem_singleton.1 hx]; rfl
theorem bad30 (o0 l0 c0 o1 l1 c1 o2 l2 c2 o3 l3 c3 : Int) : runT ps0 [⟨wl, o0, l0, c0⟩, ⟨kwB 4, o1, l1, c1⟩, ⟨ww, o2, l2, c2⟩, ⟨⟨#[36, 40, 120]⟩, o3, l3, c3⟩] = (⟨[⟨4, ⟨wl, o0, l0, c0⟩, ⟨kwB 4, o1, l1, c1⟩, false, [⟨ww, o2, l2, c2⟩], [], zTok⟩], true, zTok⟩, some (⟨⟨#[36, 40, 120]⟩, o3, l3, c3⟩, 60)) := by kernel_rfl
theorem badOk30 : BadOk ⟨[wl, kwB 4, ww], ⟨#[36, 40, 120]⟩, 60⟩ := by
  intro ts h
  replace h : textsL ts = [wl, kwB 4, ww, ⟨#[36, 40, 120]⟩] := h
  obtain ⟨o0, l0, c0, t0, e0, h0⟩ := texts_cons h
  obtain ⟨o1, l1, c1, t1, e1, h1⟩ := texts_cons h0
  obtain ⟨o2, l2, c2, t2, e2, h2⟩ := texts_cons h1
  obtain ⟨o3, l3, c3, t3, e3, h3⟩ := texts_cons h2
  have e : t3 = [] := by simpa [textsL] using h3
  subst e
  subst e3
  subst e2
  subst e1
  subst e0
  refine ⟨_, _, rfl, bad30 o0 l0 c0 o1 l1 c1 o2 l2 c2 o3 l3 c3, by simp, ?_⟩
  intro x hx
  rw [List.mem_singleton.1 hx]; rfl
theorem bad_ok : ∀ b ∈ badL, BadOk b := by
  intro b hb
  unfold badL at hb
  simp only [List.mem_cons, List.not_mem_nil, or_false] at hb
  rcases hb with rfl | rfl | rfl | rfl | rfl | rfl | rfl | rfl | rfl | rfl | rfl | rfl | rfl | rfl | rfl | rfl | rfl | rfl | rfl | rfl | rfl | rfl | rfl | rfl | rfl | rfl | rfl | rfl | rfl | rfl | rfl
  · exact badOk0
  · exact badOk1
  · exact badOk2
  · exact badOk3
  · exact badOk4
  · exact badOk5
  · exact badOk6
  · exact badOk7
  · exact badOk8
  · exact badOk9
  · exact badOk10
  · exact badOk11
  · exact badOk12
  · exact badOk13
  · exact badOk14
  · exact badOk15
  · exact badOk16
  · exact badOk17
  · exact badOk18
  · exact badOk19
  · exact badOk20
  · exact badOk21
  · exact badOk22
  · exact badOk23
  · exact badOk24
  · exact badOk25
  · exact badOk26
  · exact badOk27
  · exact badOk28
  · exact badOk29
  · exact badOk30
def wdnbB (x : ByteArray) : Bool := !x.data.toList.isEmpty && (x.data.toList.all fun b => decide (2 ≤ K.kindF b.toNat)) && decide (x.data.toList ≠ [36, 40]) && decide (x.data.toList ≠ [36, 41]) && decide (x.size ≤ 5)
theorem wdnb_B {x : ByteArray} (h : wdnbB x = true) : WdNb x ∧ x.size ≤ 5 := by
  unfold wdnbB at h
  simp only [Bool.and_eq_true, decide_eq_true_eq] at h
  obtain ⟨⟨⟨⟨h1, h2⟩, h3⟩, h4⟩, h5⟩ := h
  exact ⟨wdnb_of ⟨(fun e => by rw [e] at h1; cases h1), h2, h3, h4⟩, h5⟩
theorem bad_words : ∀ b ∈ badL, (∀ x ∈ b.ah ++ [b.wd], WdNb x ∧ x.size ≤ 5) ∧ b.ah.length ≤ 5 := by
  have h : badL.all (fun b => (b.ah ++ [b.wd]).all wdnbB && decide (b.ah.length ≤ 5)) = true := by decide +kernel
  intro b hb
  have h1 := List.all_eq_true.1 h b hb
  simp only [Bool.and_eq_true, decide_eq_true_eq] at h1
  exact ⟨fun x hx => wdnb_B (List.all_eq_true.1 h1.1 x hx), h1.2⟩
/-- The words, each with a blank behind it. -/
def blk32 (l : List ByteArray) : List (ByteArray × UInt8) := l.map fun x => (x, 32)
theorem getLast_app {α : Type} (a b : List α) (h : b ≠ []) : (a ++ b).getLast? = b.getLast? := by
  cases hb : b.getLast? with
  | none => exact absurd (List.getLast?_eq_none_iff.1 hb) h
  | some x => rw [List.getLast?_append, hb]; rfl
theorem blk32_len : ∀ (l : List ByteArray), (∀ x ∈ l, x.size ≤ 5) → (K.bytesL (blk32 l)).length ≤ 6 * l.length
  | [], _ => Nat.le_refl _
  | x :: l, h => by
    have i := blk32_len l fun y hy => h y (List.mem_cons_of_mem _ hy)
    have j := h x List.mem_cons_self
    have e : x.data.toList.length = x.size := rfl
    unfold blk32 K.bytesL at *
    rw [List.map_cons, List.flatMap_cons, List.length_append, List.length_append, e, List.length_singleton, List.length_cons]
    omega
theorem bytesL_append (a b : List (ByteArray × UInt8)) : K.bytesL (a ++ b) = K.bytesL a ++ K.bytesL b := by unfold K.bytesL; rw [List.flatMap_append]
/-- Behind statements that may be, a word that may not stand there offends, whatever follows. -/
theorem fault_read {L : List Stm} (h : printE L = 0) (h6 : (K.bytesL (L.flatMap lineS)).length ≤ 60000) (hc : (L.flatMap lineS).length ≤ 16000) {b : Bd} (hb : b ∈ badL) (s : ByteArray) (B : List UInt8) (hs : s.data.toList = K.bytesL (L.flatMap lineS) ++ K.bytesL (blk32 b.ah) ++ K.bytesL [(b.wd, 32)] ++ B) :
    ∃ (L' : List Stm) (Q : PS) (t : Tok), readF s = (⟨L' ++ Q.l, Q.opn, Q.wt⟩, some (t, b.why)) ∧ AlkL L' L ∧ t.text = b.wd ∧ t.off = ((K.bytesL (L.flatMap lineS) ++ K.bytesL (blk32 b.ah)).length : Nat) ∧ Q.l.length ≤ 1 ∧ ∀ x ∈ Q.l, x.fin.text = ⟨#[]⟩ := by
  obtain ⟨ha, _, hw⟩ := print_fit h
  obtain ⟨hbw, hbl⟩ := bad_words b hb
  obtain ⟨lw, lw2⟩ := lines_words L ha
  have hA : ∀ x ∈ b.ah, WdNb x ∧ x.size ≤ 5 := fun x hx => hbw x (List.mem_append_left _ hx)
  have hW : WdNb b.wd ∧ b.wd.size ≤ 5 := hbw b.wd (by simp)
  have e32 : K.kindF ((32 : UInt8).toNat : Nat) = 1 := by decide
  obtain ⟨PR, hPR⟩ : ∃ PR, L.flatMap lineS ++ blk32 b.ah = PR := ⟨_, rfl⟩
  have hall : ∀ p ∈ PR ++ [(b.wd, (32 : UInt8))], WdNb p.1 ∧ K.kindF p.2.toNat = 1 := fun p hp => by
    rcases List.mem_append.1 hp with hp | hp
    · rw [← hPR] at hp
      rcases List.mem_append.1 hp with hp | hp
      · exact lw2 p hp
      · unfold blk32 at hp
        obtain ⟨x, hx, rfl⟩ := List.mem_map.1 hp
        exact ⟨(hA x hx).1, e32⟩
    · rw [List.mem_singleton.1 hp]; exact ⟨hW.1, e32⟩
  have l1 := blk32_len b.ah fun x hx => (hA x hx).2
  have l2 := blk32_len [b.wd] fun x hx => by rw [List.mem_singleton.1 hx]; exact hW.2
  have ew : blk32 [b.wd] = [(b.wd, 32)] := rfl
  rw [ew] at l2
  have hok : K.WsOk (PR ++ [(b.wd, 32)]) := ⟨fun p hp => ⟨(hall p hp).1.1, (hall p hp).2⟩, fun p hp => (hall p hp).1.2, by
    rw [bytesL_append, ← hPR, bytesL_append, List.length_append, List.length_append]
    simp only [List.length_singleton] at l2
    omega, by
    rw [← hPR, List.length_append, List.length_append]
    unfold blk32
    rw [List.length_map, List.length_singleton]
    omega⟩
  obtain ⟨ts, rest, e1, e2⟩ := K.scan_part s _ B (by rw [hs, bytesL_append, ← hPR, bytesL_append]) hok
  have htx := toks_texts e2
  have hwf : wordsF s = ts.map toT ++ rest.map toT := by unfold wordsF; rw [e1, List.map_append]
  have htx2 : textsL (ts.map toT) = L.flatMap lineWS ++ (b.ah ++ [b.wd]) := by
    rw [htx, ← hPR, List.map_append, List.map_append, lw]
    have : (blk32 b.ah).map (·.1) = b.ah := by unfold blk32; rw [List.map_map]; show b.ah.map id = _; rw [List.map_id]
    rw [this, List.append_assoc]
    rfl
  obtain ⟨T1, T2, eT, x1, x2⟩ := List.map_eq_append_iff.1 (show List.map (·.text) (ts.map toT) = _ from htx2)
  obtain ⟨L', r1, r2, _⟩ := read_lines L T1 [] ha x1
  obtain ⟨t, Q, g1, g2, g3, g4⟩ := bad_ok b hb T2 x2
  have r1' : runT ps0 T1 = (⟨L', false, zTok⟩, none) := r1
  have r3 : runT ⟨L', false, zTok⟩ T2 = (⟨L' ++ Q.l, Q.opn, Q.wt⟩, some (t, b.why)) := by
    have h := run_ahead L' T2 ps0 (fun e => by cases e)
    have e0 : ahead L' ps0 = ⟨L', false, zTok⟩ := by unfold ahead; show (⟨L' ++ [], false, zTok⟩ : PS) = _; rw [List.append_nil]
    rw [e0, g2] at h
    exact h
  have r4 : runT ps0 (wordsF s) = (⟨L' ++ Q.l, Q.opn, Q.wt⟩, some (t, b.why)) := by
    rw [hwf, eT, List.append_assoc, runT_app _ _ _ _ r1']
    exact runT_stop T2 _ _ _ _ r3
  have hlast : (ts.map toT).getLast? = some t := by
    rw [eT]
    cases T2 with
    | nil => simp at g1
    | cons u us => rw [getLast_app _ _ (by simp)]; exact g1
  have hoff : t.off = ((K.bytesL PR).length : Nat) ∧ t.text = b.wd := by
    have h3 := congrArg List.getLast? e2
    rw [K.offL_append, List.map_append, getLast_app _ _ (by simp [K.offL])] at h3
    simp only [K.offL, List.map_cons, List.map_nil, List.getLast?_singleton, Nat.zero_add] at h3
    rw [List.getLast?_map] at hlast h3
    cases hq : ts.getLast? with
    | none => rw [hq] at hlast; cases hlast
    | some q =>
      rw [hq] at hlast h3
      simp only [Option.map_some, Option.some.injEq, Prod.mk.injEq] at hlast h3
      rw [← hlast]
      exact ⟨h3.1, text_ext h3.2⟩
  refine ⟨L', Q, t, ?_, r2, hoff.2, ?_, g3, g4⟩
  · unfold readF
    rw [r4]
  · rw [hoff.1, ← hPR, bytesL_append]
end Go.Proofs.YtipfhfeaalbmcaaDoor

namespace Go.Proofs.YtipfhfeaalbmcaaDoor
open Go.RowKit

/-- What stands ahead of the word. -/
def ahB (b : Bd) : ByteArray := ⟨(K.bytesL (blk32 b.ah)).toArray⟩
def badC : Array Value := #[.string ⟨#[]⟩, .string ⟨#[36, 46]⟩, .int .i64 60, .string ⟨#[]⟩, .string ⟨#[36, 61]⟩, .int .i64 60, .string ⟨#[]⟩, .string ⟨#[36, 120]⟩, .int .i64 60, .string ⟨#[]⟩, .string ⟨#[36]⟩, .int .i64 60, .string ⟨#[]⟩, .string ⟨#[36, 102]⟩, .int .i64 61, .string ⟨#[]⟩, .string ⟨#[36, 112]⟩, .int .i64 61, .string ⟨#[108, 32]⟩, .string ⟨#[36, 99]⟩, .int .i64 61, .string ⟨#[108, 32]⟩, .string ⟨#[36, 118]⟩, .int .i64 61, .string ⟨#[108, 32]⟩, .string ⟨#[36, 100]⟩, .int .i64 61, .string ⟨#[108, 32]⟩, .string ⟨#[36, 123]⟩, .int .i64 61, .string ⟨#[108, 32]⟩, .string ⟨#[36, 125]⟩, .int .i64 61, .string ⟨#[108, 32]⟩, .string ⟨#[109]⟩, .int .i64 60, .string ⟨#[108, 32]⟩, .string ⟨#[36, 46]⟩, .int .i64 60, .string ⟨#[108, 32]⟩, .string ⟨#[36, 113]⟩, .int .i64 60, .string ⟨#[36, 99, 32]⟩, .string ⟨#[36, 46]⟩, .int .i64 62, .string ⟨#[36, 118, 32]⟩, .string ⟨#[36, 46]⟩, .int .i64 62, .string ⟨#[36, 100, 32, 120, 32]⟩, .string ⟨#[36, 46]⟩, .int .i64 62, .string ⟨#[108, 32, 36, 102, 32, 119, 32]⟩, .string ⟨#[36, 46]⟩, .int .i64 62, .string ⟨#[108, 32, 36, 102, 32, 119, 32, 120, 32]⟩, .string ⟨#[121]⟩, .int .i64 62, .string ⟨#[108, 32, 36, 101, 32]⟩, .string ⟨#[36, 46]⟩, .int .i64 62, .string ⟨#[108, 32, 36, 97, 32]⟩, .string ⟨#[36, 46]⟩, .int .i64 62, .string ⟨#[108, 32, 36, 112, 32]⟩, .string ⟨#[36, 46]⟩, .int .i64 62, .string ⟨#[108, 32, 36, 112, 32, 119, 32]⟩, .string ⟨#[36, 46]⟩, .int .i64 62, .string ⟨#[108, 32, 36, 112, 32]⟩, .string ⟨#[36, 61]⟩, .int .i64 62, .string ⟨#[36, 99, 32, 97, 32]⟩, .string ⟨#[36, 61]⟩, .int .i64 60, .string ⟨#[108, 32, 36, 97, 32, 119, 32]⟩, .string ⟨#[36, 61]⟩, .int .i64 60, .string ⟨#[108, 32, 36, 112, 32, 119, 32, 36, 61, 32, 112, 32]⟩, .string ⟨#[36, 61]⟩, .int .i64 60, .string ⟨#[36, 99, 32, 97, 32]⟩, .string ⟨#[36, 99]⟩, .int .i64 60, .string ⟨#[108, 32, 36, 112, 32, 119, 32]⟩, .string ⟨#[36, 123]⟩, .int .i64 60, .string ⟨#[108, 32, 36, 112, 32, 119, 32, 36, 61, 32]⟩, .string ⟨#[36, 125]⟩, .int .i64 60, .string ⟨#[108, 32, 36, 101, 32, 119, 32]⟩, .string ⟨#[36, 40, 120]⟩, .int .i64 60]
def badAt (j : Nat) : Bd := badL.getD j ⟨[], ⟨#[]⟩, 0⟩
theorem badAt_mem {j : Nat} (h : j < 31) : badAt j ∈ badL := by
  have h' : j < badL.length := h
  have h2 : badL[j]? = some badL[j] := List.getElem?_eq_getElem h'
  unfold badAt
  rw [List.getD_eq_getElem?_getD, h2]
  exact List.getElem_mem h'
theorem bad_cells : ∀ j, j < 31 → badC[j * 3]? = some (.string (ahB (badAt j))) ∧ badC[j * 3 + 1]? = some (.string (badAt j).wd) ∧ badC[j * 3 + 2]? = some (.int .i64 (badAt j).why) ∧ badAt j ∈ badL := by
  intro j hj
  have h : j = 0 ∨ j = 1 ∨ j = 2 ∨ j = 3 ∨ j = 4 ∨ j = 5 ∨ j = 6 ∨ j = 7 ∨ j = 8 ∨ j = 9 ∨ j = 10 ∨ j = 11 ∨ j = 12 ∨ j = 13 ∨ j = 14 ∨ j = 15 ∨ j = 16 ∨ j = 17 ∨ j = 18 ∨ j = 19 ∨ j = 20 ∨ j = 21 ∨ j = 22 ∨ j = 23 ∨ j = 24 ∨ j = 25 ∨ j = 26 ∨ j = 27 ∨ j = 28 ∨ j = 29 ∨ j = 30 := by omega
  rcases h with rfl | rfl | rfl | rfl | rfl | rfl | rfl | rfl | rfl | rfl | rfl | rfl | rfl | rfl | rfl | rfl | rfl | rfl | rfl | rfl | rfl | rfl | rfl | rfl | rfl | rfl | rfl | rfl | rfl | rfl | rfl <;> exact ⟨rfl, rfl, rfl, badAt_mem hj⟩
set_option maxRecDepth 100000 in
set_option maxHeartbeats 8000000 in
theorem bad_any (w : World) (n : Int) (h1 : -9223372036854775808 ≤ n) (h2 : n ≤ 9223372036854775807) : ∃ b ∈ badL, Calls Tryd.prog 23 #[.int .i64 n] w fun e w' => e = .returned (.agg #[.string (ahB b), .string b.wd, .int .i64 b.why]) ∧ Below w.heap.size w w' := by
  obtain ⟨j, hj, hj31⟩ : ∃ j : Nat, n % ((31 : Nat) : Int) = j ∧ j < 31 := ⟨(n % 31).toNat, by have := Int.emod_nonneg n (show (31 : Int) ≠ 0 by omega); omega, by have := Int.emod_lt_of_pos n (show (0 : Int) < 31 by omega); have := Int.emod_nonneg n (show (31 : Int) ≠ 0 by omega); omega⟩
  obtain ⟨g0, g1, g2, gm⟩ := bad_cells j hj31
  obtain ⟨b, hb⟩ : ∃ b, badAt j = b := ⟨_, rfl⟩
  rw [hb] at g0 g1 g2 gm
  refine ⟨b, gm, ?_⟩
  obtain ⟨ah, hah⟩ : ∃ ah, ahB b = ah := ⟨_, rfl⟩
  obtain ⟨wd, hwd⟩ : ∃ wd, b.wd = wd := ⟨_, rfl⟩
  obtain ⟨wy, hwy⟩ : ∃ wy, b.why = wy := ⟨_, rfl⟩
  rw [hah] at g0 ⊢
  rw [hwd] at g1 ⊢
  rw [hwy] at g2 ⊢
  clear hah hwd hwy gm hb
  obtain ⟨w1, hw1⟩ : ∃ w1, w1 = w.alloc (.cells #[.string ⟨#[]⟩, .string ⟨#[]⟩, .int .i64 0] 65) := ⟨_, rfl⟩
  have b1 : Below w.heap.size w w1 := by rw [hw1]; exact below_alloc _ _
  have k1 : w1.heap[w.heap.size]? = some (.cells #[.string ⟨#[]⟩, .string ⟨#[]⟩, .int .i64 0] 65 (0, 0)) := by rw [hw1]; exact heap_alloc_new w _
  have s1 : w1.heap.size = w.heap.size + 1 := by rw [hw1]; simp
  obtain ⟨w2, hw2⟩ : ∃ w2, w2 = w1.alloc (.cells badC 65) := ⟨_, rfl⟩
  have b2 : Below w1.heap.size w1 w2 := by rw [hw2]; exact below_alloc _ _
  have k2 : w2.heap[w1.heap.size]? = some (.cells badC 65 (0, 0)) := by rw [hw2]; exact heap_alloc_new w1 _
  have K1 : Hid (w2.heap[w.heap.size]? = some (.cells #[.string ⟨#[]⟩, .string ⟨#[]⟩, .int .i64 0] 65 (0, 0))) := (b2.block _ (by omega)).trans k1
  have B2 : Hid (Below w.heap.size w w2) := b1.trans (b2.mono b1.size)
  have c0 : w2.cell? ⟨w1.heap.size, j * 3, none⟩ = some (.string ah) := by rw [M.cell_whole k2, g0]
  have c1 : w2.cell? ⟨w1.heap.size, j * 3 + 1, none⟩ = some (.string wd) := by rw [M.cell_whole k2, g1]
  have c2 : w2.cell? ⟨w1.heap.size, j * 3 + 2, none⟩ = some (.int .i64 wy) := by rw [M.cell_whole k2, g2]
  have MD : Hid _ := mod_any w2 n 31 (by omega) (by omega) h1 h2
  rw [hj] at MD
  have H1 : Hid (w1 = w.alloc (.cells #[.string ⟨#[]⟩, .string ⟨#[]⟩, .int .i64 0] 65)) := hw1
  have H2 : Hid (w2 = w1.alloc (.cells badC 65)) := hw2
  obtain ⟨D, hD⟩ : ∃ D, w.heap.size = D := ⟨_, rfl⟩
  have HD : Hid (w.heap.size = D ∧ w1.heap.size = D + 1) := ⟨hD, by omega⟩
  rw [HD.out.2] at c0 c1 c2
  rw [HD.out.1] at K1
  have d0 : w2.cell? ⟨D, 0, none⟩ = some (.string ⟨#[]⟩) := M.cell_whole K1.out 0
  have d1 : w2.cell? ⟨D, 1, none⟩ = some (.string ⟨#[]⟩) := M.cell_whole K1.out 1
  have d2 : w2.cell? ⟨D, 2, none⟩ = some (.int .i64 0) := M.cell_whole K1.out 2
  have f0 : w2.frozen? ⟨D, 0, none⟩ = false := by simp [World.frozen?, K1.out]
  have f1 : w2.frozen? ⟨D, 1, none⟩ = false := by simp [World.frozen?, K1.out]
  have f2 : w2.frozen? ⟨D, 2, none⟩ = false := by simp [World.frozen?, K1.out]
  have CL : Hid (∀ W', M.Ch (fun b => b = D) w2 W' → Below w.heap.size w W') := fun W' hc => B2.out.trans (hc.below B2.out.size fun b e => by rw [e]; exact Nat.le_of_eq HD.out.1)
  clear hw1 hw2 b1 b2 k1 k2 s1 hj hD g0 g1 g2
  have n1 : (j : Int) < 31 := by omega
  go_enter Tryd.func23, Tryd.ntmps23
  go_upto_region 2 with fail
  rw [← H1.out]
  have H3 : w2 = w1.alloc (.cells #[.string ⟨#[]⟩, .string ⟨#[36, 46]⟩, .int .i64 60, .string ⟨#[]⟩, .string ⟨#[36, 61]⟩, .int .i64 60, .string ⟨#[]⟩, .string ⟨#[36, 120]⟩, .int .i64 60, .string ⟨#[]⟩, .string ⟨#[36]⟩, .int .i64 60, .string ⟨#[]⟩, .string ⟨#[36, 102]⟩, .int .i64 61, .string ⟨#[]⟩, .string ⟨#[36, 112]⟩, .int .i64 61, .string ⟨#[108, 32]⟩, .string ⟨#[36, 99]⟩, .int .i64 61, .string ⟨#[108, 32]⟩, .string ⟨#[36, 118]⟩, .int .i64 61, .string ⟨#[108, 32]⟩, .string ⟨#[36, 100]⟩, .int .i64 61, .string ⟨#[108, 32]⟩, .string ⟨#[36, 123]⟩, .int .i64 61, .string ⟨#[108, 32]⟩, .string ⟨#[36, 125]⟩, .int .i64 61, .string ⟨#[108, 32]⟩, .string ⟨#[109]⟩, .int .i64 60, .string ⟨#[108, 32]⟩, .string ⟨#[36, 46]⟩, .int .i64 60, .string ⟨#[108, 32]⟩, .string ⟨#[36, 113]⟩, .int .i64 60, .string ⟨#[36, 99, 32]⟩, .string ⟨#[36, 46]⟩, .int .i64 62, .string ⟨#[36, 118, 32]⟩, .string ⟨#[36, 46]⟩, .int .i64 62, .string ⟨#[36, 100, 32, 120, 32]⟩, .string ⟨#[36, 46]⟩, .int .i64 62, .string ⟨#[108, 32, 36, 102, 32, 119, 32]⟩, .string ⟨#[36, 46]⟩, .int .i64 62, .string ⟨#[108, 32, 36, 102, 32, 119, 32, 120, 32]⟩, .string ⟨#[121]⟩, .int .i64 62, .string ⟨#[108, 32, 36, 101, 32]⟩, .string ⟨#[36, 46]⟩, .int .i64 62, .string ⟨#[108, 32, 36, 97, 32]⟩, .string ⟨#[36, 46]⟩, .int .i64 62, .string ⟨#[108, 32, 36, 112, 32]⟩, .string ⟨#[36, 46]⟩, .int .i64 62, .string ⟨#[108, 32, 36, 112, 32, 119, 32]⟩, .string ⟨#[36, 46]⟩, .int .i64 62, .string ⟨#[108, 32, 36, 112, 32]⟩, .string ⟨#[36, 61]⟩, .int .i64 62, .string ⟨#[36, 99, 32, 97, 32]⟩, .string ⟨#[36, 61]⟩, .int .i64 60, .string ⟨#[108, 32, 36, 97, 32, 119, 32]⟩, .string ⟨#[36, 61]⟩, .int .i64 60, .string ⟨#[108, 32, 36, 112, 32, 119, 32, 36, 61, 32, 112, 32]⟩, .string ⟨#[36, 61]⟩, .int .i64 60, .string ⟨#[36, 99, 32, 97, 32]⟩, .string ⟨#[36, 99]⟩, .int .i64 60, .string ⟨#[108, 32, 36, 112, 32, 119, 32]⟩, .string ⟨#[36, 123]⟩, .int .i64 60, .string ⟨#[108, 32, 36, 112, 32, 119, 32, 36, 61, 32]⟩, .string ⟨#[36, 125]⟩, .int .i64 60, .string ⟨#[108, 32, 36, 101, 32, 119, 32]⟩, .string ⟨#[36, 40, 120]⟩, .int .i64 60] 65) := H2.out
  rw [← H3, HD.out.1]
  clear H1 H2 H3
  go_wp2_with fail
  refine Calls.mono MD.out ?_
  rintro e wz ⟨rfl, hwz⟩
  subst wz
  clear MD
  go_wp2
  obtain ⟨wz, hwz⟩ : ∃ wz, wz = ((w2.setCell ⟨D, 0, none⟩ (.string ah)).setCell ⟨D, 1, none⟩ (.string wd)).setCell ⟨D, 2, none⟩ (.int .i64 wy) := ⟨_, rfl⟩
  have KZ : wz.heap[D]? = some (.cells #[.string ah, .string wd, .int .i64 wy] 65 (0, 0)) := by rw [hwz]; exact M.heap_set_same (M.heap_set_same (M.heap_set_same K1.out))
  have CZ : Hid (Below w.heap.size w wz) := by show Below _ _ _; rw [hwz]; exact CL.out _ (((M.ch_set w2 D 0 _).trans (M.ch_set _ D 1 _)).trans (M.ch_set _ D 2 _))
  rw [← hwz]
  have r0 : wz.cell? ⟨D, 0, none⟩ = some (.string ah) := M.cell_whole KZ 0
  have r1 : wz.cell? ⟨D, 1, none⟩ = some (.string wd) := M.cell_whole KZ 1
  have r2 : wz.cell? ⟨D, 2, none⟩ = some (.int .i64 wy) := M.cell_whole KZ 2
  clear hwz KZ
  refine bodyPost_ret (by simp [results, Tryd.results23, go_sem, r0, r1, r2]; try rfl) rfl ?_
  exact ⟨rfl, CZ.out⟩
end Go.Proofs.YtipfhfeaalbmcaaDoor

namespace Go.Proofs.YtipfhfeaalbmcaaDoor
open Go.RowKit

theorem data_app (a b : ByteArray) : (a ++ b).data.toList = a.data.toList ++ b.data.toList := by simp [ByteArray.data_append]
theorem StmtsAt.front {w : World} {a : Option Addr} {l m : List Stm} (h : StmtsAt w a (l ++ m)) : StmtsAt w a l := fun i s hi => h i s (by rw [List.getElem?_append_left (List.getElem?_eq_some_iff.1 hi).1]; exact hi)
theorem ReadIs.cap {w w' : World} {v fv : Value} {its : List Itm} {P : PS} {f : Option (Tok × Int)} (h : ReadIs w w' v fv its P f) {a : Option Addr} {n c : Nat} (e : v = .slice a n c) : n ≤ c := by
  obtain ⟨a', c', e', hc, _⟩ := M.own_cell h.own
  rw [e] at e'
  injection e' with _ e2 e3
  omega
set_option maxRecDepth 100000 in
set_option maxHeartbeats 16000000 in
theorem fault_walk (w : World) (a : Option Addr) (n c : Nat) (l : List Pln) (k : Int) (s : ByteArray) (hl : l.length = n) (hn : n ≤ 1099511627776) (hA : PlansAt w a l) (hok : ∀ p ∈ l, PlnOk p) (hk1 : -9223372036854775808 ≤ k) (hk2 : k ≤ 9223372036854775807) (hs : s.size ≤ 1048576) (hT : RdW w) :
    Calls Tryd.prog 7 #[.slice a n c, .int .i64 k, .string s] w fun e w' => e = .returned (.bool true) ∧ Below w.heap.size w w' := by
  have HT : Hid (RdW w) := hT
  have MD : Hid _ := made_pl w a n c l hl hn hA hok
  obtain ⟨m1, m2, m3, m4, m5⟩ := made_fit l 0 (by omega)
  have mp := made_prints l
  obtain ⟨L, hL⟩ : ∃ L, madeF 0 l = L := ⟨_, rfl⟩
  rw [hL] at MD m1 m2 m3 m4 m5 mp
  obtain ⟨q1, q2⟩ := lines_bytes L m1
  have q3 : (K.bytesL (L.flatMap lineS)).length ≤ 35000 := by have e : K.bytesL (L.flatMap lineS) = rbytes L := q1; rw [e]; omega
  obtain ⟨u1, hu1⟩ : ∃ u, printB L = u := ⟨_, rfl⟩
  have hud : u1.data.toList = K.bytesL (L.flatMap lineS) := by rw [← hu1, (print_fit mp).2.1]
  have hus : u1.size ≤ 35000 := by
    have e : u1.size = u1.data.toList.length := rfl
    rw [e, hud]; exact q3
  have HF : Hid (printE L = 0 ∧ printB L = u1 ∧ L.length ≤ 5000 ∧ (∀ x ∈ L, StmSm x)) := ⟨mp, hu1, by omega, m5⟩
  have HU : Hid (u1.data.toList = K.bytesL (L.flatMap lineS) ∧ (K.bytesL (L.flatMap lineS)).length ≤ 35000 ∧ (L.flatMap lineS).length ≤ 5000) := ⟨hud, q3, by rw [q2]; omega⟩
  obtain ⟨nl, hnl⟩ : ∃ nl, L.length = nl := ⟨_, rfl⟩
  have HNL : Hid (L.length = nl) := hnl
  have hnlb : nl ≤ 5000 := by rw [← hnl]; omega
  have HS : Hid (s.size ≤ 1048576) := hs
  have RD : Hid (∀ (t : ByteArray), t.size ≤ 140737488355328 → ∀ wx, Below w.heap.size w wx → Calls Tryd.prog 9 #[.string t] wx (ReadPost wx t)) := fun t ht wx hb => read_any wx t ht (HT.out.under hb)
  clear hT hA hok hL m1 m2 m3 m4 m5 mp hu1 hnl hl hn q1 q2 q3 hud
  go_enter Tryd.func7, Tryd.ntmps7
  go_wp2_with fail
  refine Calls.mono MD.out ?_
  rintro e w1 ⟨a1, c1, rfl, hs1, hb1⟩
  rw [HNL.out]
  have B1 : Hid (Below w.heap.size w w1) := hb1
  have S1 : Hid (StmtsAt w1 a1 L) := hs1
  have PR : Hid _ := print_any w1 a1 nl c1 L HNL.out (by omega) HF.out.2.2.2 hs1 (HT.out.sh.under hb1)
  rw [HF.out.1, HF.out.2.1] at PR
  clear hs1 hb1 MD
  go_wp2_with fail
  refine Calls.mono PR.out ?_
  rintro e w2 ⟨rfl, hb2⟩
  have B2 : Hid (Below w.heap.size w w2) := B1.out.trans (hb2.mono B1.out.size)
  have S2 : Hid (StmtsAt w2 a1 L) := S1.out.under hb2
  obtain ⟨b, hbm, BD⟩ := bad_any w2 k hk1 hk2
  replace BD : Hid _ := BD
  have HB : Hid (b ∈ badL) := hbm
  obtain ⟨bw, _⟩ := bad_words b hbm
  obtain ⟨bws, bwl⟩ := bad_words b hbm
  have hahs : (ahB b).size ≤ 30 := by
    have e : (ahB b).size = (K.bytesL (blk32 b.ah)).length := rfl
    rw [e]
    have := blk32_len b.ah fun x hx => (bws x (List.mem_append_left _ hx)).2
    omega
  have hwds : b.wd.size ≤ 5 := (bws b.wd (by simp)).2
  obtain ⟨ah, hah⟩ : ∃ ah, ahB b = ah := ⟨_, rfl⟩
  obtain ⟨wd, hwd⟩ : ∃ wd, b.wd = wd := ⟨_, rfl⟩
  obtain ⟨wy, hwy⟩ : ∃ wy, b.why = wy := ⟨_, rfl⟩
  rw [hah] at BD hahs
  rw [hwd] at BD hwds
  rw [hwy] at BD
  have HBW : Hid (ah.data.toList = K.bytesL (blk32 b.ah) ∧ b.wd = wd ∧ b.why = wy) := ⟨by rw [← hah]; rfl, hwd, hwy⟩
  clear hb2 PR S1 B1 hbm bw bws bwl hah hwd hwy hk1 hk2 hs
  go_wp2_with fail
  refine Calls.mono BD.out ?_
  rintro e w3 ⟨rfl, hb3⟩
  have B3 : Hid (Below w.heap.size w w3) := B2.out.trans (hb3.mono B2.out.size)
  have S3 : Hid (StmtsAt w3 a1 L) := S2.out.under hb3
  obtain ⟨w4, hw4⟩ : ∃ w4, w4 = w3.alloc (.cells #[.string ah, .string wd, .int .i64 wy] 65) := ⟨_, rfl⟩
  have b4 : Below w3.heap.size w3 w4 := by rw [hw4]; exact below_alloc _ _
  have k4 : w4.heap[w3.heap.size]? = some (.cells #[.string ah, .string wd, .int .i64 wy] 65 (0, 0)) := by rw [hw4]; exact heap_alloc_new w3 _
  have b5 : w3.heap.size < w4.heap.size := by rw [hw4]; simp
  obtain ⟨D, hD⟩ : ∃ D, w3.heap.size = D := ⟨_, rfl⟩
  have B4 : Hid (Below w.heap.size w w4) := B3.out.trans (b4.mono B3.out.size)
  have S4 : Hid (StmtsAt w4 a1 L) := S3.out.under b4
  rw [hD] at k4 b5
  have K4 : Hid (w4.heap[D]? = some (.cells #[.string ah, .string wd, .int .i64 wy] 65 (0, 0)) ∧ D < w4.heap.size) := ⟨k4, b5⟩
  have H4 : Hid (w4 = w3.alloc (.cells #[.string ah, .string wd, .int .i64 wy] 65)) := hw4
  have HD : Hid (w3.heap.size = D) := hD
  have d0 : w4.cell? ⟨D, 0, none⟩ = some (.string ah) := M.cell_whole K4.out.1 0
  have d1 : w4.cell? ⟨D, 1, none⟩ = some (.string wd) := M.cell_whole K4.out.1 1
  clear hb3 BD S2 B2 hw4 b4 k4 hD b5 S3 B3
  go_upto_region 6 with fail
  rw [← H4.out, HD.out]
  clear H4 HD
  have z1 : ¬ 9223372036854775807 < u1.size + ah.size + wd.size + 1 + s.size := by have := HS.out; omega
  obtain ⟨T, hTT⟩ : ∃ T, u1 ++ ah ++ wd ++ ⟨#[32]⟩ ++ s = T := ⟨_, rfl⟩
  have hTs : T.size ≤ 140737488355328 := by
    rw [← hTT]
    simp only [ByteArray.size_append]
    have := HS.out
    have e : (⟨#[32]⟩ : ByteArray).size = 1 := rfl
    omega
  have HRD : Hid (∃ (L' : List Stm) (Q : PS) (t : Tok), readF T = (⟨L' ++ Q.l, Q.opn, Q.wt⟩, some (t, wy)) ∧ AlkL L' L ∧ t.text = wd ∧ t.off = ((u1.size + ah.size : Nat) : Int) ∧ Q.l.length ≤ 1 ∧ ∀ x ∈ Q.l, x.fin.text = ⟨#[]⟩) := by
    obtain ⟨p1, p2, p3⟩ := HBW.out
    obtain ⟨e1, e2, e3⟩ := HU.out
    obtain ⟨L', Q, t, r1, r2, r3, r4, r5, r6⟩ := fault_read HF.out.1 (by omega) (by omega) HB.out T s.data.toList (by
      rw [← hTT, data_app, data_app, data_app, data_app, e1, p1, p2]
      have e : K.bytesL [(wd, 32)] = wd.data.toList ++ [32] := by unfold K.bytesL; simp
      have e4 : (⟨#[32]⟩ : ByteArray).data.toList = [32] := rfl
      rw [e, e4]
      simp only [List.append_assoc])
    rw [p3] at r1
    rw [p2] at r3
    refine ⟨L', Q, t, r1, r2, r3, ?_, r5, r6⟩
    rw [r4, List.length_append, ← e1, ← p1]
    rfl
  have R1 : Hid _ := RD.out T hTs w4 B4.out
  have HTT : Hid (u1 ++ ah ++ wd ++ ⟨#[32]⟩ ++ s = T) := hTT
  clear hTT hTs RD
  go_wp2_with fail
  rw [HTT.out]
  refine Calls.mono R1.out ?_
  rintro e w5 ⟨v5, f5, its5, rfl, hr5⟩
  obtain ⟨L', Q, t, hread, hal, htt, hto, hql, hqe⟩ := HRD.out
  obtain ⟨a5, c5, ev, hst⟩ := hr5.stmts
  have hft := hr5.ft
  rw [hread] at ev hst hft
  dsimp only at ev hst hft
  have hcap := hr5.cap ev
  subst ev
  obtain ⟨Bf, rfl, _, hFa⟩ := hft
  rw [htt, hto] at hFa
  have B5 : Hid (Below w.heap.size w w5) := B4.out.trans (hr5.bel.mono B4.out.size)
  have S5 : Hid (StmtsAt w5 a1 L) := S4.out.under hr5.bel
  have K5 : w5.heap[D]? = some (.cells #[.string ah, .string wd, .int .i64 wy] 65 (0, 0)) := (hr5.bel.block _ K4.out.2).trans K4.out.1
  have T5 : Hid (StmtsAt w5 a5 (L' ++ Q.l)) := hst
  have e1 : w5.cell? ⟨D, 1, none⟩ = some (.string wd) := M.cell_whole K5 1
  have e2 : w5.cell? ⟨D, 2, none⟩ = some (.int .i64 wy) := M.cell_whole K5 2
  obtain ⟨oo, hoo⟩ : ∃ oo, u1.size + ah.size = oo := ⟨_, rfl⟩
  have hoob : oo ≤ 35030 := by omega
  rw [hoo] at hFa
  have y0 : w5.cell? ⟨Bf, 0, none⟩ = some (.int .i64 oo) := M.cell_whole hFa 0
  have y3 : w5.cell? ⟨Bf, 3, none⟩ = some (.string wd) := M.cell_whole hFa 3
  have y4 : w5.cell? ⟨Bf, 4, none⟩ = some (.int .i64 wy) := M.cell_whole hFa 4
  have HAL : Hid (AlkL L' L ∧ ∀ x ∈ Q.l, x.fin.text = ⟨#[]⟩) := ⟨hal, hqe⟩
  have hll : L'.length = nl := by rw [hal.1]; exact HNL.out
  rw [List.length_append, hll] at hcap ⊢
  have hlen : (u1 ++ ah ++ wd).size = oo + wd.size := by simp only [ByteArray.size_append]; omega
  obtain ⟨T1, hT1⟩ : ∃ T1, u1 ++ ah ++ wd = T1 := ⟨_, rfl⟩
  rw [hT1] at hlen ⊢
  have cw : IntKind.i64.wrap ((T1.size : Int) - (wd.size : Int)) = (oo : Int) := by rw [hlen, IntKind.wrap_i64]; omega
  have cn : IntKind.i64.wrap ((nl : Int) + 1) = (nl : Int) + 1 := by rw [IntKind.wrap_i64]; omega
  have SM : Hid (∀ x ∈ L', x.words.length ≤ 1048576 ∧ x.proof.length ≤ 1048576) := fun x hx => by
    obtain ⟨i, hi⟩ := List.getElem?_of_mem hx
    obtain ⟨y, hy⟩ : ∃ y, L[i]? = some y := ⟨_, List.getElem?_eq_getElem (by rw [← hal.1]; exact (List.getElem?_eq_some_iff.1 hi).1)⟩
    have k := hal.2 i x y hi hy
    have z := HF.out.2.2.2 y (List.mem_of_getElem? hy)
    rw [texts_len k.w, texts_len k.p]
    exact ⟨z.nw, z.np⟩
  have HLL : Hid (L'.length = nl) := hll
  clear hr5 hst hread hal htt hto hqe hFa K5 R1 HRD HTT hlen hT1 hoo hll z1 d0 d1 K4 S4 B4 HBW HU hahs hus HB
  obtain ⟨ql, hq⟩ : ∃ ql, Q.l = ql := ⟨_, rfl⟩
  rw [hq] at hql hcap T5 HAL ⊢
  clear hq
  match ql, hql with
  | [], _ =>
    rw [List.append_nil] at T5
    rw [List.length_nil, Nat.add_zero] at hcap ⊢
    have g1 : ¬ (nl : Int) < (nl : Int) := by omega
    have g2 : ¬ (nl : Int) + 1 < (nl : Int) := by omega
    go_upto_region 8 with fail
    go_quiet (fail)
    have Bq : Hid (Below w5.heap.size w5 (w5.drewN nq)) := below_drewN (Below.refl _ _) nq
    generalize w5.drewN nq = wq at *
    have B6 : Hid (Below w.heap.size w wq) := B5.out.trans (Bq.out.mono B5.out.size)
    have AK : Hid _ := alike_eq wq a5 a1 nl c5 c1 L' L HLL.out (by omega) SM.out HAL.out.1 (T5.out.under Bq.out) (S5.out.under Bq.out)
    have hc : (nl : Int) ≤ (c5 : Int) := by omega
    clear S5 T5 B5
    cases a5 with
    | none =>
      go_wp2_with fail
      refine Calls.mono AK.out ?_
      rintro e w6 ⟨rfl, hb6⟩
      have B7 : Hid (Below w.heap.size w w6) := B6.out.trans (hb6.mono B6.out.size)
      clear hb6 AK
      go_wp2
      go_ret
      exact ⟨rfl, B7.out⟩
    | some ad =>
      go_wp2_with fail
      refine Calls.mono AK.out ?_
      rintro e w6 ⟨rfl, hb6⟩
      have B7 : Hid (Below w.heap.size w w6) := B6.out.trans (hb6.mono B6.out.size)
      clear hb6 AK
      go_wp2
      go_ret
      exact ⟨rfl, B7.out⟩
  | [x], _ =>
    rw [List.length_singleton] at hcap ⊢
    have g1 : ¬ ((nl : Int) + 1) < (nl : Int) := by omega
    have g2 : ¬ (nl : Int) + 1 < ((nl : Int) + 1) := by omega
    obtain ⟨g, off, aw, cw', ap, cp, rfl, hcell, _⟩ := T5.out nl x (by rw [List.getElem?_append_right (by rw [HLL.out]; exact Nat.le_refl _), HLL.out, Nat.sub_self]; rfl)
    have x12 : w5.cell? ⟨g, off + nl * 16 + 12, none⟩ = some (.string x.fin.text) := hcell 12 _ rfl
    rw [HAL.out.2 x (by simp)] at x12
    have X12 : Hid (w5.cell? ⟨g, off + nl * 16 + 12, none⟩ = some (.string ⟨#[]⟩)) := x12
    clear hcell x12
    go_upto_region 8 with fail
    go_quiet (fail)
    have Bq : Hid (Below w5.heap.size w5 (w5.drewN nq)) := below_drewN (Below.refl _ _) nq
    generalize w5.drewN nq = wq at *
    have B6 : Hid (Below w.heap.size w wq) := B5.out.trans (Bq.out.mono B5.out.size)
    have AK : Hid _ := alike_eq wq (some ⟨g, off, none⟩) a1 nl c5 c1 L' L HLL.out (by omega) SM.out HAL.out.1 (T5.out.under Bq.out).front (S5.out.under Bq.out)
    have X13 : Hid (wq.cell? ⟨g, off + nl * 16 + 12, none⟩ = some (.string ⟨#[]⟩)) := (Bq.out.cell (p := ⟨g, _, none⟩) (World.block_lt_of_cell? _ _ X12.out)).trans X12.out
    have hc : (nl : Int) ≤ (c5 : Int) := by omega
    clear S5 T5 B5
    go_wp2_with fail
    refine Calls.mono AK.out ?_
    rintro e w6 ⟨rfl, hb6⟩
    have x13 : w6.cell? ⟨g, off + nl * 16 + 12, none⟩ = some (.string ⟨#[]⟩) := (hb6.cell (p := ⟨g, _, none⟩) (World.block_lt_of_cell? _ _ X13.out)).trans X13.out
    have B7 : Hid (Below w.heap.size w w6) := B6.out.trans (hb6.mono B6.out.size)
    clear hb6 AK
    go_wp2
    go_ret
    exact ⟨rfl, B7.out⟩
end Go.Proofs.YtipfhfeaalbmcaaDoor

namespace Go.Proofs.YtipfhfeaalbmcaaDoor
open Go.ChangeShapes Go.WideShapes Go.ChangeAt Go.RowKit Go.Deep Go.Shelf Go.Lib
open Go.ChangeMaps (open_string shut_string)

theorem fault_reads (os : Os) {H : Type} (enc : TypeId × Value → H) : ∃ places, DataW.whole enc Tryd.prog ((World.doorLaid Tryd.prog 400 os).forCall (fun _ _ => 0) ⟨#[], #[.slice none 0 0, .int .i64 0, .string ⟨#[]⟩], []⟩).memory Tryd.f7.params.toList Rows.stmtFaultsSpec.vars false #[Value.slice none 0 0, Value.int .i64 0, Value.string ⟨#[]⟩].toList 8 = some ([.nil, .lit (.int .i64 0), .lit (.string [])], [], places) :=
  ⟨[], by kernel_rfl⟩

set_option maxRecDepth 100000 in
theorem fault_lifted (os : Os) (started : os.Started) (H : Type) (enc : TypeId × Value → H) (F : Stop.Interp) :
    ReturnsInHanded {} Tryd.checked os 7 .any ((Rows.OpenSpec.upto Rows.stmtFaultsSpec).preRow enc Tryd.prog Tryd.f7 Rows.stmtFaultsUptoRow.domain false Rows.stmtFaultsUptoRow.laid) (((Rows.OpenSpec.upto Rows.stmtFaultsSpec).at F).post enc Tryd.prog Tryd.f7 false true false false) := by
  obtain ⟨places, hx⟩ := fault_reads os enc
  refine returnsInHanded_of_row (C := Tryd.checked) (s := Rows.OpenSpec.upto Rows.stmtFaultsSpec) rown started (by kernel_rfl) Tryd.func7
    (witness_row_at (enc := enc) (C := Tryd.checked) false (World.doorLaid Tryd.prog 400 os) #[.slice none 0 0, .int .i64 0, .string ⟨#[]⟩] rfl (by kernel_rfl) (by kernel_rfl) (by kernel_rfl)
      (OpenSpec.preRow_of_cond 8 hx (by kernel_rfl) (fun k hk => by cases hk; kernel_rfl) (by kernel_rfl) (door_met os _))) ?_
  intro W base args ds gs before hval0 hW _ hcond _ hL hsh _
  have hk := hcond _ rfl
  have hval : ∀ (j : Nat) t v, Tryd.f7.params[j]? = some t → args[j]? = some v → Value.okWide Tryd.prog W .any base t v := hval0
  have hW' := hW
  obtain ⟨p, q, hA0, hV, rfl, hfz, hnd⟩ := hW
  have hA : DataW.TrodAll enc Tryd.prog W 0 (fun _ => true) true Tryd.f7.params.toList args.toList ds p := hA0
  rw [Tryd.params7] at hA hval
  obtain ⟨v0, v1, v2, d0, d1, d2, p0, p1, p2, rfl, rfl, rfl, h0, h1, h2⟩ := trodAll_three hA
  obtain ⟨rfl, rfl⟩ := trodVars_none hV
  obtain ⟨wa0, wn0, wc0, rfl⟩ := okWide_slice Tryd.underlying58 (hval 0 58 v0 rfl rfl)
  obtain ⟨k, rfl, rfl, rfl, hk1⟩ := open_int Tryd.underlying3 (hval 1 3 v1 rfl rfl) h1
  obtain ⟨s, rfl, rfl, rfl, hs⟩ := open_string Tryd.underlying9 (hval 2 9 v2 rfl rfl) h2
  have hk0 := h0
  obtain ⟨f0, hf0⟩ := h0
  simp only [List.append_nil] at hW' hk
  have hbulk : Rows.uptoBulkAll (H := H) [d0, .lit (.int .i64 k), .lit (.string s.data.toList)] ≤ 1048576 := of_decide_eq_true hk
  simp only [Rows.uptoBulkAll, Rows.uptoBulk] at hbulk
  have hl0 : ∀ x ∈ p0, x.block < W.heap.size := fun x hx => by simpa using hW'.lt x (by simp [hx])
  obtain ⟨l, hll, hS, hz, hpo⟩ := plans_in hf0
  have hz' : wn0 ≤ Rows.uptoBulk d0 := hz
  have hsz : s.size ≤ 1048576 := by
    have h2 : s.data.toList.length = s.size := rfl
    omega
  refine (fault_walk W wa0 wn0 wc0 l k s hll (by omega) hS (hpo (by show Rows.uptoBulk d0 ≤ _; omega)) (bounds_i64 hk1).1 (bounds_i64 hk1).2 hsz (rdw_of_laid hL hsh)).mono fun e W' ⟨he, bel⟩ => ?_
  subst he
  exact ⟨_, rfl, _, _, _, [], _, [], hW', trodAll_mk1 (shut_bool Tryd.underlying4 _), trodAll_mk3 (Below.trod rlaidOut (by kernel_rfl) (of_decide_eq_true (by kernel_rfl)) hk0 bel hl0) (shut_int Tryd.underlying3 hk1) (shut_string Tryd.underlying9 hs), rfl, bel.frame _, fun h => by cases h⟩

theorem fault_row : Rows.StmtFaultsUptoSaid :=
  OpenClaim.holds_of_cond 7 Tryd.f7 rfl rfl rfl rfl rfl rfl rfl ⟨rfl, rfl, rfl, rfl, rfl⟩ rfl rfl rfl rfl rfl (by kernel_rfl) Tryd.func7 (by kernel_rfl)
    (of_decide_eq_true (by kernel_rfl)) (by unfold Func.isWrapper; first | (rw [if_pos (by decide +kernel)]; kernel_rfl) | (rw [if_neg (by decide +kernel)]; exact ⟨rfl, rfl⟩))
    (fun os started H enc _ F => by rw [OpenClaim.pre_eq_preRow]; exact fault_lifted os started H enc F)

theorem fault_holds : Rows.StmtFaultsUptoCardSaid :=
  Claim7.holds_tied_plain_at .later [] _ _ _ _ fault_row (fun _ h => by cases h) (by kernel_rfl) (fun _ h => by cases h) stmtFaultsUpto_row_tie rfl ⟨rfl, rfl⟩ (by kernel_rfl) rfl
    (fun f fn hf hfn => by
      obtain rfl : f = 7 := Option.some.inj ((show Tryd.prog.funcNamed "lemma/lemmalaw06.StmtFaults" = some 7 by kernel_rfl).symm.trans hf) |>.symm
      obtain rfl : fn = Tryd.f7 := (Option.some.inj (Tryd.func7.symm.trans hfn)).symm
      exact ⟨by kernel_rfl, fun j t ht => by
        rw [Tryd.params7] at ht
        have hm : t ∈ [58, 3, 9] := by simpa using Array.mem_of_getElem? ht
        have hall : ([58, 3, 9].all fun u => !Tryd.prog.wantsStandIn u) = true := by kernel_rfl
        exact (show Tryd.prog.wantsStandIn t = false by simpa using List.all_eq_true.1 hall t hm)⟩)
    (by kernel_rfl)
#print axioms fault_holds
end Go.Proofs.YtipfhfeaalbmcaaDoor
