/- Calls of a stack while what was told stays. -/
import Derived.Test.YtkejjiilcoacfaaGreatScopesA
namespace Go.Proofs.YtkejjiilcoacfaaGreat
open Go.Maps Go.RowKit Go.WideMaps

/-- A stack whose blocks lie beside those from N to U. -/
structure RoundS (w0 W : World) (P N U : Nat) (cur : List Sa) : Prop where
  st : ∃ O, StO O W P cur ∧ ∀ g, O g → w0.heap.size ≤ g ∧ (g < N ∨ U ≤ g)
  b : Below w0.heap.size w0 W
  u : U ≤ W.heap.size
theorem RoundS.sta {w0 W : World} {P N U : Nat} {cur : List Sa} (h : RoundS w0 W P N U cur) : StA w0.heap.size W P cur := by
  obtain ⟨O, h1, h2⟩ := h.st
  exact h1.st fun g hg => (h2 g hg).1
theorem RoundS.under {w0 W W' : World} {P N U : Nat} {cur : List Sa} (h : RoundS w0 W P N U cur) (hb : Below W.heap.size W W') : RoundS w0 W' P N U cur := by
  obtain ⟨O, h1, h2⟩ := h.st
  exact ⟨⟨O, h1.below hb, h2⟩, h.b.trans (hb.mono h.b.size), Nat.le_trans h.u hb.size⟩
/-- What turned lies beside the blocks from N to U. -/
def KeepC (N U : Nat) (W W' : World) : Prop := ∃ X, M.Ch X W W' ∧ ∀ g, X g → g < N ∨ U ≤ g
theorem KeepC.below {N U : Nat} {W W' : World} (hb : Below W.heap.size W W') : KeepC N U W W' := ⟨fun _ => False, M.Ch.of_below hb, fun _ e => e.elim⟩
theorem KeepS.kc {N U : Nat} {W W' : World} {l : List Sa} {S : Nat} {a p : Option Addr} {n c k d : Nat} {ts : List HyC} {m : List Pp} (h : KeepS N U W l S a p n c k d ts m) (hc : KeepC N U W W') : KeepS N U W' l S a p n c k d ts m := by
  obtain ⟨X, h1, h2⟩ := hc
  exact h.ch h1 h2
theorem round_next {w0 W W' : World} {P N U : Nat} {O : Nat → Prop} {cur' : List Sa} (hO : ∀ g, O g → w0.heap.size ≤ g ∧ (g < N ∨ U ≤ g)) (hb : Below w0.heap.size w0 W) (hu : U ≤ W.heap.size) (hS : StO (More O W W') W' P cur') (hc : M.Ch O W W') : RoundS w0 W' P N U cur' ∧ KeepC N U W W' := by
  refine ⟨⟨⟨_, hS, fun g hg => ?_⟩, hb.trans (hc.below hb.size fun g e => (hO g e).1), Nat.le_trans hu hc.size⟩, O, hc, fun g e => (hO g e).2⟩
  rcases hg with hg | hg
  · exact hO g hg
  · exact ⟨Nat.le_trans hb.size hg.1, .inr (Nat.le_trans hu hg.1)⟩
def DeclR (w0 : World) (P N U : Nat) (W : World) (E : Int) (cur' : List Sa) (e : Ending) (W' : World) : Prop := e = .returned (.int .i64 E) ∧ RoundS w0 W' P N U cur' ∧ KeepC N U W W'
theorem open_rs {w0 W : World} {P N U : Nat} {cur : List Sa} (h : RoundS w0 W P N U cur) (hn : cur.length ≤ 1048576) : Calls Tryz.prog 12 #[.pointer (some ⟨P, 0, none⟩)] W (DeclR w0 P N U W (openE cur) (openL cur)) := by
  obtain ⟨O, h1, h2⟩ := h.st
  exact (open_so h1 hn).mono fun e W' ⟨he, hS, hc⟩ => ⟨he, round_next h2 h.b h.u hS hc⟩
theorem close_rs {w0 W : World} {P N U : Nat} {cur : List Sa} (h : RoundS w0 W P N U cur) (h0 : 0 < cur.length) (hn : cur.length ≤ 1048576) : Calls Tryz.prog 25 #[.pointer (some ⟨P, 0, none⟩)] W (DeclR w0 P N U W (closeE cur) (closeL cur)) := by
  obtain ⟨O, h1, h2⟩ := h.st
  exact (close_so h1 h0 hn).mono fun e W' ⟨he, hS, hc⟩ => ⟨he, round_next h2 h.b h.u hS hc⟩
def SayR (w0 : World) (P N U : Nat) (W : World) (E : Int) (cur' : List Sa) (e : Ending) (W' : World) : Prop := e = .returned (.tuple #[.int .i64 E, .bool true]) ∧ RoundS w0 W' P N U cur' ∧ KeepC N U W W'
theorem says_rs {w0 W : World} {P N U : Nat} {cur : List Sa} (h : RoundS w0 W P N U cur) (hl : SaOk cur) (x : OpC) (hx : OpOk 1048576 x.o) (hlab : x.o.lab.size ≤ 281474976710656) (hE : NsAt w0 x.ea x.o.e) :
    Calls Tryz.prog 16 #[.pointer (some ⟨P, 0, none⟩), .agg #[.int .i64 x.o.k, .string x.o.lab, .int .i64 x.o.a, .int .i64 x.o.b, .slice x.ea x.o.e.length x.ec]] W (SayR w0 P N U W (sayE cur x.o) (sayL cur x.o)) := by
  obtain ⟨O, h1, h2⟩ := h.st
  exact (says_so h1 hl x.o hx hlab x.ea _ x.ec rfl (hE.under h.b) (fun W' hW => hE.under (h.b.trans (hW.below h.b.size fun g e => (h2 g e).1)))).mono fun e W' ⟨he, hS, hc⟩ => ⟨he, round_next h2 h.b h.u hS hc⟩
/-- A stack, told, and its answer in a box: the stack's blocks lie beneath. -/
theorem round_of {w0 W W' : World} {P : Nat} {cur : List Sa} (h : StA w0.heap.size W P cur) (hb : Below w0.heap.size w0 W) (hb' : Below W.heap.size W W') (U : Nat) (hU : U ≤ W'.heap.size) : RoundS w0 W' P W.heap.size U cur := by
  obtain ⟨O, h1, h2⟩ := h.so
  exact ⟨⟨O, h1.below hb', fun g hg => ⟨h2 g hg, .inl (h1.lt g hg)⟩⟩, hb.trans (hb'.mono hb.size), hU⟩
/-- Two answers of one stack are the same. -/
theorem same_told {W : World} {l : List Sa} {i : Nat} (hg : Good i 1048576 l) (hi : i ≤ 1000000) {a b p q : Option Addr} {n k n2 k2 : Nat} {ts us : List HyC} {m m2 : List Pp} (h1 : ScopeL W l a p n k ts m) (h2 : ScopeL W l b q n2 k2 us m2) (c d c2 d2 : Nat) : Calls Tryz.prog 19 #[.agg #[.slice a n c, .slice p k d], .agg #[.slice b n2 c2, .slice q k2 d2]] W fun e w' => e = .returned (.bool true) ∧ Below W.heap.size W w' := by
  have en : n = n2 := by
    have e1 := congrArg List.length h1.h
    have e2 := congrArg List.length h2.h
    rw [List.length_map, h1.n] at e1
    rw [List.length_map, h2.n] at e2
    omega
  have em : m = m2 := norm_one h1.nm h2.nm
  subst em
  have ek : k = k2 := by rw [← h1.k, h2.k]
  subst en
  subst ek
  obtain ⟨f1, f2, f3⟩ := h1.few hg hi
  exact sameScope_t W a b p q n k c d c2 d2 ts us m h1.n f1 f3 (h1.h.trans h2.h.symm) h1.ha h2.ha h1.k f2 h1.hp h2.hp
/-- What a round of FrameScopes holds. -/
structure RoundN (w0 W : World) (P i : Nat) (l : List Sa) : Prop where
  g : Good i 1048576 l
  st : StA w0.heap.size W P l
  b : Below w0.heap.size w0 W
theorem Good.close {n B : Nat} {l : List Sa} (h : Good n B l) : Good n B (closeL l) := by
  have h0 := h.n0
  have h1 := h.n1
  unfold closeL
  split
  · exact h
  · refine h.part (by rw [List.length_take]; omega) (by rw [List.length_take]; omega) ?_ ?_
    · unfold hypsA
      exact flat_take _ _ _
    · unfold apsA
      exact flat_take _ _ _
/-- The scope that was opened, and what lies in it. -/
structure InS (w0 W : World) (P N U S : Nat) (l : List Sa) (qn i : Nat) (a p : Option Addr) (n c k d : Nat) (ts : List HyC) (m : List Pp) (r : List Sa) : Prop where
  len : r.length = qn + 1
  g : Good i 1048576 (l ++ r)
  st : RoundS w0 W P N U (l ++ r)
  kp : KeepS N U W l S a p n c k d ts m
end Go.Proofs.YtkejjiilcoacfaaGreat
