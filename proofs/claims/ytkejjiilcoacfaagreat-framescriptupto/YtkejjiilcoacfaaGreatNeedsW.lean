/- What the laws on frames hold along their scripts. -/
import Derived.Test.YtkejjiilcoacfaaGreatSayB
import Derived.Test.YtkejjiilcoacfaaGreatNeedsC
namespace Go.Proofs.YtkejjiilcoacfaaGreat
open Go.Maps Go.RowKit Go.WideMaps

/-- A step, and where its list lies. -/
structure OpC where
  o : OpA
  ea : Option Addr
  ec : Nat
def OpsAt (w : World) (a : Option Addr) (os : List OpC) : Prop := ∀ (i : Nat) (x : OpC), os[i]? = some x → ∃ b off, a = some ⟨b, off, none⟩ ∧ w.cell? ⟨b, off + i * 5, none⟩ = some (.int .i64 x.o.k) ∧ w.cell? ⟨b, off + i * 5 + 1, none⟩ = some (.string x.o.lab) ∧ w.cell? ⟨b, off + i * 5 + 2, none⟩ = some (.int .i64 x.o.a) ∧ w.cell? ⟨b, off + i * 5 + 3, none⟩ = some (.int .i64 x.o.b) ∧ w.cell? ⟨b, off + i * 5 + 4, none⟩ = some (.slice x.ea x.o.e.length x.ec) ∧ NsAt w x.ea x.o.e
theorem OpsAt.under {w w' : World} {a : Option Addr} {os : List OpC} (h : OpsAt w a os) (hb : Below w.heap.size w w') : OpsAt w' a os := fun i x hi => by
  obtain ⟨b, off, e, h0, h1, h2, h3, h4, h5⟩ := h i x hi
  exact ⟨b, off, e, cell_under hb h0, cell_under hb h1, cell_under hb h2, cell_under hb h3, cell_under hb h4, h5.under hb⟩
structure OpsOk (os : List OpC) : Prop where
  n : os.length ≤ 1000000
  o : ∀ x ∈ os, OpOk 1048576 x.o
  l : ∀ x ∈ os, x.o.lab.size ≤ 281474976710656
theorem StA.so {N : Nat} {w : World} {P : Nat} {l : List Sa} (h : StA N w P l) : ∃ O, StO O w P l ∧ ∀ g, O g → N ≤ g := by
  obtain ⟨O, vS, xs, h1, h2, h3⟩ := h
  exact ⟨O, ⟨vS, xs, h1, h2⟩, h3⟩
theorem StO.st {N : Nat} {O : Nat → Prop} {w : World} {P : Nat} {l : List Sa} (h : StO O w P l) (hO : ∀ g, O g → N ≤ g) : StA N w P l := by
  obtain ⟨vS, xs, h1, h2⟩ := h
  exact ⟨O, vS, xs, h1, h2, hO⟩
def SayA' (N : Nat) (w : World) (P : Nat) (E : Int) (l : List Sa) (e : Ending) (w' : World) : Prop := e = .returned (.tuple #[.int .i64 E, .bool true]) ∧ StA N w' P l ∧ Below N w w'
theorem says_st {w0 w : World} {P : Nat} {l : List Sa} (hb : Below w0.heap.size w0 w) (h : StA w0.heap.size w P l) (hl : SaOk l) (x : OpC) (hx : OpOk 1048576 x.o) (hlab : x.o.lab.size ≤ 281474976710656) (hE : NsAt w0 x.ea x.o.e) :
    Calls Tryz.prog 16 #[.pointer (some ⟨P, 0, none⟩), .agg #[.int .i64 x.o.k, .string x.o.lab, .int .i64 x.o.a, .int .i64 x.o.b, .slice x.ea x.o.e.length x.ec]] w (SayA' w0.heap.size w P (sayE l x.o) (sayL l x.o)) := by
  obtain ⟨O, hS, hO⟩ := h.so
  refine (says_so hS hl x.o hx hlab x.ea _ x.ec rfl (hE.under hb) (fun W hW => hE.under (hb.trans (hW.below hb.size hO)))).mono fun e w' ⟨he, hS', hc⟩ => ⟨he, hS'.st fun g hg => ?_, hc.below hb.size hO⟩
  rcases hg with hg | hg
  · exact hO g hg
  · exact Nat.le_trans hb.size hg.1
/-- All that is active, told. -/
structure ScopeL (W : World) (l : List Sa) (a p : Option Addr) (n k : Nat) (ts : List HyC) (m : List Pp) : Prop where
  n : ts.length = n
  k : m.length = k
  h : ts.map (·.h) = hypsA l
  nm : IsNorm (apsA l) m
  ha : HysAt W a ts
  hp : PairsAt W p m
theorem ScopeL.under {W W' : World} {l : List Sa} {a p : Option Addr} {n k : Nat} {ts : List HyC} {m : List Pp} (h : ScopeL W l a p n k ts m) (hb : Below W.heap.size W W') : ScopeL W' l a p n k ts m := ⟨h.n, h.k, h.h, h.nm, h.ha.under hb, h.hp.under hb⟩
theorem scope_law {N n : Nat} {w : World} {P : Nat} {l : List Sa} (h : StA N w P l) (hg : Good n 1048576 l) (hn : n ≤ 1000000) : Calls Tryz.prog 15 #[.pointer (some ⟨P, 0, none⟩)] w fun e w' => Below w.heap.size w w' ∧ ∃ a n c p k d ts m, e = .returned (.agg #[.slice a n c, .slice p k d]) ∧ ScopeL w' l a p n k ts m :=
  (scope_st h (hg.ok hn (by omega))).mono fun e w' ⟨hb, vh, vp, ts, m, he, hs⟩ => by
    obtain ⟨a, c, rfl, _, ha⟩ := hs.t.at
    obtain ⟨p, d, rfl, _⟩ := own_shape hs.p
    exact ⟨hb, a, _, c, p, _, d, ts, m, he, rfl, rfl, hs.h, hs.n, ha, own_pairs hs.p⟩
theorem ScopeL.few {W : World} {l : List Sa} {a p : Option Addr} {n k i : Nat} {ts : List HyC} {m : List Pp} (h : ScopeL W l a p n k ts m) (hg : Good i 1048576 l) (hi : i ≤ 1000000) : n ≤ 1048576 ∧ k ≤ 1048576 ∧ ∀ y ∈ ts, y.h.ex.length ≤ 17592186043904 := by
  refine ⟨?_, ?_, fun y hy => ?_⟩
  · have h1 := congrArg List.length h.h
    rw [List.length_map, h.n] at h1
    have := hg.hn
    omega
  · have h1 := norm_few hg h.nm
    have := h.k
    omega
  · have h1 : y.h ∈ hypsA l := by rw [← h.h]; exact List.mem_map.2 ⟨y, hy, rfl⟩
    have := (hg.wf _ h1).2.2
    omega
/-- What a goal needs, told. -/
structure FrameL (W : World) (l : List Sa) (m : List Pp) (goal : List Int) (a p g : Option Addr) (n k z : Nat) (us : List HyC) : Prop where
  n : us.length = n
  k : (needQ (hypsA l) goal m).length = k
  z : goal.length = z
  h : us.map (·.h) = needH (hypsA l) goal
  ha : HysAt W a us
  hp : PairsAt W p (needQ (hypsA l) goal m)
  hg : NsAt W g goal
theorem FrameL.under {W W' : World} {l : List Sa} {m : List Pp} {goal : List Int} {a p g : Option Addr} {n k z : Nat} {us : List HyC} (h : FrameL W l m goal a p g n k z us) (hb : Below W.heap.size W W') : FrameL W' l m goal a p g n k z us := ⟨h.n, h.k, h.z, h.h, h.ha.under hb, h.hp.under hb, h.hg.under hb⟩
def FrameEnd (w : World) (l : List Sa) (m : List Pp) (goal : List Int) (e : Ending) (w' : World) : Prop := Below w.heap.size w w' ∧ ∃ a n c p k d g z f us, e = .returned (.tuple #[.agg #[.slice a n c, .slice p k d, .slice g z f], .int .i64 (mayF (hypsA l) goal)]) ∧ (mayF (hypsA l) goal = 0 → FrameL w' l m goal a p g n k z us) ∧ (mayF (hypsA l) goal ≠ 0 → n = 0 ∧ k = 0 ∧ z = 0)
theorem frame_law {N n : Nat} {w : World} {P : Nat} {l : List Sa} (h : StA N w P l) (hg : Good n 1048576 l) (hn : n ≤ 1000000) {m : List Pp} (hm : IsNorm (apsA l) m) (a0 : Option Addr) (n0 c0 : Nat) (goal : List Int) (hl : goal.length = n0) (hle : n0 ≤ 1048576) (hA : NsAt w a0 goal) (hw : ∀ x ∈ goal, wfN x) :
    Calls Tryz.prog 17 #[.pointer (some ⟨P, 0, none⟩), .slice a0 n0 c0] w (FrameEnd w l m goal) :=
  (frame_st h (hg.ok hn (by omega)) a0 n0 c0 goal hl hA hw (by have := hg.ess hn (by omega); omega)).mono fun e w' ⟨hb, hc⟩ => by
    rw [judge_may] at hc
    rcases hc with ⟨h0, rfl⟩ | ⟨h0, vh, vp, vg, ts, mv, m', rfl, hf⟩
    · exact ⟨hb, none, 0, 0, none, 0, 0, none, 0, 0, [], rfl, fun h => absurd h h0, fun _ => ⟨rfl, rfl, rfl⟩⟩
    · obtain ⟨a, c, rfl, _, ha⟩ := hf.t.at
      obtain ⟨p, d, rfl, _⟩ := own_shape hf.p
      obtain ⟨g, f, rfl, _, hgn⟩ := own_ns hf.g
      have e2 := need_pairs hg hf.v hm hf.n
      refine ⟨hb, a, _, c, p, _, d, g, _, f, ts, by rw [h0], fun _ => ⟨rfl, by rw [← e2], rfl, hf.h.trans (need_hyps hg hf.v), ha, by rw [← e2]; exact own_pairs hf.p, hgn⟩, fun h => absurd h0 h⟩
theorem type_st {N n B : Nat} {w : World} {P : Nat} {l : List Sa} (h : StA N w P l) (hg : Good n B l) (v : Int) (hv : wfN v) : Calls Tryz.prog 24 #[.pointer (some ⟨P, 0, none⟩), .int .i64 v] w fun e w' => e = .returned (.tuple #[.int .i64 ((tyA l v).getD 0), .bool (tyA l v).isSome]) ∧ Below w.heap.size w w' := by
  obtain ⟨O, vS, xs, h1, rfl, h3⟩ := h
  rw [← tyS_abs]
  exact type_any w O P vS xs v h1 (by have := hg.n1; rw [List.length_map] at this; omega) hv
end Go.Proofs.YtkejjiilcoacfaaGreat
