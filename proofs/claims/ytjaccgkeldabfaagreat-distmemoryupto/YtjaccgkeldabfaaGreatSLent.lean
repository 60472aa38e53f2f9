/- Lists that are lent, with marked room behind them; Of. -/
import Derived.Test.YtjaccgkeldabfaaGreatSAlive
namespace Go.Proofs.YtjaccgkeldabfaaGreat.S
open Go.RowKit

/-- The marks behind a list that is lent. -/
def marked (l : List Int) : List Int := l ++ [-7777, -7777]
theorem marked_len (l : List Int) : (marked l).length = l.length + 2 := by simp [marked]
theorem own_some {W : World} {base : Nat} {e : TypeId} {size : Nat} {a : Option Addr} {n c : Nat} {xs : List Value} (h : W.ownsRow base e size (.slice a n c) n xs) (hn : 0 < n) : ∃ g, a = some ⟨g, 0, none⟩ ∧ n ≤ c := by
  rcases h.2 with ⟨_, h0⟩ | ⟨g, cap, cur, e, _, _, hc, _⟩
  · omega
  · cases e
    exact ⟨g, rfl, hc⟩
theorem IntsAt.front {w : World} {a : Option Addr} {l m : List Int} (h : IntsAt w a (l ++ m)) : IntsAt w a l := fun i x hi => h i x (by rw [List.getElem?_append_left (List.getElem?_eq_some_iff.1 hi).1]; exact hi)

/-- Binds whose lists are lent. -/
def OwnsL (base : Nat) (w : World) (vs : List (Int × Value)) (bl : List (Int × List Int)) : Prop := vs.length = bl.length ∧ ∀ (i : Nat) (p : Int × List Int), bl[i]? = some p → ∃ av cap, vs[i]? = some (p.1, Value.slice av p.2.length cap) ∧ w.ownsRow base 3 1 (.slice av (p.2.length + 2) cap) (p.2.length + 2) ((marked p.2).map intV)
theorem OwnsL.under {base : Nat} {w w' : World} {vs : List (Int × Value)} {bl : List (Int × List Int)} (h : OwnsL base w vs bl) (hb : Below w.heap.size w w') : OwnsL base w' vs bl := ⟨h.1, fun i p hi => by
  obtain ⟨a, c, h1, h2⟩ := h.2 i p hi
  exact ⟨a, c, h1, owns_under h2 hb⟩⟩
theorem OwnsL.grown {base b2 n : Nat} {w w' : World} {vs : List (Int × Value)} {bl : List (Int × List Int)} {v : Value} {xs : List Value} (h : OwnsL base w vs bl) (hv : w.ownsRow b2 46 2 v n xs) (hg : w.grownBy w' v.ownBlock) : OwnsL base w' vs bl := ⟨h.1, fun i p hi => by
  obtain ⟨a, c, h1, h2⟩ := h.2 i p hi
  exact ⟨a, c, h1, owns_same h2 fun g e => hg.block g (own_low h2 g e) fun e' => kinds_apart hv h2 (by decide) g e e'.symm⟩⟩
theorem OwnsL.snoc {base : Nat} {w : World} {vs : List (Int × Value)} {bl : List (Int × List Int)} (h : OwnsL base w vs bl) (p : Int × List Int) (av : Option Addr) (n cap : Nat) (hn : p.2.length = n) (hv : w.ownsRow base 3 1 (.slice av (n + 2) cap) (n + 2) ((marked p.2).map intV)) : OwnsL base w (vs ++ [(p.1, .slice av n cap)]) (bl ++ [p]) := by
  refine ⟨by simp [h.1], fun i q hi => ?_⟩
  by_cases hlt : i < bl.length
  · rw [List.getElem?_append_left hlt] at hi
    obtain ⟨a, c, h1, h2⟩ := h.2 i q hi
    exact ⟨a, c, by rw [List.getElem?_append_left (by rw [h.1]; exact hlt)]; exact h1, h2⟩
  · rw [List.getElem?_append_right (by omega)] at hi
    have hi0 : i - bl.length = 0 := by
      have := (List.getElem?_eq_some_iff.1 hi).1
      simp at this; omega
    rw [hi0] at hi
    simp at hi
    subst hi
    exact ⟨av, cap, by rw [List.getElem?_append_right (by rw [h.1]; omega), h.1, hi0, hn]; rfl, by rw [hn]; exact hv⟩
theorem OwnsL.matches {base : Nat} {w : World} {vs : List (Int × Value)} {bl : List (Int × List Int)} (h : OwnsL base w vs bl) : Matches w vs bl := ⟨h.1, fun i p hi => by
  obtain ⟨a, c, h1, h2⟩ := h.2 i p hi
  obtain ⟨a', c', e, _, hr, _⟩ := own_row h2
  cases e
  exact ⟨a, c, h1, (hr.ints : IntsAt w a (marked p.2)).front⟩⟩

/-- What Of answers: a list of its own. -/
def OfIs (w w' : World) (e : Ending) (bl : List (Int × List Int)) (y : Int) : Prop := Below w.heap.size w w' ∧ ∃ v, e = .returned (.tuple #[v, .bool (look bl y).isSome]) ∧ w'.ownsRow w.heap.size 3 1 v ((look bl y).getD []).length (((look bl y).getD []).map intV)

set_option maxRecDepth 100000 in
set_option maxHeartbeats 4000000 in
theorem of_any (w : World) (a : Option Addr) (n c : Nat) (bl : List (Int × List Int)) (y : Int) (hn : n ≤ 4398046511000) (hbig : ∀ p ∈ bl, p.2.length ≤ 17592186043904) (h : BindsAt w a n bl) :
    Calls Tryz.prog 58 #[.agg #[.slice a n c], .int .i64 y] w fun e w' => OfIs w w' e bl y := by
  have k0 : (w.alloc (.cells #[.slice a n c] 27)).cell? ⟨w.heap.size, 0, none⟩ = some (.slice a n c) := World.cell?_alloc_new w _ _ 0
  have hbA := below_alloc w (.cells #[.slice a n c] 27)
  have FD : Hid _ := find_any (w.alloc (.cells #[.slice a n c] 27)) a n c bl y hn (h.under hbA)
  have HA : Hid (Below w.heap.size w (w.alloc (.cells #[.slice a n c] 27))) := hbA
  have HBG : Hid (∀ l, look bl y = some l → l.length ≤ 17592186043904) := fun l hl => by
    unfold look at hl
    obtain ⟨p, hp, rfl⟩ := Option.map_eq_some_iff.1 hl
    exact hbig p (List.mem_of_find?_eq_some hp)
  clear h hbA hbig
  go_enter Tryz.func58, Tryz.ntmps58
  go_wp2_with fail
  generalize w.alloc (.cells #[.slice a n c] 27) = wA at *
  generalize hB0 : w.heap.size = B0 at *
  have HB0e : Hid (w.heap.size = B0) := hB0
  clear hB0
  refine Calls.mono FD.out ?_
  rintro e w2 ⟨hb2, ⟨l, a2, c2, hlk, rfl, hI⟩ | ⟨hlk, rfl⟩⟩
  · have OW : Hid _ := own_any w2 a2 c2 l l.length rfl (HBG.out l hlk) (hI.under hb2)
    have Hlk : Hid (look bl y = some l) := hlk
    have Hb2 : Hid (Below wA.heap.size wA w2) := hb2
    obtain ⟨q, hq⟩ : ∃ q, q = l.length := ⟨_, rfl⟩
    rw [← hq] at OW
    rw [← hq]
    have Hq : Hid (q = l.length) := hq
    clear hb2 hI hlk FD hq
    go_wp2_with fail
    refine Calls.mono OW.out ?_
    rintro e w3 ⟨v3, rfl, ho3, hb3⟩
    have HRs : Hid (w3.ownsRow w.heap.size 3 1 v3 l.length (l.map intV) ∧ Below w.heap.size w w3) := by
      have h1 := HA.out
      have h2 := h1.size
      rw [Hq.out] at ho3
      rw [HB0e.out] at h2 ⊢
      exact ⟨owns_down ho3 (Nat.le_trans h2 Hb2.out.size), h1.trans ((Hb2.out.trans (hb3.mono Hb2.out.size)).mono h2)⟩
    clear ho3 hb3 OW
    go_wp2
    go_ret2
    refine ⟨HRs.out.2, v3, ?_, ?_⟩
    · rw [Hlk.out]; rfl
    · rw [Hlk.out]; exact HRs.out.1
  · have OW : Hid _ := own_any w2 none 0 [] 0 rfl (by omega) (ints_nil _ _)
    have Hlk : Hid (look bl y = none) := hlk
    have Hb2 : Hid (Below wA.heap.size wA w2) := hb2
    clear hb2 hlk FD
    go_wp2_with fail
    refine Calls.mono OW.out ?_
    rintro e w3 ⟨v3, rfl, ho3, hb3⟩
    have HRs : Hid (w3.ownsRow w.heap.size 3 1 v3 0 [] ∧ Below w.heap.size w w3) := by
      have h1 := HA.out
      have h2 := h1.size
      rw [HB0e.out] at h2 ⊢
      exact ⟨owns_down ho3 (Nat.le_trans h2 Hb2.out.size), h1.trans ((Hb2.out.trans (hb3.mono Hb2.out.size)).mono h2)⟩
    clear ho3 hb3 OW
    go_wp2
    go_ret2
    refine ⟨HRs.out.2, v3, ?_, ?_⟩
    · rw [Hlk.out]; rfl
    · rw [Hlk.out]; exact HRs.out.1
end Go.Proofs.YtjaccgkeldabfaaGreat.S
