/- A law's own rows beside its table; the list of what is active. -/
import Derived.Test.YtdnkgjjboonmnaaDoorSymStand
namespace Go.Proofs.YtdnkgjjboonmnaaDoor
open Go.RowKit

/-- A row of the law's own: it lies apart from the table. -/
def RowAt (wr : World) (bs : List Nat) (e size : Nat) (v : Value) (n : Nat) (xs : List Value) : Prop := wr.ownsRow 0 e size v n xs ∧ ∀ g, v.ownBlock = some g → g ∉ bs
theorem RowAt.goes {wr w' : World} {bs bs' : List Nat} {e size : Nat} {v : Value} {n : Nat} {xs : List Value} (h : RowAt wr bs e size v n xs) (hg : Goes bs wr bs' w') : RowAt w' bs' e size v n xs := by
  refine ⟨owns_same h.1 fun g e => hg.turned.block g (own_low h.1 g e) (h.2 g e), fun g e hm => ?_⟩
  rcases hg.blocks g hm with h1 | h1
  · exact h.2 g e h1
  · have := own_low h.1 g e; omega
theorem RowAt.under {wr w' : World} {bs : List Nat} {e size : Nat} {v : Value} {n : Nat} {xs : List Value} (h : RowAt wr bs e size v n xs) (hb : Below wr.heap.size wr w') : RowAt w' bs e size v n xs :=
  ⟨owns_same h.1 fun g e => hb.block g (own_low h.1 g e), h.2⟩
theorem owns_zero {W : World} {base e size : Nat} {v : Value} {n : Nat} {xs : List Value} (h : W.ownsRow base e size v n xs) : W.ownsRow 0 e size v n xs := by
  refine ⟨h.1, ?_⟩
  rcases h.2 with h0 | ⟨g, cap, cur, hv, _, hr⟩
  · exact .inl h0
  · exact .inr ⟨g, cap, cur, hv, Nat.zero_le _, hr⟩
theorem owns_new {W : World} {base e size : Nat} {v : Value} {n : Nat} {xs : List Value} (h : W.ownsRow base e size v n xs) : ∀ g, v.ownBlock = some g → base ≤ g := by
  intro g hg
  rcases h.2 with ⟨rfl, _⟩ | ⟨g', cap, cur, rfl, hb, _⟩
  · simp [Value.ownBlock] at hg
  · have e' : g' = g := by simpa [Value.ownBlock] using hg
    subst e'; exact hb
theorem grown_below {W W' : World} {N : Nat} {row : Option Nat} (h : W.grownBy W' row) (hN : N ≤ W.heap.size) (hr : ∀ g, row = some g → N ≤ g) : Below N W W' :=
  ⟨h.os, h.tape, h.output, h.size, fun i hi => h.block i (by omega) (fun e => by have := hr i e.symm; omega)⟩

/-- What is active, symbol by symbol. -/
def states (T : Tab) (n : Nat) : List Value := (List.range n).map (fun i => Value.bool (decide (i ∈ T.act)))
theorem states_succ (T : Tab) (n : Nat) : states T (n + 1) = states T n ++ [.bool (decide (n ∈ T.act))] := by simp [states, List.range_succ]
theorem info4 : (Tryd.prog.info? 4).map (fun i => (i.zero, i.size, i.bytes)) = some (some (.bool false), 1, 1) := by kernel_rfl

set_option maxRecDepth 100000 in
set_option maxHeartbeats 2000000 in
theorem states_any (w : World) (bs : List Nat) (B k : Nat) (T : Tab) (hT : T.Ok k) (h : TabAt w bs B k T) :
    Calls Tryd.prog 17 #[.pointer (some ⟨B, 0, none⟩)] w fun e w' => ∃ v, e = .returned v ∧ w'.ownsRow w.heap.size 4 1 v T.syms.length (states T T.syms.length) ∧ Below w.heap.size w w' := by
  obtain ⟨L, hL⟩ : ∃ L, L = T.syms.length := ⟨_, rfl⟩
  have HL : Hid (L = T.syms.length) := hL
  have hL512 : L ≤ 512 := by rw [hL]; exact hT.syms
  have HT : Hid (T.Ok k) := hT
  have HA : Hid (TabAt w bs B k T) := h
  obtain ⟨i0, hi0, hz0, hz1, hz3⟩ := info_parts info4
  rw [← hL]
  clear h hT hL
  go_enter Tryd.func17, Tryd.ntmps17
  go_wp2_with fail
  go_loopw [3, 4] (fun v i wx => ∃ (n : Nat) (a : Option Addr) (cap : Nat), n ≤ L ∧ i = .int .i64 n ∧ v = .slice a n cap ∧ Hid (wx.ownsRow w.heap.size 4 1 (.slice a n cap) n (states T n)) ∧ Hid (Below w.heap.size w wx)) (fun _ i _ => L - (intOf i).toNat)
  case atStart => exact ⟨0, none, 0, Nat.zero_le _, rfl, rfl, World.ownsRow_nil _ _ _ _, Below.refl _ _⟩
  case round =>
    obtain ⟨n, a, cap, hn, rfl, rfl, hrow, hb⟩ := hrel
    have hTr : Hid (TabAt wr bs B k T) := HA.out.below hb.out
    have CN := count_any wr bs B k T hTr.out
    rw [← HL.out] at CN
    replace CN := show Hid _ from CN
    by_cases hlt : n < L
    · have n1 : (n : Int) < (L : Int) := by omega
      obtain ⟨p, hp⟩ : ∃ p, T.syms[n]? = some p := ⟨T.syms[n]'(by rw [← HL.out]; exact hlt), List.getElem?_eq_getElem _⟩
      have AC := active_of wr bs B k T n (by rw [← HL.out]; omega) HT.out.sizes hTr.out
      rw [active_at HT.out.nodup hp] at AC
      generalize hac : decide (n ∈ T.act) = ac at *
      have Hac : Hid (decide (n ∈ T.act) = ac) := hac
      replace AC := show Hid _ from AC
      clear hp hac
      go_wp2_with fail
      refine Calls.mono CN.out ?_
      rintro e wz ⟨rfl, rfl⟩
      go_wp2_with fail
      refine Calls.mono AC.out ?_
      rintro e w2 ⟨rfl, hb2⟩
      have Hb2 : Hid (Below wz.heap.size wz w2) := hb2
      have hrow2 : Hid (w2.ownsRow w.heap.size 4 1 (.slice a n cap) n (states T n)) := owns_same hrow.out fun g e => hb2.block g (own_low hrow.out g e)
      have hs2 : w.heap.size ≤ w2.heap.size := Nat.le_trans hb.out.size hb2.size
      clear hb2 AC CN
      go_wp2_with (at_builtin; refine wpList_append_lies _ rfl _ _ _ rfl w.heap.size 4 i0 _ 1 1 Tryd.underlying27 hi0 hz0 hz1 hz3 rfl (by omega) _ n (states T n) (by rfl) (by exact (hrow2.out.alloc _)) ⟨w2.heap.size, 0, none⟩ 1 1 [.bool ac] (by rfl) (by rfl) (World.news_of_block (cs := #[.bool ac]) (t := 4) (fr := (0, 0)) (heap_alloc_new w2 _)) (by simp [Value.oneCell']) (by omega) (by unfold maxLen; omega) (by omega) (by simp; omega) (w2.heap.size + 1) (by simp) ?_; intro g2 cap2 w3 hown3 hgrow hat hlt2; have Hown3 : Hid _ := hown3; have Hgrow : Hid ((w2.alloc (.cells #[.bool ac] 4)).grownBy w3 (Value.slice a n cap).ownBlock) := hgrow; clear hown3 hgrow hat)
      go_roundw
      case rel =>
        refine ⟨n + 1, some ⟨g2, 0, none⟩, cap2, by omega, by go_num, rfl, ?_, ?_⟩
        · rw [states_succ, Hac.out]; exact Hown3.out
        · have b3 : Below w.heap.size (w2.alloc (.cells #[.bool ac] 4)) w3 := grown_below Hgrow.out (by simp; omega) (fun g e => owns_new hrow2.out g e)
          exact ((hb.out.trans (Hb2.out.mono hb.out.size)).alloc hs2 _).trans b3
      case measure => simp [intOf]; omega
    · have n1 : ¬ (n : Int) < (L : Int) := by omega
      have hnL : n = L := by omega
      subst hnL
      go_wp2_with fail
      refine Calls.mono CN.out ?_
      rintro e wz ⟨rfl, rfl⟩
      go_wp2
      go_ret
      exact ⟨_, rfl, hrow.out, hb.out⟩
end Go.Proofs.YtdnkgjjboonmnaaDoor
