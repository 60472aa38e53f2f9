/- What the law's own lent holds while it goes along; roomy. -/
import Derived.Test.YtipfhfeaalbmcaaDoorPrint
namespace Go.Proofs.YtipfhfeaalbmcaaDoor
open Go.RowKit

def roomS : ByteArray := ⟨#[114, 111, 111, 109]⟩
def roomT : Tok := ⟨roomS, 0, 0, 0⟩
/-- The law's own room, the first package variable. -/
def RoomAt (w : World) : Prop := w.cell? ⟨0, 0, none⟩ = some (.string roomS) ∧ w.cell? ⟨0, 1, none⟩ = some (.int .i64 0) ∧ w.cell? ⟨0, 2, none⟩ = some (.int .i64 0) ∧ w.cell? ⟨0, 3, none⟩ = some (.int .i64 0)
theorem RoomAt.under {w w' : World} (h : RoomAt w) (hb : Below w.heap.size w w') : RoomAt w' := by
  have hlt : 0 < w.heap.size := World.block_lt_of_cell? _ _ h.1
  exact ⟨(hb.cell (p := ⟨0, 0, none⟩) hlt).trans h.1, (hb.cell (p := ⟨0, 1, none⟩) hlt).trans h.2.1, (hb.cell (p := ⟨0, 2, none⟩) hlt).trans h.2.2.1, (hb.cell (p := ⟨0, 3, none⟩) hlt).trans h.2.2.2⟩

set_option maxRecDepth 100000 in
set_option maxHeartbeats 8000000 in
theorem roomy_any (w : World) (a : Option Addr) (n c : Nat) (ts : List Tok) (hl : ts.length = n) (hn : n ≤ 1048576) (h : ToksAt w a ts) (hR : RoomAt w) :
    Calls Tryd.prog 31 #[.slice a n c] w fun e w' => ∃ g cap, e = .returned (.slice (some ⟨g, 0, none⟩) (n + 2) cap) ∧ n + 2 ≤ cap ∧ w'.ownsRow w.heap.size 34 4 (.slice (some ⟨g, 0, none⟩) (n + 2) cap) (n + 2) (rowT (ts ++ [roomT, roomT])) ∧ Below w.heap.size w w' := by
  obtain ⟨ip, hip, ipz, ips, ipb⟩ := info_parts infoT
  have HL : Hid (ts.length = n) := hl
  have HP : Hid (ToksAt w a ts) := h
  have RM : Hid (RoomAt w) := hR
  clear hl h hR
  go_enter Tryd.func31, Tryd.ntmps31
  go_upto_region 3 with (at_builtin; (refine wpList_append_more (w := w) rfl _ _ _ rfl w.heap.size 34 ip _ 4 40 Tryd.underlying31 hip ipz ips ipb rfl (by omega) _ 0 [] (by rfl) (by exact World.ownsRow_nil _ _ _ _) a n c (rowT ts) (by rfl) (by rw [rowT_len, HL.out]) (toks_row HP.out) (rowT_one ts) (by unfold maxLen; omega) (by omega) (by omega) ?_; intro a4 c4 w4 ho4 hb4; simp only [Nat.zero_add, List.nil_append] at ho4 ⊢; have HO4 : Hid (w4.ownsRow w.heap.size 34 4 (.slice a4 n c4) n (rowT ts)) := ho4; have HB4 : Hid (Below w.heap.size w w4) := hb4; clear ho4 hb4))
  obtain ⟨r0, r1, r2, r3⟩ := RM.out.under HB4.out
  go_wp2_with (at_builtin; (refine wpList_append_more (w := w4.alloc (.cells #[.string roomS, .int .i64 0, .int .i64 0, .int .i64 0, .string roomS, .int .i64 0, .int .i64 0, .int .i64 0] 34)) rfl _ _ _ rfl w.heap.size 34 ip _ 4 40 Tryd.underlying31 hip ipz ips ipb rfl (by omega) _ n (rowT ts) (by rfl) (by exact M.owns_alloc HO4.out _) (some ⟨w4.heap.size, 0, none⟩) 2 2 (rowT [roomT, roomT]) (by rfl) (by rfl) (fun j' u hu => ⟨_, rfl, World.news_of_block (cs := #[.string roomS, .int .i64 0, .int .i64 0, .int .i64 0, .string roomS, .int .i64 0, .int .i64 0, .int .i64 0]) (t := 34) (fr := (0, 0)) (heap_alloc_new w4 _) j' u hu⟩) (rowT_one _) (by unfold maxLen; omega) (by omega) (by exact Nat.le_trans HB4.out.size (below_alloc _ _).size) ?_; intro a5 c5 w5 ho5 hb5; have HO5 : Hid (w5.ownsRow w.heap.size 34 4 (.slice a5 (n + 2) c5) (n + 2) (rowT ts ++ rowT [roomT, roomT])) := ho5; have HB5 : Hid (Below w.heap.size w w5) := (HB4.out.alloc HB4.out.size _).trans hb5; clear ho5 hb5))
  obtain ⟨g, _, hv, hcp, _, _⟩ := M.own_some HO5.out (by omega)
  cases hv
  go_ret
  exact ⟨g, c5, rfl, hcp, (by rw [rowT_append]; exact HO5.out), HB5.out⟩

/-- A statement that was lent: where its lists lie. -/
structure It where
  s : Stm
  gw : Nat
  cw : Nat
  gp : Nat
  cp : Nat
def itC (x : It) : List Value := (stmC x.s (.slice (some ⟨x.gw, 0, none⟩) x.s.words.length x.cw) (.slice (some ⟨x.gp, 0, none⟩) x.s.proof.length x.cp)).toList
def itW (x : It) : Value := .slice (some ⟨x.gw, 0, none⟩) (x.s.words.length + 2) x.cw
def itP (x : It) : Value := .slice (some ⟨x.gp, 0, none⟩) (x.s.proof.length + 2) x.cp
structure ItOk (W : World) (H : Nat → Prop) (x : It) : Prop where
  w : M.RowIn W H (itW x) (x.s.words.length + 2) (rowT (x.s.words ++ [roomT, roomT]))
  p : M.RowIn W H (itP x) (x.s.proof.length + 2) (rowT (x.s.proof ++ [roomT, roomT]))
theorem ItOk.ch {X H H' : Nat → Prop} {W W' : World} {x : It} (h : ItOk W H x) (hc : M.Ch X W W') (hx : ∀ g, H g → ¬ X g) (hp : ∀ g, H g → H' g) : ItOk W' H' x := ⟨h.w.ch hc hx hp, h.p.ch hc hx hp⟩
structure LSt (T : Nat) (H : Nat → Prop) (W : World) (vL vW vP : Value) (i1 i2 i3 : List It) : Prop where
  box : W.heap[T]? = some (.cells #[vL, vW, vP] 42 (0, 0))
  oL : W.ownsRow (T + 1) 36 16 vL i1.length (i1.flatMap itC)
  oW : W.ownsRow (T + 1) 31 1 vW i2.length (i2.map itW)
  oP : W.ownsRow (T + 1) 31 1 vP i3.length (i3.map itP)
  aLW : ∀ g, vL.ownBlock = some g → vW.ownBlock ≠ some g
  aLP : ∀ g, vL.ownBlock = some g → vP.ownBlock ≠ some g
  aWP : ∀ g, vW.ownBlock = some g → vP.ownBlock ≠ some g
  held : ∀ g, H g → T < g ∧ g < W.heap.size ∧ vL.ownBlock ≠ some g ∧ vW.ownBlock ≠ some g ∧ vP.ownBlock ≠ some g
  its : ∀ x ∈ i1, ItOk W H x
theorem LSt.lt {T : Nat} {H : Nat → Prop} {W : World} {vL vW vP : Value} {i1 i2 i3 : List It} (h : LSt T H W vL vW vP i1 i2 i3) : T < W.heap.size := (Array.getElem?_eq_some_iff.1 h.box).1
theorem LSt.ch {T : Nat} {H X : Nat → Prop} {W W' : World} {vL vW vP : Value} {i1 i2 i3 : List It} (h : LSt T H W vL vW vP i1 i2 i3) (hc : M.Ch X W W') (hx : ∀ g, X g → g ≠ T ∧ ¬ H g ∧ vL.ownBlock ≠ some g ∧ vW.ownBlock ≠ some g ∧ vP.ownBlock ≠ some g) : LSt T H W' vL vW vP i1 i2 i3 :=
  ⟨(hc.block T h.lt fun e => (hx T e).1 rfl).trans h.box, M.owns_ch h.oL hc fun g e hg => (hx g hg).2.2.1 e, M.owns_ch h.oW hc fun g e hg => (hx g hg).2.2.2.1 e, M.owns_ch h.oP hc fun g e hg => (hx g hg).2.2.2.2 e, h.aLW, h.aLP, h.aWP,
   fun g hg => ⟨(h.held g hg).1, Nat.lt_of_lt_of_le (h.held g hg).2.1 hc.size, (h.held g hg).2.2⟩, fun x hm => (h.its x hm).ch hc (fun g hg e => (hx g e).2.1 hg) (fun _ e => e)⟩
theorem LSt.down {T : Nat} {H : Nat → Prop} {W W' : World} {vL vW vP : Value} {i1 i2 i3 : List It} (h : LSt T H W vL vW vP i1 i2 i3) (hb : Below W.heap.size W W') : LSt T H W' vL vW vP i1 i2 i3 := h.ch (M.Ch.of_below (X := fun _ => False) hb) fun _ e => e.elim
theorem LSt.more {T : Nat} {H Q : Nat → Prop} {W : World} {vL vW vP : Value} {i1 i2 i3 : List It} (h : LSt T H W vL vW vP i1 i2 i3) (hq : ∀ g, Q g → T < g ∧ g < W.heap.size ∧ vL.ownBlock ≠ some g ∧ vW.ownBlock ≠ some g ∧ vP.ownBlock ≠ some g) : LSt T (fun g => H g ∨ Q g) W vL vW vP i1 i2 i3 :=
  ⟨h.box, h.oL, h.oW, h.oP, h.aLW, h.aLP, h.aWP, fun g hg => hg.elim (h.held g) (hq g), fun x hm => (h.its x hm).ch (M.Ch.refl (fun _ => False) W) (fun _ _ e => e) (fun _ e => .inl e)⟩
theorem LSt.growL {T : Nat} {H : Nat → Prop} {W W' : World} {vL vW vP vL' : Value} {i1 i2 i3 : List It} {x : It} (h : LSt T H W vL vW vP i1 i2 i3) (hg : W.grownBy W' vL.ownBlock) (ho : W'.ownsRow (T + 1) 36 16 vL' (i1.length + 1) (i1.flatMap itC ++ itC x)) (hl : ∀ g, vL'.ownBlock = some g → vL.ownBlock = some g ∨ W.heap.size ≤ g) (hx : ItOk W H x) : LSt T H (W'.setCell ⟨T, 0, none⟩ vL') vL' vW vP (i1 ++ [x]) i2 i3 := by
  have hT : vL.ownBlock ≠ some T := fun e => by have := M.own_ge' h.oL T e; omega
  have k := (hg.block T h.lt (fun e => hT e.symm)).trans h.box
  have cs := M.ch_set W' T 0 vL'
  have cg := M.Ch.of_grown hg
  have ne : ∀ {v : Value}, W'.ownsRow (T + 1) 36 16 v (i1.length + 1) (i1.flatMap itC ++ itC x) → ∀ g, v.ownBlock = some g → ¬ g = T := fun hv g e => by have := M.own_ge' hv g e; omega
  refine ⟨M.heap_set_same k, ?_, ?_, ?_, ?_, ?_, h.aWP, ?_, ?_⟩
  · rw [List.length_append, List.flatMap_append]
    have := M.owns_ch ho cs (ne ho)
    simpa using this
  · exact M.owns_ch (M.owns_ch h.oW cg fun g e e2 => h.aLW g e2 e) cs fun g e e2 => by have := M.own_ge' h.oW g e; omega
  · exact M.owns_ch (M.owns_ch h.oP cg fun g e e2 => h.aLP g e2 e) cs fun g e e2 => by have := M.own_ge' h.oP g e; omega
  · exact fun g e e2 => (hl g e).elim (fun e3 => h.aLW g e3 e2) fun e3 => by have := M.own_lt h.oW g e2; omega
  · exact fun g e e2 => (hl g e).elim (fun e3 => h.aLP g e3 e2) fun e3 => by have := M.own_lt h.oP g e2; omega
  · intro g hh
    obtain ⟨h1, h2, h3, h4⟩ := h.held g hh
    exact ⟨h1, Nat.lt_of_lt_of_le (Nat.lt_of_lt_of_le h2 hg.size) cs.size, fun e => (hl g e).elim h3 fun e3 => by omega, h4⟩
  · have hk : ∀ y, ItOk W H y → ItOk (W'.setCell ⟨T, 0, none⟩ vL') H y := fun y hy => (hy.ch cg (fun g hh e => (h.held g hh).2.2.1 e) (fun _ e => e)).ch cs (fun g hh e => by have := (h.held g hh).1; omega) (fun _ e => e)
    intro y hy
    rcases List.mem_append.1 hy with hy | hy
    · exact hk y (h.its y hy)
    · rw [List.mem_singleton.1 hy]; exact hk x hx
theorem LSt.growW {T : Nat} {H : Nat → Prop} {W W' : World} {vL vW vP vW' : Value} {i1 i2 i3 : List It} {x : It} (h : LSt T H W vL vW vP i1 i2 i3) (hg : W.grownBy W' vW.ownBlock) (ho : W'.ownsRow (T + 1) 31 1 vW' (i2.length + 1) (i2.map itW ++ [itW x])) (hl : ∀ g, vW'.ownBlock = some g → vW.ownBlock = some g ∨ W.heap.size ≤ g) : LSt T H (W'.setCell ⟨T, 1, none⟩ vW') vL vW' vP i1 (i2 ++ [x]) i3 := by
  have hT : vW.ownBlock ≠ some T := fun e => by have := M.own_ge' h.oW T e; omega
  have k := (hg.block T h.lt (fun e => hT e.symm)).trans h.box
  have cs := M.ch_set W' T 1 vW'
  have cg := M.Ch.of_grown hg
  refine ⟨M.heap_set_same k, ?_, ?_, ?_, ?_, h.aLP, ?_, ?_, ?_⟩
  · exact M.owns_ch (M.owns_ch h.oL cg fun g e e2 => h.aLW g e e2) cs fun g e e2 => by have := M.own_ge' h.oL g e; omega
  · rw [List.length_append, List.map_append]
    exact M.owns_ch ho cs fun g e e2 => by have := M.own_ge' ho g e; omega
  · exact M.owns_ch (M.owns_ch h.oP cg fun g e e2 => h.aWP g e2 e) cs fun g e e2 => by have := M.own_ge' h.oP g e; omega
  · exact fun g e e2 => (hl g e2).elim (fun e3 => h.aLW g e e3) fun e3 => by have := M.own_lt h.oL g e; omega
  · exact fun g e e2 => (hl g e).elim (fun e3 => h.aWP g e3 e2) fun e3 => by have := M.own_lt h.oP g e2; omega
  · intro g hh
    obtain ⟨h1, h2, h3, h4, h5⟩ := h.held g hh
    exact ⟨h1, Nat.lt_of_lt_of_le (Nat.lt_of_lt_of_le h2 hg.size) cs.size, h3, fun e => (hl g e).elim h4 fun e3 => by omega, h5⟩
  · exact fun y hy => ((h.its y hy).ch cg (fun g hh e => (h.held g hh).2.2.2.1 e) (fun _ e => e)).ch cs (fun g hh e => by have := (h.held g hh).1; omega) (fun _ e => e)
theorem LSt.growP {T : Nat} {H : Nat → Prop} {W W' : World} {vL vW vP vP' : Value} {i1 i2 i3 : List It} {x : It} (h : LSt T H W vL vW vP i1 i2 i3) (hg : W.grownBy W' vP.ownBlock) (ho : W'.ownsRow (T + 1) 31 1 vP' (i3.length + 1) (i3.map itP ++ [itP x])) (hl : ∀ g, vP'.ownBlock = some g → vP.ownBlock = some g ∨ W.heap.size ≤ g) : LSt T H (W'.setCell ⟨T, 2, none⟩ vP') vL vW vP' i1 i2 (i3 ++ [x]) := by
  have hT : vP.ownBlock ≠ some T := fun e => by have := M.own_ge' h.oP T e; omega
  have k := (hg.block T h.lt (fun e => hT e.symm)).trans h.box
  have cs := M.ch_set W' T 2 vP'
  have cg := M.Ch.of_grown hg
  refine ⟨M.heap_set_same k, ?_, ?_, ?_, h.aLW, ?_, ?_, ?_, ?_⟩
  · exact M.owns_ch (M.owns_ch h.oL cg fun g e e2 => h.aLP g e e2) cs fun g e e2 => by have := M.own_ge' h.oL g e; omega
  · exact M.owns_ch (M.owns_ch h.oW cg fun g e e2 => h.aWP g e e2) cs fun g e e2 => by have := M.own_ge' h.oW g e; omega
  · rw [List.length_append, List.map_append]
    exact M.owns_ch ho cs fun g e e2 => by have := M.own_ge' ho g e; omega
  · exact fun g e e2 => (hl g e2).elim (fun e3 => h.aLP g e e3) fun e3 => by have := M.own_lt h.oL g e; omega
  · exact fun g e e2 => (hl g e2).elim (fun e3 => h.aWP g e e3) fun e3 => by have := M.own_lt h.oW g e; omega
  · intro g hh
    obtain ⟨h1, h2, h3, h4, h5⟩ := h.held g hh
    exact ⟨h1, Nat.lt_of_lt_of_le (Nat.lt_of_lt_of_le h2 hg.size) cs.size, h3, h4, fun e => (hl g e).elim h5 fun e3 => by omega⟩
  · exact fun y hy => ((h.its y hy).ch cg (fun g hh e => (h.held g hh).2.2.2.2 e) (fun _ e => e)).ch cs (fun g hh e => by have := (h.held g hh).1; omega) (fun _ e => e)
end Go.Proofs.YtipfhfeaalbmcaaDoor
