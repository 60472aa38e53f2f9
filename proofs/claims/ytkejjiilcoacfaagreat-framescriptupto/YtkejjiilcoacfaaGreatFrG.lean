/- The innermost scope; a stack whose innermost scope has one hypothesis more. -/
import Derived.Test.YtkejjiilcoacfaaGreatFrF
namespace Go.Proofs.YtkejjiilcoacfaaGreat
open Go.Maps Go.RowKit Go.WideMaps

theorem row_ne_map {W : World} {base e size n b mn : Nat} {v : Value} {xs : List Value} {f : Int → Option Int} (h : W.ownsRow base e size v n xs) (hm : TMap W b mn f) : v.ownBlock ≠ some b := fun e' => by
  obtain ⟨c2, h2⟩ := own_block h e'
  obtain ⟨es, ck, h3⟩ := hm.isM
  rw [h3] at h2
  cases h2
theorem cells_ne_map {W : World} {g b mn : Nat} {cs : Array Value} {t : TypeId} {f : Int → Option Int} (h : W.heap[g]? = some (.cells cs t (0, 0))) (hm : TMap W b mn f) : g ≠ b := fun e' => by
  obtain ⟨es, ck, h3⟩ := hm.isM
  rw [← e', h] at h3
  cases h3
theorem ScOk.mono {O O' : Nat → Prop} {W : World} {x : ScC} (h : ScOk O W x) (ho : ∀ g, O g → O' g) : ScOk O' W x := ⟨h.l, fun g e => ho g (h.lo g e), fun y hy => ⟨(h.e y hy).1, fun g e => ho g ((h.e y hy).2 g e)⟩, h.m, ho _ h.mo, h.mc, h.p, fun g e => ho g (h.po g e)⟩
/-- A row of scopes, one cell of which turned. -/
theorem row_turn {w W : World} {g n c o : Nat} {cs : Array Value} {l l' : List Value} {v : Value} (h : w.ownsRow 0 83 3 (.slice (some ⟨g, 0, none⟩) n c) n l) (hg : w.heap[g]? = some (.cells cs 83 (0, 0))) (hW : W.heap[g]? = some (.cells (cs.setIfInBounds o v) 83 (0, 0))) (hl : l.set o v = l') : W.ownsRow 0 83 3 (.slice (some ⟨g, 0, none⟩) n c) n l' := by
  subst hl
  refine ⟨by rw [List.length_set]; exact h.1, ?_⟩
  rcases h.2 with ⟨e', _⟩ | ⟨g', cap', cur, hv, hg', hh, hn, hc, hsz, ht⟩
  · cases e'
  · simp only [Value.slice.injEq, Option.some.injEq, Addr.mk.injEq] at hv
    obtain ⟨⟨rfl, _⟩, _, rfl⟩ := hv
    rw [hg] at hh
    cases hh
    refine .inr ⟨g, c, cs.setIfInBounds o v, rfl, hg', hW, hn, hc, by rw [Array.size_setIfInBounds]; exact hsz, ?_⟩
    rw [Array.toList_setIfInBounds, List.take_set, ht]
theorem rowSc_len : ∀ l : List ScC, (rowSc l).length = l.length * 3
  | [] => rfl
  | x :: l => by
    have e : rowSc (x :: l) = scC x ++ rowSc l := rfl
    rw [e, List.length_append, rowSc_len l, List.length_cons]
    simp [scC]; omega
theorem rowSc_setl (xs : List ScC) (x : ScC) (vl' : Value) (hs' : List HyC) (mn' : Nat) : (rowSc (xs ++ [x])).set (xs.length * 3) vl' = rowSc (xs ++ [{ x with vl := vl', hs := hs', mn := mn' }]) := by
  rw [rowSc_append, rowSc_append, List.set_append_right _ _ (by rw [rowSc_len]; exact Nat.le_refl _), rowSc_len, Nat.sub_self]
  rfl
theorem rowSc_setp (xs : List ScC) (x : ScC) (vp' : Value) (ps' : List Pp) : (rowSc (xs ++ [x])).set (xs.length * 3 + 2) vp' = rowSc (xs ++ [{ x with vp := vp', ps := ps' }]) := by
  rw [rowSc_append, rowSc_append, List.set_append_right _ _ (by rw [rowSc_len]; omega), rowSc_len, show xs.length * 3 + 2 - xs.length * 3 = 2 by omega]
  rfl
/-- The blocks that a stack has, and those that are new. -/
def More (O : Nat → Prop) (w W : World) (b : Nat) : Prop := O b ∨ (w.heap.size ≤ b ∧ b < W.heap.size)
theorem StackAt.put {O : Nat → Prop} {w W : World} {P g n c : Nat} {xs : List ScC} {x : ScC} {cs : Array Value} {vl' ve : Value} {h : Hy} {mn' : Nat} (hS : StackAt O w P (.slice (some ⟨g, 0, none⟩) n c) (xs ++ [x])) (hg : w.heap[g]? = some (.cells cs 83 (0, 0))) (hp : Put w W g (xs.length * 3) cs x vl' ve h mn') (hm : mn' ≤ x.hs.length + 1) :
    StackAt (More O w W) W P (.slice (some ⟨g, 0, none⟩) n c) (xs ++ [{ x with vl := vl', hs := x.hs ++ [⟨h, ve⟩], mn := mn' }]) ∧ M.Ch O w W := by
  have hxm : x ∈ xs ++ [x] := by simp
  have hx := hS.each x hxm
  have hrow := hS.row
  have up : ∀ b, O b → More O w W b := fun b hb => .inl hb
  have XO : ∀ b, (x.vl.ownBlock = some b ∨ b = g ∨ b = x.mb) → O b := fun b hb => by
    rcases hb with hb | rfl | rfl
    · exact hx.lo b hb
    · exact hS.ro _ rfl
    · exact hx.mo
  have cG : M.Ch O w W := hp.ch.mono XO
  have cells : ∀ {B : Nat} {cs' : Array Value} {t : TypeId}, w.heap[B]? = some (.cells cs' t (0, 0)) → t ≠ 61 → t ≠ 83 → W.heap[B]? = w.heap[B]? := fun hB h1 h2 => hp.ch.block _ (Array.getElem?_eq_some_iff.1 hB).1 fun e => by
    rcases e with e | rfl | rfl
    · exact own_ne hx.l hB (Ne.symm h1) e
    · rw [hg] at hB; simp only [Option.some.injEq, Obj.cells.injEq] at hB; exact h2 hB.2.1.symm
    · exact cells_ne_map hB hx.m rfl
  have rows : ∀ {base e sz k : Nat} {v : Value} {zs : List Value}, w.ownsRow base e sz v k zs → e ≠ 61 → e ≠ 83 → ∀ b, v.ownBlock = some b → ¬ (x.vl.ownBlock = some b ∨ b = g ∨ b = x.mb) := fun ho h1 h2 b hb e => by
    rcases e with e | rfl | rfl
    · exact own_apart ho hx.l h1 b hb e
    · exact own_ne ho hg h2 hb
    · exact row_ne_map ho hx.m hb
  obtain ⟨hap, _, hall⟩ := List.pairwise_append.1 hS.ap
  refine ⟨⟨(cells hS.box (by decide) (by decide)).trans hS.box, up _ hS.bo, ?_, fun b e => up b (hS.ro b e), fun y hy => ?_, ?_, ?_⟩, cG⟩
  · have hlen : n = (xs ++ [x]).length := by obtain ⟨_, _, e, _⟩ := own_shape hrow; cases e; rfl
    have h0 := row_turn (o := xs.length * 3) (v := vl') (l' := rowSc (xs ++ [{ x with vl := vl', hs := x.hs ++ [⟨h, ve⟩], mn := mn' }])) (by rw [← hlen] at hrow; exact hrow) hg hp.blk (rowSc_setl xs x vl' _ mn')
    rw [hlen] at h0
    rw [hlen]
    simpa using h0
  · rcases List.mem_append.1 hy with hy | hy
    · have hyo := hS.each y (List.mem_append_left _ hy)
      obtain ⟨a1, a2, a3⟩ := hall y hy x (by simp)
      refine (hyo.ch hp.ch (fun b hb e => ?_) (fun z hz b hb => rows (hyo.e z hz).1 (by decide) (by decide) b hb) (fun e => ?_) (fun b hb => rows hyo.p (by decide) (by decide) b hb)).mono up
      · rcases e with e | rfl | rfl
        · exact a1 b hb e
        · exact own_ne hyo.l hg (by decide) hb
        · exact row_ne_map hyo.l hx.m hb
      · rcases e with e | e | e
        · exact row_ne_map hx.l hyo.m e
        · exact cells_ne_map hg hyo.m e.symm
        · exact a2 e
    · rw [List.mem_singleton.1 hy]
      refine ⟨by show W.ownsRow 0 61 4 vl' (x.hs ++ [(⟨h, ve⟩ : HyC)]).length _; rw [List.length_append]; exact hp.own, fun b e => ?_, fun z hz => ?_, ?_, up _ hx.mo, by show mn' ≤ (x.hs ++ [(⟨h, ve⟩ : HyC)]).length; rw [List.length_append]; exact hm, M.owns_ch hx.p hp.ch (rows hx.p (by decide) (by decide)), fun b e => up b (hx.po b e)⟩
      · rcases hp.loc b e with h1 | h1
        · exact up b (hx.lo b h1)
        · exact .inr ⟨h1, M.own_lt hp.own b e⟩
      · rcases List.mem_append.1 hz with hz | hz
        · exact ⟨M.owns_ch (hx.e z hz).1 hp.ch (rows (hx.e z hz).1 (by decide) (by decide)), fun b e => up b ((hx.e z hz).2 b e)⟩
        · rw [List.mem_singleton.1 hz]
          exact ⟨hp.ev, fun b e => .inr ⟨hp.el b e, M.own_lt hp.ev b e⟩⟩
      · show TMap W x.mb mn' (tyOf ((x.hs ++ [(⟨h, ve⟩ : HyC)]).map (·.h)))
        rw [List.map_append]
        exact hp.m
  · refine List.pairwise_append.2 ⟨hap, by simp, fun y hy z hz => ?_⟩
    rw [List.mem_singleton.1 hz]
    obtain ⟨a1, a2, a3⟩ := hall y hy x (by simp)
    refine ⟨fun b hb e => ?_, a2, a3⟩
    rcases hp.loc b e with h1 | h1
    · exact a1 b hb h1
    · have := M.own_lt (hS.each y (List.mem_append_left _ hy)).l b hb
      omega
  · intro b hb
    rcases hb with hb | hb
    · exact Nat.lt_of_lt_of_le (hS.lt b hb) cG.size
    · exact hb.2

set_option maxRecDepth 100000 in
set_option maxHeartbeats 4000000 in
theorem inner_any (w : World) (O : Nat → Prop) (P g n c : Nat) (xs : List ScC) (hl : xs.length = n) (h0 : 0 < n) (hn : n ≤ 1048576) (h : StackAt O w P (.slice (some ⟨g, 0, none⟩) n c) xs) :
    Calls Tryz.prog 42 #[.pointer (some ⟨P, 0, none⟩)] w fun e w' => e = .returned (.pointer (some ⟨g, (n - 1) * 3, none⟩)) ∧ ∃ q, w' = w.drewN q := by
  have x1 := h.cells.2
  obtain ⟨m, rfl⟩ : ∃ m, n = m + 1 := ⟨n - 1, by omega⟩
  have DP : Hid (∀ q, Calls Tryz.prog 13 #[.pointer (some ⟨P, 0, none⟩)] (w.drewN q) fun e w' => e = .returned (.int .i64 (m : Int)) ∧ w' = w.drewN q) := fun q => by
    have h1 := depth_any (w.drewN q) O P _ xs (h.below (fr_below_drewN (Below.refl _ _) q)) (by omega)
    rw [hl, show (((m + 1 : Nat) : Int) - 1) = (m : Int) by omega] at h1
    exact h1
  have n1 : (m : Int) < ((m + 1 : Nat) : Int) := by omega
  clear h hl
  go_enter Tryz.func42, Tryz.ntmps42
  go_wp2_with fail
  go_quiet (first | exact (DP.out _).mono fun _ _ ⟨he, hw⟩ => ⟨he, _, hw⟩)
  go_wp2
  go_ret
  exact ⟨rfl, _, rfl⟩
end Go.Proofs.YtkejjiilcoacfaaGreat
