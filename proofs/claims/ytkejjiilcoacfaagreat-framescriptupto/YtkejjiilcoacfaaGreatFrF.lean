/- A floating or an essential hypothesis declared in a scope. -/
import Derived.Test.YtkejjiilcoacfaaGreatFrL
namespace Go.Proofs.YtkejjiilcoacfaaGreat
open Go.Maps Go.RowKit Go.WideMaps

/-- Numbers in memory. -/
def NsAt (w : World) (a : Option Addr) (l : List Int) : Prop := ∀ (i : Nat) (x : Int), l[i]? = some x → ∃ b off, a = some ⟨b, off, none⟩ ∧ w.cell? ⟨b, off + i, none⟩ = some (.int .i64 x)
theorem NsAt.under {w w' : World} {a : Option Addr} {l : List Int} (h : NsAt w a l) (hb : Below w.heap.size w w') : NsAt w' a l := fun i x hi => by
  obtain ⟨b, off, e, h0⟩ := h i x hi
  exact ⟨b, off, e, (hb.cell (p := ⟨b, _, none⟩) (World.block_lt_of_cell? _ _ h0)).trans h0⟩
theorem own_ns {W : World} {base n : Nat} {v : Value} {l : List Int} (h : W.ownsRow base 3 1 v n (rowN l)) : ∃ a c, v = .slice a n c ∧ n ≤ c ∧ NsAt W a l := by
  obtain ⟨a, c, rfl, hc, hcell⟩ := M.own_cell h
  refine ⟨a, c, rfl, hc, fun i x hx => ?_⟩
  obtain ⟨g, rfl, h0⟩ := hcell i (nV x) (by unfold rowN; rw [List.getElem?_map, hx]; rfl)
  exact ⟨g, 0, rfl, by rw [Nat.zero_add]; exact h0⟩
/-- slices.Clone of numbers. -/
theorem clone_any (w : World) (a : Option Addr) (n c : Nat) (l : List Int) (hl : l.length = n) (hn : n ≤ 17592186044416) (h : NsAt w a l) :
    Calls Tryz.prog 55 #[.slice a n c] w fun e w' => ∃ v', e = .returned v' ∧ w'.ownsRow w.heap.size 3 1 v' n (rowN l) ∧ Below w.heap.size w w' := by
  cases a with
  | none =>
    have hl0 : l = [] := by
      cases l with
      | nil => rfl
      | cons x r =>
        obtain ⟨b, off, e, _⟩ := h 0 x rfl
        cases e
    subst hl0
    subst hl
    refine (Tryz.slices_Clone_int_nil 0 c w).mono ?_
    rintro e w' ⟨rfl, rfl⟩
    exact ⟨_, rfl, World.ownsRow_nil _ _ _ _, Below.refl _ _⟩
  | some ad =>
    rcases Nat.eq_zero_or_pos n with h0 | h0
    · subst h0
      have hl0 : l = [] := List.eq_nil_of_length_eq_zero hl
      subst hl0
      refine (Tryz.slices_Clone_int_zero ad c w).mono ?_
      rintro e w' ⟨v', rfl, h1, _, h2⟩
      exact ⟨v', rfl, h1, h2⟩
    · obtain ⟨b, off, e, _⟩ := h 0 _ (List.getElem?_eq_getElem (by omega))
      cases e
      refine (Tryz.slices_Clone_int b off n c l w (by omega) (by omega) (fun j hj => by
        obtain ⟨b', off', e', h1⟩ := h j _ (List.getElem?_eq_getElem hj)
        cases e'
        rw [h1, List.getD, List.getElem?_eq_getElem hj]; rfl)).mono ?_
      rintro e w' ⟨v', rfl, h1, _, h2⟩
      refine ⟨v', rfl, ?_, h2⟩
      rw [List.take_of_length_le (by omega)] at h1
      exact h1
/-- What a scope's part in memory turns into when a hypothesis is declared. -/
structure Put (w W : World) (g o : Nat) (cs : Array Value) (x : ScC) (vl' ve : Value) (h : Hy) (mn' : Nat) : Prop where
  blk : W.heap[g]? = some (.cells (cs.setIfInBounds o vl') 83 (0, 0))
  own : W.ownsRow 0 61 4 vl' (x.hs.length + 1) (rowHy (x.hs ++ [⟨h, ve⟩]))
  loc : ∀ b, vl'.ownBlock = some b → x.vl.ownBlock = some b ∨ w.heap.size ≤ b
  ev : W.ownsRow 0 3 1 ve h.ex.length (rowN h.ex)
  el : ∀ b, ve.ownBlock = some b → w.heap.size ≤ b
  m : TMap W x.mb mn' (tyOf (x.hs.map (·.h) ++ [h]))
  ch : M.Ch (fun b => x.vl.ownBlock = some b ∨ b = g ∨ b = x.mb) w W
theorem tyOf_snoc (l : List Hy) (h : Hy) (v : Int) : tyOf (l ++ [h]) v = (tyOf l v).or (if h.fl = true ∧ h.var = v then some (h.ex.headD 0) else none) := by
  unfold tyOf
  rw [List.find?_append]
  cases hf : l.find? fun h => h.fl && decide (h.var = v) with
  | some y => simp
  | none =>
    simp only [Option.none_or, Option.map_none]
    by_cases hc : h.fl = true ∧ h.var = v
    · rw [if_pos hc, List.find?_cons_of_pos (by simp [hc.1, hc.2])]; rfl
    · rw [if_neg hc, List.find?_cons_of_neg (by simpa using fun h1 h2 => hc ⟨h1, h2⟩)]; rfl

set_option maxRecDepth 100000 in
set_option maxHeartbeats 8000000 in
theorem float_any (w : World) (O : Nat → Prop) (g o : Nat) (cs : Array Value) (x : ScC) (lab : ByteArray) (typ v : Int) (hg : w.heap[g]? = some (.cells cs 83 (0, 0))) (ho : cs[o]? = some x.vl) (ho1 : cs[o + 1]? = some (.map (some x.mb))) (hx : ScOk O w x) (hn : x.hs.length ≤ 1048576) (hlab : lab.size ≤ 281474976710656) (ht : wfN typ) (hv : wfN v) (hty : tyOf (x.hs.map (·.h)) v = none) :
    Calls Tryz.prog 68 #[.pointer (some ⟨g, o, none⟩), .string lab, .int .i64 typ, .int .i64 v] w fun e w' => e = .returned (.tuple #[]) ∧ ∃ vl' ve, Put w w' g o cs x vl' ve ⟨lab, true, v, [typ, v]⟩ (x.mn + 1) := by
  obtain ⟨T, hT⟩ : ∃ T, w.heap.size = T := ⟨_, rfl⟩
  obtain ⟨w1, hw1⟩ : ∃ w1, w1 = w.alloc (.cells #[.int .i64 typ, .int .i64 v] 3) := ⟨_, rfl⟩
  have b1 : Below w.heap.size w w1 := by rw [hw1]; exact fr_below_alloc _ _
  have g1 : w1.heap[g]? = some (.cells cs 83 (0, 0)) := (b1.block g (Array.getElem?_eq_some_iff.1 hg).1).trans hg
  have l1 := M.owns_ch hx.l (M.Ch.of_below (X := fun _ => False) b1) fun _ _ e => e
  have v1 : w1.ownsRow T 3 1 (.slice (some ⟨T, 0, none⟩) 2 2) 2 (rowN [typ, v]) := by
    rw [hw1, ← hT]
    exact ⟨rfl, .inr ⟨_, 2, #[.int .i64 typ, .int .i64 v], rfl, Nat.le_refl _, heap_alloc_new w _, Nat.le_refl _, by decide, rfl, rfl⟩⟩
  have LI : Hid _ := list_any w1 g o cs x.vl x.hs lab true v (some ⟨T, 0, none⟩) 2 2 [typ, v] g1 ho l1 hn hlab
  have HW1 : Hid (w1 = w.alloc (.cells #[.int .i64 typ, .int .i64 v] 3)) := hw1
  have HT : Hid (w.heap.size = T) := hT
  have HG : Hid (w1.heap[g]? = some (.cells cs 83 (0, 0)) ∧ cs[o]? = some x.vl ∧ cs[o + 1]? = some (.map (some x.mb))) := ⟨g1, ho, ho1⟩
  have HX : Hid (ScOk O w x) := hx
  have B1 : Hid (Below w.heap.size w w1) := b1
  have V1 : Hid (w1.ownsRow T 3 1 (.slice (some ⟨T, 0, none⟩) 2 2) 2 (rowN [typ, v])) := v1
  have HTY : Hid (tyOf (x.hs.map (·.h)) v = none ∧ wfN typ ∧ wfN v ∧ x.hs.length ≤ 1048576 ∧ g < w.heap.size) := ⟨hty, ht, hv, hn, (Array.getElem?_eq_some_iff.1 hg).1⟩
  clear hw1 b1 g1 l1 v1 hg ho ho1 hx hlab hT hty ht hv
  go_enter Tryz.func68, Tryz.ntmps68
  go_wp2_with fail
  rw [← HW1.out, HT.out]
  refine Calls.mono LI.out ?_
  rintro e w3 ⟨rfl, vl', hL⟩
  obtain ⟨es, ck, hmm⟩ := HX.out.m.isM
  have hmlt : x.mb < w.heap.size := (Array.getElem?_eq_some_iff.1 hmm).1
  have hm1 : w1.heap[x.mb]? = some (.map es ck) := (B1.out.block _ hmlt).trans hmm
  have nvl : ¬ (x.vl.ownBlock = some x.mb ∨ x.mb = g) := fun e => by
    rcases e with e | e
    · obtain ⟨c2, h2⟩ := own_block HX.out.l e
      rw [hmm] at h2
      cases h2
    · have h2 := HG.out.1
      rw [← e, hm1] at h2
      cases h2
  have hm3 : TMap w3 x.mb x.mn (tyOf (x.hs.map (·.h))) := HX.out.m.kept ((hL.ch.block _ (Nat.lt_of_lt_of_le hmlt B1.out.size) nvl).trans (B1.out.block _ hmlt))
  obtain ⟨w4, hrun, hm4, hgr⟩ := hm3.put (by have h1 := HX.out.mc; have h2 := HTY.out.2.2.2.1; unfold maxLen; omega) v HTY.out.2.2.1 typ HTY.out.2.1
  have blk3 := hL.blk _ _ HG.out.1
  have og : o + 1 < cs.size := (Array.getElem?_eq_some_iff.1 HG.out.2.2).1
  have c1 : w3.cell? ⟨g, o + 1, none⟩ = some (.map (some x.mb)) := by
    rw [M.cell_whole blk3 (o + 1), Array.getElem?_setIfInBounds_ne (by omega)]
    exact HG.out.2.2
  have c4 : M.Ch (fun b => b = x.mb) w3 w4 := (M.Ch.of_grown hgr).mono fun b e => by cases e; rfl
  have ngm : g ≠ x.mb := fun e => nvl (.inr e.symm)
  have isM3 : ∃ es ck, w3.heap[x.mb]? = some (.map es ck) := hm3.isM
  have nrow : ∀ {base e sz n : Nat} {u : Value} {zs : List Value}, w3.ownsRow base e sz u n zs → ∀ b, u.ownBlock = some b → ¬ b = x.mb := fun ho b hb e => by
    obtain ⟨c2, h2⟩ := own_block ho hb
    obtain ⟨es, ck, h3⟩ := isM3
    rw [e, h3] at h2
    cases h2
  have v3 : w3.ownsRow T 3 1 (.slice (some ⟨T, 0, none⟩) 2 2) 2 (rowN [typ, v]) := M.owns_ch V1.out hL.ch fun b hb e => by
    rcases e with e | e
    · exact own_apart V1.out (M.owns_ch HX.out.l (M.Ch.of_below (X := fun _ => False) B1.out) fun _ _ e => e) (by decide) b hb e
    · exact own_ne V1.out HG.out.1 (by decide) (by rw [hb, e])
  have FI : Hid (Put w w4 g o cs x vl' (.slice (some ⟨T, 0, none⟩) 2 2) ⟨lab, true, v, [typ, v]⟩ (x.mn + 1)) := by
    refine ⟨(c4.block g (Array.getElem?_eq_some_iff.1 blk3).1 ngm).trans blk3, M.owns_ch hL.own c4 (nrow hL.own), fun b e => ?_, M.owns_mono (M.owns_ch v3 c4 (nrow v3)) (Nat.zero_le _), fun b e => ?_, ?_, ?_⟩
    · rcases hL.loc b e with h | h
      · exact .inl h
      · exact .inr (Nat.le_trans B1.out.size h)
    · cases e; exact Nat.le_of_eq HT.out
    · refine (congrArg (TMap w4 x.mb (x.mn + 1)) ?_).mp hm4
      funext t
      rw [tyOf_snoc]
      by_cases e : t = v
      · subst e
        rw [if_pos rfl, HTY.out.1, if_pos ⟨rfl, rfl⟩]
        rfl
      · rw [if_neg e, if_neg (fun h => e h.2.symm)]
        cases tyOf (x.hs.map (·.h)) t <;> rfl
    · have h1 : M.Ch (fun b => x.vl.ownBlock = some b ∨ b = g ∨ b = x.mb) w w1 := M.Ch.of_below B1.out
      exact (h1.trans (hL.ch.mono fun b e => by rcases e with e | e; exact .inl e; exact .inr (.inl e))).trans (c4.mono fun b e => .inr (.inr e))
  obtain ⟨mb, hmb⟩ : ∃ mb, x.mb = mb := ⟨_, rfl⟩
  rw [hmb] at hrun c1
  clear hL hm3 hm4 hgr blk3 c4 v3 hm1 hmm LI hmlt nvl isM3 ngm hmb
  go_wp2_with fail
  refine bodyPost_end (results_none rfl _ _ _) rfl ?_
  exact ⟨rfl, _, _, FI.out⟩

set_option maxRecDepth 100000 in
set_option maxHeartbeats 8000000 in
theorem ess_any (w : World) (O : Nat → Prop) (g o : Nat) (cs : Array Value) (x : ScC) (lab : ByteArray) (a : Option Addr) (n c : Nat) (e : List Int) (hg : w.heap[g]? = some (.cells cs 83 (0, 0))) (ho : cs[o]? = some x.vl) (hx : ScOk O w x) (hn : x.hs.length ≤ 1048576) (hlab : lab.size ≤ 281474976710656) (hl : e.length = n) (hln : n ≤ 17592186044416) (he : NsAt w a e) :
    Calls Tryz.prog 72 #[.pointer (some ⟨g, o, none⟩), .string lab, .slice a n c] w fun ee w' => ee = .returned (.tuple #[]) ∧ ∃ vl' ve, Put w w' g o cs x vl' ve ⟨lab, false, -1, e⟩ x.mn := by
  have CL : Hid _ := clone_any w a n c e hl hln he
  have HG : Hid (w.heap[g]? = some (.cells cs 83 (0, 0)) ∧ cs[o]? = some x.vl) := ⟨hg, ho⟩
  have HX : Hid (ScOk O w x) := hx
  have HL : Hid (lab.size ≤ 281474976710656 ∧ x.hs.length ≤ 1048576 ∧ e.length = n) := ⟨hlab, hn, hl⟩
  clear hg ho hx hlab hl he
  go_enter Tryz.func72, Tryz.ntmps72
  go_wp2_with fail
  refine Calls.mono CL.out ?_
  rintro ee w1 ⟨v', rfl, hv, hb⟩
  obtain ⟨a1, c1, rfl, _⟩ := own_shape hv
  have g1 : w1.heap[g]? = some (.cells cs 83 (0, 0)) := (hb.block g (Array.getElem?_eq_some_iff.1 HG.out.1).1).trans HG.out.1
  have l1 := M.owns_ch HX.out.l (M.Ch.of_below (X := fun _ => False) hb) fun _ _ e => e
  have LI : Hid _ := list_any w1 g o cs x.vl x.hs lab false (-1) a1 n c1 e g1 HG.out.2 l1 HL.out.2.1 HL.out.1
  have V1 : Hid (w1.ownsRow w.heap.size 3 1 (.slice a1 n c1) n (rowN e)) := hv
  have B1 : Hid (Below w.heap.size w w1) := hb
  clear hv hb CL g1 l1
  go_wp2_with fail
  refine Calls.mono LI.out ?_
  rintro ee w3 ⟨rfl, vl', hL⟩
  have FI : Hid (Put w w3 g o cs x vl' (.slice a1 n c1) ⟨lab, false, -1, e⟩ x.mn) := by
    have g1 : w1.heap[g]? = some (.cells cs 83 (0, 0)) := (B1.out.block g (Array.getElem?_eq_some_iff.1 HG.out.1).1).trans HG.out.1
    obtain ⟨es, ck, hmm⟩ := HX.out.m.isM
    have hmlt : x.mb < w.heap.size := (Array.getElem?_eq_some_iff.1 hmm).1
    have nvl : ¬ (x.vl.ownBlock = some x.mb ∨ x.mb = g) := fun e => by
      rcases e with e | e
      · obtain ⟨c2, h2⟩ := own_block HX.out.l e
        rw [hmm] at h2
        cases h2
      · have h2 := HG.out.1
        rw [← e, hmm] at h2
        cases h2
    have v3 : w3.ownsRow w.heap.size 3 1 (.slice a1 n c1) n (rowN e) := M.owns_ch V1.out hL.ch fun b hb e => by
      rcases e with e | e
      · exact own_apart V1.out (M.owns_ch HX.out.l (M.Ch.of_below (X := fun _ => False) B1.out) fun _ _ e => e) (by decide) b hb e
      · exact own_ne V1.out g1 (by decide) (by rw [hb, e])
    refine ⟨hL.blk _ _ g1, hL.own, fun b e => ?_, ?_, fun b e => M.own_ge' v3 b e, ?_, ?_⟩
    · rcases hL.loc b e with h | h
      · exact .inl h
      · exact .inr (Nat.le_trans B1.out.size h)
    · show w3.ownsRow 0 3 1 (.slice a1 n c1) e.length (rowN e)
      rw [HL.out.2.2]
      exact M.owns_mono v3 (Nat.zero_le _)
    · refine (congrArg (TMap w3 x.mb x.mn) ?_).mp (HX.out.m.kept ((hL.ch.block _ (Nat.lt_of_lt_of_le hmlt B1.out.size) nvl).trans (B1.out.block _ hmlt)))
      funext t
      rw [tyOf_snoc, if_neg (fun h => by cases h.1)]
      cases tyOf (x.hs.map (·.h)) t <;> rfl
    · have h1 : M.Ch (fun b => x.vl.ownBlock = some b ∨ b = g ∨ b = x.mb) w w1 := M.Ch.of_below B1.out
      exact h1.trans (hL.ch.mono fun b e => by rcases e with e | e; exact .inl e; exact .inr (.inl e))
  clear hL LI
  go_wp2_with fail
  refine bodyPost_end (results_none rfl _ _ _) rfl ?_
  exact ⟨rfl, _, _, FI.out⟩
end Go.Proofs.YtkejjiilcoacfaaGreat
