/- Both tables side by side: each call's answer, and that both stay alike. -/
import Derived.Test.YtmgpnaehniohgaaDoorRefR
namespace Go.Proofs.YtmgpnaehniohgaaDoor.R
open Go.RowKit Go.Deep
open Go.Proofs.YtmgpnaehniohgaaDoor.E

/-- The document's table lies at the block B, in the blocks rs. -/
def RAt (w : World) (rs : List Nat) (B : Nat) (S : List (ByteArray × Bool)) (A : List Int) : Prop := ∃ vs va vt, RT w B S A vs va vt ∧ rs = B :: (vs.ownBlock.toList ++ va.ownBlock.toList)
theorem RAt.low {w : World} {rs : List Nat} {B : Nat} {S : List (ByteArray × Bool)} {A : List Int} (h : RAt w rs B S A) : ∀ b ∈ rs, b < w.heap.size := by
  obtain ⟨vs, va, vt, h, rfl⟩ := h
  intro b hb
  simp only [List.mem_cons, List.mem_append, Option.mem_toList] at hb
  rcases hb with rfl | hb | hb
  · exact (Array.getElem?_eq_some_iff.1 h.block).1
  · exact own_low h.syms b hb
  · exact own_low h.acts b hb
theorem RAt.kept {w w' : World} {rs : List Nat} {B : Nat} {S : List (ByteArray × Bool)} {A : List Int} (h : RAt w rs B S A) (hk : ∀ b ∈ rs, w'.heap[b]? = w.heap[b]?) : RAt w' rs B S A := by
  obtain ⟨vs, va, vt, h, rfl⟩ := h
  exact ⟨vs, va, vt, ⟨(hk B (by simp)).trans h.block, owns_same h.syms fun g hg => hk g (by simp [hg]), owns_same h.acts fun g hg => hk g (by simp [hg])⟩, rfl⟩
theorem Turned.more {bs cs : List Nat} {W W' : World} (h : Turned bs W W') (hs : ∀ b ∈ bs, b ∈ cs) : Turned cs W W' := ⟨h.os, h.tape, h.output, h.size, fun i hi hm => h.block i hi fun hb => hm (hs i hb)⟩
/-- Behind a call the document's table says what T' says. -/
def RNow (rs : List Nat) (w : World) (B : Nat) (A : List Int) (T' : Tab) (w' : World) : Prop := ∃ rs' A', RAt w' rs' B T'.syms A' ∧ Inv T' A' ∧ A'.length ≤ A.length + 1 ∧ Goes rs w rs' w'
theorem RNow.same {rs : List Nat} {w : World} {B : Nat} {A : List Int} {T : Tab} (h : RAt w rs B T.syms A) (hi : Inv T A) : RNow rs w B A T w := ⟨rs, A, h, hi, by omega, Goes.refl _ _⟩
theorem goes_acts {w w' : World} {B : Nat} {vs va V : Value} (ha : ∀ g, V.ownBlock = some g → va.ownBlock = some g ∨ w.heap.size ≤ g) (ht : Turned (rblocks B va) w w') :
    Goes (B :: (vs.ownBlock.toList ++ va.ownBlock.toList)) w (B :: (vs.ownBlock.toList ++ V.ownBlock.toList)) w' := by
  refine ⟨fun b hb => ?_, Turned.more ht fun b hb => ?_⟩
  · simp only [List.mem_cons, List.mem_append, Option.mem_toList] at hb ⊢
    rcases hb with rfl | hb | hb
    · exact .inl (.inl rfl)
    · exact .inl (.inr (.inl hb))
    · exact (ha b hb).imp (fun h => .inr (.inr h)) id
  · simp only [rblocks, List.mem_cons, List.mem_append, Option.mem_toList] at hb ⊢
    exact hb.imp id .inr
theorem goes_syms {w w' : World} {B : Nat} {vs va V : Value} (ha : ∀ g, V.ownBlock = some g → vs.ownBlock = some g ∨ w.heap.size ≤ g) (ht : Turned (rblocks B vs) w w') :
    Goes (B :: (vs.ownBlock.toList ++ va.ownBlock.toList)) w (B :: (V.ownBlock.toList ++ va.ownBlock.toList)) w' := by
  refine ⟨fun b hb => ?_, Turned.more ht fun b hb => ?_⟩
  · simp only [List.mem_cons, List.mem_append, Option.mem_toList] at hb ⊢
    rcases hb with rfl | hb | hb
    · exact .inl (.inl rfl)
    · exact (ha b hb).imp (fun h => .inr (.inl h)) id
    · exact .inl (.inr (.inr hb))
  · simp only [rblocks, List.mem_cons, List.mem_append, Option.mem_toList] at hb ⊢
    exact hb.imp id .inl

theorem ropen_u (w : World) (rs : List Nat) (B : Nat) (A : List Int) (T : Tab) (hA : A.length ≤ 17592186043900) (h : RAt w rs B T.syms A) (hi : Inv T A) :
    Calls Tryd.prog 46 #[.pointer (some ⟨B, 0, none⟩)] w fun e w' => e = .returned (.int .i64 ((openR T).1 : Nat)) ∧ RNow rs w B A (openR T).2 w' := by
  obtain ⟨vs, va, vt, hr, rfl⟩ := h
  unfold openR
  by_cases hd : 16 ≤ T.scopes.length
  · rw [if_pos hd]
    refine (ropen_full w B T.syms A vs va vt hA hr (by rw [hi.dep]; omega)).mono ?_
    rintro e w' ⟨rfl, rfl⟩
    exact ⟨rfl, RNow.same ⟨vs, va, vt, hr, rfl⟩ hi⟩
  · rw [if_neg hd]
    refine (ropen_more w B T.syms A vs va vt hA hr (by rw [hi.dep]; omega)).mono ?_
    rintro e w' ⟨rfl, V, h1, h2, h3⟩
    exact ⟨rfl, _, _, ⟨vs, V, vt, h1, rfl⟩, inv_open hi, by simp, goes_acts h2 h3⟩
theorem rclose_u (w : World) (rs : List Nat) (B : Nat) (A : List Int) (T : Tab) (hA : A.length ≤ 17592186043900) (h : RAt w rs B T.syms A) (hi : Inv T A) :
    Calls Tryd.prog 47 #[.pointer (some ⟨B, 0, none⟩)] w fun e w' => e = .returned (.int .i64 ((closeR T).1 : Nat)) ∧ RNow rs w B A (closeR T).2 w' := by
  obtain ⟨vs, va, vt, hr, rfl⟩ := h
  unfold closeR
  by_cases hd : T.scopes.length = 0
  · rw [if_pos hd]
    refine (rclose_none w B T.syms A vs va vt hA hr (by rw [hi.dep]; omega)).mono ?_
    rintro e w' ⟨rfl, rfl⟩
    exact ⟨rfl, RNow.same ⟨vs, va, vt, hr, rfl⟩ hi⟩
  · rw [if_neg hd]
    refine (rclose_more w B T.syms A vs va vt hA hr (by rw [hi.dep]; omega)).mono ?_
    rintro e w' ⟨rfl, V, h1, h2, h3⟩
    exact ⟨rfl, _, _, ⟨vs, V, vt, h1, rfl⟩, inv_close hi hd, by simp, goes_acts h2 h3⟩
theorem numI_some {S : List (ByteArray × Bool)} {s : ByteArray} {n : Nat} (h : numOf S s = some n) : numI S s = (n : Int) := by unfold numI; rw [h]
theorem numI_none {S : List (ByteArray × Bool)} {s : ByteArray} (h : numOf S s = none) : numI S s = -1 := by unfold numI; rw [h]
theorem act_same {T : Tab} {A : List Int} (hi : Inv T A) (hg : T.Good) (hnd : (T.syms.map (·.1)).Nodup) (s : ByteArray) : rAct T.syms A (numI T.syms s) = (actOf T s).isSome := by
  rw [inv_active hi hg hnd]
  cases hn : numOf T.syms s with
  | none =>
    rw [numI_none hn]
    unfold actOf
    rw [hn]
    rfl
  | some n =>
    rw [numI_some hn]
    obtain ⟨b, hb⟩ := numOf_lt hn
    unfold activeOf
    rw [sym_at hb]
theorem find_same {T : Tab} {A : List Int} (hi : Inv T A) (hg : T.Good) (hnd : (T.syms.map (·.1)).Nodup) (s : ByteArray) : rFind T.syms A s = ((((actOf T s).getD 0 : Nat) : Int), (actOf T s).isSome) := by
  unfold rFind
  rw [act_same hi hg hnd]
  cases ha : actOf T s with
  | none => rfl
  | some n =>
    have hn : numOf T.syms s = some n := by
      unfold actOf at ha
      exact (Option.filter_eq_some_iff.1 ha).1
    rw [numI_some hn]
    rfl
theorem rconst_u (w : World) (rs : List Nat) (B k : Nat) (A : List Int) (T : Tab) (s : ByteArray) (hs : s.size ≤ maxLen) (hT : T.Ok k) (hA : A.length ≤ 17592186043900) (h : RAt w rs B T.syms A) (hi : Inv T A) :
    Calls Tryd.prog 44 #[.pointer (some ⟨B, 0, none⟩), .string s] w fun e w' => e = .returned (.tuple #[.int .i64 ((constR T s).1 : Nat), .int .i64 ((constR T s).2.1 : Nat)]) ∧ RNow rs w B A (constR T s).2.2 w' := by
  obtain ⟨vs, va, vt, hr, rfl⟩ := h
  have hS := hT.syms
  unfold constR
  by_cases hd : 0 < T.scopes.length
  · rw [if_pos hd]
    refine (rconst_scope w B T.syms A vs va vt s hs hS hA hr (by rw [hi.dep]; omega)).mono ?_
    rintro e w' ⟨rfl, rfl⟩
    exact ⟨rfl, RNow.same ⟨vs, va, vt, hr, rfl⟩ hi⟩
  · rw [if_neg hd]
    have hd' : ¬ 0 < depF A := by rw [hi.dep]; omega
    by_cases hn : madeB s 3 = false
    · rw [if_pos hn]
      refine (rconst_bad w B T.syms A vs va vt s hs hS hA hr hd' hn).mono ?_
      rintro e w' ⟨rfl, rfl⟩
      exact ⟨rfl, RNow.same ⟨vs, va, vt, hr, rfl⟩ hi⟩
    · rw [if_neg hn]
      have hn' : madeB s 3 = true := by simpa using hn
      by_cases ho : (numOf T.syms s).isSome = true
      · rw [if_pos ho]
        obtain ⟨m, hm⟩ := Option.isSome_iff_exists.1 ho
        refine (rconst_twice w B T.syms A vs va vt s hs hS hA hr hd' hn' (by rw [numI_some hm]; omega)).mono ?_
        rintro e w' ⟨rfl, rfl⟩
        exact ⟨rfl, RNow.same ⟨vs, va, vt, hr, rfl⟩ hi⟩
      · rw [if_neg ho]
        have hm : numOf T.syms s = none := by simpa using ho
        unfold declR
        by_cases hf : 512 ≤ T.syms.length
        · rw [if_pos hf]
          refine (rconst_full w B T.syms A vs va vt s hs hS hA hr hd' hn' (by rw [numI_none hm]; omega) hf).mono ?_
          rintro e w' ⟨rfl, rfl⟩
          exact ⟨rfl, RNow.same ⟨vs, va, vt, hr, rfl⟩ hi⟩
        · rw [if_neg hf]
          refine (rconst_new w B T.syms A vs va vt s hs hS hA hr hd' hn' (by rw [numI_none hm]; omega) (by omega)).mono ?_
          rintro e w' ⟨rfl, V, h1, h2, h3⟩
          refine ⟨rfl, _, A, ⟨V, va, vt, h1, rfl⟩, inv_const (inv_add hi s false hT.acts) _ ?_ (List.eq_nil_of_length_eq_zero (by show T.scopes.length = 0; omega)), by omega, goes_syms h2 h3⟩
          intro p hp
          have hp' : (T.syms ++ [(s, false)])[T.syms.length]? = some p := hp
          rw [List.getElem?_append_right (Nat.le_refl _), Nat.sub_self] at hp'
          cases hp'
          rfl
theorem rvar_u (w : World) (rs : List Nat) (B k : Nat) (A : List Int) (T : Tab) (s : ByteArray) (hs : s.size ≤ maxLen) (hT : T.Ok k) (hg : T.Good) (hA : A.length ≤ 17592186043900) (h : RAt w rs B T.syms A) (hi : Inv T A) :
    Calls Tryd.prog 45 #[.pointer (some ⟨B, 0, none⟩), .string s] w fun e w' => e = .returned (.tuple #[.int .i64 ((varR T s).1 : Nat), .int .i64 ((varR T s).2.1 : Nat)]) ∧ RNow rs w B A (varR T s).2.2 w' := by
  obtain ⟨vs, va, vt, hr, rfl⟩ := h
  have hS := hT.syms
  have hsame := act_same hi hg hT.nodup s
  unfold varR
  by_cases hn : madeB s 3 = false
  · rw [if_pos hn]
    refine (rvar_bad w B T.syms A vs va vt s hs hS hA hr hn).mono ?_
    rintro e w' ⟨rfl, rfl⟩
    exact ⟨rfl, RNow.same ⟨vs, va, vt, hr, rfl⟩ hi⟩
  · rw [if_neg hn]
    have hn' : madeB s 3 = true := by simpa using hn
    by_cases ho : (actOf T s).isSome = true
    · rw [if_pos ho]
      refine (rvar_twice w B T.syms A vs va vt s hs hS hA hr hn' (hsame.trans ho)).mono ?_
      rintro e w' ⟨rfl, rfl⟩
      exact ⟨rfl, RNow.same ⟨vs, va, vt, hr, rfl⟩ hi⟩
    · rw [if_neg ho]
      have hb0 : rAct T.syms A (numI T.syms s) = false := hsame.trans (by simpa using ho)
      cases hm : numOf T.syms s with
      | some m =>
        refine (rvar_back w B T.syms A vs va vt s hs hS hA hr hn' hb0 (by rw [numI_some hm]; omega)).mono ?_
        rintro e w' ⟨rfl, V, h1, h2, h3⟩
        rw [numI_some hm] at h1 ⊢
        obtain ⟨b, hb⟩ := numOf_lt hm
        have hna : m ∉ T.act := fun hin => ho (by unfold actOf; rw [hm]; simp [Option.filter, hin])
        have hbv : b = true := by
          cases b with
          | true => rfl
          | false => exact absurd (hg m _ hb rfl).1 hna
        exact ⟨rfl, _, _, ⟨vs, V, vt, h1, rfl⟩, inv_act hi m _ hb hbv hna, by simp, goes_acts h2 h3⟩
      | none =>
        show Calls Tryd.prog 45 _ w fun e w' => e = .returned (.tuple #[.int .i64 ((declR T s true).1 : Nat), .int .i64 ((declR T s true).2.1 : Nat)]) ∧ RNow _ w B A (declR T s true).2.2 w'
        unfold declR
        by_cases hf : 512 ≤ T.syms.length
        · rw [if_pos hf]
          refine (rvar_full w B T.syms A vs va vt s hs hS hA hr hn' hb0 (by rw [numI_none hm]; omega) hf).mono ?_
          rintro e w' ⟨rfl, rfl⟩
          exact ⟨rfl, RNow.same ⟨vs, va, vt, hr, rfl⟩ hi⟩
        · rw [if_neg hf]
          refine (rvar_new w B T.syms A vs va vt s hs hS hA hr hn' hb0 (by rw [numI_none hm]; omega) (by omega)).mono ?_
          rintro e w' ⟨rfl, w3, V, V2, h1, h2, h3, h4, h5, h6⟩
          refine ⟨rfl, _, _, ⟨V, V2, vt, h4, rfl⟩, inv_act (inv_add hi s true hT.acts) T.syms.length (s, true) ?_ rfl ?_, by simp, (goes_syms h2 h3).trans (goes_acts h5 h6)⟩
          · show (T.syms ++ [(s, true)])[T.syms.length]? = _
            rw [List.getElem?_append_right (Nat.le_refl _), Nat.sub_self]
            rfl
          · intro hin
            have := hT.acts _ hin
            omega

/-- Both tables of a law that began in the world w: the program's says T, the document's T2. -/
structure Duo (w wr : World) (B C k : Nat) (T T2 : Tab) (A : List Int) (bs rs : List Nat) : Prop where
  tab : TabAt wr bs B k T
  ref : RAt wr rs C T2.syms A
  inv : Inv T2 A
  ok : T.Ok k
  ok2 : T2.Ok k
  good : T.Good
  good2 : T2.Good
  len : A.length ≤ k
  apart : ∀ b ∈ bs, b ∉ rs
  lowT : ∀ b ∈ bs, w.heap.size ≤ b
  lowR : ∀ b ∈ rs, w.heap.size ≤ b
  below : Below w.heap.size w wr
  kb : KB w
theorem Duo.kbr {w wr : World} {B C k : Nat} {T T2 : Tab} {A : List Int} {bs rs : List Nat} (h : Duo w wr B C k T T2 A bs rs) : KB wr := h.kb.below h.below h.kb.pos
theorem Duo.up {w wr : World} {B C k k' : Nat} {T T2 : Tab} {A : List Int} {bs rs : List Nat} (h : Duo w wr B C k T T2 A bs rs) (hk : k ≤ k') : Duo w wr B C k' T T2 A bs rs :=
  ⟨h.tab.up hk, h.ref, h.inv, h.ok.up hk, h.ok2.up hk, h.good, h.good2, Nat.le_trans h.len hk, h.apart, h.lowT, h.lowR, h.below, h.kb⟩
theorem Duo.under {w wr w' : World} {B C k : Nat} {T T2 : Tab} {A : List Int} {bs rs : List Nat} (h : Duo w wr B C k T T2 A bs rs) (hb : Below wr.heap.size wr w') : Duo w w' B C k T T2 A bs rs :=
  ⟨h.tab.below hb, h.ref.kept fun b hm => hb.block b (h.ref.low b hm), h.inv, h.ok, h.ok2, h.good, h.good2, h.len, h.apart, h.lowT, h.lowR, h.below.trans (hb.mono h.below.size), h.kb⟩
theorem Duo.refNow {w wr w' : World} {B C k : Nat} {T T2 T' : Tab} {A : List Int} {bs rs : List Nat} (h : Duo w wr B C k T T2 A bs rs) (hn : RNow rs wr C A T' w') (ho : T'.Ok (k + 2)) (hg : T'.Good) : ∃ A' rs', Duo w w' B C (k + 2) T T' A' bs rs' := by
  obtain ⟨rs', A', hr, hi, hl, hG⟩ := hn
  have hlo := hG.below h.below.size h.lowR
  have h0 := h.len
  refine ⟨A', rs', (h.tab.kept fun b hb => hG.turned.block b (h.tab.low b hb) (h.apart b hb)).up (by omega), hr, hi, h.ok.up (by omega), ho, h.good, hg, by omega, fun b hb hb' => ?_, h.lowT, hlo.2, h.below.trans hlo.1, h.kb⟩
  rcases hG.blocks b hb' with h1 | h1
  · exact h.apart b hb h1
  · have := h.tab.low b hb; omega
theorem Duo.tabNow {w wr w' : World} {B C k : Nat} {T T2 T' : Tab} {A : List Int} {bs rs : List Nat} (h : Duo w wr B C k T T2 A bs rs) (hn : Now bs wr B k T' w') (ho : T'.Ok (k + 2)) (hg : T'.Good) : ∃ bs', Duo w w' B C (k + 2) T' T2 A bs' rs := by
  obtain ⟨bs', ht, hG⟩ := hn
  have hlo := hG.below h.below.size h.lowT
  have h0 := h.len
  refine ⟨bs', ht, h.ref.kept fun b hb => hG.turned.block b (h.ref.low b hb) (fun hb' => h.apart b hb' hb), h.inv, ho, h.ok2.up (by omega), hg, h.good2, by omega, fun b hb hb' => ?_, hlo.2, h.lowR, h.below.trans hlo.1, h.kb⟩
  rcases hG.blocks b hb with h1 | h1
  · exact h.apart b h1 hb'
  · have := h.ref.low b hb'; omega
end Go.Proofs.YtmgpnaehniohgaaDoor.R
