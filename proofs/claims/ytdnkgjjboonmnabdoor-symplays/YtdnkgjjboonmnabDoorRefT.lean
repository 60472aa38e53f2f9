/- Both tables side by side: each call's answer, and that both stay alike. -/
import Derived.Test.YtdnkgjjboonmnabDoorRefM
namespace Go.Proofs.YtdnkgjjboonmnabDoor.R
open Go.RowKit
open Go.Proofs.YtdnkgjjboonmnabDoor.E

/-- The document's table lies at the block B, in the blocks rs. -/
def RAt (w : World) (rs : List Nat) (B : Nat) (S : List (ByteArray × Bool)) (A : List Int) (L : List ByteArray) : Prop := ∃ vs va vt, RT w B S A vs va vt ∧ LabRow w vt L ∧ rs = B :: (vs.ownBlock.toList ++ (va.ownBlock.toList ++ vt.ownBlock.toList))
theorem RAt.low {w : World} {rs : List Nat} {B : Nat} {S : List (ByteArray × Bool)} {A : List Int} {L : List ByteArray} (h : RAt w rs B S A L) : ∀ b ∈ rs, b < w.heap.size := by
  obtain ⟨vs, va, vt, h, hl, rfl⟩ := h
  intro b hb
  simp only [List.mem_cons, List.mem_append, Option.mem_toList] at hb
  rcases hb with rfl | hb | hb | hb
  · exact (Array.getElem?_eq_some_iff.1 h.block).1
  · exact own_low h.syms b hb
  · exact own_low h.acts b hb
  · exact own_low hl b hb
theorem RAt.kept {w w' : World} {rs : List Nat} {B : Nat} {S : List (ByteArray × Bool)} {A : List Int} {L : List ByteArray} (h : RAt w rs B S A L) (hk : ∀ b ∈ rs, w'.heap[b]? = w.heap[b]?) : RAt w' rs B S A L := by
  obtain ⟨vs, va, vt, h, hl, rfl⟩ := h
  exact ⟨vs, va, vt, ⟨(hk B (by simp)).trans h.block, owns_same h.syms fun g hg => hk g (by simp [hg]), owns_same h.acts fun g hg => hk g (by simp [hg])⟩, owns_same hl fun g hg => hk g (by simp [hg]), rfl⟩
theorem Turned.more {bs cs : List Nat} {W W' : World} (h : Turned bs W W') (hs : ∀ b ∈ bs, b ∈ cs) : Turned cs W W' := ⟨h.os, h.tape, h.output, h.size, fun i hi hm => h.block i hi fun hb => hm (hs i hb)⟩
/-- Behind a call the document's table says what T' says. -/
def RNow (rs : List Nat) (w : World) (B : Nat) (A : List Int) (T' : Tab) (w' : World) : Prop := ∃ rs' A', RAt w' rs' B T'.syms A' T'.labels ∧ Inv T' A' ∧ A'.length ≤ A.length + 1 ∧ Goes rs w rs' w'
theorem RNow.same {rs : List Nat} {w : World} {B : Nat} {A : List Int} {T : Tab} (h : RAt w rs B T.syms A T.labels) (hi : Inv T A) : RNow rs w B A T w := ⟨rs, A, h, hi, by omega, Goes.refl _ _⟩
/-- The labels' row stays where a row of another type turns. -/
theorem lab_kept {w w' : World} {B : Nat} {S : List (ByteArray × Bool)} {A : List Int} {vs va vt v : Value} {L : List ByteArray} {e size m : Nat} {xs : List Value} (h : RT w B S A vs va vt) (hl : LabRow w vt L) (hv : w.ownsRow 0 e size v m xs) (he : e ≠ 9) (ht : Turned (rblocks B v) w w') : LabRow w' vt L :=
  owns_same hl fun g hg => by
    obtain ⟨cur, hc⟩ := own_type hl hg
    refine ht.block g (own_low hl g hg) fun hm => ?_
    simp only [rblocks, List.mem_cons, Option.mem_toList] at hm
    rcases hm with rfl | hm
    · rw [h.block] at hc
      cases hc
    · obtain ⟨cur', hc'⟩ := own_type hv hm
      rw [hc] at hc'
      simp at hc'
      exact he hc'.2.symm
theorem goes_acts {w w' : World} {B : Nat} {vs va vt V : Value} (ha : ∀ g, V.ownBlock = some g → va.ownBlock = some g ∨ w.heap.size ≤ g) (ht : Turned (rblocks B va) w w') :
    Goes (B :: (vs.ownBlock.toList ++ (va.ownBlock.toList ++ vt.ownBlock.toList))) w (B :: (vs.ownBlock.toList ++ (V.ownBlock.toList ++ vt.ownBlock.toList))) w' := by
  refine ⟨fun b hb => ?_, Turned.more ht fun b hb => ?_⟩
  · simp only [List.mem_cons, List.mem_append, Option.mem_toList] at hb ⊢
    rcases hb with rfl | hb | hb | hb
    · exact .inl (.inl rfl)
    · exact .inl (.inr (.inl hb))
    · exact (ha b hb).imp (fun h => .inr (.inr (.inl h))) id
    · exact .inl (.inr (.inr (.inr hb)))
  · simp only [rblocks, List.mem_cons, List.mem_append, Option.mem_toList] at hb ⊢
    exact hb.imp id fun h => .inr (.inl h)
theorem goes_syms {w w' : World} {B : Nat} {vs va vt V : Value} (ha : ∀ g, V.ownBlock = some g → vs.ownBlock = some g ∨ w.heap.size ≤ g) (ht : Turned (rblocks B vs) w w') :
    Goes (B :: (vs.ownBlock.toList ++ (va.ownBlock.toList ++ vt.ownBlock.toList))) w (B :: (V.ownBlock.toList ++ (va.ownBlock.toList ++ vt.ownBlock.toList))) w' := by
  refine ⟨fun b hb => ?_, Turned.more ht fun b hb => ?_⟩
  · simp only [List.mem_cons, List.mem_append, Option.mem_toList] at hb ⊢
    rcases hb with rfl | hb | hb
    · exact .inl (.inl rfl)
    · exact (ha b hb).imp (fun h => .inr (.inl h)) id
    · exact .inl (.inr (.inr hb))
  · simp only [rblocks, List.mem_cons, List.mem_append, Option.mem_toList] at hb ⊢
    exact hb.imp id .inl
theorem goes_labs {w w' : World} {B : Nat} {vs va vt V : Value} (ha : ∀ g, V.ownBlock = some g → vt.ownBlock = some g ∨ w.heap.size ≤ g) (ht : Turned (rblocks B vt) w w') :
    Goes (B :: (vs.ownBlock.toList ++ (va.ownBlock.toList ++ vt.ownBlock.toList))) w (B :: (vs.ownBlock.toList ++ (va.ownBlock.toList ++ V.ownBlock.toList))) w' := by
  refine ⟨fun b hb => ?_, Turned.more ht fun b hb => ?_⟩
  · simp only [List.mem_cons, List.mem_append, Option.mem_toList] at hb ⊢
    rcases hb with rfl | hb | hb | hb
    · exact .inl (.inl rfl)
    · exact .inl (.inr (.inl hb))
    · exact .inl (.inr (.inr (.inl hb)))
    · exact (ha b hb).imp (fun h => .inr (.inr (.inr h))) id
  · simp only [rblocks, List.mem_cons, List.mem_append, Option.mem_toList] at hb ⊢
    exact hb.imp id fun h => .inr (.inr h)

theorem ropen_u (w : World) (rs : List Nat) (B : Nat) (A : List Int) (T : Tab) (hA : A.length ≤ 17592186043900) (h : RAt w rs B T.syms A T.labels) (hi : Inv T A) :
    Calls Tryd.prog 21 #[.pointer (some ⟨B, 0, none⟩)] w fun e w' => e = .returned (.int .i64 ((openR T).1 : Nat)) ∧ RNow rs w B A (openR T).2 w' := by
  obtain ⟨vs, va, vt, hr, hlb, rfl⟩ := h
  unfold openR
  by_cases hd : 16 ≤ T.scopes.length
  · rw [if_pos hd]
    refine (ropen_full w B T.syms A vs va vt hA hr (by rw [hi.dep]; omega)).mono ?_
    rintro e w' ⟨rfl, rfl⟩
    exact ⟨rfl, RNow.same ⟨vs, va, vt, hr, hlb, rfl⟩ hi⟩
  · rw [if_neg hd]
    refine (ropen_more w B T.syms A vs va vt hA hr (by rw [hi.dep]; omega)).mono ?_
    rintro e w' ⟨rfl, V, h1, h2, h3⟩
    exact ⟨rfl, _, _, ⟨vs, V, vt, h1, lab_kept hr hlb hr.acts (by decide) h3, rfl⟩, inv_open hi, by simp, goes_acts h2 h3⟩
theorem rclose_u (w : World) (rs : List Nat) (B : Nat) (A : List Int) (T : Tab) (hA : A.length ≤ 17592186043900) (h : RAt w rs B T.syms A T.labels) (hi : Inv T A) :
    Calls Tryd.prog 23 #[.pointer (some ⟨B, 0, none⟩)] w fun e w' => e = .returned (.int .i64 ((closeR T).1 : Nat)) ∧ RNow rs w B A (closeR T).2 w' := by
  obtain ⟨vs, va, vt, hr, hlb, rfl⟩ := h
  unfold closeR
  by_cases hd : T.scopes.length = 0
  · rw [if_pos hd]
    refine (rclose_none w B T.syms A vs va vt hA hr (by rw [hi.dep]; omega)).mono ?_
    rintro e w' ⟨rfl, rfl⟩
    exact ⟨rfl, RNow.same ⟨vs, va, vt, hr, hlb, rfl⟩ hi⟩
  · rw [if_neg hd]
    refine (rclose_more w B T.syms A vs va vt hA hr (by rw [hi.dep]; omega)).mono ?_
    rintro e w' ⟨rfl, V, h1, h2, h3⟩
    exact ⟨rfl, _, _, ⟨vs, V, vt, h1, lab_kept hr hlb hr.acts (by decide) h3, rfl⟩, inv_close hi hd, by simp, goes_acts h2 h3⟩
theorem numI_some {S : List (ByteArray × Bool)} {s : ByteArray} {n : Nat} (h : numOf S s = some n) : numI S s = (n : Int) := by unfold numI; rw [h]
theorem numI_none {S : List (ByteArray × Bool)} {s : ByteArray} (h : numOf S s = none) : numI S s = -1 := by unfold numI; rw [h]
theorem act_same {T : Tab} {A : List Int} (hi : Inv T A) (hg : T.Good) (hnd : (T.syms.map (·.1)).Nodup) (s : ByteArray) : rAct T.syms A (numI T.syms s) = (actOf T s).isSome := by
  rw [inv_active hi hg hnd]
  cases hn : numOf T.syms s with
  | none =>
    rw [numI_none hn]
    unfold actOf
    rw [hn]
    rfl
  | some n =>
    rw [numI_some hn]
    obtain ⟨b, hb⟩ := numOf_lt hn
    unfold activeOf
    rw [sym_at hb]
theorem find_same {T : Tab} {A : List Int} (hi : Inv T A) (hg : T.Good) (hnd : (T.syms.map (·.1)).Nodup) (s : ByteArray) : rFind T.syms A s = ((((actOf T s).getD 0 : Nat) : Int), (actOf T s).isSome) := by
  unfold rFind
  rw [act_same hi hg hnd]
  cases ha : actOf T s with
  | none => rfl
  | some n =>
    have hn : numOf T.syms s = some n := by
      unfold actOf at ha
      exact (Option.filter_eq_some_iff.1 ha).1
    rw [numI_some hn]
    rfl
theorem rconst_u (w : World) (rs : List Nat) (B k : Nat) (A : List Int) (T : Tab) (s : ByteArray) (hs : s.size ≤ maxLen) (hT : T.Ok k) (hA : A.length ≤ 17592186043900) (h : RAt w rs B T.syms A T.labels) (hi : Inv T A) :
    Calls Tryd.prog 25 #[.pointer (some ⟨B, 0, none⟩), .string s] w fun e w' => e = .returned (.tuple #[.int .i64 ((constR T s).1 : Nat), .int .i64 ((constR T s).2.1 : Nat)]) ∧ RNow rs w B A (constR T s).2.2 w' := by
  obtain ⟨vs, va, vt, hr, hlb, rfl⟩ := h
  have hS := hT.syms
  unfold constR
  by_cases hd : 0 < T.scopes.length
  · rw [if_pos hd]
    refine (rconst_scope w B T.syms A vs va vt s hs hS hA hr (by rw [hi.dep]; omega)).mono ?_
    rintro e w' ⟨rfl, rfl⟩
    exact ⟨rfl, RNow.same ⟨vs, va, vt, hr, hlb, rfl⟩ hi⟩
  · rw [if_neg hd]
    have hd' : ¬ 0 < depF A := by rw [hi.dep]; omega
    by_cases hn : madeB s 3 = false
    · rw [if_pos hn]
      refine (rconst_bad w B T.syms A vs va vt s hs hS hA hr hd' hn).mono ?_
      rintro e w' ⟨rfl, rfl⟩
      exact ⟨rfl, RNow.same ⟨vs, va, vt, hr, hlb, rfl⟩ hi⟩
    · rw [if_neg hn]
      have hn' : madeB s 3 = true := by simpa using hn
      by_cases ho : (numOf T.syms s).isSome = true
      · rw [if_pos ho]
        obtain ⟨m, hm⟩ := Option.isSome_iff_exists.1 ho
        refine (rconst_twice w B T.syms A vs va vt s hs hS hA hr hd' hn' (by rw [numI_some hm]; omega)).mono ?_
        rintro e w' ⟨rfl, rfl⟩
        exact ⟨rfl, RNow.same ⟨vs, va, vt, hr, hlb, rfl⟩ hi⟩
      · rw [if_neg ho]
        have hm : numOf T.syms s = none := by simpa using ho
        unfold declR
        by_cases hf : 512 ≤ T.syms.length
        · rw [if_pos hf]
          refine (rconst_full w B T.syms A vs va vt s hs hS hA hr hd' hn' (by rw [numI_none hm]; omega) hf).mono ?_
          rintro e w' ⟨rfl, rfl⟩
          exact ⟨rfl, RNow.same ⟨vs, va, vt, hr, hlb, rfl⟩ hi⟩
        · rw [if_neg hf]
          refine (rconst_new w B T.syms A vs va vt s hs hS hA hr hd' hn' (by rw [numI_none hm]; omega) (by omega)).mono ?_
          rintro e w' ⟨rfl, V, h1, h2, h3⟩
          refine ⟨rfl, _, A, ⟨V, va, vt, h1, lab_kept hr hlb hr.syms (by decide) h3, rfl⟩, inv_const (inv_add hi s false hT.acts) _ ?_ (List.eq_nil_of_length_eq_zero (by show T.scopes.length = 0; omega)), by omega, goes_syms h2 h3⟩
          intro p hp
          have hp' : (T.syms ++ [(s, false)])[T.syms.length]? = some p := hp
          rw [List.getElem?_append_right (Nat.le_refl _), Nat.sub_self] at hp'
          cases hp'
          rfl
theorem rvar_u (w : World) (rs : List Nat) (B k : Nat) (A : List Int) (T : Tab) (s : ByteArray) (hs : s.size ≤ maxLen) (hT : T.Ok k) (hg : T.Good) (hA : A.length ≤ 17592186043900) (h : RAt w rs B T.syms A T.labels) (hi : Inv T A) :
    Calls Tryd.prog 27 #[.pointer (some ⟨B, 0, none⟩), .string s] w fun e w' => e = .returned (.tuple #[.int .i64 ((varR T s).1 : Nat), .int .i64 ((varR T s).2.1 : Nat)]) ∧ RNow rs w B A (varR T s).2.2 w' := by
  obtain ⟨vs, va, vt, hr, hlb, rfl⟩ := h
  have hS := hT.syms
  have hsame := act_same hi hg hT.nodup s
  unfold varR
  by_cases hn : madeB s 3 = false
  · rw [if_pos hn]
    refine (rvar_bad w B T.syms A vs va vt s hs hS hA hr hn).mono ?_
    rintro e w' ⟨rfl, rfl⟩
    exact ⟨rfl, RNow.same ⟨vs, va, vt, hr, hlb, rfl⟩ hi⟩
  · rw [if_neg hn]
    have hn' : madeB s 3 = true := by simpa using hn
    by_cases ho : (actOf T s).isSome = true
    · rw [if_pos ho]
      refine (rvar_twice w B T.syms A vs va vt s hs hS hA hr hn' (hsame.trans ho)).mono ?_
      rintro e w' ⟨rfl, rfl⟩
      exact ⟨rfl, RNow.same ⟨vs, va, vt, hr, hlb, rfl⟩ hi⟩
    · rw [if_neg ho]
      have hb0 : rAct T.syms A (numI T.syms s) = false := hsame.trans (by simpa using ho)
      cases hm : numOf T.syms s with
      | some m =>
        refine (rvar_back w B T.syms A vs va vt s hs hS hA hr hn' hb0 (by rw [numI_some hm]; omega)).mono ?_
        rintro e w' ⟨rfl, V, h1, h2, h3⟩
        rw [numI_some hm] at h1 ⊢
        obtain ⟨b, hb⟩ := numOf_lt hm
        have hna : m ∉ T.act := fun hin => ho (by unfold actOf; rw [hm]; simp [Option.filter, hin])
        have hbv : b = true := by
          cases b with
          | true => rfl
          | false => exact absurd (hg m _ hb rfl).1 hna
        exact ⟨rfl, _, _, ⟨vs, V, vt, h1, lab_kept hr hlb hr.acts (by decide) h3, rfl⟩, inv_act hi m _ hb hbv hna, by simp, goes_acts h2 h3⟩
      | none =>
        show Calls Tryd.prog 27 _ w fun e w' => e = .returned (.tuple #[.int .i64 ((declR T s true).1 : Nat), .int .i64 ((declR T s true).2.1 : Nat)]) ∧ RNow _ w B A (declR T s true).2.2 w'
        unfold declR
        by_cases hf : 512 ≤ T.syms.length
        · rw [if_pos hf]
          refine (rvar_full w B T.syms A vs va vt s hs hS hA hr hn' hb0 (by rw [numI_none hm]; omega) hf).mono ?_
          rintro e w' ⟨rfl, rfl⟩
          exact ⟨rfl, RNow.same ⟨vs, va, vt, hr, hlb, rfl⟩ hi⟩
        · rw [if_neg hf]
          refine (rvar_new w B T.syms A vs va vt s hs hS hA hr hn' hb0 (by rw [numI_none hm]; omega) (by omega)).mono ?_
          rintro e w' ⟨rfl, w3, V, V2, h1, h2, h3, h4, h5, h6⟩
          refine ⟨rfl, _, _, ⟨V, V2, vt, h4, lab_kept h1 (lab_kept hr hlb hr.syms (by decide) h3) h1.acts (by decide) h6, rfl⟩, inv_act (inv_add hi s true hT.acts) T.syms.length (s, true) ?_ rfl ?_, by simp, (goes_syms h2 h3).trans (goes_acts h5 h6)⟩
          · show (T.syms ++ [(s, true)])[T.syms.length]? = _
            rw [List.getElem?_append_right (Nat.le_refl _), Nat.sub_self]
            rfl
          · intro hin
            have := hT.acts _ hin
            omega

theorem inv_lab {T : Tab} {A : List Int} (h : Inv T A) (s : ByteArray) : Inv (labT T s) A := ⟨h.dep, h.live, h.sees, h.place, h.inner⟩
theorem rlabel_u (w : World) (rs : List Nat) (B k : Nat) (A : List Int) (T : Tab) (s : ByteArray) (hs : s.size ≤ maxLen) (hT : T.Ok k) (h : RAt w rs B T.syms A T.labels) (hi : Inv T A) :
    Calls Tryd.prog 31 #[.pointer (some ⟨B, 0, none⟩), .string s] w fun e w' => e = .returned (.int .i64 ((labelR T s).1 : Nat)) ∧ RNow rs w B A (labelR T s).2 w' := by
  obtain ⟨vs, va, vt, hr, hlb, rfl⟩ := h
  refine (rlabel_any w B T.syms A vs va vt T.labels s hs hT.labels hr hlb).mono ?_
  rintro e w' ⟨rfl, V, h1, h2, h3, h4⟩
  have hsame : (labF T.labels s).1 = (labelR T s).1 ∧ (labF T.labels s).2 = (labelR T s).2.labels ∧ (labelR T s).2.syms = T.syms ∧ Inv (labelR T s).2 A := by
    unfold labF labelR
    by_cases hm : madeB s 4 = false
    · rw [if_pos hm, if_pos hm]; exact ⟨rfl, rfl, rfl, hi⟩
    · rw [if_neg hm, if_neg hm]
      by_cases ho : (labOf T.labels s).isSome = true
      · rw [if_pos ho, if_pos ho]; exact ⟨rfl, rfl, rfl, hi⟩
      · rw [if_neg ho, if_neg ho]
        by_cases hf : 1024 ≤ T.labels.length
        · rw [if_pos hf, if_pos hf]; exact ⟨rfl, rfl, rfl, hi⟩
        · rw [if_neg hf, if_neg hf]; exact ⟨rfl, rfl, rfl, inv_lab hi s⟩
  obtain ⟨e1, e2, e3, e4⟩ := hsame
  rw [e2] at h2
  refine ⟨by rw [e1], _, A, ⟨vs, va, V, by rw [e3]; exact h1, h2, rfl⟩, e4, by omega, goes_labs h3 h4⟩

/-- The program's table and the document's, which say the same, in the blocks xs. -/
def Twin (w : World) (xs : List Nat) (B C k : Nat) (T : Tab) : Prop := ∃ bs rs A, xs = bs ++ rs ∧ TabAt w bs B k T ∧ RAt w rs C T.syms A T.labels ∧ Inv T A ∧ T.Ok k ∧ T.Good ∧ A.length ≤ k ∧ ∀ b ∈ bs, b ∉ rs
theorem Twin.low {w : World} {xs : List Nat} {B C k : Nat} {T : Tab} (h : Twin w xs B C k T) : ∀ b ∈ xs, b < w.heap.size := by
  obtain ⟨bs, rs, A, rfl, h1, h2, _⟩ := h
  intro b hb
  rcases List.mem_append.1 hb with hb | hb
  · exact h1.low b hb
  · exact h2.low b hb
theorem Twin.kept {w w' : World} {xs : List Nat} {B C k : Nat} {T : Tab} (h : Twin w xs B C k T) (hk : ∀ b ∈ xs, w'.heap[b]? = w.heap[b]?) : Twin w' xs B C k T := by
  obtain ⟨bs, rs, A, rfl, h1, h2, h3⟩ := h
  exact ⟨bs, rs, A, rfl, h1.kept fun b hb => hk b (by simp [hb]), h2.kept fun b hb => hk b (by simp [hb]), h3⟩
theorem Twin.under {w w' : World} {xs : List Nat} {B C k : Nat} {T : Tab} (h : Twin w xs B C k T) (hb : Below w.heap.size w w') : Twin w' xs B C k T := h.kept fun b hm => hb.block b (h.low b hm)
theorem Twin.up {w : World} {xs : List Nat} {B C k k' : Nat} {T : Tab} (h : Twin w xs B C k T) (hk : k ≤ k') : Twin w xs B C k' T := by
  obtain ⟨bs, rs, A, rfl, h1, h2, h3, h4, h5, h6, h7⟩ := h
  exact ⟨bs, rs, A, rfl, h1.up hk, h2, h3, h4.up hk, h5, by omega, h7⟩
/-- Behind a call of both. -/
theorem both_now {w w1 w2 : World} {bs rs : List Nat} {B C k : Nat} {T T' : Tab} {A : List Int} (hr : RAt w rs C T.syms A T.labels) (hap : ∀ b ∈ bs, b ∉ rs) (hl : A.length ≤ k)
    (hn : Now bs w B k T' w1) (hn2 : RNow rs w1 C A T' w2) (ho : T'.Ok (k + 2)) (hg : T'.Good) : ∃ xs', Twin w2 xs' B C (k + 2) T' ∧ Goes (bs ++ rs) w xs' w2 := by
  obtain ⟨bs', ht', hG⟩ := hn
  obtain ⟨rs', A', hr', hi', hl', hG2⟩ := hn2
  have hrl := hr.low
  have h1 : ∀ b ∈ bs', b ∉ rs := fun b hb hb2 => by
    rcases hG.blocks b hb with h | h
    · exact hap b h hb2
    · have := hrl b hb2; omega
  have hs1 : w.heap.size ≤ w1.heap.size := hG.turned.size
  refine ⟨bs' ++ rs', ⟨bs', rs', A', rfl, ht'.kept fun b hb => hG2.turned.block b (ht'.low b hb) (h1 b hb), hr', hi', ho, hg, by omega, fun b hb hb2 => ?_⟩, ⟨fun b hb => ?_, ?_⟩⟩
  · rcases hG2.blocks b hb2 with h | h
    · exact h1 b hb h
    · have := ht'.low b hb; omega
  · rcases List.mem_append.1 hb with hb | hb
    · exact (hG.blocks b hb).imp (fun h => List.mem_append_left _ h) id
    · exact (hG2.blocks b hb).imp (fun h => List.mem_append_right _ h) fun h => by omega
  · refine ⟨hG2.turned.os.trans hG.turned.os, hG2.turned.tape.trans hG.turned.tape, hG2.turned.output.trans hG.turned.output, Nat.le_trans hs1 hG2.turned.size, fun i hi hm => ?_⟩
    rw [List.mem_append] at hm
    exact (hG2.turned.block i (by omega) fun h => hm (.inr h)).trans (hG.turned.block i hi fun h => hm (.inl h))
end Go.Proofs.YtdnkgjjboonmnabDoor.R
