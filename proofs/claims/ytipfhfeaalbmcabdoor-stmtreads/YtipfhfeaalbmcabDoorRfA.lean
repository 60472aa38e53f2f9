/- The document's reader: a word, wherever it stands. -/
import Derived.Test.YtipfhfeaalbmcabDoorRfL
import Derived.Test.YtipfhfeaalbmcabDoorRfE
import Derived.Test.YtipfhfeaalbmcabDoorRfF
namespace Go.Proofs.YtipfhfeaalbmcabDoor
open Go.RowKit

theorem rwithin_any (w : World) (N Q : Nat) (H : Nat → Prop) (vL : Value) (fin : List Itm) (lb : Tok) (wts : Bool) (p : Itm) (tk : Tok) (h : RfSt N Q H w vL fin lb wts true p) (k : Nat) (hk : p.s.kind = k) (hk0 : 0 < k) (hk10 : k < 10) (hN : N ≤ w.heap.size) (hnf : fin.length ≤ 1048576) (hnw : p.s.words.length ≤ 1048576) (hnp : p.s.proof.length ≤ 1048576) (ht : tk.text.size ≤ 1048576) :
    Calls Tryd.prog 9 #[.pointer (some ⟨Q, 0, none⟩), tokV tk] w (RfW N Q H w vL fin lb wts (rwithinF p.s tk)) := by
  cases hky : keyB tk.text with
  | false => exact rwithin_word w N Q H vL fin lb wts p tk h k hk hk0 hk10 hN hnf hnw hnp ht hky
  | true =>
    by_cases he : (rwithinF p.s tk).2.2 = true
    · have h3 : tk.text = dotS ∧ ¬ (p.s.words.length : Int) < lstI k ∧ ¬ (p.s.kind = 7 ∧ p.s.proving = false) := by
        have ek : p.s.kind.toNat = k := by rw [hk, Int.toNat_natCast]
        unfold rwithinF at he
        rw [if_neg (show ¬ keyB tk.text = false by rw [hky]; exact fun e => by cases e), ek] at he
        split at he
        · split at he
          · cases he
          · cases he
        · split at he
          · cases he
          · rename_i hd
            split at he
            · cases he
            · rename_i hn
              exact ⟨Classical.byContradiction hd, fun e => hn (.inl e), fun e => hn (.inr e)⟩
      by_cases h7 : k = 7
      · exact rwithin_end7 w N Q H vL fin lb wts p tk h k hk hk0 hk10 hN hnf hnw hnp ht hky h3.1 h3.2.1 h3.2.2 h7
      · exact rwithin_end w N Q H vL fin lb wts p tk h k hk hk0 hk10 hN hnf hnw hnp ht hky h3.1 h3.2.1 h3.2.2 h7
    · exact rwithin_key w N Q H vL fin lb wts p tk h k hk hk0 hk10 hN hnf hnw hnp ht hky he
theorem rwithinD_any (w : World) (N Q : Nat) (D : DS) (tk : Tok) (h : RfD N Q w D) (ho : D.opn = true) (hk : KOk D.p) (hN : N ≤ w.heap.size) (hnf : D.fin.length ≤ 1048576) (hnw : D.p.words.length ≤ 1048576) (hnp : D.p.proof.length ≤ 1048576) (ht : tk.text.size ≤ 1048576) :
    Calls Tryd.prog 9 #[.pointer (some ⟨Q, 0, none⟩), tokV tk] w (RfT N Q w (rtakeF D tk)) := by
  obtain ⟨H, vL, fin, p, h, hfs, hps, _⟩ := h
  rw [ho] at h
  have hl : fin.length = D.fin.length := by rw [← hfs, List.length_map]
  obtain ⟨k1, k7, _, _⟩ := hk
  refine Calls.mono (rwithin_any w N Q H vL fin D.lb D.wts p tk h p.s.kind.toNat (by rw [hps]; omega) (by rw [hps]; omega) (by rw [hps]; omega) hN (by omega) (by rw [hps]; exact hnw) (by rw [hps]; exact hnp) ht) ?_
  rintro e w' ⟨rfl, hb, hc⟩
  unfold rtakeF
  rw [if_pos ho, ← hps]
  refine ⟨rfl, ?_, hb⟩
  rcases hc with ⟨e1, p', e2, h2⟩ | ⟨e1, H', vL', x, e2, h2⟩
  · dsimp only
    rw [e1, if_neg Bool.false_ne_true]
    exact ⟨H, vL, fin, p', h2, hfs, e2, fun e => by cases e⟩
  · dsimp only
    rw [e1, if_pos rfl]
    exact ⟨H', vL', fin ++ [x], zItm, h2, by rw [List.map_append, hfs, ← e2]; rfl, rfl, fun _ => rfl⟩
theorem rbetweenD_any (w : World) (N Q : Nat) (D : DS) (tk : Tok) (h : RfD N Q w D) (ho : D.opn = false) (hN : N ≤ w.heap.size) (hnf : D.fin.length ≤ 1048576) (ht : tk.text.size ≤ 1048576) :
    Calls Tryd.prog 10 #[.pointer (some ⟨Q, 0, none⟩), tokV tk] w (RfT N Q w (rtakeF D tk)) := by
  have e : rtakeF D tk = rbetweenF D tk := by unfold rtakeF; rw [if_neg (by rw [ho]; exact Bool.false_ne_true)]
  rw [e]
  exact rbetween_any w N Q D tk h ho hN hnf ht
theorem run_ok (s : ByteArray) (j : Nat) (D : DS) (h : rrunT ds0 ((wordsF s).take j) = (D, none)) : D.opn = true → KOk D.p := by
  obtain ⟨_, e2⟩ := run_eq ((wordsF s).take j) ps0 ds0 0 agr0 ⟨Nat.le_refl _, (fun _ h => by cases h), small_z _⟩ (by have := words_few s; rw [List.length_take]; omega) (fun t ht => word_ok s t (List.take_subset _ _ ht))
  rw [h] at e2
  exact e2.k
end Go.Proofs.YtipfhfeaalbmcabDoor
