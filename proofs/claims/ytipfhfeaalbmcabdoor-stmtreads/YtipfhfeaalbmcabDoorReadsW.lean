/- Laid together: RfZ, ReadsWalk. -/
import Derived.Test.YtipfhfeaalbmcabDoorRfP
import Derived.Test.YtipfhfeaalbmcabDoorPrint
import Derived.Test.YtipfhfeaalbmcabDoorRfR
import Derived.Test.YtipfhfeaalbmcabDoorRRead
import Derived.Test.YtipfhfeaalbmcabDoorSame
namespace Go.Proofs.YtipfhfeaalbmcabDoor
open Go.RowKit

def TkSm (t : Tok) : Prop := t.text.size ≤ 1048576
theorem tksm_z : TkSm zTok := Nat.zero_le _
structure SmS (s : Stm) : Prop where
  l : TkSm s.label
  w : ∀ t ∈ s.words, TkSm t
  p : ∀ t ∈ s.proof, TkSm t
structure SmD (D : DS) : Prop where
  lb : TkSm D.lb
  f : ∀ s ∈ D.fin, SmS s
  p : SmS D.p
theorem sms_z : SmS zStm := ⟨tksm_z, (fun t h => by cases h), (fun t h => by cases h)⟩
theorem mem_snoc {α : Type} {Pr : α → Prop} {l : List α} {x : α} (hl : ∀ t ∈ l, Pr t) (hx : Pr x) : ∀ t ∈ l ++ [x], Pr t := fun t ht => by
  rcases List.mem_append.1 ht with ht | ht
  · exact hl t ht
  · rw [List.mem_singleton.1 ht]; exact hx
theorem rwithin_sm {s : Stm} {t : Tok} (h : SmS s) (ht : TkSm t) : SmS (rwithinF s t).2.1 := by
  unfold rwithinF
  split
  · split
    · exact ⟨h.l, h.w, mem_snoc h.p ht⟩
    · split
      · exact h
      · exact ⟨h.l, mem_snoc h.w ht, h.p⟩
  · split
    · split
      · exact h
      · exact ⟨h.l, h.w, h.p⟩
    · split
      · exact h
      · split
        · exact h
        · exact ⟨h.l, h.w, h.p⟩
theorem if_sm {b : Bool} {t : Tok} (h : TkSm t) : TkSm (if b = true then t else zTok) := by
  split
  · exact h
  · exact tksm_z
theorem rtake_sm {D : DS} {t : Tok} (h : SmD D) (ht : TkSm t) : SmD (rtakeF D t).2 := by
  unfold rtakeF
  split
  · dsimp only
    split
    · exact ⟨h.lb, mem_snoc h.f (rwithin_sm h.p ht), sms_z⟩
    · exact ⟨h.lb, h.f, rwithin_sm h.p ht⟩
  · unfold rbetweenF
    split
    · split
      · exact h
      · exact ⟨ht, h.f, h.p⟩
    · split
      · exact h
      · split
        · exact h
        · split
          · exact ⟨tksm_z, mem_snoc h.f ⟨if_sm h.lb, (fun t h => by cases h), (fun t h => by cases h)⟩, h.p⟩
          · exact ⟨tksm_z, h.f, ⟨if_sm h.lb, (fun t h => by cases h), (fun t h => by cases h)⟩⟩
theorem run_sm : ∀ (ts : List Tok) (D : DS), SmD D → (∀ t ∈ ts, TkSm t) → SmD (rrunT D ts).1
  | [], _, h, _ => h
  | t :: ts, D, h, ht => by
    unfold rrunT
    have h2 := rtake_sm h (ht t (List.mem_cons_self ..))
    split
    · exact run_sm ts _ h2 fun u hu => ht u (List.mem_cons_of_mem _ hu)
    · exact h2
theorem rread_sm (s : ByteArray) : SmD (rreadF s).1 := by
  have h := run_sm (wordsF s) ds0 ⟨tksm_z, (fun _ h => by cases h), sms_z⟩ (fun t ht => by have := words_size s t ht; show t.text.size ≤ 1048576; omega)
  unfold rreadF
  obtain ⟨D, g, hD⟩ : ∃ D g, rrunT ds0 (wordsF s) = (D, g) := ⟨_, _, rfl⟩
  rw [hD] at h
  rw [hD]
  cases g with
  | some f => exact h
  | none =>
    dsimp only
    cases (K.scanF s).2 with
    | some f => exact h
    | none =>
      dsimp only
      split
      · exact h
      · exact h
theorem told_sm (s : ByteArray) : (toldD (rreadF s).1).length ≤ 1048576 ∧ ∀ x ∈ toldD (rreadF s).1, StmSm x := by
  have h := rread_small s
  have k := rread_sm s
  have one : ∀ x, SmallS x 16384 → SmS x → StmSm x := fun x h k => ⟨by have := h.1; omega, by have := h.2; omega, k.w, k.p, k.l⟩
  unfold toldD
  split
  · refine ⟨?_, mem_snoc (fun x hx => one x (h.f x hx) (k.f x hx)) (one _ h.p k.p)⟩
    rw [List.length_append, List.length_singleton]; have := h.n; omega
  · exact ⟨by have := h.n; omega, fun x hx => one x (h.f x hx) (k.f x hx)⟩
end Go.Proofs.YtipfhfeaalbmcabDoor

namespace Go.Proofs.YtipfhfeaalbmcabDoor
open Go.RowKit

def FtC (f : Tok × Int) : Array Value := #[.int .i64 f.1.off, .int .i64 f.1.line, .int .i64 f.1.col, .string f.1.text, .int .i64 f.2]
def FtIs (W : World) (fv : Value) : Option (Tok × Int) → Prop
  | none => fv = .pointer none
  | some f => ∃ B, fv = .pointer (some ⟨B, 0, none⟩) ∧ W.heap[B]? = some (.cells (FtC f) 45 (0, 0))
set_option maxRecDepth 100000 in
set_option maxHeartbeats 4000000 in
theorem fault_none (w : World) : Calls Tryd.prog 7 #[.pointer none, .pointer none] w fun e w' => e = .returned (.bool true) ∧ Below w.heap.size w w' := by
  go_enter Tryd.func7, Tryd.ntmps7
  go_wp2
  go_ret
  exact ⟨rfl, Below.refl _ _⟩
set_option maxRecDepth 100000 in
set_option maxHeartbeats 4000000 in
theorem fault_some (w : World) (A B : Nat) (t : Tok) (c : Int) (hA : w.heap[A]? = some (.cells (FtC (t, c)) 45 (0, 0))) (hB : w.heap[B]? = some (.cells (FtC (t, c)) 45 (0, 0))) : Calls Tryd.prog 7 #[.pointer (some ⟨A, 0, none⟩), .pointer (some ⟨B, 0, none⟩)] w fun e w' => e = .returned (.bool true) ∧ Below w.heap.size w w' := by
  have a0 : w.cell? ⟨A, 0, none⟩ = some (.int .i64 t.off) := M.cell_whole hA 0
  have a1 : w.cell? ⟨A, 1, none⟩ = some (.int .i64 t.line) := M.cell_whole hA 1
  have a2 : w.cell? ⟨A, 2, none⟩ = some (.int .i64 t.col) := M.cell_whole hA 2
  have a3 : w.cell? ⟨A, 3, none⟩ = some (.string t.text) := M.cell_whole hA 3
  have a4 : w.cell? ⟨A, 4, none⟩ = some (.int .i64 c) := M.cell_whole hA 4
  have b0 : w.cell? ⟨B, 0, none⟩ = some (.int .i64 t.off) := M.cell_whole hB 0
  have b1 : w.cell? ⟨B, 1, none⟩ = some (.int .i64 t.line) := M.cell_whole hB 1
  have b2 : w.cell? ⟨B, 2, none⟩ = some (.int .i64 t.col) := M.cell_whole hB 2
  have b3 : w.cell? ⟨B, 3, none⟩ = some (.string t.text) := M.cell_whole hB 3
  have b4 : w.cell? ⟨B, 4, none⟩ = some (.int .i64 c) := M.cell_whole hB 4
  clear hA hB
  go_enter Tryd.func7, Tryd.ntmps7
  go_upto_region 3 with fail
  go_quiet (fail)
  have Bq : Hid (Below w.heap.size w (w.drewN nq)) := below_drewN (Below.refl _ _) nq
  generalize w.drewN nq = wq at *
  go_wp2
  go_ret
  exact ⟨rfl, Bq.out⟩
theorem fault_eq (w : World) (fv gv : Value) (f : Option (Tok × Int)) (hF : FtIs w fv f) (hG : FtIs w gv f) : Calls Tryd.prog 7 #[fv, gv] w fun e w' => e = .returned (.bool true) ∧ Below w.heap.size w w' := by
  cases f with
  | none =>
    have hF : fv = .pointer none := hF
    have hG : gv = .pointer none := hG
    subst hF hG
    exact fault_none w
  | some f =>
    obtain ⟨A, rfl, hA⟩ := hF
    obtain ⟨B, rfl, hB⟩ := hG
    exact fault_some w A B f.1 f.2 hA hB
theorem ReadIs.stmts {w w' : World} {v fv : Value} {its : List Itm} {P : PS} {f : Option (Tok × Int)} (h : ReadIs w w' v fv its P f) : ∃ a c, v = .slice a P.l.length c ∧ StmtsAt w' a P.l := by
  obtain ⟨a, c, e, hs⟩ := stmts_own (H := fun _ => True) h.own fun x hx => ⟨M.RowIn.own (h.all x hx).ow fun _ _ => trivial, M.RowIn.own (h.all x hx).op fun _ _ => trivial⟩
  rw [h.l] at hs
  exact ⟨a, c, by rw [e, ← h.l, List.length_map], hs⟩
set_option maxRecDepth 100000 in
set_option maxHeartbeats 8000000 in
theorem reads_walk (s : ByteArray) (w : World) (hs : s.size ≤ 140737488355328) (hT : RdW w) : Calls Tryd.prog 3 #[.string s] w fun e w' => e = .returned (.bool true) ∧ Below w.heap.size w w' := by
  have R1 : Hid _ := rread_any w s hs
  have R2 : Hid (∀ wx, Below w.heap.size w wx → Calls Tryd.prog 5 #[.string s] wx (ReadPost wx s)) := fun wx hb => read_any wx s hs (hT.under hb)
  obtain ⟨e1, e2⟩ := read_eq s
  obtain ⟨hn, hsm⟩ := told_sm s
  have HE : Hid ((readF s).2 = (rreadF s).2 ∧ (readF s).1.l = toldD (rreadF s).1) := ⟨e1, e2⟩
  obtain ⟨l, hl⟩ : ∃ l, toldD (rreadF s).1 = l := ⟨_, rfl⟩
  rw [hl] at hn hsm
  have HS : Hid (∀ x ∈ l, StmSm x) := hsm
  obtain ⟨n, hln⟩ : ∃ n, l.length = n := ⟨_, rfl⟩
  rw [hln] at hn
  have HL : Hid (toldD (rreadF s).1 = l ∧ l.length = n) := ⟨hl, hln⟩
  clear hT e1 e2 hl hln hsm
  go_enter Tryd.func3, Tryd.ntmps3
  go_wp2_with fail
  refine Calls.mono R1.out ?_
  rintro e w1 ⟨a1, c1, f1, rfl, hr1⟩
  rw [HL.out.1] at hr1
  have H1 : Hid (RReadIs w w1 a1 f1 l (rreadF s).2) := hr1
  rw [HL.out.1, HL.out.2]
  clear hr1 R1
  go_wp2_with fail
  refine Calls.mono (R2.out w1 H1.out.bel) ?_
  rintro e w2 ⟨v2, f2, its, rfl, hr2⟩
  obtain ⟨a2, c2, ev, hst⟩ := hr2.stmts
  rw [HE.out.2, HL.out.1, HL.out.2] at ev
  rw [HE.out.2, HL.out.1] at hst
  subst ev
  have B2 : Hid (Below w1.heap.size w1 w2) := hr2.bel
  have S2 : Hid (StmtsAt w2 a2 l) := hst
  have S1 : Hid (StmtsAt w2 a1 l) := H1.out.st.under B2.out
  have HF2 : Hid (FtIs w2 f2 (rreadF s).2) := by
    have h := hr2.ft
    rw [HE.out.1] at h
    cases hq : (rreadF s).2 with
    | none => rw [hq] at h; exact h
    | some f => rw [hq] at h; obtain ⟨B, e, _, hB⟩ := h; exact ⟨B, e, hB⟩
  have HF1 : Hid (FtIs w2 f1 (rreadF s).2) := by
    have h := H1.out.ft
    cases hq : (rreadF s).2 with
    | none => rw [hq] at h; exact h
    | some f => rw [hq] at h; obtain ⟨B, e, _, hB⟩ := h; exact ⟨B, e, (B2.out.block B (Array.getElem?_eq_some_iff.1 hB).1).trans hB⟩
  have SE : Hid _ := same_eq w2 a2 a1 n c2 c1 l HL.out.2 hn HS.out S2.out S1.out
  have FE : Hid (∀ wx, Below w2.heap.size w2 wx → Calls Tryd.prog 7 #[f2, f1] wx fun e w' => e = .returned (.bool true) ∧ Below wx.heap.size wx w') := fun wx hb => by
    have up : ∀ {fv : Value}, FtIs w2 fv (rreadF s).2 → FtIs wx fv (rreadF s).2 := fun h => by
      cases hq : (rreadF s).2 with
      | none => rw [hq] at h; exact h
      | some f => rw [hq] at h; obtain ⟨B, e, hB⟩ := h; exact ⟨B, e, (hb.block B (Array.getElem?_eq_some_iff.1 hB).1).trans hB⟩
    exact fault_eq wx f2 f1 (rreadF s).2 (up HF2.out) (up HF1.out)
  have HB : Hid (Below w.heap.size w w2) := H1.out.bel.trans (B2.out.mono H1.out.bel.size)
  clear hr2 hst R2 HF1 HF2 S1 S2 H1
  go_wp2_with fail
  refine Calls.mono SE.out ?_
  rintro e w3 ⟨rfl, hb3⟩
  have B3 : Hid (Below w2.heap.size w2 w3) := hb3
  clear hb3 SE
  go_wp2_with fail
  refine Calls.mono (FE.out w3 B3.out) ?_
  rintro e w4 ⟨rfl, hb4⟩
  have FIN : Hid (Below w.heap.size w w4) := HB.out.trans ((B3.out.mono HB.out.size).trans (hb4.mono (Nat.le_trans HB.out.size B3.out.size)))
  clear hb4 FE
  go_wp2
  go_ret
  exact ⟨rfl, FIN.out⟩
end Go.Proofs.YtipfhfeaalbmcabDoor
