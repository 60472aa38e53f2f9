/- The reader's read. -/
import Derived.Test.YtffchjigpppoaaaDoorTakes
import Derived.Test.YtffchjigpppoaaaDoorRunes
namespace Go.Proofs.YtffchjigpppoaaaDoor
open Go.RowKit

def Tok.bytes (t : Tok) : List UInt8 := t.text.data.toList
theorem Tok.size (t : Tok) : t.bytes.length = t.text.size := (Lib.size_eq t.text).symm
theorem RdIs.iterAt {w : World} {R k pos pos' : Nat} {s : ByteArray} {cs : List (Int × Tok)} {a : Nat} (h : RdIs w R cs a) (hk : w.heap[k]? = some (.stringIter s pos)) (hkR : k ≠ R) : RdIs (w.iterAt k s pos') R cs a := by
  obtain ⟨v, h1, h2⟩ := h
  refine ⟨v, (Lib.iterAt_other w k R s pos' (fun e => hkR e.symm)).trans h1, h2.1, ?_⟩
  rcases h2.2 with h0 | ⟨g, cap, cur, hv, hb, hh, hr⟩
  · exact .inl h0
  · refine .inr ⟨g, cap, cur, hv, hb, ?_, hr⟩
    rw [Lib.iterAt_other w k g s pos' (fun e => by rw [e, hk] at hh; cases hh)]
    exact hh
theorem BoxAt.iterAt {w : World} {b k pos pos' : Nat} {s : ByteArray} {t : Tok} (h : BoxAt w b t) (hk : w.heap[k]? = some (.stringIter s pos)) : BoxAt (w.iterAt k s pos') b t :=
  (Lib.iterAt_other w k b s pos' (fun e => by rw [← e, show w.heap[b]? = _ from h] at hk; cases hk)).trans h
theorem Kp.iterAt {R k pos' : Nat} {A B : World} {s : ByteArray} (h : Kp R A B) (hk : A.heap.size ≤ k) (hR : R ≤ k) : Kp R A (B.iterAt k s pos') :=
  ⟨Lib.below_iterAt h.below hR s pos', fun i o hi hb ho => by
    have hlt := (Array.getElem?_eq_some_iff.1 hi).1
    rw [Lib.iterAt_other B k i s pos' (by omega)]
    exact h.others i o hi hb ho⟩
theorem take_drop_add {α : Type} (l : List α) (p k : Nat) : l.take (p + k) = l.take p ++ (l.drop p).take k := by
  rw [List.take_add]

set_option maxRecDepth 100000 in
set_option maxHeartbeats 4000000 in
theorem read_any (w : World) (R : Nat) (cs : List (Int × Tok)) (a : Nat) (t : Tok) (h : RdIs w R cs a) (hR : 4 ≤ R) (hT : Tabs w) (hn : cs.length + t.text.size + 6 ≤ 2932031007402) (ha : a ≤ 1125899906842624) :
    Calls Tryd.prog 52 #[.pointer (some ⟨R, 0, none⟩), tokV t] w fun e w' => e = .returned (.tuple #[]) ∧ RdIs w' R (cs ++ toldBy t (numsOf a t.bytes)) (endA a t.bytes) ∧ Kp R w w' := by
  have hlt : R < w.heap.size := by obtain ⟨v, h1, _⟩ := h; exact h1.lt
  have TK : Hid (∀ (wx : World) (l : List (Int × Tok)) (a' p : Nat), RdIs wx R l a' → Tabs wx → p < t.text.size → l.length + 5 ≤ 2932031007402 → a' ≤ lim → Calls Tryd.prog 62 #[.pointer (some ⟨R, 0, none⟩), tokV t, .int .i64 p, .int .i32 ((Utf8.decode t.text p).1 : Nat)] wx fun e w' => e = .returned (.tuple #[]) ∧ RdIs w' R (l ++ toldBy t (numsOf a' ((t.bytes.drop p).take (Utf8.decode t.text p).2))) (endA a' ((t.bytes.drop p).take (Utf8.decode t.text p).2)) ∧ Kp R wx w') := fun wx l a' p hx hTx hp hl ha' => by
    obtain ⟨k, hk, k1, k4, kn, hN, hA⟩ := chunk t.text p hp a'
    have := take_any wx R l a' t p (Utf8.decode t.text p).1 k hx hR hTx (by omega) (by omega) (by
      unfold Lib.decodeGo
      rw [if_neg (by rw [Lib.tail_size]; omega), Lib.tail_decode, Nat.add_zero]
      exact hk) k4 hl ha' (decode_le _ _)
    rw [hN, hA] at this
    rw [hk]
    exact this
  have B1 := box_new w t
  have H1 : RdIs (w.alloc (.cells #[.string t.text, .int .i64 t.off, .int .i64 t.line, .int .i64 t.col] 41)) R cs a := h.alloc _
  have K1 : Kp R w (w.alloc (.cells #[.string t.text, .int .i64 t.off, .int .i64 t.line, .int .i64 t.col] 41)) := (Kp.refl R w).alloc (by omega) _
  have HT : Hid (Tabs w) := hT
  unfold tokV at TK ⊢
  go_enter Tryd.func52, Tryd.ntmps52
  go_wp2_with fail
  obtain ⟨W1, hW1⟩ : ∃ W1, W1 = w.alloc (.cells #[.string t.text, .int .i64 t.off, .int .i64 t.line, .int .i64 t.col] 41) := ⟨_, rfl⟩
  have hs1 : W1.heap.size = w.heap.size + 1 := by rw [hW1]; simp
  rw [← hW1] at B1 H1 K1
  have I0 : (W1.iter t.text 0).heap[w.heap.size + 1]? = some (.stringIter t.text 0) := by
    have := World.iter_heap W1 t.text 0
    rwa [hs1] at this
  have B2 : BoxAt (W1.iter t.text 0) w.heap.size t := (Below.heap_alloc W1 _ _ (by omega)).trans B1
  have H2 : RdIs (W1.iter t.text 0) R cs a := H1.alloc _
  have K2 : Kp R w (W1.iter t.text 0) := K1.alloc (by omega) _
  rw [← hW1]
  obtain ⟨b, hb⟩ : ∃ b, b = w.heap.size := ⟨_, rfl⟩
  have hbR : b ≠ R := by omega
  have hb1R : b + 1 ≠ R := by omega
  have hRb : R ≤ b + 1 := by omega
  have HBb : Hid (w.heap.size = b) := hb.symm
  rw [← hb] at I0 B2 ⊢
  obtain ⟨W2, hW2⟩ : ∃ W2, W2 = W1.iter t.text 0 := ⟨_, rfl⟩
  rw [← hW2] at I0 B2 H2 K2 ⊢
  have HI : Hid _ := I0
  have HB : Hid (BoxAt W2 b t) := B2
  have HH : Hid (RdIs W2 R cs a) := H2
  have HK : Hid (Kp R w W2) := K2
  clear I0 B2 H2 K2 B1 H1 K1 hs1 hW1 hW2 hb h hT
  go_loopw [] (fun wr => ∃ pos : Nat, pos ≤ t.text.size ∧ Hid (RdIs wr R (cs ++ toldBy t (numsOf a (t.bytes.take pos))) (endA a (t.bytes.take pos))) ∧ Hid (Kp R w wr) ∧ Hid (wr.heap[b + 1]? = some (.stringIter t.text pos)) ∧ Hid (BoxAt wr b t)) (fun wr => t.text.size - wr.iterPos (b + 1))
  case atStart => exact ⟨0, Nat.zero_le _, by show RdIs _ _ _ _; simpa [numsOf, endA, toldBy] using HH.out, HK.out, HI.out, HB.out⟩
  case round =>
    clear HI HB HH HK
    obtain ⟨pos, hpos, hR2, hK2, hI2, hB2⟩ := hrel
    by_cases hp : pos < t.text.size
    · have hnx : ∀ ty, (Instr.next (.pointer (some ⟨b + 1, 0, none⟩)) true ty).run Tryd.prog wr = _ := fun ty => Lib.run_next_any_at wr (b + 1) t.text pos ty hI2.out hp
      obtain ⟨k, hk, k1, k4, kn, _, _⟩ := chunk t.text pos hp 0
      rw [hk] at hnx
      have hR3 : RdIs (wr.iterAt (b + 1) t.text (pos + k)) R _ _ := hR2.out.iterAt hI2.out hb1R
      have hB3 : BoxAt (wr.iterAt (b + 1) t.text (pos + k)) b t := hB2.out.iterAt hI2.out
      have hI3 := Lib.iterAt_heap wr (b + 1) t.text pos (pos + k) hI2.out
      have hK3 : Kp R w (wr.iterAt (b + 1) t.text (pos + k)) := hK2.out.iterAt (by have := HBb.out; omega) hRb
      have hT3 : Tabs (wr.iterAt (b + 1) t.text (pos + k)) := HT.out.under hR hK3.below
      have hln : (cs ++ toldBy t (numsOf a (t.bytes.take pos))).length + 5 ≤ 2932031007402 := by
        rw [List.length_append, toldBy_len]
        have h1 := numsOf_len (t.bytes.take pos) a
        have h2 : (t.bytes.take pos).length ≤ t.text.size := by rw [List.length_take, Tok.size]; omega
        have h3 : (if 0 < a then 1 else 0) ≤ 1 := by split <;> omega
        omega
      have TK1 := TK.out _ _ _ pos hR3 hT3 hp hln (endA_le _ a (by unfold lim; omega))
      rw [hk] at TK1
      have HTK : Hid _ := TK1
      have HI3 : Hid ((wr.iterAt (b + 1) t.text (pos + k)).heap[b + 1]? = some (.stringIter t.text (pos + k))) := hI3
      have HB3 : Hid (BoxAt (wr.iterAt (b + 1) t.text (pos + k)) b t) := hB3
      have HK3 : Hid (Kp R w (wr.iterAt (b + 1) t.text (pos + k))) := hK3
      obtain ⟨c0, c1, c2, c3⟩ := hB3.cells
      have HIP : Hid (wr.iterPos (b + 1) = pos) := by show _ = _; simp [World.iterPos, hI2.out]
      clear hR3 hI3 hK3 hT3 hln TK1 hB3 hk
      generalize wr.iterAt (b + 1) t.text (pos + k) = W3 at *
      go_wp2_with fail
      refine Calls.mono HTK.out ?_
      rintro e w4 ⟨rfl, h4, k4'⟩
      have H4 : Hid (RdIs w4 R (cs ++ toldBy t (numsOf a (t.bytes.take (pos + k)))) (endA a (t.bytes.take (pos + k)))) := by
        show RdIs _ _ _ _
        rw [take_drop_add, numsOf_append, endA_append, toldBy_append, ← List.append_assoc]
        exact h4
      have I4 : Hid (w4.heap[b + 1]? = some (.stringIter t.text (pos + k))) := k4'.others (b + 1) _ HI3.out (fun e => hb1R (by cases e; rfl)) (fun c fz e => by cases e)
      have B4 : Hid (BoxAt w4 b t) := HB3.out.kp k4' hbR
      have K4 : Hid (Kp R w w4) := HK3.out.trans k4'
      clear h4 k4' HTK
      go_wp2
      refine ⟨⟨pos + k, kn, H4.out, K4.out, I4.out, B4.out⟩, ?_⟩
      have e4 : w4.iterPos (b + 1) = pos + k := by simp [World.iterPos, I4.out]
      have e5 := HIP.out
      rw [e4, e5]
      omega
    · have hnx : ∀ ty, (Instr.next (.pointer (some ⟨b + 1, 0, none⟩)) true ty).run Tryd.prog wr = _ := fun ty => Lib.run_next_end_at wr (b + 1) t.text pos ty hI2.out hp
      have hall : Hid (t.bytes.take pos = t.bytes) := by show _ = _; rw [List.take_of_length_le (by rw [Tok.size]; omega)]
      go_wp2
      go_end0
      have h5 := hR2.out
      rw [hall.out] at h5
      exact ⟨rfl, h5, hK2.out⟩
end Go.Proofs.YtffchjigpppoaaaDoor
