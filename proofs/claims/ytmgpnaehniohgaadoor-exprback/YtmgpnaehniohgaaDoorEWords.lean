/- words: a printed expression cut at its blanks. -/
import Derived.Test.YtmgpnaehniohgaaDoorEPrint
namespace Go.Proofs.YtmgpnaehniohgaaDoor.E
open Go.RowKit Go.Deep

theorem infoS : (Tryd.prog.info? 9).map (fun i => (i.zero, i.size, i.bytes)) = some (some (.string ⟨#[]⟩), 1, 16) := by kernel_rfl
/-- What words holds behind i rounds: where the word under way begins, and the words. -/
def cutAt (s : ByteArray) : Nat → Nat × List ByteArray
  | 0 => (0, [])
  | i + 1 => if i = s.size ∨ s.data[i]? = some 32 then (i + 1, (cutAt s i).2 ++ [s.extract (cutAt s i).1 i]) else cutAt s i

theorem byte_is {s : ByteArray} {j : Nat} (h : j < s.size) (hc : ((s[j].toNat : Nat) : Int) = 32) : s.data[j]? = some 32 := by
  have h2 : j < s.data.size := h
  rw [Array.getElem?_eq_getElem h2]
  congr 1
  apply UInt8.toNat_inj.1
  have : s[j].toNat = 32 := by omega
  exact this
theorem byte_not {s : ByteArray} {j : Nat} (h : j < s.size) (hc : ¬ ((s[j].toNat : Nat) : Int) = 32) : ¬ s.data[j]? = some 32 := by
  have h2 : j < s.data.size := h
  rw [Array.getElem?_eq_getElem h2]
  intro e
  apply hc
  have : s[j] = 32 := Option.some.inj e
  rw [this]
  rfl

set_option maxRecDepth 100000 in
set_option maxHeartbeats 4000000 in
theorem words_any (w : World) (s : ByteArray) (hs : s.size ≤ 100000) (h0 : s ≠ ⟨#[]⟩) :
    Calls Tryd.prog 24 #[.string s] w fun e w' => Below w.heap.size w w' ∧ ∃ (v : Value), e = .returned v ∧ w'.ownsRow w.heap.size 9 1 v (cutAt s (s.size + 1)).2.length ((cutAt s (s.size + 1)).2.map Value.string) := by
  obtain ⟨i0, hi0, hz0, hz1, hz3⟩ := info_parts infoS
  have hne : (s.toList == (ByteArray.mk #[]).toList) = false := by rw [same_bytes, decide_eq_false h0]
  have hne2 : (s.toList == []) = false := by rw [← hne, Lib.toList_data (ByteArray.mk #[])]
  have hne3 : s.toList.isEmpty = false := by cases h : s.toList with | nil => rw [h] at hne2; cases hne2 | cons a l => rfl
  have hne4 : s.toList ≠ [] := fun h => by rw [h] at hne2; cases hne2
  clear h0
  go_enter Tryd.func24, Tryd.ntmps24
  go_wp2_with fail
  go_loopw [3, 4, 5] (fun v fv i wx => ∃ (j f q : Nat) (ao : Option Addr) (cap : Nat) (ws : List ByteArray), j ≤ s.size + 1 ∧ f ≤ j ∧ q ≤ j ∧ i = .int .i64 j ∧ fv = .int .i64 f ∧ v = .slice ao q cap ∧ Hid (cutAt s j = (f, ws)) ∧ Hid (ws.length = q) ∧ Hid (wx.ownsRow w.heap.size 9 1 (.slice ao q cap) q (ws.map Value.string)) ∧ Hid (Below w.heap.size w wx)) (fun _ _ i _ => s.size + 1 - (intOf i).toNat)
  case atStart => exact ⟨0, 0, 0, none, 0, [], Nat.zero_le _, Nat.le_refl _, Nat.le_refl _, rfl, rfl, rfl, rfl, rfl, World.ownsRow_nil _ _ _ _, Below.refl _ _⟩
  case round =>
    obtain ⟨j, f, q, ao, cap, ws, hj, hf, hq, rfl, rfl, rfl, HC, HL, HO, hb⟩ := hrel
    have hs0 : w.heap.size ≤ wr.heap.size := hb.out.size
    by_cases hlt : j < s.size + 1
    · have n1 : (j : Int) ≤ (s.size : Int) := by omega
      by_cases hjz : j = s.size
      · have n2 : ((j : Int) == (s.size : Int)) = true := by rw [beq_iff_eq]; omega
        have HC2 : Hid (cutAt s (j + 1) = (j + 1, ws ++ [s.extract f j])) := by
          show _ = _
          rw [cutAt, HC.out, if_pos (.inl hjz)]
        clear HC hjz
        go_wp2_with (at_builtin; refine wpList_append_more (w := wr.alloc (.cells #[.string (s.extract f j)] 9)) rfl _ _ _ rfl w.heap.size 9 i0 _ 1 16 Tryd.underlying43 hi0 hz0 hz1 hz3 rfl (by omega) _ q (ws.map Value.string) (by rfl) (by exact HO.out.alloc _) (some ⟨wr.heap.size, 0, none⟩) 1 1 [.string (s.extract f j)] (by rfl) (by rfl) (by exact (row_new wr [.string (s.extract f j)] 9 _ rfl).news) (by simp [Value.oneCell']) (by unfold maxLen; omega) (by omega) (by simp; omega) ?_; intro a2 c2 w2 ho hb2; have HO3 : Hid (w2.ownsRow w.heap.size 9 1 (.slice a2 (q + 1) c2) (q + 1) (ws.map Value.string ++ [.string (s.extract f j)])) := ho; have HB3 : Hid (Below w.heap.size w w2) := hb.out.trans (((Below.refl _ _).alloc hs0 _).trans hb2); clear ho hb2)
        go_wp2
        refine ⟨⟨j + 1, j + 1, q + 1, _, _, ws ++ [s.extract f j], by omega, Nat.le_refl _, by omega, by go_num, by go_num, rfl, HC2.out, by show _ = _; simp [HL.out], ?_, HB3.out⟩, by simp [intOf]; omega⟩
        show World.ownsRow _ _ _ _ _ _ _
        rw [List.map_append]
        exact HO3.out
      · have n2 : ((j : Int) == (s.size : Int)) = false := by rw [beq_eq_false_iff_ne]; omega
        have hjs : j < s.size := by omega
        by_cases hc : ((s[j].toNat : Nat) : Int) = 32
        · have n3 : (((s[j].toNat : Nat) : Int) == 32) = true := by rw [beq_iff_eq]; exact hc
          have HC2 : Hid (cutAt s (j + 1) = (j + 1, ws ++ [s.extract f j])) := by
            show _ = _
            rw [cutAt, HC.out, if_pos (.inr (byte_is hjs hc))]
          clear HC hlt hc
          go_wp2_with (at_builtin; refine wpList_append_more (w := wr.alloc (.cells #[.string (s.extract f j)] 9)) rfl _ _ _ rfl w.heap.size 9 i0 _ 1 16 Tryd.underlying43 hi0 hz0 hz1 hz3 rfl (by omega) _ q (ws.map Value.string) (by rfl) (by exact HO.out.alloc _) (some ⟨wr.heap.size, 0, none⟩) 1 1 [.string (s.extract f j)] (by rfl) (by rfl) (by exact (row_new wr [.string (s.extract f j)] 9 _ rfl).news) (by simp [Value.oneCell']) (by unfold maxLen; omega) (by omega) (by simp; omega) ?_; intro a2 c2 w2 ho hb2; have HO3 : Hid (w2.ownsRow w.heap.size 9 1 (.slice a2 (q + 1) c2) (q + 1) (ws.map Value.string ++ [.string (s.extract f j)])) := ho; have HB3 : Hid (Below w.heap.size w w2) := hb.out.trans (((Below.refl _ _).alloc hs0 _).trans hb2); clear ho hb2)
          go_wp2
          refine ⟨⟨j + 1, j + 1, q + 1, _, _, ws ++ [s.extract f j], by omega, Nat.le_refl _, by omega, by go_num, by go_num, rfl, HC2.out, by show _ = _; simp [HL.out], ?_, HB3.out⟩, by simp [intOf]; omega⟩
          show World.ownsRow _ _ _ _ _ _ _
          rw [List.map_append]
          exact HO3.out
        · have n3 : (((s[j].toNat : Nat) : Int) == 32) = false := by rw [beq_eq_false_iff_ne]; exact hc
          have HC2 : Hid (cutAt s (j + 1) = (f, ws)) := by
            show _ = _
            rw [cutAt, HC.out, if_neg (fun h => h.elim hjz (byte_not hjs hc))]
          clear HC hlt hc
          go_wp2
          exact ⟨⟨j + 1, f, q, _, _, ws, by omega, by omega, by omega, by go_num, rfl, rfl, HC2.out, HL.out, HO.out, hb.out⟩, by simp [intOf]; omega⟩
    · have n1 : ¬ (j : Int) ≤ (s.size : Int) := by omega
      have hjn : j = s.size + 1 := by omega
      have HR : Hid ((cutAt s (s.size + 1)).2 = ws) := by show _ = _; rw [← hjn, HC.out]
      clear hjn
      go_wp2
      go_ret
      refine ⟨hb.out, _, rfl, ?_⟩
      rw [HR.out, HL.out]
      exact HO.out
end Go.Proofs.YtmgpnaehniohgaaDoor.E
