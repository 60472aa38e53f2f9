/- What the calls on faults and places within the iterator answer. -/
import Derived.Test.YtekbddpdcjbinaaDoorTake
namespace Go.Proofs.YtekbddpdcjbinaaDoor
open Go.RowKit

/-- A fault lies in block B. -/
def FaultAt (W : World) (B : Nat) (t : Tok) (code : Int) : Prop := W.heap[B]? = some (.cells #[.int .i64 t.off, .int .i64 t.line, .int .i64 t.col, .string t.text, .int .i64 code] 33 (0, 0))

theorem heap_new (W : World) (O : Obj) : (W.alloc O).heap[W.heap.size]? = some O := by
  show (W.heap.push O)[W.heap.size]? = _
  simp

set_option maxRecDepth 100000 in
set_option maxHeartbeats 2000000 in
theorem faultAt_any (t : Tok) (code : Int) (w : World) (ht : t.text.size ≤ 65536) :
    Calls Tryd.prog 27 #[tokV t, .int .i64 code] w fun e w' => ∃ B, e = .returned (.pointer (some ⟨B, 0, none⟩)) ∧ w.heap.size ≤ B ∧ FaultAt w' B t code ∧ Below w.heap.size w w' := by
  have OW := fun wx => ownWord_any t wx (by omega)
  replace OW := show Hid _ from OW
  unfold tokV at OW ⊢
  go_enter Tryd.func27, Tryd.ntmps27
  go_wp2_with fail
  refine (OW.out _).mono ?_
  rintro e w1 ⟨rfl, hb⟩
  have hz : w.heap.size < w1.heap.size := by have := hb.size; simp at this; omega
  go_wp2
  go_ret
  refine ⟨w1.heap.size + 1, rfl, by omega, ?_, ?_⟩
  · have := heap_new (w1.alloc (.cells #[.string t.text, .int .i64 t.off, .int .i64 t.line, .int .i64 t.col] 37)) (.cells #[.int .i64 t.off, .int .i64 t.line, .int .i64 t.col, .string t.text, .int .i64 code] 33)
    rw [World.size_alloc] at this
    exact this
  · exact ((((Below.refl _ _).alloc (Nat.le_refl _) _).trans (hb.mono (by simp))).alloc (by omega) _).alloc (by simp; omega) _

/-- The error's number for the byte number k (0: none). -/
def faultF (s : ByteArray) (k : Nat) : Int := if k = 65536 then 13 else if kindF ((s.data.toList.getD k 0).toNat) = 0 then 10 else 0
theorem getD_byte (s : ByteArray) (k : Nat) (h : k < s.size) : s.data.toList.getD k 0 = s[k] := by
  rw [List.getD_eq_getElem?_getD, List.getElem?_eq_getElem (by simpa using h)]; rfl

set_option maxRecDepth 100000 in
set_option maxHeartbeats 1000000 in
theorem byteFault_any (s : ByteArray) (k : Nat) (w : World) (hk : k < s.size) (_hs : s.size ≤ 281474976710656) (hKB : KB w) :
    Calls Tryd.prog 36 #[.string s, .int .i64 k] w fun e w' => e = .returned (.int .i64 (faultF s k)) ∧ w' = w := by
  by_cases h1 : k = 65536
  · have hf : Hid (faultF s k = 13) := by show _ = _; unfold faultF; exact if_pos h1
    have h1' : ((k : Int) == 65536) = true := by simp; omega
    clear h1
    rw [hf.out]
    go_enter Tryd.func36, Tryd.ntmps36
    go_wp2
    go_ret
    exact ⟨rfl, rfl⟩
  · have h1' : ((k : Int) == 65536) = false := by simp; omega
    have hf : Hid (faultF s k = if kindF s[k].toNat = 0 then 10 else 0) := by show _ = _; unfold faultF; rw [if_neg h1, getD_byte s k hk]
    clear h1
    go_enter Tryd.func36, Tryd.ntmps36
    go_wp2_with (go_at_call 37; refine (kindOf_any _ _ (Int.natCast_nonneg _) (byte_lt _) hKB).mono ?_; rintro e w' ⟨rfl, rfl⟩)
    · have h2 : (kindF s[k].toNat == 0) = true := by assumption
      go_ret
      exact ⟨ret_int (by rw [hf.out, if_pos (by simpa using h2)]), rfl⟩
    · have h2 : (kindF s[k].toNat == 0) = false := by assumption
      go_ret
      exact ⟨ret_int (by rw [hf.out, if_neg (by simpa using h2)]), rfl⟩

set_option maxRecDepth 100000 in
set_option maxHeartbeats 1000000 in
theorem placeFn_any (off line start : Int) (b1 b2 : Nat) (w : World) (o1 : 0 ≤ off) (o2 : off ≤ 281474976710656) (s1 : 0 ≤ start) (s2 : start ≤ 281474976710656) (h1 : w.cell? ⟨b1, 0, none⟩ = some (.int .i64 line)) (h2 : w.cell? ⟨b2, 0, none⟩ = some (.int .i64 start)) :
    Calls Tryd.prog 35 #[.int .i64 off, .pointer (some ⟨b1, 0, none⟩), .pointer (some ⟨b2, 0, none⟩)] w fun e w' => e = .returned (.agg #[.int .i64 off, .int .i64 line, .int .i64 (off - start + 1)]) ∧ w' = w.alloc (.cells #[.int .i64 off, .int .i64 line, .int .i64 (off - start + 1)] 30) := by
  replace h1 := later1 h1
  replace h2 := later1 h2
  go_enter Tryd.func35, Tryd.ntmps35
  go_wp2
  exact bodyPost_ret (v := .agg #[.int .i64 off, .int .i64 line, .int .i64 (off - start + 1)]) (by simp [results, Tryd.results35, go_sem]) rfl ⟨rfl, rfl⟩
end Go.Proofs.YtekbddpdcjbinaaDoor
