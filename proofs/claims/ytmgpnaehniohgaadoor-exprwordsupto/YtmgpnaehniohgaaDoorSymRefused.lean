/- Calls that a table refuses: nothing changes. -/
import Derived.Test.YtmgpnaehniohgaaDoorSymOpen
namespace Go.Proofs.YtmgpnaehniohgaaDoor
open Go.RowKit

set_option maxHeartbeats 1000000 in
theorem close_none (w : World) (bs : List Nat) (B k : Nat) (T : Tab) (h : TabAt w bs B k T) (hd : T.scopes.length = 0) : Calls Tryd.prog 21 #[.pointer (some ⟨B, 0, none⟩)] w fun e w' => e = .returned (.int .i64 23) ∧ w' = w := by
  obtain ⟨vs, vc, vl, mk, ma, mt, vars, h, _⟩ := h
  obtain ⟨a, cap, rfl⟩ := own_slice h.scopes
  obtain ⟨_, _, _, c3, _⟩ := cells6 h.block
  rw [hd] at c3
  clear h
  go_enter Tryd.func21, Tryd.ntmps21
  go_wp2
  go_ret
  exact ⟨rfl, rfl⟩

set_option maxHeartbeats 1000000 in
theorem const_scope (w : World) (bs : List Nat) (B k : Nat) (T : Tab) (s : ByteArray) (h : TabAt w bs B k T) (hd : 0 < T.scopes.length) : Calls Tryd.prog 9 #[.pointer (some ⟨B, 0, none⟩), .string s] w fun e w' => e = .returned (.tuple #[.int .i64 0, .int .i64 23]) ∧ w' = w := by
  obtain ⟨vs, vc, vl, mk, ma, mt, vars, h, _⟩ := h
  obtain ⟨a, cap, rfl⟩ := own_slice h.scopes
  obtain ⟨_, _, _, c3, _⟩ := cells6 h.block
  have hd' : (0 : Int) < (T.scopes.length : Int) := by omega
  clear h
  go_enter Tryd.func9, Tryd.ntmps9
  go_wp2
  exact bodyPost_ret (v := .tuple #[.int .i64 0, .int .i64 23]) (by simp [results, Tryd.results9, go_sem]) rfl ⟨rfl, rfl⟩
set_option maxHeartbeats 1000000 in
theorem const_bad (w : World) (bs : List Nat) (B k : Nat) (T : Tab) (s : ByteArray) (hs : s.size ≤ maxLen) (hKB : KB w) (hn : madeB s 3 = false) (h : TabAt w bs B k T) (hd : T.scopes.length = 0) :
    Calls Tryd.prog 9 #[.pointer (some ⟨B, 0, none⟩), .string s] w fun e w' => e = .returned (.tuple #[.int .i64 0, .int .i64 21]) ∧ w' = w := by
  have A := symbol_any s w hs hKB
  rw [hn] at A
  replace A := show Hid _ from A
  obtain ⟨vs, vc, vl, mk, ma, mt, vars, h, _⟩ := h
  obtain ⟨a, cap, rfl⟩ := own_slice h.scopes
  obtain ⟨_, _, _, c3, _⟩ := cells6 h.block
  rw [hd] at c3
  clear h
  go_enter Tryd.func9, Tryd.ntmps9
  go_wp2_with fail
  refine Calls.mono A.out ?_
  rintro e w' ⟨rfl, rfl⟩
  go_wp2
  exact bodyPost_ret (v := .tuple #[.int .i64 0, .int .i64 21]) (by simp [results, Tryd.results9, go_sem]) rfl ⟨rfl, rfl⟩
set_option maxHeartbeats 1000000 in
theorem const_twice (w : World) (bs : List Nat) (B k : Nat) (T : Tab) (s : ByteArray) (hs : s.size ≤ maxLen) (hKB : KB w) (hn : madeB s 3 = true) (h : TabAt w bs B k T) (hd : T.scopes.length = 0) (ho : (numOf T.syms s).isSome = true) :
    Calls Tryd.prog 9 #[.pointer (some ⟨B, 0, none⟩), .string s] w fun e w' => e = .returned (.tuple #[.int .i64 0, .int .i64 20]) ∧ w' = w := by
  have A := symbol_any s w hs hKB
  rw [hn] at A
  replace A := show Hid _ from A
  obtain ⟨vs, vc, vl, mk, ma, mt, vars, h, _⟩ := h
  obtain ⟨a, cap, rfl⟩ := own_slice h.scopes
  obtain ⟨_, c1, _, c3, _⟩ := cells6 h.block
  obtain ⟨n, _, hm⟩ := h.known
  have hk := hm.look s hs
  rw [ho] at hk
  generalize (numOf T.syms s).getD 0 = r at hk
  rw [hd] at c3
  clear h hm ho
  go_enter Tryd.func9, Tryd.ntmps9
  go_wp2_with fail
  refine Calls.mono A.out ?_
  rintro e w' ⟨rfl, rfl⟩
  go_wp2
  exact bodyPost_ret (v := .tuple #[.int .i64 0, .int .i64 20]) (by simp [results, Tryd.results9, go_sem]) rfl ⟨rfl, rfl⟩
set_option maxHeartbeats 1000000 in
theorem var_bad (w : World) (B : Nat) (s : ByteArray) (hs : s.size ≤ maxLen) (hKB : KB w) (hn : madeB s 3 = false) :
    Calls Tryd.prog 19 #[.pointer (some ⟨B, 0, none⟩), .string s] w fun e w' => e = .returned (.tuple #[.int .i64 0, .int .i64 21]) ∧ w' = w := by
  have A := symbol_any s w hs hKB
  rw [hn] at A
  replace A := show Hid _ from A
  go_enter Tryd.func19, Tryd.ntmps19
  go_wp2_with fail
  refine Calls.mono A.out ?_
  rintro e w' ⟨rfl, rfl⟩
  go_wp2
  exact bodyPost_ret (v := .tuple #[.int .i64 0, .int .i64 21]) (by simp [results, Tryd.results19, go_sem]) rfl ⟨rfl, rfl⟩
set_option maxHeartbeats 1000000 in
theorem var_twice (w : World) (bs : List Nat) (B k : Nat) (T : Tab) (s : ByteArray) (hs : s.size ≤ maxLen) (hKB : KB w) (hn : madeB s 3 = true) (h : TabAt w bs B k T) (ho : (actOf T s).isSome = true) :
    Calls Tryd.prog 19 #[.pointer (some ⟨B, 0, none⟩), .string s] w fun e w' => e = .returned (.tuple #[.int .i64 0, .int .i64 20]) ∧ w' = w := by
  have A := symbol_any s w hs hKB
  rw [hn] at A
  replace A := show Hid _ from A
  obtain ⟨vs, vc, vl, mk, ma, mt, vars, h, _⟩ := h
  obtain ⟨_, _, c2, _⟩ := cells6 h.block
  obtain ⟨n, _, hm⟩ := h.active
  have hk := hm.look s hs
  rw [ho] at hk
  generalize (actOf T s).getD 0 = r at hk
  clear h hm ho
  go_enter Tryd.func19, Tryd.ntmps19
  go_wp2_with fail
  refine Calls.mono A.out ?_
  rintro e w' ⟨rfl, rfl⟩
  go_wp2
  exact bodyPost_ret (v := .tuple #[.int .i64 0, .int .i64 20]) (by simp [results, Tryd.results19, go_sem]) rfl ⟨rfl, rfl⟩
end Go.Proofs.YtmgpnaehniohgaaDoor
