/- Calls that a table refuses: nothing changes. -/
import Derived.Test.YtdnkgjjboonmnabDoorSymLabels
namespace Go.Proofs.YtdnkgjjboonmnabDoor
open Go.RowKit

set_option maxHeartbeats 1000000 in
theorem label_bad (w : World) (B : Nat) (s : ByteArray) (hs : s.size ≤ maxLen) (hKB : KB w) (hn : madeB s 4 = false) :
    Calls Tryd.prog 30 #[.pointer (some ⟨B, 0, none⟩), .string s] w fun e w' => e = .returned (.int .i64 21) ∧ w' = w := by
  have A := name_any s w hs hKB
  rw [hn] at A
  replace A := show Hid _ from A
  go_enter Tryd.func30, Tryd.ntmps30
  go_wp2_with fail
  refine Calls.mono A.out ?_
  rintro e w' ⟨rfl, rfl⟩
  go_wp2
  go_ret
  exact ⟨rfl, rfl⟩
set_option maxHeartbeats 1000000 in
theorem label_twice (w : World) (bs : List Nat) (B k : Nat) (T : Tab) (s : ByteArray) (hs : s.size ≤ maxLen) (hKB : KB w) (hn : madeB s 4 = true) (h : TabAt w bs B k T) (hl : (labOf T.labels s).isSome = true) :
    Calls Tryd.prog 30 #[.pointer (some ⟨B, 0, none⟩), .string s] w fun e w' => e = .returned (.int .i64 20) ∧ w' = w := by
  have A := name_any s w hs hKB
  rw [hn] at A
  replace A := show Hid _ from A
  obtain ⟨vs, vc, vl, mk, ma, mt, vars, h, _⟩ := h
  obtain ⟨_, _, _, _, _, c5⟩ := cells6 h.block
  obtain ⟨n, _, hm⟩ := h.taken
  have hk := hm.look s hs
  rw [hl] at hk
  generalize (labOf T.labels s).getD 0 = r at hk
  clear h hm hl
  go_enter Tryd.func30, Tryd.ntmps30
  go_wp2_with fail
  refine Calls.mono A.out ?_
  rintro e w' ⟨rfl, rfl⟩
  go_wp2
  go_ret
  exact ⟨rfl, rfl⟩
set_option maxHeartbeats 1000000 in
theorem label_many (w : World) (bs : List Nat) (B k : Nat) (T : Tab) (s : ByteArray) (hs : s.size ≤ maxLen) (hKB : KB w) (hn : madeB s 4 = true) (h : TabAt w bs B k T) (hl : (labOf T.labels s).isSome = false) (h4 : 1024 ≤ T.labels.length) :
    Calls Tryd.prog 30 #[.pointer (some ⟨B, 0, none⟩), .string s] w fun e w' => e = .returned (.int .i64 22) ∧ w' = w := by
  have A := name_any s w hs hKB
  rw [hn] at A
  replace A := show Hid _ from A
  obtain ⟨vs, vc, vl, mk, ma, mt, vars, h, _⟩ := h
  obtain ⟨_, _, _, _, c4, c5⟩ := cells6 h.block
  obtain ⟨a, cap, rfl⟩ := own_slice h.labels
  obtain ⟨n, _, hm⟩ := h.taken
  have hk := hm.look s hs
  rw [hl] at hk
  generalize (labOf T.labels s).getD 0 = r at hk
  have h4' : (1024 : Int) ≤ (T.labels.length : Int) := by omega
  clear h hm hl
  go_enter Tryd.func30, Tryd.ntmps30
  go_wp2_with fail
  refine Calls.mono A.out ?_
  rintro e w' ⟨rfl, rfl⟩
  go_wp2
  go_ret
  exact ⟨rfl, rfl⟩
set_option maxHeartbeats 1000000 in
theorem close_none (w : World) (bs : List Nat) (B k : Nat) (T : Tab) (h : TabAt w bs B k T) (hd : T.scopes.length = 0) : Calls Tryd.prog 22 #[.pointer (some ⟨B, 0, none⟩)] w fun e w' => e = .returned (.int .i64 23) ∧ w' = w := by
  obtain ⟨vs, vc, vl, mk, ma, mt, vars, h, _⟩ := h
  obtain ⟨a, cap, rfl⟩ := own_slice h.scopes
  obtain ⟨_, _, _, c3, _⟩ := cells6 h.block
  rw [hd] at c3
  clear h
  go_enter Tryd.func22, Tryd.ntmps22
  go_wp2
  go_ret
  exact ⟨rfl, rfl⟩

set_option maxHeartbeats 1000000 in
theorem const_scope (w : World) (bs : List Nat) (B k : Nat) (T : Tab) (s : ByteArray) (h : TabAt w bs B k T) (hd : 0 < T.scopes.length) : Calls Tryd.prog 24 #[.pointer (some ⟨B, 0, none⟩), .string s] w fun e w' => e = .returned (.tuple #[.int .i64 0, .int .i64 23]) ∧ w' = w := by
  obtain ⟨vs, vc, vl, mk, ma, mt, vars, h, _⟩ := h
  obtain ⟨a, cap, rfl⟩ := own_slice h.scopes
  obtain ⟨_, _, _, c3, _⟩ := cells6 h.block
  have hd' : (0 : Int) < (T.scopes.length : Int) := by omega
  clear h
  go_enter Tryd.func24, Tryd.ntmps24
  go_wp2
  exact bodyPost_ret (v := .tuple #[.int .i64 0, .int .i64 23]) (by simp [results, Tryd.results24, go_sem]) rfl ⟨rfl, rfl⟩
set_option maxHeartbeats 1000000 in
theorem const_bad (w : World) (bs : List Nat) (B k : Nat) (T : Tab) (s : ByteArray) (hs : s.size ≤ maxLen) (hKB : KB w) (hn : madeB s 3 = false) (h : TabAt w bs B k T) (hd : T.scopes.length = 0) :
    Calls Tryd.prog 24 #[.pointer (some ⟨B, 0, none⟩), .string s] w fun e w' => e = .returned (.tuple #[.int .i64 0, .int .i64 21]) ∧ w' = w := by
  have A := symbol_any s w hs hKB
  rw [hn] at A
  replace A := show Hid _ from A
  obtain ⟨vs, vc, vl, mk, ma, mt, vars, h, _⟩ := h
  obtain ⟨a, cap, rfl⟩ := own_slice h.scopes
  obtain ⟨_, _, _, c3, _⟩ := cells6 h.block
  rw [hd] at c3
  clear h
  go_enter Tryd.func24, Tryd.ntmps24
  go_wp2_with fail
  refine Calls.mono A.out ?_
  rintro e w' ⟨rfl, rfl⟩
  go_wp2
  exact bodyPost_ret (v := .tuple #[.int .i64 0, .int .i64 21]) (by simp [results, Tryd.results24, go_sem]) rfl ⟨rfl, rfl⟩
set_option maxHeartbeats 1000000 in
theorem const_twice (w : World) (bs : List Nat) (B k : Nat) (T : Tab) (s : ByteArray) (hs : s.size ≤ maxLen) (hKB : KB w) (hn : madeB s 3 = true) (h : TabAt w bs B k T) (hd : T.scopes.length = 0) (ho : (numOf T.syms s).isSome = true) :
    Calls Tryd.prog 24 #[.pointer (some ⟨B, 0, none⟩), .string s] w fun e w' => e = .returned (.tuple #[.int .i64 0, .int .i64 20]) ∧ w' = w := by
  have A := symbol_any s w hs hKB
  rw [hn] at A
  replace A := show Hid _ from A
  obtain ⟨vs, vc, vl, mk, ma, mt, vars, h, _⟩ := h
  obtain ⟨a, cap, rfl⟩ := own_slice h.scopes
  obtain ⟨_, c1, _, c3, _⟩ := cells6 h.block
  obtain ⟨n, _, hm⟩ := h.known
  have hk := hm.look s hs
  rw [ho] at hk
  generalize (numOf T.syms s).getD 0 = r at hk
  rw [hd] at c3
  clear h hm ho
  go_enter Tryd.func24, Tryd.ntmps24
  go_wp2_with fail
  refine Calls.mono A.out ?_
  rintro e w' ⟨rfl, rfl⟩
  go_wp2
  exact bodyPost_ret (v := .tuple #[.int .i64 0, .int .i64 20]) (by simp [results, Tryd.results24, go_sem]) rfl ⟨rfl, rfl⟩
set_option maxHeartbeats 1000000 in
theorem var_bad (w : World) (B : Nat) (s : ByteArray) (hs : s.size ≤ maxLen) (hKB : KB w) (hn : madeB s 3 = false) :
    Calls Tryd.prog 26 #[.pointer (some ⟨B, 0, none⟩), .string s] w fun e w' => e = .returned (.tuple #[.int .i64 0, .int .i64 21]) ∧ w' = w := by
  have A := symbol_any s w hs hKB
  rw [hn] at A
  replace A := show Hid _ from A
  go_enter Tryd.func26, Tryd.ntmps26
  go_wp2_with fail
  refine Calls.mono A.out ?_
  rintro e w' ⟨rfl, rfl⟩
  go_wp2
  exact bodyPost_ret (v := .tuple #[.int .i64 0, .int .i64 21]) (by simp [results, Tryd.results26, go_sem]) rfl ⟨rfl, rfl⟩
set_option maxHeartbeats 1000000 in
theorem var_twice (w : World) (bs : List Nat) (B k : Nat) (T : Tab) (s : ByteArray) (hs : s.size ≤ maxLen) (hKB : KB w) (hn : madeB s 3 = true) (h : TabAt w bs B k T) (ho : (actOf T s).isSome = true) :
    Calls Tryd.prog 26 #[.pointer (some ⟨B, 0, none⟩), .string s] w fun e w' => e = .returned (.tuple #[.int .i64 0, .int .i64 20]) ∧ w' = w := by
  have A := symbol_any s w hs hKB
  rw [hn] at A
  replace A := show Hid _ from A
  obtain ⟨vs, vc, vl, mk, ma, mt, vars, h, _⟩ := h
  obtain ⟨_, _, c2, _⟩ := cells6 h.block
  obtain ⟨n, _, hm⟩ := h.active
  have hk := hm.look s hs
  rw [ho] at hk
  generalize (actOf T s).getD 0 = r at hk
  clear h hm ho
  go_enter Tryd.func26, Tryd.ntmps26
  go_wp2_with fail
  refine Calls.mono A.out ?_
  rintro e w' ⟨rfl, rfl⟩
  go_wp2
  exact bodyPost_ret (v := .tuple #[.int .i64 0, .int .i64 20]) (by simp [results, Tryd.results26, go_sem]) rfl ⟨rfl, rfl⟩
end Go.Proofs.YtdnkgjjboonmnabDoor
