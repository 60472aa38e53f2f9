/- Every call that may change a table: what it answers, and the table behind it. -/
import Derived.Test.YtdnkgjjboonmnabDoorSymClose
namespace Go.Proofs.YtdnkgjjboonmnabDoor
open Go.RowKit

/-- What holds of every table behind k stores. -/
structure Tab.Ok (T : Tab) (k : Nat) : Prop where
  syms : T.syms.length ≤ 512
  labels : T.labels.length ≤ 1024
  scopes : T.scopes.length ≤ 16
  names : ∀ p ∈ T.syms, madeB p.1 3 = true
  nodup : (T.syms.map (·.1)).Nodup
  acts : ∀ n ∈ T.act, n < T.syms.length
  lens : ∀ l ∈ T.scopes, l.length ≤ k
  inner : ∀ l ∈ T.scopes, ∀ n ∈ l, n < T.syms.length
theorem made_size {s : ByteArray} {k : Int} (h : madeB s k = true) : s.size ≤ 32 := by
  unfold madeB at h
  simp at h
  exact h.1.2
theorem Tab.Ok.sizes {T : Tab} {k : Nat} (h : T.Ok k) : ∀ p ∈ T.syms, p.1.size ≤ maxLen := fun p hp => by
  have := made_size (h.names p hp)
  unfold maxLen; omega

def openR (T : Tab) : Nat × Tab := if 16 ≤ T.scopes.length then (23, T) else (0, { T with scopes := T.scopes ++ [[]] })
def closeR (T : Tab) : Nat × Tab := if T.scopes.length = 0 then (23, T) else (0, closeT T)
def declR (T : Tab) (s : ByteArray) (v : Bool) : Nat × Nat × Tab := if 512 ≤ T.syms.length then (0, 22, T) else (T.syms.length, 0, actT (addT T s v) T.syms.length)
def constR (T : Tab) (s : ByteArray) : Nat × Nat × Tab := if 0 < T.scopes.length then (0, 23, T) else if madeB s 3 = false then (0, 21, T) else if (numOf T.syms s).isSome then (0, 20, T) else declR T s false
def varR (T : Tab) (s : ByteArray) : Nat × Nat × Tab := if madeB s 3 = false then (0, 21, T) else if (actOf T s).isSome then (0, 20, T) else match numOf T.syms s with | some n => (n, 0, actT T n) | none => declR T s true
def labelR (T : Tab) (s : ByteArray) : Nat × Tab := if madeB s 4 = false then (21, T) else if (labOf T.labels s).isSome then (20, T) else if 1024 ≤ T.labels.length then (22, T) else (0, labT T s)

theorem TabAt.up {w : World} {bs : List Nat} {B k k' : Nat} {T : Tab} (h : TabAt w bs B k T) (hk : k ≤ k') : TabAt w bs B k' T := by
  obtain ⟨vs, vc, vl, mk, ma, mt, vars, h, e⟩ := h
  exact ⟨vs, vc, vl, mk, ma, mt, vars, (h.lies.up hk).tab T rfl rfl rfl rfl rfl rfl, e⟩
theorem TabAt.kept {w w' : World} {bs : List Nat} {B k : Nat} {T : Tab} (h : TabAt w bs B k T) (hk : ∀ b ∈ bs, w'.heap[b]? = w.heap[b]?) : TabAt w' bs B k T := by
  obtain ⟨vs, vc, vl, mk, ma, mt, vars, h, rfl⟩ := h
  exact ⟨vs, vc, vl, mk, ma, mt, vars, (h.lies.kept hk).tab T rfl rfl rfl rfl rfl rfl, rfl⟩
theorem TabAt.low {w : World} {bs : List Nat} {B k : Nat} {T : Tab} (h : TabAt w bs B k T) : ∀ b ∈ bs, b < w.heap.size := by
  obtain ⟨vs, vc, vl, mk, ma, mt, vars, h, rfl⟩ := h
  exact h.lies.mem
theorem TabAt.below {w w' : World} {bs : List Nat} {B k : Nat} {T : Tab} (h : TabAt w bs B k T) (hb : Below w.heap.size w w') : TabAt w' bs B k T := h.kept fun b hm => hb.block b (h.low b hm)
theorem TabAt.own {w : World} {bs : List Nat} {B k : Nat} {T : Tab} (h : TabAt w bs B k T) : B ∈ bs := by
  obtain ⟨vs, vc, vl, mk, ma, mt, vars, h, rfl⟩ := h
  simp [blocksOf]

/-- Behind a call the table is T'. -/
def Now (bs : List Nat) (w : World) (B k : Nat) (T' : Tab) (w' : World) : Prop := ∃ bs', TabAt w' bs' B (k + 2) T' ∧ Goes bs w bs' w'
theorem Now.same {bs : List Nat} {w : World} {B k : Nat} {T : Tab} (h : TabAt w bs B k T) : Now bs w B k T w := ⟨bs, h.up (by omega), Goes.refl _ _⟩
theorem Now.one {bs : List Nat} {w w' : World} {B k : Nat} {T : Tab} (h : ∃ bs', TabAt w' bs' B (k + 1) T ∧ Goes bs w bs' w') : Now bs w B k T w' := by
  obtain ⟨bs', h, g⟩ := h
  exact ⟨bs', h.up (by omega), g⟩
theorem Now.zero {bs : List Nat} {w w' : World} {B k : Nat} {T : Tab} (h : ∃ bs', TabAt w' bs' B k T ∧ Goes bs w bs' w') : Now bs w B k T w' := by
  obtain ⟨bs', h, g⟩ := h
  exact ⟨bs', h.up (by omega), g⟩

theorem open_any (w : World) (bs : List Nat) (B k : Nat) (T : Tab) (h : TabAt w bs B k T) :
    Calls Tryd.prog 20 #[.pointer (some ⟨B, 0, none⟩)] w fun e w' => e = .returned (.int .i64 ((openR T).1 : Nat)) ∧ Now bs w B k (openR T).2 w' := by
  unfold openR
  by_cases hd : 16 ≤ T.scopes.length
  · rw [if_pos hd]
    refine (open_full w bs B k T h hd).mono ?_
    rintro e w' ⟨rfl, rfl⟩
    exact ⟨rfl, Now.same h⟩
  · rw [if_neg hd]
    refine (open_more w bs B k T h (by omega)).mono ?_
    rintro e w' ⟨rfl, ⟨bs', h1, h2⟩, h3⟩
    exact ⟨rfl, Now.zero ⟨bs', h1, h2, h3⟩⟩
theorem close_any (w : World) (bs : List Nat) (B k : Nat) (T : Tab) (hT : T.Ok k) (hk : k < 17592186044414) (h : TabAt w bs B k T) :
    Calls Tryd.prog 22 #[.pointer (some ⟨B, 0, none⟩)] w fun e w' => e = .returned (.int .i64 ((closeR T).1 : Nat)) ∧ Now bs w B k (closeR T).2 w' := by
  unfold closeR
  by_cases hd : T.scopes.length = 0
  · rw [if_pos hd]
    refine (close_none w bs B k T h hd).mono ?_
    rintro e w' ⟨rfl, rfl⟩
    exact ⟨rfl, Now.same h⟩
  · rw [if_neg hd]
    refine (close_some w bs B k T hT.nodup hT.sizes hT.syms hk hT.scopes hT.lens hT.inner h (by omega)).mono ?_
    rintro e w' ⟨rfl, hn⟩
    exact ⟨rfl, Now.zero hn⟩
theorem declare_any (w : World) (bs : List Nat) (B k : Nat) (T : Tab) (s : ByteArray) (v : Bool) (hT : T.Ok k) (hk : k < 17592186044414) (hs : s.size ≤ 281474976710656) (hno : numOf T.syms s = none) (h : TabAt w bs B k T) :
    Calls Tryd.prog 36 #[.pointer (some ⟨B, 0, none⟩), .string s, .bool v] w fun e w' => e = .returned (.tuple #[.int .i64 ((declR T s v).1 : Nat), .int .i64 ((declR T s v).2.1 : Nat)]) ∧ Now bs w B k (declR T s v).2.2 w' := by
  unfold declR
  by_cases hd : 512 ≤ T.syms.length
  · rw [if_pos hd]
    refine (declare_full w bs B k T s v hd h).mono ?_
    rintro e w' ⟨rfl, rfl⟩
    exact ⟨rfl, Now.same h⟩
  · rw [if_neg hd]
    exact (declare_new w bs B k T s v hs hT.nodup hno hT.acts (by omega) hk hT.scopes hT.lens h).mono fun e w' ⟨he, hn⟩ => ⟨he, hn⟩

set_option maxHeartbeats 1000000 in
theorem const_decl (w : World) (bs : List Nat) (B k : Nat) (T : Tab) (s : ByteArray) (hT : T.Ok k) (hk : k < 17592186044414) (hs : s.size ≤ maxLen) (hKB : KB w) (hn : madeB s 3 = true) (h : TabAt w bs B k T) (hd : T.scopes.length = 0) (ho : numOf T.syms s = none) :
    Calls Tryd.prog 24 #[.pointer (some ⟨B, 0, none⟩), .string s] w fun e w' => e = .returned (.tuple #[.int .i64 ((declR T s false).1 : Nat), .int .i64 ((declR T s false).2.1 : Nat)]) ∧ Now bs w B k (declR T s false).2.2 w' := by
  have A := symbol_any s w hs hKB
  rw [hn] at A
  replace A := show Hid _ from A
  have h32 := made_size hn
  have D := declare_any w bs B k T s false hT hk (by omega) ho h
  generalize declR T s false = r at *
  replace D := show Hid _ from D
  obtain ⟨vs, vc, vl, mk, ma, mt, vars, h, _⟩ := h
  obtain ⟨a, cap, rfl⟩ := own_slice h.scopes
  obtain ⟨_, c1, _, c3, _⟩ := cells6 h.block
  obtain ⟨n, _, hm⟩ := h.known
  have hl := hm.look s hs
  rw [ho] at hl
  replace hl : (Instr.lookup 37 (.map (some mk)) (.string s) true).run Tryd.prog w = .ok (.tuple #[.int .i64 0, .bool false]) w := hl
  rw [hd] at c3
  clear h hm ho hT
  go_enter Tryd.func24, Tryd.ntmps24
  go_wp2_with fail
  refine Calls.mono A.out ?_
  rintro e w' ⟨rfl, rfl⟩
  go_wp2_with fail
  refine Calls.mono D.out ?_
  rintro e w1 ⟨rfl, hnow⟩
  have Hnow : Hid _ := hnow
  clear hnow D
  go_wp2
  exact bodyPost_ret (v := .tuple #[.int .i64 (r.1 : Nat), .int .i64 (r.2.1 : Nat)]) (by simp [results, Tryd.results24, go_sem]) rfl ⟨rfl, Hnow.out⟩
theorem const_any (w : World) (bs : List Nat) (B k : Nat) (T : Tab) (s : ByteArray) (hT : T.Ok k) (hk : k < 17592186044414) (hs : s.size ≤ maxLen) (hKB : KB w) (h : TabAt w bs B k T) :
    Calls Tryd.prog 24 #[.pointer (some ⟨B, 0, none⟩), .string s] w fun e w' => e = .returned (.tuple #[.int .i64 ((constR T s).1 : Nat), .int .i64 ((constR T s).2.1 : Nat)]) ∧ Now bs w B k (constR T s).2.2 w' := by
  have hs' := hs
  unfold constR
  by_cases hd : 0 < T.scopes.length
  · rw [if_pos hd]
    refine (const_scope w bs B k T s h hd).mono ?_
    rintro e w' ⟨rfl, rfl⟩
    exact ⟨rfl, Now.same h⟩
  · rw [if_neg hd]
    by_cases hn : madeB s 3 = false
    · rw [if_pos hn]
      refine (const_bad w bs B k T s hs' hKB hn h (by omega)).mono ?_
      rintro e w' ⟨rfl, rfl⟩
      exact ⟨rfl, Now.same h⟩
    · rw [if_neg hn]
      have hn' : madeB s 3 = true := by simpa using hn
      by_cases ho : (numOf T.syms s).isSome
      · rw [if_pos ho]
        refine (const_twice w bs B k T s hs' hKB hn' h (by omega) ho).mono ?_
        rintro e w' ⟨rfl, rfl⟩
        exact ⟨rfl, Now.same h⟩
      · rw [if_neg ho]
        exact const_decl w bs B k T s hT hk hs hKB hn' h (by omega) (by simpa using ho)

set_option maxHeartbeats 1000000 in
theorem var_decl (w : World) (bs : List Nat) (B k : Nat) (T : Tab) (s : ByteArray) (hT : T.Ok k) (hk : k < 17592186044414) (hs : s.size ≤ maxLen) (hKB : KB w) (hn : madeB s 3 = true) (h : TabAt w bs B k T) (hd : actOf T s = none) (ho : numOf T.syms s = none) :
    Calls Tryd.prog 26 #[.pointer (some ⟨B, 0, none⟩), .string s] w fun e w' => e = .returned (.tuple #[.int .i64 ((declR T s true).1 : Nat), .int .i64 ((declR T s true).2.1 : Nat)]) ∧ Now bs w B k (declR T s true).2.2 w' := by
  have A := symbol_any s w hs hKB
  rw [hn] at A
  replace A := show Hid _ from A
  have h32 := made_size hn
  have D := declare_any w bs B k T s true hT hk (by omega) ho h
  generalize declR T s true = r at *
  replace D := show Hid _ from D
  obtain ⟨vs, vc, vl, mk, ma, mt, vars, h, _⟩ := h
  obtain ⟨_, c1, c2, _⟩ := cells6 h.block
  obtain ⟨n, _, hm⟩ := h.known
  have hl := hm.look s hs
  rw [ho] at hl
  replace hl : (Instr.lookup 37 (.map (some mk)) (.string s) true).run Tryd.prog w = .ok (.tuple #[.int .i64 0, .bool false]) w := hl
  obtain ⟨n2, _, hm2⟩ := h.active
  have hl2 := hm2.look s hs
  rw [hd] at hl2
  replace hl2 : (Instr.lookup 37 (.map (some ma)) (.string s) true).run Tryd.prog w = .ok (.tuple #[.int .i64 0, .bool false]) w := hl2
  clear h hm hm2 ho hd hT
  go_enter Tryd.func26, Tryd.ntmps26
  go_wp2_with fail
  refine Calls.mono A.out ?_
  rintro e w' ⟨rfl, rfl⟩
  go_wp2_with fail
  refine Calls.mono D.out ?_
  rintro e w1 ⟨rfl, hnow⟩
  have Hnow : Hid _ := hnow
  clear hnow D
  go_wp2
  exact bodyPost_ret (v := .tuple #[.int .i64 (r.1 : Nat), .int .i64 (r.2.1 : Nat)]) (by simp [results, Tryd.results26, go_sem]) rfl ⟨rfl, Hnow.out⟩
set_option maxHeartbeats 1000000 in
theorem var_back (w : World) (bs : List Nat) (B k : Nat) (T : Tab) (s : ByteArray) (hT : T.Ok k) (hk : k < 17592186044414) (hs : s.size ≤ maxLen) (hKB : KB w) (hn : madeB s 3 = true) (h : TabAt w bs B k T) (hd : actOf T s = none) (m : Nat) (ho : numOf T.syms s = some m) :
    Calls Tryd.prog 26 #[.pointer (some ⟨B, 0, none⟩), .string s] w fun e w' => e = .returned (.tuple #[.int .i64 m, .int .i64 0]) ∧ Now bs w B k (actT T m) w' := by
  have A := symbol_any s w hs hKB
  rw [hn] at A
  replace A := show Hid _ from A
  obtain ⟨b, hb⟩ := numOf_lt ho
  have D : Hid _ := activate_any w bs B k T m (s, b) hT.nodup hb hs hT.syms (by omega) hT.scopes hT.lens h
  obtain ⟨vs, vc, vl, mk, ma, mt, vars, h, _⟩ := h
  obtain ⟨_, c1, c2, _⟩ := cells6 h.block
  obtain ⟨n, _, hm⟩ := h.known
  have hl := hm.look s hs
  rw [ho] at hl
  replace hl : (Instr.lookup 37 (.map (some mk)) (.string s) true).run Tryd.prog w = .ok (.tuple #[.int .i64 m, .bool true]) w := hl
  obtain ⟨n2, _, hm2⟩ := h.active
  have hl2 := hm2.look s hs
  rw [hd] at hl2
  replace hl2 : (Instr.lookup 37 (.map (some ma)) (.string s) true).run Tryd.prog w = .ok (.tuple #[.int .i64 0, .bool false]) w := hl2
  clear h hm hm2 ho hd hT hb
  go_enter Tryd.func26, Tryd.ntmps26
  go_wp2_with fail
  refine Calls.mono A.out ?_
  rintro e w' ⟨rfl, rfl⟩
  go_wp2_with fail
  refine Calls.mono D.out ?_
  rintro e w1 ⟨rfl, hnow⟩
  have Hnow : Hid _ := hnow
  clear hnow D
  go_wp2
  exact bodyPost_ret (v := .tuple #[.int .i64 m, .int .i64 0]) (by simp [results, Tryd.results26, go_sem]) rfl ⟨rfl, Now.one Hnow.out⟩
theorem var_any (w : World) (bs : List Nat) (B k : Nat) (T : Tab) (s : ByteArray) (hT : T.Ok k) (hk : k < 17592186044414) (hs : s.size ≤ maxLen) (hKB : KB w) (h : TabAt w bs B k T) :
    Calls Tryd.prog 26 #[.pointer (some ⟨B, 0, none⟩), .string s] w fun e w' => e = .returned (.tuple #[.int .i64 ((varR T s).1 : Nat), .int .i64 ((varR T s).2.1 : Nat)]) ∧ Now bs w B k (varR T s).2.2 w' := by
  have hs' := hs
  unfold varR
  by_cases hn : madeB s 3 = false
  · rw [if_pos hn]
    refine (var_bad w B s hs' hKB hn).mono ?_
    rintro e w' ⟨rfl, rfl⟩
    exact ⟨rfl, Now.same h⟩
  · rw [if_neg hn]
    have hn' : madeB s 3 = true := by simpa using hn
    by_cases ho : (actOf T s).isSome
    · rw [if_pos ho]
      refine (var_twice w bs B k T s hs' hKB hn' h ho).mono ?_
      rintro e w' ⟨rfl, rfl⟩
      exact ⟨rfl, Now.same h⟩
    · rw [if_neg ho]
      have ho' : actOf T s = none := by simpa using ho
      cases hm : numOf T.syms s with
      | some m => exact var_back w bs B k T s hT hk hs hKB hn' h ho' m hm
      | none => exact var_decl w bs B k T s hT hk hs hKB hn' h ho' hm
theorem label_any (w : World) (bs : List Nat) (B k : Nat) (T : Tab) (s : ByteArray) (hk : k < 17592186044414) (hs : s.size ≤ maxLen) (hKB : KB w) (h : TabAt w bs B k T) :
    Calls Tryd.prog 30 #[.pointer (some ⟨B, 0, none⟩), .string s] w fun e w' => e = .returned (.int .i64 ((labelR T s).1 : Nat)) ∧ Now bs w B k (labelR T s).2 w' := by
  have hs' := hs
  unfold labelR
  by_cases hn : madeB s 4 = false
  · rw [if_pos hn]
    refine (label_bad w B s hs' hKB hn).mono ?_
    rintro e w' ⟨rfl, rfl⟩
    exact ⟨rfl, Now.same h⟩
  · rw [if_neg hn]
    have hn' : madeB s 4 = true := by simpa using hn
    by_cases ho : (labOf T.labels s).isSome
    · rw [if_pos ho]
      refine (label_twice w bs B k T s hs' hKB hn' h ho).mono ?_
      rintro e w' ⟨rfl, rfl⟩
      exact ⟨rfl, Now.same h⟩
    · rw [if_neg ho]
      by_cases h4 : 1024 ≤ T.labels.length
      · rw [if_pos h4]
        refine (label_many w bs B k T s hs' hKB hn' h (by simpa using ho) h4).mono ?_
        rintro e w' ⟨rfl, rfl⟩
        exact ⟨rfl, Now.same h⟩
      · rw [if_neg h4]
        refine (label_new w bs B k T s (by have := made_size hn'; omega) hKB hn' (by simpa using ho) (by omega) hk h).mono ?_
        rintro e w' ⟨rfl, hn⟩
        exact ⟨rfl, Now.one hn⟩
end Go.Proofs.YtdnkgjjboonmnabDoor
