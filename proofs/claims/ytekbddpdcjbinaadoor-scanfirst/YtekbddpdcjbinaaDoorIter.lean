/- The iterator of the words: what it hands on. -/
import Derived.Test.YtekbddpdcjbinaaDoorEvents
import Derived.Test.YtekbddpdcjbinaaDoorFaults
import Derived.RangeFuncNested
import Derived.RangeFuncBound
import Derived.RangeFuncCalls
import Derived.RangeFuncLeaves
import Derived.Shelf.Abstract
import Derived.Shelf.RegionOpen
import Derived.OwnWalkIn
import Derived.TacticsInMore
import Derived.LoopNIn
import Derived.LoopIn
namespace Go.Proofs.YtekbddpdcjbinaaDoor
open Go.RowKit Go.Shelf
attribute [local go_sem] Oper.semAt_some

/-- Only the iterator's two variables have turned, and new blocks have come. -/
structure Turn (B : Nat) (A A' : World) : Prop where
  os : A'.os = A.os
  tape : A'.tape = A.tape
  output : A'.output = A.output
  size : A.heap.size ≤ A'.heap.size
  block : ∀ k, k < A.heap.size → k ≠ B → k ≠ B + 1 → A'.heap[k]? = A.heap[k]?
theorem Turn.refl (B : Nat) (A : World) : Turn B A A := ⟨rfl, rfl, rfl, Nat.le_refl _, fun _ _ _ _ => rfl⟩
theorem Turn.trans {B : Nat} {A A' A'' : World} (h : Turn B A A') (k : Turn B A' A'') : Turn B A A'' :=
  ⟨k.os.trans h.os, k.tape.trans h.tape, k.output.trans h.output, Nat.le_trans h.size k.size, fun i hi h1 h2 => (k.block i (Nat.lt_of_lt_of_le hi h.size) h1 h2).trans (h.block i hi h1 h2)⟩
theorem Turn.alloc (B : Nat) (A : World) (O : Obj) : Turn B A (A.alloc O) := ⟨rfl, rfl, rfl, by simp, fun k hk _ _ => Below.heap_alloc A O k hk⟩
theorem Turn.drew (B : Nat) (A : World) : Turn B A A.drew := ⟨rfl, rfl, rfl, Nat.le_refl _, fun _ _ _ _ => rfl⟩
theorem Turn.set1 (B : Nat) (A : World) (v : Value) : Turn B A (A.setCell ⟨B, 0, none⟩ v) := ⟨rfl, rfl, rfl, by simp [World.setCell], fun k _ h1 _ => Below.heap_setCell _ _ _ k h1⟩
theorem Turn.set2 (B : Nat) (A : World) (v : Value) : Turn B A (A.setCell ⟨B + 1, 0, none⟩ v) := ⟨rfl, rfl, rfl, by simp [World.setCell], fun k _ _ h2 => Below.heap_setCell _ _ _ k h2⟩

theorem KB.keep {W W' : World} (h : KB W) (hb : W'.heap[0]? = W.heap[0]?) : KB W' := fun i hi => (World.cell?_of_block (a := ⟨0, i, none⟩) hb).trans (h i hi)

theorem faultF_eq (s : ByteArray) (k : Nat) (h : k < s.size) : faultF s k = codeAt k s[k] := by
  unfold faultF codeAt; rw [getD_byte s k h]
theorem code_lt {k : Nat} {c : UInt8} (h : codeAt k c = 0) (hk : k ≤ 65536) : k + 1 ≤ 65536 := by
  unfold codeAt at h
  by_cases e : k = 65536
  · rw [if_pos e] at h; cases h
  · omega
def yieldPost (B R : Nat) (J Jx : List (Tok × Int) → World → Prop) (pre : List (Tok × Int)) (x : Tok × Int) (W : World) : Ending → World → Prop := fun e W' =>
  (e = .returned (.bool true) ∧ J (pre ++ [x]) W' ∧ Keeps (B + 2) R W W') ∨ (e = .returned (.bool false) ∧ Jx (pre ++ [x]) W')

theorem yieldPost.out {B R : Nat} {J Jx : List (Tok × Int) → World → Prop} {pre : List (Tok × Int)} {x : Tok × Int} {W : World} {e : Ending} {W' : World} (h : yieldPost B R J Jx pre x W e W') :
    ∃ b : Bool, e = .returned (.bool b) ∧ Hid ((b = true → J (pre ++ [x]) W' ∧ Keeps (B + 2) R W W') ∧ (b = false → Jx (pre ++ [x]) W')) := by
  rcases h with ⟨rfl, h1, h2⟩ | ⟨rfl, h1⟩
  · exact ⟨true, rfl, ⟨fun _ => ⟨h1, h2⟩, fun h => by cases h⟩⟩
  · exact ⟨false, rfl, ⟨fun h => (by cases h), fun _ => h1⟩⟩

set_option maxRecDepth 100000 in
set_option maxHeartbeats 8000000 in
theorem iter_in (F : Fence) (hFw : Hid (F = Fence.wide)) (hro : F.round = none) (h34 : F.fn 34) (h35 : F.fn 35) (h36 : F.fn 36) (h37 : F.fn 37) (n l T B R : Nat) (hn : 1 ≤ n) (s : ByteArray) (J Jx : List (Tok × Int) → World → Prop)
    (hJ : ∀ pre A A', J pre A → Turn B A A' → J pre A')
    (hY : ∀ pre x W, J pre W → x.1.text.size ≤ 65536 → B + 2 ≤ W.heap.size → YieldAt F (n - 1) Tryd.prog l #[tokV x.1, .int .i64 x.2] W (yieldPost B R J Jx pre x W))
    (W : World) (hB : W.heap.size = B) (hTB : T < B) (_hT0 : T ≠ 0) (hTR : T ≠ R) (hR0 : R ≠ 0) (hRB : R < B) (hs : s.size ≤ 281474976710656)
    (hT : Boxed W T 9 (.string s)) (hKB : KB W) (h0 : J [] W) :
    CallsIn F n Tryd.prog 34 #[.func (.yield l) #[] #[], .pointer (some ⟨T, 0, none⟩)] W fun e W' => (∃ v, e = .returned v) ∧ (J (events s) W' ∨ ∃ pre, pre <+: events s ∧ Jx pre W') := by
  have hFe := hFw.out
  subst hFe
  have lift : ∀ {m f : Nat} {args : Array Value} {w : World} {Q : Ending → World → Prop}, Calls Tryd.prog f args w Q → CallsIn Fence.wide m Tryd.prog f args w Q := fun h => callsIn_wide.2 h
  replace lift := show Hid _ from @lift
  refine callsIn_of_wp Tryd.func34 rfl h34 ?_ hro
  simp only [Tryd.ntmps34, List.size_toArray, List.length_cons, List.length_nil, Nat.reduceAdd, Nat.reduceSub, Array.replicate_succ, Array.replicate_zero, List.push_toArray, List.append_toArray, List.nil_append, List.cons_append]
  have hTc := hT.cell
  gi_wp2
  gi_loopw [5, 12] (fun st kk wr => ∃ (k start line ls : Nat) (pre : List (Tok × Int)), kk = .int .i64 k ∧ st = .int .i64 start ∧ start ≤ k ∧ k ≤ s.size ∧ k ≤ 65536 ∧ ls ≤ start ∧ line ≤ k + 1 ∧ Hid (events s = pre ++ evs s (s.data.toList.drop k) k start line ls) ∧ Hid (J pre wr) ∧ Boxed wr B 3 (.int .i64 line) ∧ Boxed wr (B + 1) 3 (.int .i64 ls) ∧ Boxed wr T 9 (.string s) ∧ KB wr ∧ B + 2 ≤ wr.heap.size) (fun _ kk _ => s.size - (intOf kk).toNat)
  case atStart =>
    have b0 := Boxed.new W 3 (.int .i64 1)
    rw [hB] at b0
    have b1 := Boxed.new (W.alloc (.cells #[.int .i64 1] 3)) 3 (.int .i64 0)
    rw [World.size_alloc, hB] at b1
    exact ⟨0, 0, 1, 0, [], rfl, rfl, by omega, by omega, by omega, by omega, by omega, rfl, hJ [] _ _ h0 ((Turn.alloc B W _).trans (Turn.alloc B _ _)), b0.alloc _, b1, (hT.alloc _).alloc _, hKB.keep ((Below.heap_alloc _ _ 0 (by simp)).trans (Below.heap_alloc W _ 0 (by omega))), by simp; omega⟩
  case round =>
    obtain ⟨k, start, line, ls, pre, rfl, rfl, hsk, hks, hk6, hls, hln, hev, hJp, bB, bB1, bT, hKBr, hsz⟩ := hrel
    have cT := bT.cell
    have cTa := later1 cT
    have cB := bB.cell
    have cB1 := bB1.cell
    by_cases hlt : k < s.size
    · obtain ⟨C, hC⟩ : ∃ C, C = codeAt k s[k] := ⟨_, rfl⟩
      have HC : Hid (faultF s k = C) := by show _ = _; rw [hC]; exact faultF_eq s k hlt
      by_cases hC0 : C = 0
      · subst hC0
        have hC' : Hid (codeAt k s[k] = 0) := hC.symm
        clear hC
        obtain ⟨q, hq⟩ : ∃ q, q = kindF s[k].toNat := ⟨_, rfl⟩
        have Hq : Hid (kindF s[k].toNat = q) := hq.symm
        clear hq
        by_cases hq1 : q = 1
        · subst hq1
          have hk7 : k + 1 ≤ 65536 := code_lt hC'.out hk6
          have hEb := ev_blank s k start line ls hlt hC'.out Hq.out
          have hmx : Tryd.prog.follows .mixedOrders = true := by kernel_rfl
          by_cases hst : start < k
          · rw [if_pos hst] at hEb
            have hEv : Hid (events s = pre ++ ([(wordAt s start k line ls, 0)] ++ evs s (s.data.toList.drop (k + 1)) (k + 1) (k + 1) (if s[k] = 10 then line + 1 else line) (if s[k] = 10 then k + 1 else ls))) := by show _ = _; rw [hev.out, hEb]
            clear hEb
            have hst1 : (start : Int) < (k : Int) := by omega
            have hst0 : (0 : Int) ≤ (start : Int) := by omega
            have hk0 : (k : Int) ≤ (s.size : Int) := by omega
            obtain ⟨fn, tmps, assign, body, hy, hR⟩ := hY pre (wordAt s start k line ls, 0) ((wr.alloc (.cells #[.int .i64 start, .int .i64 line, .int .i64 (start - ls + 1)] 30)).drew) (hJ _ _ _ hJp.out ((Turn.alloc B wr _).trans (Turn.drew B _))) (by show (s.extract start k).size ≤ 65536; rw [ByteArray.size_extract]; omega) (by show B + 2 ≤ (wr.alloc _).heap.size; simp; omega)
            unfold tokV wordAt at hy
            dsimp only at hy
            gi_wp2_with fail
            refine (lift.out (byteFault_any s k _ hlt hs hKBr)).mono ?_
            rintro e w' ⟨rfl, hw⟩
            have hw' := hw.symm
            subst hw'
            rw [HC.out]
            gi_wp2_with fail
            refine (lift.out (kindOf_any _ _ (Int.natCast_nonneg _) (byte_lt _) hKBr)).mono ?_
            rintro e w' ⟨rfl, hw⟩
            have hw' := hw.symm
            subst hw'
            rw [Hq.out]
            gi_wp2_with fail
            refine wpIn_region_any (by assumption) ?_
            change wpAnyIn _ _ _ _ _ _ _ _ _ (World.drew _)
            refine wpAnyIn_take (i := 0) (v := .int .i64 start) rfl rfl (by kernel_rfl) (by kernel_rfl) (by kernel_rfl) (fun _ _ _ h => h) ⟨Or.inl ⟨by kernel_rfl, fun w => by kernel_rfl⟩, fun _ => by kernel_rfl⟩ ?_
            refine wpAnyIn_take (i := 1) (v := .int .i64 k) rfl rfl (by kernel_rfl) (by kernel_rfl) (by kernel_rfl) (fun _ _ _ h => h) ⟨Or.inl ⟨by kernel_rfl, fun w => by kernel_rfl⟩, fun _ => by kernel_rfl⟩ ?_
            refine wpAnyIn_take (i := 2) (v := .bool true) rfl rfl (by kernel_rfl) (by kernel_rfl) (by kernel_rfl) (fun _ _ _ h => h) ⟨Or.inl ⟨by kernel_rfl, fun w => by go_simp⟩, fun _ => by kernel_rfl⟩ ?_
            refine wpAnyIn_take (i := 3) (v := .bool true) rfl rfl (by kernel_rfl) (by kernel_rfl) (by kernel_rfl) (fun _ _ _ h => h) ⟨Or.inl ⟨by kernel_rfl, fun w => by kernel_rfl⟩, fun _ => by kernel_rfl⟩ ?_
            refine wpAnyIn_take (i := 4) (v := .func (.yield l) #[] #[]) rfl rfl (by kernel_rfl) (by kernel_rfl) (by kernel_rfl) (fun _ _ _ h => h) ⟨Or.inl ⟨by kernel_rfl, fun w => by kernel_rfl⟩, fun _ => by kernel_rfl⟩ ?_
            refine wpAnyIn_take (i := 6) (v := .int .i64 start) rfl rfl (by kernel_rfl) (by kernel_rfl) (by kernel_rfl) (fun _ _ _ h => h) ⟨Or.inl ⟨by kernel_rfl, fun w => by kernel_rfl⟩, fun _ => by kernel_rfl⟩ ?_
            refine wpAnyIn_take (i := 7) (v := .int .i64 k) rfl rfl (by kernel_rfl) (by kernel_rfl) (by kernel_rfl) (fun _ _ _ h => h) ⟨Or.inl ⟨by kernel_rfl, fun w => by kernel_rfl⟩, fun _ => by kernel_rfl⟩ ?_
            refine wpAnyIn_take (i := 9) (v := .func (.func 35) #[] #[.pointer (some ⟨B, 0, none⟩), .pointer (some ⟨B + 1, 0, none⟩)]) rfl rfl (by kernel_rfl) (by kernel_rfl) (by kernel_rfl) (fun _ _ _ h => h) ⟨Or.inl ⟨by kernel_rfl, fun w => by kernel_rfl⟩, fun _ => by kernel_rfl⟩ ?_
            refine wpAnyIn_take (i := 10) (v := .int .i64 start) rfl rfl (by kernel_rfl) (by kernel_rfl) (by kernel_rfl) (fun _ _ _ h => h) ⟨Or.inl ⟨by kernel_rfl, fun w => by kernel_rfl⟩, fun _ => by kernel_rfl⟩ ?_
            refine wpAnyIn_ready (rs := [5, 11]) (by kernel_rfl) (by simp) ?_
            refine AllReadyIn.cons rfl (fun K hK => ?_) (AllReadyIn.cons rfl (fun K hK => ?_) AllReadyIn.nil)
            case' refine_1 =>
              go_simp
              refine hK _ _ ?_
              clear hK K
              refine wpAnyIn_take (i := 8) (v := .string (s.extract start k)) rfl rfl (by kernel_rfl) (by kernel_rfl) (by kernel_rfl) (fun _ _ _ h => h) ⟨Or.inl ⟨by kernel_rfl, fun w => by go_simp⟩, fun _ => by kernel_rfl⟩ ?_
              refine wpAnyIn_ready (rs := [11]) (by kernel_rfl) (by simp) ?_
              refine AllReadyIn.cons rfl (fun K hK => ?_) AllReadyIn.nil
              go_simp
              refine (lift.out (placeFn_any start line ls B (B + 1) _ (by omega) (by omega) (by omega) (by omega) (by exact cB) (by exact cB1))).mono ?_
              rintro e w' ⟨rfl, hw⟩
              subst hw
              go_simp
              refine hK _ _ ?_
              clear hK K
            case' refine_2 =>
              go_simp
              refine (lift.out (placeFn_any start line ls B (B + 1) _ (by omega) (by omega) (by omega) (by omega) (by exact cB) (by exact cB1))).mono ?_
              rintro e w' ⟨rfl, hw⟩
              subst hw
              go_simp
              refine hK _ _ ?_
              clear hK K
              refine wpAnyIn_ready (rs := [5]) (by kernel_rfl) (by simp) ?_
              refine AllReadyIn.cons rfl (fun K hK => ?_) AllReadyIn.nil
              go_simp
              refine hK _ _ ?_
              clear hK K
              refine wpAnyIn_take (i := 8) (v := .string (s.extract start k)) rfl rfl (by kernel_rfl) (by kernel_rfl) (by kernel_rfl) (fun _ _ _ h => h) ⟨Or.inl ⟨by kernel_rfl, fun w => by go_simp⟩, fun _ => by kernel_rfl⟩ ?_
            all_goals
              refine wpAnyIn_take (i := 12) (v := .agg #[.string (s.extract start k), .int .i64 start, .int .i64 line, .int .i64 (start - ls + 1)]) rfl rfl (by kernel_rfl) (by kernel_rfl) (by kernel_rfl) (fun _ _ _ h => h) ⟨Or.inl ⟨by kernel_rfl, fun w => by go_simp⟩, fun _ => by kernel_rfl⟩ ?_
              refine wpAnyIn_ready (rs := [13]) (by kernel_rfl) (by simp) ?_
              refine AllReadyIn.cons rfl (fun K hK => ?_) AllReadyIn.nil
              go_simp
              refine RoundIn.mono hR ?_
              rintro e W3 hp
              obtain ⟨b, rfl, hb⟩ := hp.out
              go_simp
              refine hK _ _ ?_
              clear hK K
              refine wpAnyIn_take (i := 14) (v := .bool (!b)) rfl rfl (by kernel_rfl) (by kernel_rfl) (by kernel_rfl) (fun _ _ _ h => h) ⟨Or.inl ⟨by kernel_rfl, fun w => by go_simp⟩, fun _ => by kernel_rfl⟩ ?_
              refine wpAnyIn_take (i := 15) (v := .bool (!b)) rfl rfl (by kernel_rfl) (by kernel_rfl) (by kernel_rfl) (fun _ _ _ h => h) ⟨Or.inl ⟨by kernel_rfl, fun w => by go_simp⟩, fun _ => by kernel_rfl⟩ ?_
              refine wpAnyIn_done (by kernel_rfl) ?_ _
              cases b with
              | false =>
                have hJx3 := hb.out.2 rfl
                clear hb
                gi_wp2
                refine bodyPost_ret (results_none rfl _ _ _) rfl ?_
                exact ⟨⟨_, rfl⟩, .inr ⟨_, by rw [hEv.out, ← List.append_assoc]; exact List.prefix_append _ _, hJx3⟩⟩
              | true =>
                obtain ⟨hJ3, hk3⟩ := hb.out.1 rfl
                clear hb
                have bB3 : Boxed W3 B 3 (.int .i64 line) := (hk3.block B (by omega) (by omega)).trans (bB.alloc _)
                have bB13 : Boxed W3 (B + 1) 3 (.int .i64 ls) := (hk3.block (B + 1) (by omega) (by omega)).trans (bB1.alloc _)
                have bT3 : Boxed W3 T 9 (.string s) := (hk3.block T (by omega) hTR).trans (bT.alloc _)
                have hKB3 : KB W3 := hKBr.keep ((hk3.block 0 (by omega) (by omega)).trans (Below.heap_alloc wr _ 0 (by omega)))
                have hsz3 : B + 2 ≤ W3.heap.size := by have := hk3.size; simp at this; omega
                have cT3 := bT3.cell
                have cB3 := bB3.cell
                have fB3 := bB3.frozen
                have cB13 := bB13.cell
                have fB13 := bB13.frozen
                have HJ3 : Hid (J (pre ++ [(wordAt s start k line ls, 0)]) W3) := hJ3
                clear hJ3
                gi_wp2
                · have hb10 : (((s[k].toNat : Nat) : Int) == 10) = true := by assumption
                  have hb' : s[k] = 10 := (byte_ten _).1 (by simpa using hb10)
                  go_roundw
                  case rel => exact ⟨k + 1, k + 1, line + 1, k + 1, pre ++ [(wordAt s start k line ls, 0)], by go_num, by go_num, by omega, by omega, hk7, by omega, by omega, (by show _ = _; rw [hEv.out, if_pos hb', if_pos hb', List.append_assoc]), hJ _ _ _ HJ3.out ((Turn.set1 B W3 _).trans (Turn.set2 B _ _)), (by push_cast; exact (bB3.set _).other (by omega) _), (by push_cast; exact (bB13.other (by omega) _).set _), (bT3.other (by omega) _).other (by omega) _, hKB3.keep ((Below.heap_setCell _ _ _ 0 (by simp)).trans (Below.heap_setCell _ _ _ 0 (by simp; omega))), by simp [World.setCell]; omega⟩
                  case measure => simp [intOf]; omega
                · have hb10 : (((s[k].toNat : Nat) : Int) == 10) = false := by assumption
                  have hb' : ¬ s[k] = 10 := fun e => by rw [(byte_ten _).2 e] at hb10; simp at hb10
                  go_roundw
                  case rel => exact ⟨k + 1, k + 1, line, ls, pre ++ [(wordAt s start k line ls, 0)], by go_num, by go_num, by omega, by omega, hk7, by omega, by omega, (by show _ = _; rw [hEv.out, if_neg hb', if_neg hb', List.append_assoc]), HJ3, bB3, bB13, bT3, hKB3, hsz3⟩
                  case measure => simp [intOf]; omega
          · rw [if_neg hst] at hEb
            have hEv : Hid (events s = pre ++ ([] ++ evs s (s.data.toList.drop (k + 1)) (k + 1) (k + 1) (if s[k] = 10 then line + 1 else line) (if s[k] = 10 then k + 1 else ls))) := by show _ = _; rw [hev.out, hEb]
            clear hEb
            have hst1 : decide ((start : Int) < (k : Int)) = false := by simp; omega
            have HJ3 : Hid (J pre wr.drew) := hJ _ _ _ hJp.out (Turn.drew B wr)
            have fB := bB.frozen
            have fB1 := bB1.frozen
            have bBd : Boxed wr.drew B 3 (.int .i64 line) := bB
            have bB1d : Boxed wr.drew (B + 1) 3 (.int .i64 ls) := bB1
            have bTd : Boxed wr.drew T 9 (.string s) := bT
            have hKBd : KB wr.drew := hKBr
            have hszd : B + 2 ≤ wr.drew.heap.size := hsz
            gi_wp2_with fail
            refine (lift.out (byteFault_any s k _ hlt hs hKBr)).mono ?_
            rintro e w' ⟨rfl, hw⟩
            have hw' := hw.symm
            subst hw'
            rw [HC.out]
            gi_wp2_with fail
            refine (lift.out (kindOf_any _ _ (Int.natCast_nonneg _) (byte_lt _) hKBr)).mono ?_
            rintro e w' ⟨rfl, hw⟩
            have hw' := hw.symm
            subst hw'
            rw [Hq.out]
            gi_wp2_with fail
            refine wpIn_region_any (by assumption) ?_
            change wpAnyIn _ _ _ _ _ _ _ _ _ (World.drew _)
            refine wpAnyIn_take (i := 0) (v := .int .i64 start) rfl rfl (by kernel_rfl) (by kernel_rfl) (by kernel_rfl) (fun _ _ _ h => h) ⟨Or.inl ⟨by kernel_rfl, fun w => by kernel_rfl⟩, fun _ => by kernel_rfl⟩ ?_
            refine wpAnyIn_take (i := 1) (v := .int .i64 k) rfl rfl (by kernel_rfl) (by kernel_rfl) (by kernel_rfl) (fun _ _ _ h => h) ⟨Or.inl ⟨by kernel_rfl, fun w => by kernel_rfl⟩, fun _ => by kernel_rfl⟩ ?_
            refine wpAnyIn_take (i := 2) (v := .bool false) rfl rfl (by kernel_rfl) (by kernel_rfl) (by kernel_rfl) (fun _ _ _ h => h) ⟨Or.inl ⟨by kernel_rfl, fun w => by go_simp⟩, fun _ => by kernel_rfl⟩ ?_
            refine wpAnyIn_take (i := 3) (v := .bool false) rfl rfl (by kernel_rfl) (by kernel_rfl) (by kernel_rfl) (fun _ _ _ h => h) ⟨Or.inl ⟨by kernel_rfl, fun w => by kernel_rfl⟩, fun _ => by kernel_rfl⟩ ?_
            refine wpAnyIn_take (i := 4) (v := undef) rfl rfl (by kernel_rfl) (by kernel_rfl) (by kernel_rfl) (fun _ _ _ h => h) ⟨Or.inr ⟨by kernel_rfl, rfl⟩, fun _ => by kernel_rfl⟩ ?_
            refine wpAnyIn_take (i := 5) (v := undef) rfl rfl (by kernel_rfl) (by kernel_rfl) (by kernel_rfl) (fun _ _ _ h => h) ⟨Or.inr ⟨by kernel_rfl, rfl⟩, fun _ => by kernel_rfl⟩ ?_
            refine wpAnyIn_take (i := 6) (v := undef) rfl rfl (by kernel_rfl) (by kernel_rfl) (by kernel_rfl) (fun _ _ _ h => h) ⟨Or.inr ⟨by kernel_rfl, rfl⟩, fun _ => by kernel_rfl⟩ ?_
            refine wpAnyIn_take (i := 7) (v := undef) rfl rfl (by kernel_rfl) (by kernel_rfl) (by kernel_rfl) (fun _ _ _ h => h) ⟨Or.inr ⟨by kernel_rfl, rfl⟩, fun _ => by kernel_rfl⟩ ?_
            refine wpAnyIn_take (i := 8) (v := undef) rfl rfl (by kernel_rfl) (by kernel_rfl) (by kernel_rfl) (fun _ _ _ h => h) ⟨Or.inr ⟨by kernel_rfl, rfl⟩, fun _ => by kernel_rfl⟩ ?_
            refine wpAnyIn_take (i := 9) (v := undef) rfl rfl (by kernel_rfl) (by kernel_rfl) (by kernel_rfl) (fun _ _ _ h => h) ⟨Or.inr ⟨by kernel_rfl, rfl⟩, fun _ => by kernel_rfl⟩ ?_
            refine wpAnyIn_take (i := 10) (v := undef) rfl rfl (by kernel_rfl) (by kernel_rfl) (by kernel_rfl) (fun _ _ _ h => h) ⟨Or.inr ⟨by kernel_rfl, rfl⟩, fun _ => by kernel_rfl⟩ ?_
            refine wpAnyIn_take (i := 11) (v := undef) rfl rfl (by kernel_rfl) (by kernel_rfl) (by kernel_rfl) (fun _ _ _ h => h) ⟨Or.inr ⟨by kernel_rfl, rfl⟩, fun _ => by kernel_rfl⟩ ?_
            refine wpAnyIn_take (i := 12) (v := undef) rfl rfl (by kernel_rfl) (by kernel_rfl) (by kernel_rfl) (fun _ _ _ h => h) ⟨Or.inr ⟨by kernel_rfl, rfl⟩, fun _ => by kernel_rfl⟩ ?_
            refine wpAnyIn_take (i := 13) (v := undef) rfl rfl (by kernel_rfl) (by kernel_rfl) (by kernel_rfl) (fun _ _ _ h => h) ⟨Or.inr ⟨by kernel_rfl, rfl⟩, fun _ => by kernel_rfl⟩ ?_
            refine wpAnyIn_take (i := 14) (v := undef) rfl rfl (by kernel_rfl) (by kernel_rfl) (by kernel_rfl) (fun _ _ _ h => h) ⟨Or.inr ⟨by kernel_rfl, rfl⟩, fun _ => by kernel_rfl⟩ ?_
            refine wpAnyIn_ready (rs := [15]) (by kernel_rfl) (by simp) ?_
            refine AllReadyIn.cons rfl (fun K hK => ?_) AllReadyIn.nil
            go_simp
            refine hK _ _ ?_
            clear hK K
            refine wpAnyIn_done (by kernel_rfl) ?_ _
            gi_wp2
            · have hb10 : (((s[k].toNat : Nat) : Int) == 10) = true := by assumption
              have hb' : s[k] = 10 := (byte_ten _).1 (by simpa using hb10)
              go_roundw
              case rel => exact ⟨k + 1, k + 1, line + 1, k + 1, pre, by go_num, by go_num, by omega, by omega, hk7, by omega, by omega, (by show _ = _; rw [hEv.out, if_pos hb', if_pos hb', List.nil_append]), hJ _ _ _ HJ3.out ((Turn.set1 B wr.drew _).trans (Turn.set2 B _ _)), (by push_cast; exact (bBd.set _).other (by omega) _), (by push_cast; exact (bB1d.other (by omega) _).set _), (bTd.other (by omega) _).other (by omega) _, hKBd.keep ((Below.heap_setCell _ _ _ 0 (by simp)).trans (Below.heap_setCell _ _ _ 0 (by simp; omega))), by simp [World.setCell]; omega⟩
              case measure => simp [intOf]; omega
            · have hb10 : (((s[k].toNat : Nat) : Int) == 10) = false := by assumption
              have hb' : ¬ s[k] = 10 := fun e => by rw [(byte_ten _).2 e] at hb10; simp at hb10
              go_roundw
              case rel => exact ⟨k + 1, k + 1, line, ls, pre, by go_num, by go_num, by omega, by omega, hk7, by omega, by omega, (by show _ = _; rw [hEv.out, if_neg hb', if_neg hb', List.nil_append]), HJ3, bBd, bB1d, bTd, hKBd, hszd⟩
              case measure => simp [intOf]; omega
        · have hq2 : (q != 1) = true := by simpa using hq1
          have hE : Hid (events s = pre ++ evs s (s.data.toList.drop (k + 1)) (k + 1) start line ls) := by show _ = _; rw [hev.out, ev_skip s k start line ls hlt hC'.out (by rw [Hq.out]; exact hq1)]
          have hk7 : k + 1 ≤ 65536 := code_lt hC'.out hk6
          clear hq1
          gi_wp2_with fail
          refine (lift.out (byteFault_any s k _ hlt hs hKBr)).mono ?_
          rintro e w' ⟨rfl, hw⟩
          have hw' := hw.symm
          subst hw'
          rw [HC.out]
          gi_wp2_with fail
          refine (lift.out (kindOf_any _ _ (Int.natCast_nonneg _) (byte_lt _) hKBr)).mono ?_
          rintro e w' ⟨rfl, hw⟩
          have hw' := hw.symm
          subst hw'
          rw [Hq.out]
          gi_wp2
          go_roundw
          case rel => exact ⟨k + 1, start, line, ls, pre, by go_num, rfl, by omega, by omega, hk7, by omega, by omega, hE, hJp, bB, bB1, bT, hKBr, hsz⟩
          case measure => simp [intOf]; omega
      · have hne : (C != 0) = true := by simpa using hC0
        have hE : Hid (events s = pre ++ [(⟨⟨#[]⟩, k, line, k - ls + 1⟩, C)]) := by show _ = _; rw [hev.out, ev_fault s k start line ls hlt (by rw [← hC]; exact hC0), hC]
        clear hC
        obtain ⟨fn, tmps, assign, body, hy, hR⟩ := hY pre (⟨⟨#[]⟩, k, line, k - ls + 1⟩, C) (wr.alloc (.cells #[.int .i64 k, .int .i64 line, .int .i64 (k - ls + 1)] 30)) (hJ _ _ _ hJp.out (Turn.alloc B wr _)) (by show (0 : Nat) ≤ 65536; omega) (by simp; omega)
        unfold tokV at hy
        dsimp only at hy
        gi_wp2_with fail
        refine (lift.out (byteFault_any s k _ hlt hs hKBr)).mono ?_
        rintro e w' ⟨rfl, hw⟩
        have hw' := hw.symm
        subst hw'
        rw [HC.out]
        gi_wp2_with fail
        refine (lift.out (placeFn_any k line ls B (B + 1) _ (by omega) (by omega) (by omega) (by omega) cB cB1)).mono ?_
        rintro e w' ⟨rfl, hw⟩
        subst hw
        gi_wp2
        refine hR.mono ?_
        rintro e W3 (⟨rfl, hJ3, hk3⟩ | ⟨rfl, hJx3⟩)
        · gi_wp2
          refine bodyPost_ret (results_none rfl _ _ _) rfl ?_
          exact ⟨⟨_, rfl⟩, .inl (by rw [hE.out]; exact hJ3)⟩
        · gi_wp2
          refine bodyPost_ret (results_none rfl _ _ _) rfl ?_
          exact ⟨⟨_, rfl⟩, .inr ⟨_, by rw [hE.out]; exact List.prefix_rfl, hJx3⟩⟩
    · have hkk : k = s.size := by omega
      have hEe := ev_end s k start line ls (by omega)
      by_cases hst : start < k
      · rw [if_pos hst] at hEe
        have hEv : Hid (events s = pre ++ [(wordAt s start s.size line ls, 0)]) := by show _ = _; rw [hev.out, hEe, hkk]
        have hst1 : (start : Int) < (s.size : Int) := by omega
        have hst0 : (0 : Int) ≤ (start : Int) := by omega
        have hst2 : start ≤ 65536 := by omega
        have hst4 : ¬ s.size < start := by omega
        have hst3 : s.size ≤ 65536 := by omega
        have hmx : Tryd.prog.follows .mixedOrders = true := by kernel_rfl
        have hnk : ¬ k < s.size := by omega
        clear hEe hst hkk hev
        obtain ⟨fn, tmps, assign, body, hy, hR⟩ := hY pre (wordAt s start s.size line ls, 0) ((wr.alloc (.cells #[.int .i64 start, .int .i64 line, .int .i64 (start - ls + 1)] 30)).drew) (hJ _ _ _ hJp.out ((Turn.alloc B wr _).trans (Turn.drew B _))) (by show (s.extract start s.size).size ≤ 65536; rw [ByteArray.size_extract]; omega) (by show B + 2 ≤ (wr.alloc _).heap.size; simp; omega)
        unfold tokV wordAt at hy
        dsimp only at hy
        gi_wp2_with fail
        refine wpIn_region_any (by assumption) ?_
        change wpAnyIn _ _ _ _ _ _ _ _ _ (World.drew _)
        refine wpAnyIn_take (i := 0) (v := .func (.yield l) #[] #[]) rfl rfl (by kernel_rfl) (by kernel_rfl) (by kernel_rfl) (fun _ _ _ h => h) ⟨Or.inl ⟨by kernel_rfl, fun w => by kernel_rfl⟩, fun _ => by kernel_rfl⟩ ?_
        refine wpAnyIn_take (i := 2) (v := .int .i64 start) rfl rfl (by kernel_rfl) (by kernel_rfl) (by kernel_rfl) (fun _ _ _ h => h) ⟨Or.inl ⟨by kernel_rfl, fun w => by kernel_rfl⟩, fun _ => by kernel_rfl⟩ ?_
        refine wpAnyIn_take (i := 4) (v := .func (.func 35) #[] #[.pointer (some ⟨B, 0, none⟩), .pointer (some ⟨B + 1, 0, none⟩)]) rfl rfl (by kernel_rfl) (by kernel_rfl) (by kernel_rfl) (fun _ _ _ h => h) ⟨Or.inl ⟨by kernel_rfl, fun w => by kernel_rfl⟩, fun _ => by kernel_rfl⟩ ?_
        refine wpAnyIn_take (i := 5) (v := .int .i64 start) rfl rfl (by kernel_rfl) (by kernel_rfl) (by kernel_rfl) (fun _ _ _ h => h) ⟨Or.inl ⟨by kernel_rfl, fun w => by kernel_rfl⟩, fun _ => by kernel_rfl⟩ ?_
        refine wpAnyIn_ready (rs := [1, 6]) (by kernel_rfl) (by simp) ?_
        refine AllReadyIn.cons rfl (fun K hK => ?_) (AllReadyIn.cons rfl (fun K hK => ?_) AllReadyIn.nil)
        case' refine_1 =>
          go_simp
          refine hK _ _ ?_
          clear hK K
          refine wpAnyIn_take (i := 3) (v := .string (s.extract start s.size)) rfl rfl (by kernel_rfl) (by kernel_rfl) (by kernel_rfl) (fun _ _ _ h => h) ⟨Or.inl ⟨by kernel_rfl, fun w => by go_simp⟩, fun _ => by kernel_rfl⟩ ?_
          refine wpAnyIn_ready (rs := [6]) (by kernel_rfl) (by simp) ?_
          refine AllReadyIn.cons rfl (fun K hK => ?_) AllReadyIn.nil
          go_simp
          refine (lift.out (placeFn_any start line ls B (B + 1) _ (by omega) (by omega) (by omega) (by omega) (by exact cB) (by exact cB1))).mono ?_
          rintro e w' ⟨rfl, hw⟩
          subst hw
          go_simp
          refine hK _ _ ?_
          clear hK K
        case' refine_2 =>
          go_simp
          refine (lift.out (placeFn_any start line ls B (B + 1) _ (by omega) (by omega) (by omega) (by omega) (by exact cB) (by exact cB1))).mono ?_
          rintro e w' ⟨rfl, hw⟩
          subst hw
          go_simp
          refine hK _ _ ?_
          clear hK K
          refine wpAnyIn_ready (rs := [1]) (by kernel_rfl) (by simp) ?_
          refine AllReadyIn.cons rfl (fun K hK => ?_) AllReadyIn.nil
          go_simp
          refine hK _ _ ?_
          clear hK K
          refine wpAnyIn_take (i := 3) (v := .string (s.extract start s.size)) rfl rfl (by kernel_rfl) (by kernel_rfl) (by kernel_rfl) (fun _ _ _ h => h) ⟨Or.inl ⟨by kernel_rfl, fun w => by go_simp⟩, fun _ => by kernel_rfl⟩ ?_
        all_goals
          refine wpAnyIn_take (i := 7) (v := .agg #[.string (s.extract start s.size), .int .i64 start, .int .i64 line, .int .i64 (start - ls + 1)]) rfl rfl (by kernel_rfl) (by kernel_rfl) (by kernel_rfl) (fun _ _ _ h => h) ⟨Or.inl ⟨by kernel_rfl, fun w => by go_simp⟩, fun _ => by kernel_rfl⟩ ?_
          refine wpAnyIn_ready (rs := [8]) (by kernel_rfl) (by simp) ?_
          refine AllReadyIn.cons rfl (fun K hK => ?_) AllReadyIn.nil
          go_simp
          refine RoundIn.mono hR ?_
          rintro e W3 hp
          obtain ⟨b, rfl, hb⟩ := hp.out
          go_simp
          refine hK _ _ ?_
          clear hK K
          refine wpAnyIn_done (by kernel_rfl) ?_ _
          gi_wp2
          go_end0
          refine ⟨⟨_, rfl⟩, ?_⟩
          cases b with
          | true => exact .inl (by rw [hEv.out]; exact (hb.out.1 rfl).1)
          | false => exact .inr ⟨_, by rw [hEv.out]; exact List.prefix_rfl, hb.out.2 rfl⟩
      · rw [if_neg hst] at hEe
        have hEv : Hid (events s = pre) := by show _ = _; rw [hev.out, hEe, List.append_nil]
        have hst1 : ¬ (start : Int) < (s.size : Int) := by omega
        have hnk : ¬ k < s.size := by omega
        clear hEe hst hkk hev
        gi_wp2
        go_end0
        exact ⟨⟨_, rfl⟩, .inl (by rw [hEv.out]; exact hJp.out)⟩
end Go.Proofs.YtekbddpdcjbinaaDoor
