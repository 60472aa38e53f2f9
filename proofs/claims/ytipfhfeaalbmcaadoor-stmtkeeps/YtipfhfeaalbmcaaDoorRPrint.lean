/- The document's answer: Print. -/
import Derived.Test.YtipfhfeaalbmcaaDoorRLine
import Derived.Test.YtipfhfeaalbmcaaDoorPrint
import Derived.Laws.BytesArg
namespace Go.Proofs.YtipfhfeaalbmcaaDoor
open Go.RowKit

def jn : List ByteArray → List UInt8
  | [] => []
  | x :: r => x.data.toList ++ r.flatMap fun y => 32 :: y.data.toList
theorem jn_snoc (l : List ByteArray) (x : ByteArray) (h : l ≠ []) : jn (l ++ [x]) = jn l ++ [32] ++ x.data.toList := by
  cases l with
  | nil => exact absurd rfl h
  | cons y r => simp [jn]
def lineWS (s : Stm) : List ByteArray := lineW s.kind.toNat s.label s.words s.proof
def rbytes (l : List Stm) : List UInt8 := l.flatMap fun s => jn (lineWS s) ++ [10]
def rcount (l : List Stm) : Nat := (l.map fun s => (lineWS s).length).sum
theorem rbytes_step {l : List Stm} {j : Nat} {s : Stm} (h : l[j]? = some s) : rbytes (l.take (j + 1)) = rbytes (l.take j) ++ jn (lineWS s) ++ [10] := by
  unfold rbytes
  rw [List.take_add_one, h, List.flatMap_append]
  simp
theorem rcount_step {l : List Stm} {j : Nat} {s : Stm} (h : l[j]? = some s) : rcount (l.take (j + 1)) = rcount (l.take j) + (lineWS s).length := by
  unfold rcount
  rw [List.take_add_one, h, List.map_append, List.sum_append]
  simp
theorem rbytes_le (l : List Stm) (j : Nat) : (rbytes (l.take j)).length ≤ (rbytes l).length := by
  unfold rbytes
  conv => rhs; rw [← List.take_append_drop j l, List.flatMap_append, List.length_append]
  omega
theorem rcount_le (l : List Stm) (j : Nat) : rcount (l.take j) ≤ rcount l := by
  unfold rcount
  conv => rhs; rw [← List.take_append_drop j l, List.map_append, List.sum_append]
  omega
theorem jn_len_le (l : List ByteArray) (j : Nat) : (jn (l.take j)).length ≤ (jn l).length := by
  cases l with
  | nil => simp
  | cons x r =>
    cases j with
    | zero => simp [jn]
    | succ j =>
      simp only [List.take_succ_cons, jn, List.length_append]
      have h : ((r.take j).flatMap fun y => 32 :: y.data.toList).length ≤ (r.flatMap fun y => 32 :: y.data.toList).length := by
        conv => rhs; rw [← List.take_append_drop j r, List.flatMap_append, List.length_append]
        omega
      omega
def rprintB (l : List Stm) : ByteArray := if l.all mayS = true ∧ ¬ (65536 < (rbytes l).length ∨ 16384 < rcount l) then ⟨(rbytes l).toArray⟩ else ⟨#[]⟩
def rprintE (l : List Stm) : Int := if l.all mayS = true then (if 65536 < (rbytes l).length ∨ 16384 < rcount l then 13 else 0) else 62
/-- A row of bytes that is one's own. -/
def OwnB (W : World) (base : Nat) (v : Value) (l : List UInt8) : Prop := W.ownsRow base 5 1 v l.length (l.map byteV)
def Ap (v u : Value) : Prop := ∀ g, u.ownBlock = some g → v.ownBlock ≠ some g
theorem strOf_bytes (l : List UInt8) : strOfNums (l.map fun c => (c.toNat : Int)) = ⟨l.toArray⟩ := by
  unfold strOfNums
  rw [List.map_map]
  congr 2
  conv => rhs; rw [← List.map_id l]
  apply List.map_congr_left
  intro c _
  simp
theorem conv_own {W : World} {base : Nat} {v : Value} {n : Nat} {l : List UInt8} (h : W.ownsRow base 5 1 v n (l.map byteV)) : (convert 81 9 v).run Tryd.prog W = .ok (.string ⟨l.toArray⟩) W := by
  have hl : l.length = n := by have := h.1; simpa using this
  rcases Nat.eq_zero_or_pos n with h0 | h0
  · subst h0
    have hl : l = [] := List.eq_nil_of_length_eq_zero hl
    subst hl
    rcases h.2 with ⟨rfl, _⟩ | ⟨g, cap, cur, rfl, _⟩
    · have := run_convert_bytes_nil (P := Tryd.prog) W 81 5 Tryd.underlying81 Tryd.underlying5 0 0 9 Tryd.underlying9
      exact this
    · have h1 := run_convert_bytes_arg (P := Tryd.prog) W 81 5 Tryd.underlying81 Tryd.underlying5 g 0 0 cap [] rfl (fun i hi => by omega) 9 Tryd.underlying9
      exact h1
  · obtain ⟨g, c, rfl, _, _, _⟩ := M.own_some h h0
    have h1 := run_convert_bytes_arg (P := Tryd.prog) W 81 5 Tryd.underlying81 Tryd.underlying5 g 0 n c (l.map fun c => (c.toNat : Int)) (by rw [List.length_map]; exact hl) (fun i hi => by
      rw [Nat.zero_add, M.row_cells h i (byteV (l[i]'(by omega))) (by rw [List.getElem?_map, List.getElem?_eq_getElem (by omega : i < l.length)]; rfl)]
      simp only [List.getD, List.getElem?_map]
      rw [List.getElem?_eq_getElem (by omega : i < l.length)]
      rfl) 9 Tryd.underlying9
    rw [strOf_bytes] at h1
    exact h1
/-- One more byte. -/
theorem push_byte {ops : Array Oper} {rest : List Oper} {o : Oper} {a : Act} {Q : Exit → Act → World → Prop} (w : World) (hgd : o.guard = none) (s x : Operand) (ho : o.op = .call { callee := .builtin .append, args := #[s, x], argTypes := #[81, 81] })
    (base : Nat) (v : Value) (l : List UInt8) (c : UInt8) (ci : Int) (hci : (c.toNat : Int) = ci) (hs : a.eval s = v) (hown : OwnB w base v l) (hx : a.eval x = .slice (some ⟨w.heap.size, 0, none⟩) 1 1) (hn : l.length ≤ 1099511627776) (hbase : base ≤ w.heap.size)
    (u : Value) (l8 : List ByteArray) (b8 : Nat) (h8 : OwnS w b8 u l8) (hap : Ap v u)
    (h : ∀ a' c' w', OwnB w' base (.slice a' (l.length + 1) c') (l ++ [c]) → Below base w w' → OwnS w' b8 u l8 → Ap (.slice a' (l.length + 1) c') u → wpList Tryd.prog ops Q rest (a.put o.dst (.slice a' (l.length + 1) c')) w') : wpList Tryd.prog ops Q (o :: rest) a (w.alloc (.cells #[.int .u8 ci] 5)) := by
  obtain ⟨i0, hi0, hz0, hz1, hz3⟩ := info_parts infoY
  refine wpList_append_lies (w := w.alloc (.cells #[.int .u8 ci] 5)) hgd s x 81 ho base 5 i0 (.int .u8 0) 1 1 Tryd.underlying81 hi0 hz0 hz1 hz3 rfl (by decide) v l.length (l.map byteV) hs (M.owns_alloc hown _) ⟨w.heap.size, 0, none⟩ 1 1 [.int .u8 ci] hx rfl (fun j' u hu => World.news_of_block (cs := #[.int .u8 ci]) (t := 5) (fr := (0, 0)) (heap_alloc_new w _) j' u hu) (by simp [Value.oneCell']) (by omega) (by unfold maxLen; omega) (by omega) (by simp; omega) _ rfl ?_
  intro g c' w' ho' hg' hl' _
  have h8' : OwnS (w.alloc (.cells #[.int .u8 ci] 5)) b8 u l8 := M.owns_alloc h8 _
  refine h _ c' w' ?_ (((Below.refl _ w).alloc hbase _).trans ((Below.refl _ _).grown hg' (by simp; omega) (M.own_ge' hown))) (M.owns_ch h8' (M.Ch.of_grown hg') fun b e hx => hap b e hx) fun b e e2 => ?_
  · unfold OwnB
    rw [List.length_append, List.map_append, show [c].map byteV = [Value.int .u8 ci] by rw [← hci]; rfl]
    exact ho'
  · rcases M.loc_of (c := c') (n := l.length + 1) hl' b e2 with h1 | h1
    · exact hap b e h1
    · have := M.own_lt h8' b e; omega
/-- One more text. -/
theorem push_text {ops : Array Oper} {rest : List Oper} {o : Oper} {a : Act} {Q : Exit → Act → World → Prop} (w : World) (hgd : o.guard = none) (s x : Operand) (ho : o.op = .call { callee := .builtin .append, args := #[s, x], argTypes := #[81, 9] })
    (base : Nat) (v : Value) (l : List UInt8) (t : ByteArray) (hs : a.eval s = v) (hown : OwnB w base v l) (hx : a.eval x = .string t) (hn : l.length + t.size ≤ 1099511627776) (hbase : base ≤ w.heap.size)
    (u : Value) (l8 : List ByteArray) (b8 : Nat) (h8 : OwnS w b8 u l8) (hap : Ap v u)
    (h : ∀ a' c' w', OwnB w' base (.slice a' (l.length + t.size) c') (l ++ t.data.toList) → Below base w w' → OwnS w' b8 u l8 → Ap (.slice a' (l.length + t.size) c') u → wpList Tryd.prog ops Q rest (a.put o.dst (.slice a' (l.length + t.size) c')) w') : wpList Tryd.prog ops Q (o :: rest) a w := by
  obtain ⟨i0, hi0, hz0, hz1, hz3⟩ := info_parts infoY
  refine wpList_append_str (w := w) hgd s x 81 9 ho base 5 i0 Tryd.underlying81 Tryd.underlying9 hi0 hz0 hz1 hz3 v l.length (l.map byteV) hs hown t hx (by unfold maxLen; omega) (by omega) hbase ?_
  intro a' c' w' ho' hg' hl'
  refine h a' c' w' ?_ ((Below.refl _ _).grown hg' hbase (M.own_ge' hown)) (M.owns_ch h8 (M.Ch.of_grown hg') fun b e hx => hap b e hx) fun b e e2 => ?_
  · unfold OwnB
    rw [List.length_append, List.map_append, size_list]
    exact ho'
  · rcases hl' b e2 with h1 | h1
    · exact hap b e h1
    · have := M.own_lt h8 b e; omega

set_option maxRecDepth 100000 in
set_option maxHeartbeats 16000000 in
theorem rprint_any (w : World) (a : Option Addr) (n c : Nat) (l : List Stm) (hl : l.length = n) (hn : n ≤ 1048576) (hsm : ∀ s ∈ l, StmSm s) (hS : StmtsAt w a l) (hby : (rbytes l).length ≤ 1073741824) (hco : rcount l ≤ 1073741824) :
    Calls Tryd.prog 11 #[.slice a n c] w fun e w' => e = .returned (.tuple #[.string (rprintB l), .int .i64 (rprintE l)]) ∧ Below w.heap.size w w' := by
  have HS : Hid (StmtsAt w a l) := hS
  have HL : Hid (l.length = n) := hl
  have SM : Hid _ := hsm
  have HBY : Hid ((rbytes l).length ≤ 1073741824) := hby
  have HCO : Hid (rcount l ≤ 1073741824) := hco
  clear hS hl hsm hby hco
  go_enter Tryd.func11, Tryd.ntmps11
  go_wp2_with fail
  go_loopw [4] (fun i wx => ∃ j : Nat, j ≤ n ∧ i = .int .i64 j ∧ Hid ((l.take j).all mayS = true) ∧ Hid (Below w.heap.size w wx)) (fun i _ => n - (intOf i).toNat)
  case atStart => exact ⟨0, Nat.zero_le _, rfl, rfl, Below.refl _ _⟩
  case round =>
    obtain ⟨j, hj, rfl, hM, hB⟩ := hrel
    by_cases hlt : j < n
    · have n1 : (j : Int) < (n : Int) := by omega
      obtain ⟨s, hs⟩ : ∃ s, l[j]? = some s := ⟨l[j]'(by rw [HL.out]; exact hlt), List.getElem?_eq_getElem _⟩
      obtain ⟨b, off, aw, cw, ap, cp, hax, hc, hT, hPf, _, _⟩ := (HS.out.under hB.out) j s hs
      have sm := SM.out s (List.mem_of_getElem? hs)
      have HST : Hid (l[j]? = some s) := hs
      obtain ⟨k, lb, ky, pr, ws, ps, fn⟩ := s
      obtain ⟨x0, x1, x2, x3, x4, x5, x6, x7, x8, x9, x10, x11, x12, x13, x14, x15⟩ := cells16 hc
      dsimp only at *
      obtain ⟨nw, hnw⟩ : ∃ nw, ws.length = nw := ⟨_, rfl⟩
      obtain ⟨np, hnp⟩ : ∃ np, ps.length = np := ⟨_, rfl⟩
      rw [hnw] at x10
      rw [hnp] at x11
      have MD : Hid _ := rmay_any wr k lb ky fn pr aw nw cw ap np cp ws ps hnw hnp (by rw [← hnw]; exact sm.nw) (by rw [← hnp]; exact sm.np) sm.sw sm.sp sm.sl hT hPf
      subst hax
      clear hs hc hT hPf sm hnw hnp
      cases hmay : mayK k lb ws ps with
      | false =>
        rw [hmay] at MD
        have HB0 : Hid (l.all mayS = false) := by
          show _ = _
          rw [List.all_eq_false]
          exact ⟨_, List.mem_of_getElem? HST.out, by show ¬ mayK k lb ws ps = true; rw [hmay]; simp⟩
        clear hmay
        go_wp2_with fail
        refine Calls.mono MD.out ?_
        rintro e w3 ⟨rfl, hb3⟩
        have B3 : Hid (Below w.heap.size w w3) := hB.out.trans (hb3.mono hB.out.size)
        clear MD hb3
        go_wp2
        go_ret2
        refine ⟨?_, B3.out⟩
        unfold rprintB rprintE
        rw [HB0.out, if_neg (by simp), if_neg (by simp)]
        rfl
      | true =>
        rw [hmay] at MD
        have HM2 : Hid ((l.take (j + 1)).all mayS = true) := by
          show _ = _
          rw [List.take_add_one, HST.out, List.all_append, hM.out]
          show (true && _) = true
          simp only [Option.toList_some, List.all_cons, List.all_nil, Bool.and_true, Bool.true_and]
          exact hmay
        clear hmay
        go_wp2_with fail
        refine Calls.mono MD.out ?_
        rintro e w3 ⟨rfl, hb3⟩
        have B3 : Hid (Below w.heap.size w w3) := hB.out.trans (hb3.mono hB.out.size)
        clear MD hb3 x0 x1 x2 x3 x4 x5 x6 x7 x8 x9 x10 x11 x12 x13 x14 x15
        go_wp2
        exact ⟨⟨j + 1, by omega, by go_num, HM2.out, B3.out⟩, by simp [intOf]; omega⟩
    · have n1 : ¬ (j : Int) < (n : Int) := by omega
      have HMA : Hid (l.all mayS = true) := by have h := hM.out; rw [List.take_of_length_le (by rw [HL.out]; omega)] at h; exact h
      go_wp2_with fail
      obtain ⟨N, hN⟩ : ∃ N, w.heap.size = N := ⟨_, rfl⟩
      have HN : Hid (w.heap.size = N) := hN
      have B0 : Hid (Below N w wr) := by rw [← hN]; exact hB.out
      clear hN hB hM
      go_loopw [5, 6, 7] (fun v5 v6 i wx => ∃ (j q : Nat), j ≤ n ∧ q ≤ 1073741824 ∧ i = .int .i64 j ∧ v6 = .int .i64 q ∧ Hid (rcount (l.take j) = q) ∧ Hid (OwnB wx N v5 (rbytes (l.take j))) ∧ Hid (Below N w wx)) (fun _ _ i _ => n - (intOf i).toNat)
      case atStart => exact ⟨0, 0, Nat.zero_le _, Nat.zero_le _, rfl, rfl, rfl, World.ownsRow_nil _ _ _ _, B0.out⟩
      case round =>
        obtain ⟨j2, q, hj2, hq, rfl, rfl, hC, hO, hB2⟩ := hrel
        by_cases hlt2 : j2 < n
        · have n2 : (j2 : Int) < (n : Int) := by omega
          have hB : Below w.heap.size w wr := by rw [HN.out]; exact hB2.out
          obtain ⟨s, hs⟩ : ∃ s, l[j2]? = some s := ⟨l[j2]'(by rw [HL.out]; exact hlt2), List.getElem?_eq_getElem _⟩
          obtain ⟨b, off, aw, cw, ap, cp, hax, hc, hT, hPf, _, _⟩ := (HS.out.under hB) j2 s hs
          have sm := SM.out s (List.mem_of_getElem? hs)
          have hkk := may_kind (s := s) (List.all_eq_true.1 HMA.out s (List.mem_of_getElem? hs))
          have hst := rbytes_step hs
          have hct := rcount_step hs
          have hle := rbytes_le l (j2 + 1)
          have hlc := rcount_le l (j2 + 1)
          obtain ⟨k, lb, ky, pr, ws, ps, fn⟩ := s
          obtain ⟨x0, x1, x2, x3, x4, x5, x6, x7, x8, x9, x10, x11, x12, x13, x14, x15⟩ := cells16 hc
          dsimp only at *
          obtain ⟨kk, hkn⟩ : ∃ kk : Nat, (kk : Int) = k := ⟨k.toNat, by omega⟩
          obtain ⟨lw, hlw⟩ : ∃ lw, lw = lineW kk lb ws ps := ⟨_, rfl⟩
          have hlw2 : lineWS ⟨k, lb, ky, pr, ws, ps, fn⟩ = lw := by rw [hlw]; unfold lineWS; dsimp only; rw [show k.toNat = kk by omega]
          rw [hlw2] at hst hct
          obtain ⟨m, hm⟩ : ∃ m, lw.length = m := ⟨_, rfl⟩
          obtain ⟨pre, hpre⟩ : ∃ pre, pre = rbytes (l.take j2) := ⟨_, rfl⟩
          rw [← hpre] at hst
          rw [hm, hC.out] at hct
          have hqm : q + m ≤ 1073741824 := by have := HCO.out; omega
          have hbm : (pre ++ jn lw).length + 1 ≤ 1073741824 := by have h1 := HBY.out; rw [hst, List.length_append] at hle; simp at hle ⊢; omega
          have HST : Hid (rbytes (l.take (j2 + 1)) = pre ++ jn lw ++ [10]) := hst
          have HCT : Hid (rcount (l.take (j2 + 1)) = q + m) := hct
          have HBM : Hid ((pre ++ jn lw).length + 1 ≤ 1073741824) := hbm
          subst hkn
          obtain ⟨nw, hnw⟩ : ∃ nw, ws.length = nw := ⟨_, rfl⟩
          obtain ⟨np, hnp⟩ : ∃ np, ps.length = np := ⟨_, rfl⟩
          rw [hnw] at x10
          rw [hnp] at x11
          have RL : Hid _ := rline_any wr kk (by omega) lb ky fn pr aw nw cw ap np cp ws ps hnw hnp (by rw [← hnw]; exact sm.nw) (by rw [← hnp]; exact sm.np) hT hPf
          rw [← hlw] at RL
          have HMm : Hid (lw.length = m) := hm
          have OB0 : Hid (OwnB wr N u5 pre) := by show OwnB _ _ _ _; rw [hpre]; exact hO.out
          subst hax
          clear hs hc hT hPf sm hnw hnp hkk hst hct hle hlc hlw hlw2 hpre hO hC hm hbm hB
          go_wp2_with fail
          refine Calls.mono RL.out ?_
          rintro e w3 ⟨hb3, v8, rfl, h8⟩
          have h8' : w3.ownsRow wr.heap.size 9 1 v8 m (strV lw) := by have h := h8; unfold OwnS at h; rw [HMm.out] at h; exact h
          obtain ⟨a8, c8, rfl, hc8, hcell⟩ := M.own_cell h8'
          obtain ⟨N8, hN8⟩ : ∃ N8, wr.heap.size = N8 := ⟨_, rfl⟩
          rw [hN8] at h8
          have OS0 : Hid (OwnS w3 N8 (.slice a8 m c8) lw) := h8
          have AP0 : Hid (Ap u5 (.slice a8 m c8)) := fun g e e2 => by have h1 := M.own_ge' h8' g e; have h2 := M.own_lt OB0.out g e2; omega
          have OB3 : Hid (OwnB w3 N u5 pre) := M.owns_ch OB0.out (M.Ch.of_below (X := fun _ => False) hb3) fun _ _ e => e
          have HB3 : Hid (Below N w w3) := hB2.out.trans (hb3.mono (by have h1 := hB2.out.size; have h2 := HN.out; omega))
          clear RL h8 h8' hcell hN8 hb3 OB0 hB2 x0 x1 x2 x3 x4 x5 x6 x7 x8 x9 x10 x11 x12 x13 x14 x15
          go_wp2_with fail
          go_loopw [5, 9] (fun v5 i wx => ∃ t : Nat, t ≤ m ∧ i = .int .i64 t ∧ Hid (OwnB wx N v5 (pre ++ jn (lw.take t))) ∧ Hid (OwnS wx N8 (.slice a8 m c8) lw) ∧ Hid (Ap v5 (.slice a8 m c8)) ∧ Hid (Below N w wx)) (fun _ i _ => m - (intOf i).toNat)
          case atStart => exact ⟨0, Nat.zero_le _, rfl, (by show OwnB _ _ _ _; rw [show pre ++ jn (lw.take 0) = pre by simp [jn]]; exact OB3.out), OS0.out, AP0.out, HB3.out⟩
          case round =>
            clear OB3 OS0 AP0 HB3
            obtain ⟨t, ht, rfl, hOB, OS, AP, HB⟩ := hrel
            have HBS : Hid (N ≤ wr.heap.size) := by have h1 := HB.out.size; have h2 := HN.out; show N ≤ _; omega
            by_cases htm : t < m
            · have t1 : (t : Int) < (m : Int) := by omega
              have t2 : (t : Int) + 1 ≤ (m : Int) := by omega
              obtain ⟨x, hx⟩ : ∃ x, lw[t]? = some x := ⟨lw[t]'(by rw [HMm.out]; exact htm), List.getElem?_eq_getElem _⟩
              obtain ⟨_, _, e8, _, hcell⟩ := M.own_cell (show wr.ownsRow N8 9 1 (.slice a8 m c8) m (strV lw) by have h := OS.out; unfold OwnS at h; rw [HMm.out] at h; exact h)
              cases e8
              obtain ⟨g8, ha8, y0⟩ := hcell t (.string x) (by unfold strV; rw [List.getElem?_map, hx]; rfl)
              obtain ⟨Lb, hLb⟩ : ∃ Lb, Lb = pre ++ jn (lw.take t) := ⟨_, rfl⟩
              have OB : Hid (OwnB wr N u5 Lb) := by show OwnB _ _ _ _; rw [hLb]; exact hOB.out
              have htk : lw.take (t + 1) = lw.take t ++ [x] := by rw [List.take_add_one, hx]; rfl
              have hjl := jn_len_le lw (t + 1)
              have hpl := HBM.out
              rw [List.length_append] at hpl
              by_cases h0 : t = 0
              · subst h0
                have HE : Hid (pre ++ jn (lw.take (0 + 1)) = Lb ++ x.data.toList) := by show _ = _; rw [htk, hLb]; simp [jn]
                have HLX : Hid (Lb.length + x.size ≤ 1099511627776) := by
                  show _ ≤ _
                  have h := congrArg List.length HE.out
                  rw [List.length_append, List.length_append, size_list] at h
                  omega
                have z0 : ¬ ((0 : Int) < ((0 : Nat) : Int)) := by omega
                subst ha8
                clear hx hcell hLb htk hjl hpl hOB
                go_wp2_with (at_builtin; (refine push_text wr rfl _ _ rfl N _ Lb x (by rfl) OB.out (by rfl) HLX.out HBS.out (.slice (some ⟨g8, 0, none⟩) m c8) lw N8 OS.out AP.out ?_; intro a6 c6 w6 ho6 hb6 hs6 hp6; have OB6 : Hid (OwnB w6 N (.slice a6 (Lb.length + x.size) c6) (Lb ++ x.data.toList)) := ho6; have HB6 : Hid (Below N w w6) := HB.out.trans hb6; have OS6 : Hid (OwnS w6 N8 (.slice (some ⟨g8, 0, none⟩) m c8) lw) := hs6; have AP6 : Hid (Ap (.slice a6 (Lb.length + x.size) c6) (.slice (some ⟨g8, 0, none⟩) m c8)) := hp6; clear ho6 hb6 hs6 hp6))
                exact ⟨⟨0 + 1, by omega, by go_num, (by show OwnB _ _ _ _; rw [HE.out]; unfold OwnB; rw [List.length_append, size_list]; have h := OB6.out; unfold OwnB at h; rw [List.length_append, size_list] at h; exact h), OS6.out, AP6.out, HB6.out⟩, by simp [intOf]; omega⟩
              · have z0 : (0 : Int) < (t : Int) := by omega
                have hne : lw.take t ≠ [] := fun e => by have h := congrArg List.length e; rw [List.length_take, HMm.out] at h; simp at h; omega
                have HE : Hid (pre ++ jn (lw.take (t + 1)) = Lb ++ [32] ++ x.data.toList) := by show _ = _; rw [htk, jn_snoc _ _ hne, hLb]; simp
                have hlx : Lb.length + 1 + x.size ≤ 1099511627776 := by
                  have h := congrArg List.length HE.out
                  rw [List.length_append, List.length_append, List.length_append, size_list] at h
                  simp at h
                  omega
                have HLN : Hid (Lb.length ≤ 1099511627776) := by show _ ≤ _; omega
                subst ha8
                have HX : Hid (lw[t]? = some x) := hx
                clear hx hcell hLb htk hjl hpl hOB hne
                go_upto_region 18 with (at_builtin; (refine push_byte wr rfl _ _ rfl N _ Lb 32 32 rfl (by rfl) OB.out (by rfl) HLN.out HBS.out (.slice (some ⟨g8, 0, none⟩) m c8) lw N8 OS.out AP.out ?_; intro a5 c5 w5 ho5 hb5 hs5 hp5; have OB5 : Hid (OwnB w5 N (.slice a5 (Lb.length + 1) c5) (Lb ++ [32])) := ho5; have HB5 : Hid (Below N w w5) := HB.out.trans hb5; have OS5 : Hid (OwnS w5 N8 (.slice (some ⟨g8, 0, none⟩) m c8) lw) := hs5; have AP5 : Hid (Ap (.slice a5 (Lb.length + 1) c5) (.slice (some ⟨g8, 0, none⟩) m c8)) := hp5; clear ho5 hb5 hs5 hp5))
                obtain ⟨Lc, hLc⟩ : ∃ Lc, Lc = Lb ++ [32] := ⟨_, rfl⟩
                have hlc : Lc.length = Lb.length + 1 := by rw [hLc]; simp
                have HLX : Hid (Lc.length + x.size ≤ 1099511627776) := by show _ ≤ _; omega
                have OBc : Hid (OwnB w5 N (.slice a5 Lc.length c5) Lc) := by show OwnB _ _ _ _; rw [hlc, hLc]; exact OB5.out
                have APc : Hid (Ap (.slice a5 Lc.length c5) (.slice (some ⟨g8, 0, none⟩) m c8)) := by show Ap _ _; rw [hlc]; exact AP5.out
                have HEc : Hid (pre ++ jn (lw.take (t + 1)) = Lc ++ x.data.toList) := by show _ = _; rw [HE.out, hLc]
                have HBSc : Hid (N ≤ w5.heap.size) := by have h1 := HB5.out.size; have h2 := HN.out; show N ≤ _; omega
                obtain ⟨_, _, e8, _, hcell⟩ := M.own_cell (show w5.ownsRow N8 9 1 (.slice (some ⟨g8, 0, none⟩) m c8) m (strV lw) by have h := OS5.out; unfold OwnS at h; rw [HMm.out] at h; exact h)
                cases e8
                obtain ⟨g9, ha9, y1⟩ := hcell t (.string x) (by unfold strV; rw [List.getElem?_map, HX.out]; rfl)
                cases ha9
                rw [← hlc]
                clear hcell hLc hlc OB OS AP HB HLN HBS OB5 AP5 HE y0 hlx
                go_wp2_with (at_builtin; (refine push_text w5 rfl _ _ rfl N _ Lc x (by rfl) OBc.out (by rfl) HLX.out HBSc.out (.slice (some ⟨g8, 0, none⟩) m c8) lw N8 OS5.out APc.out ?_; intro a7 c7 w7 ho7 hb7 hs7 hp7; have OB7 : Hid (OwnB w7 N (.slice a7 (Lc.length + x.size) c7) (Lc ++ x.data.toList)) := ho7; have HB7 : Hid (Below N w w7) := HB5.out.trans hb7; have OS7 : Hid (OwnS w7 N8 (.slice (some ⟨g8, 0, none⟩) m c8) lw) := hs7; have AP7 : Hid (Ap (.slice a7 (Lc.length + x.size) c7) (.slice (some ⟨g8, 0, none⟩) m c8)) := hp7; clear ho7 hb7 hs7 hp7))
                exact ⟨⟨t + 1, by omega, by go_num, (by show OwnB _ _ _ _; rw [HEc.out]; unfold OwnB; rw [List.length_append, size_list]; have h := OB7.out; unfold OwnB at h; rw [List.length_append, size_list] at h; exact h), OS7.out, AP7.out, HB7.out⟩, by simp [intOf]; omega⟩
            · have t1 : ¬ (t : Int) < (m : Int) := by omega
              obtain ⟨Lb, hLb⟩ : ∃ Lb, Lb = pre ++ jn lw := ⟨_, rfl⟩
              have OB : Hid (OwnB wr N u5 Lb) := by show OwnB _ _ _ _; have h := hOB.out; rw [List.take_of_length_le (by rw [HMm.out]; omega)] at h; rw [hLb]; exact h
              have HLN : Hid (Lb.length ≤ 1099511627776) := by show _ ≤ _; have h := HBM.out; rw [hLb]; omega
              have HE : Hid (rbytes (l.take (j2 + 1)) = Lb ++ [10]) := by show _ = _; rw [HST.out, hLb]
              clear hLb hOB
              go_wp2_with (at_builtin; (refine push_byte wr rfl _ _ rfl N _ Lb 10 10 rfl (by rfl) OB.out (by rfl) HLN.out HBS.out (.slice a8 m c8) lw N8 OS.out AP.out ?_; intro a11 c11 w11 ho11 hb11 hs11 hp11; have OB11 : Hid (OwnB w11 N (.slice a11 (Lb.length + 1) c11) (Lb ++ [10])) := ho11; have HB11 : Hid (Below N w w11) := HB.out.trans hb11; have OS11 : Hid (OwnS w11 N8 (.slice a8 m c8) lw) := hs11; have AP11 : Hid (Ap (.slice a11 (Lb.length + 1) c11) (.slice a8 m c8)) := hp11; clear ho11 hb11 hs11 hp11))
              exact ⟨⟨j2 + 1, q + m, by omega, hqm, by go_num, by go_num, HCT.out, (by show OwnB _ _ _ _; rw [HE.out]; unfold OwnB; have h := OB11.out; unfold OwnB at h; exact h), HB11.out⟩, by simp [intOf]; omega⟩
        · have n2 : ¬ (j2 : Int) < (n : Int) := by omega
          have hall : l.take j2 = l := List.take_of_length_le (by rw [HL.out]; omega)
          have HQ : Hid (rcount l = q) := by have h := hC.out; rw [hall] at h; exact h
          have OB : Hid (OwnB wr N u5 (rbytes l)) := by have h := hO.out; rw [hall] at h; exact h
          have BE : Hid (Below w.heap.size w wr) := by rw [HN.out]; exact hB2.out
          obtain ⟨nb, hnb⟩ : ∃ nb, (rbytes l).length = nb := ⟨_, rfl⟩
          have hob := OB.out
          unfold OwnB at hob
          rw [hnb] at hob
          obtain ⟨a5, c5, hv5, _, _⟩ := M.own_cell hob
          have CV : Hid ((convert 81 9 u5).run Tryd.prog wr = .ok (.string ⟨(rbytes l).toArray⟩) wr) := conv_own hob
          subst hv5
          have HNB : Hid ((rbytes l).length = nb) := hnb
          have hnbb : nb ≤ 1073741824 := by rw [← hnb]; exact HBY.out
          have cv := CV.out
          clear hall hC hO hB2 hnb hob OB
          by_cases f1 : 65536 < nb
          · have g1 : decide ((65536 : Int) < (nb : Int)) = true := by simp; omega
            clear cv
            go_wp2
            go_ret2
            refine ⟨?_, BE.out⟩
            unfold rprintB rprintE
            rw [HMA.out, HNB.out, if_neg (fun h => h.2 (.inl f1)), if_pos rfl, if_pos (.inl f1)]
            rfl
          · have g1 : decide ((65536 : Int) < (nb : Int)) = false := by simp; omega
            by_cases f2 : 16384 < q
            · have g2 : (16384 : Int) < (q : Int) := by omega
              clear cv
              go_wp2
              go_ret2
              refine ⟨?_, BE.out⟩
              unfold rprintB rprintE
              rw [HMA.out, HNB.out, HQ.out, if_neg (fun h => h.2 (.inr f2)), if_pos rfl, if_pos (.inr f2)]
              rfl
            · have g2 : ¬ (16384 : Int) < (q : Int) := by omega
              go_wp2
              go_ret2
              refine ⟨?_, BE.out⟩
              unfold rprintB rprintE
              rw [HMA.out, HNB.out, HQ.out, if_pos ⟨rfl, fun h => h.elim f1 f2⟩, if_pos rfl, if_neg (fun h => h.elim f1 f2)]
              rfl
end Go.Proofs.YtipfhfeaalbmcaaDoor
