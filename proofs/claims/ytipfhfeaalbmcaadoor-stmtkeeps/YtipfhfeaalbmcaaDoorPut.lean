/- put, all: words laid down on a page. -/
import Derived.Test.YtipfhfeaalbmcaaDoorPage
import Derived.Deep.Cut
namespace Go.Proofs.YtipfhfeaalbmcaaDoor
open Go.RowKit

def putS (s : Pst) (x : ByteArray × UInt8) : Pst := if s.full = true ∨ s.n = 16384 ∨ 65536 ≤ s.bs.length + x.1.size then ⟨s.bs, s.n, true⟩ else ⟨s.bs ++ x.1.data.toList ++ [x.2], s.n + 1, false⟩
theorem PageAt.fill {w : World} {P : Nat} {v : Value} {s : Pst} (h : PageAt w P v s) : PageAt (w.setCell ⟨P, 3, none⟩ (.bool true)) P v ⟨s.bs, s.n, true⟩ := by
  obtain ⟨p, hp, hk⟩ := h.box
  exact ⟨⟨p, hp, M.heap_set_same hk⟩, M.owns_ch h.own (M.ch_set w P 3 _) fun g e hx => by have := h.ge g e; omega, h.nil, h.len, h.num⟩
theorem Pg.set {P : Nat} {w : World} {v : Value} (o : Nat) (u : Value) : Pg P w v (w.setCell ⟨P, o, none⟩ u) v := ⟨(M.ch_set w P o u).mono fun _ e => .inl e, fun _ e => .inl e⟩

set_option maxRecDepth 100000 in
set_option maxHeartbeats 4000000 in
theorem put_any (w : World) (P : Nat) (v : Value) (s : Pst) (word : ByteArray) (ch : UInt8) (ci : Int) (hci : (ch.toNat : Int) = ci) (h : PageAt w P v s) (_ : word.size ≤ 1048576) :
    Calls Tryd.prog 59 #[.pointer (some ⟨P, 0, none⟩), .string word, .int .u8 ci] w fun e w' => e = .returned (.tuple #[]) ∧ ∃ v', PageAt w' P v' (putS s (word, ch)) ∧ Pg P w v w' v' := by
  have LEN : Hid _ := plen_any w P v s h
  have FILL : Hid (PageAt (w.setCell ⟨P, 3, none⟩ (.bool true)) P v ⟨s.bs, s.n, true⟩) := h.fill
  have HA : Hid (PageAt w P v s) := h
  obtain ⟨p, hp, hk⟩ := h.box
  have c2 : w.cell? ⟨P, 2, none⟩ = some (.int .i64 s.n) := M.cell_whole hk 2
  have c3 : w.cell? ⟨P, 3, none⟩ = some (.bool s.full) := M.cell_whole hk 3
  have f2 : w.frozen? ⟨P, 2, none⟩ = false := by simp [World.frozen?, hk]
  have f3 : w.frozen? ⟨P, 3, none⟩ = false := by simp [World.frozen?, hk]
  have hlen := h.len
  have hnum := h.num
  have HP : Hid (p = .pointer none ∨ p = .pointer (some ⟨P, 0, none⟩)) := hp
  have HK : Hid (w.heap[P]? = some (.cells #[p, v, .int .i64 s.n, .bool s.full] 89 (0, 0))) := hk
  have HCI : Hid ((ch.toNat : Int) = ci) := hci
  clear h hp hk hci
  obtain ⟨bs, n, full⟩ := s
  dsimp only at *
  obtain ⟨m, hm⟩ : ∃ m, bs.length = m := ⟨_, rfl⟩
  rw [hm] at LEN hlen
  by_cases hn : n = 16384
  · subst hn
    have k3 : (w.setCell ⟨P, 3, none⟩ (.bool true)).cell? ⟨P, 3, none⟩ = some (.bool true) := World.cell?_setCell_same _ _ _ c3
    clear LEN
    go_enter Tryd.func59, Tryd.ntmps59
    go_wp2
    try simp only [Exit.inBlock, Exit.then]
    refine bodyPost_ret (results_none rfl _ _ _) rfl ?_
    refine ⟨rfl, v, ?_, Pg.set 3 _⟩
    rw [show putS ⟨bs, 16384, full⟩ (word, ch) = ⟨bs, 16384, true⟩ from if_pos (.inr (.inl rfl))]
    exact FILL.out
  · have n1 : ((n : Int) == 16384) = false := by simp; omega
    by_cases hb : 65536 ≤ m + word.size
    · have n2 : decide ((65536 : Int) - (m : Int) ≤ (word.size : Int)) = true := by simp; omega
      have k3 : (w.setCell ⟨P, 3, none⟩ (.bool true)).cell? ⟨P, 3, none⟩ = some (.bool true) := World.cell?_setCell_same _ _ _ c3
      go_enter Tryd.func59, Tryd.ntmps59
      go_wp2_with fail
      refine Calls.mono LEN.out ?_
      rintro e w1 ⟨rfl, hw1⟩
      subst w1
      clear LEN
      go_wp2
      try simp only [Exit.inBlock, Exit.then]
      refine bodyPost_ret (results_none rfl _ _ _) rfl ?_
      refine ⟨rfl, v, ?_, Pg.set 3 _⟩
      rw [show putS ⟨bs, n, full⟩ (word, ch) = ⟨bs, n, true⟩ from if_pos (.inr (.inr (by show 65536 ≤ bs.length + word.size; omega)))]
      exact FILL.out
    · have n2 : decide ((65536 : Int) - (m : Int) ≤ (word.size : Int)) = false := by simp; omega
      cases full with
      | true =>
        go_enter Tryd.func59, Tryd.ntmps59
        go_wp2_with fail
        refine Calls.mono LEN.out ?_
        rintro e w1 ⟨rfl, hw1⟩
        subst w1
        clear LEN
        go_wp2
        try simp only [Exit.inBlock, Exit.then]
        refine bodyPost_ret (results_none rfl _ _ _) rfl ?_
        refine ⟨rfl, v, ?_, Pg.refl _ _ _⟩
        rw [show putS ⟨bs, n, true⟩ (word, ch) = ⟨bs, n, true⟩ from if_pos (.inl rfl)]
        exact HA.out
      | false =>
        have HS : Hid (putS ⟨bs, n, false⟩ (word, ch) = ⟨bs ++ word.data.toList ++ [ch], n + 1, false⟩) := if_neg (by simp; omega)
        have HO : Hid (w.ownsRow (P + 1) 5 1 v bs.length (bs.map byteV)) := HA.out.own
        have HM : Hid (bs.length = m) := hm
        obtain ⟨w1, hw1⟩ : ∃ w1, w1 = w.setCell ⟨P, 2, none⟩ (.int .i64 ((n : Int) + 1)) := ⟨_, rfl⟩
        have HK1 : Hid (w1.heap[P]? = some (.cells #[p, v, .int .i64 ((n : Int) + 1), .bool false] 89 (0, 0))) := by rw [hw1]; exact M.heap_set_same HK.out
        have HO1 : Hid (w1.ownsRow (P + 1) 5 1 v bs.length (bs.map byteV)) := by rw [hw1]; exact M.owns_ch HO.out (M.ch_set w P 2 _) fun g e hx => by have := HA.out.ge g e; omega
        have G1 : Hid (Pg P w v w1 v) := by rw [hw1]; exact Pg.set 2 _
        have W1 : Hid _ := pwrite_any w1 P v p ((n : Int) + 1) false bs word HP.out HK1.out HO1.out (by omega)
        clear hm
        go_enter Tryd.func59, Tryd.ntmps59
        go_wp2_with fail
        refine Calls.mono LEN.out ?_
        rintro e wx ⟨rfl, hwx⟩
        subst wx
        clear LEN
        go_wp2_with fail
        rw [← hw1]
        clear hw1 c2 c3 f2 f3
        refine Calls.mono W1.out ?_
        rintro e w2 ⟨rfl, v2, hk2, ho2, hg2⟩
        have G2 : Hid (Pg P w v w2 v2) := G1.out.trans hg2
        have W2 : Hid _ := pbyte_any w2 P v2 _ ((n : Int) + 1) false (bs ++ word.data.toList) ch ci HCI.out (.inr rfl) hk2 ho2 (by rw [List.length_append, size_list, HM.out]; omega)
        clear W1 hk2 ho2 hg2
        go_wp2_with fail
        refine Calls.mono W2.out ?_
        rintro e w3 ⟨rfl, v3, hk3, ho3, hg3⟩
        have G3 : Hid (Pg P w v w3 v3) := G2.out.trans hg3
        have A3 : Hid (PageAt w3 P v3 ⟨bs ++ word.data.toList ++ [ch], n + 1, false⟩) := ⟨⟨_, .inr rfl, hk3⟩, ho3, fun h => by simp at h, by show List.length _ ≤ _; rw [List.length_append, List.length_append, size_list, HM.out]; simp; omega, by show n + 1 ≤ _; omega⟩
        clear W2 hk3 ho3 hg3
        go_wp2
        go_end0
        exact ⟨rfl, v3, by rw [HS.out]; exact A3.out, G3.out⟩

def runP (s : Pst) (l : List (ByteArray × UInt8)) : Pst := l.foldl putS s
theorem runP_append (s : Pst) (l m : List (ByteArray × UInt8)) : runP s (l ++ m) = runP (runP s l) m := List.foldl_append
/-- The words of a row, each with a blank behind it. -/
def wordsP (ts : List Tok) : List (ByteArray × UInt8) := ts.map fun t => (t.text, 32)

set_option maxRecDepth 100000 in
set_option maxHeartbeats 4000000 in
theorem pall_any (w : World) (P : Nat) (v : Value) (s : Pst) (a : Option Addr) (n c : Nat) (ts : List Tok) (hl : ts.length = n) (hn : n ≤ 1048576) (hsz : ∀ t ∈ ts, t.text.size ≤ 1048576) (h : PageAt w P v s)
    (hT : ∀ w' v', Pg P w v w' v' → ToksAt w' a ts) :
    Calls Tryd.prog 61 #[.pointer (some ⟨P, 0, none⟩), .slice a n c] w fun e w' => e = .returned (.tuple #[]) ∧ ∃ v', PageAt w' P v' (runP s (wordsP ts)) ∧ Pg P w v w' v' := by
  have HT : Hid _ := hT
  have HL : Hid (ts.length = n) := hl
  have HS : Hid _ := hsz
  have HA : Hid (PageAt w P v s) := h
  clear hT hl hsz h
  go_enter Tryd.func61, Tryd.ntmps61
  go_wp2_with fail
  go_loopw [8] (fun i wx => ∃ (j : Nat) (v' : Value), j ≤ n ∧ i = .int .i64 j ∧ Hid (PageAt wx P v' (runP s (wordsP (ts.take j)))) ∧ Hid (Pg P w v wx v')) (fun i _ => n - (intOf i).toNat)
  case atStart => exact ⟨0, v, Nat.zero_le _, rfl, HA.out, Pg.refl _ _ _⟩
  case round =>
    obtain ⟨j, v', hj, rfl, hA, hG⟩ := hrel
    by_cases hlt : j < n
    · have n1 : (j : Int) < (n : Int) := by omega
      obtain ⟨k, hk⟩ : ∃ k, ts[j]? = some k := ⟨ts[j]'(by rw [HL.out]; exact hlt), List.getElem?_eq_getElem _⟩
      obtain ⟨g1, o1, rfl, x0, x1, x2, x3⟩ := HT.out wr v' hG.out j k hk
      have hks : k.text.size ≤ 1048576 := HS.out k (List.mem_of_getElem? hk)
      have HE : Hid (runP s (wordsP (ts.take (j + 1))) = putS (runP s (wordsP (ts.take j))) (k.text, 32)) := by
        show _ = _
        rw [List.take_add_one, hk]
        unfold wordsP
        rw [List.map_append, runP_append]
        rfl
      obtain ⟨w1, hw1⟩ : ∃ w1, w1 = wr.alloc (.cells #[.string k.text, .int .i64 k.off, .int .i64 k.line, .int .i64 k.col] 34) := ⟨_, rfl⟩
      have hb1 : Below wr.heap.size wr w1 := by rw [hw1]; exact below_alloc _ _
      have G1 : Hid (Pg P w v w1 v') := hG.out.trans (Pg.of_below hb1)
      have PU : Hid _ := put_any w1 P v' _ k.text 32 32 rfl (hA.out.down hb1) hks
      have y0 : w1.cell? ⟨wr.heap.size, 0, none⟩ = some (.string k.text) := by rw [hw1]; exact M.cell_whole (heap_alloc_new wr _) 0
      clear hk hb1 hA hks
      go_upto_region 3 with fail
      rw [← hw1]
      clear hw1
      go_wp2_with fail
      refine Calls.mono PU.out ?_
      rintro e w2 ⟨rfl, v2, hA2, hG2⟩
      have A2 : Hid (PageAt w2 P v2 (runP s (wordsP (ts.take (j + 1))))) := by rw [HE.out]; exact hA2
      have G2 : Hid (Pg P w v w2 v2) := G1.out.trans hG2
      clear hA2 hG2 PU y0 x0 x1 x2 x3
      go_wp2
      exact ⟨⟨j + 1, v2, by omega, by go_num, A2.out, G2.out⟩, by simp [intOf]; omega⟩
    · have n1 : ¬ (j : Int) < (n : Int) := by omega
      have A2 : Hid (PageAt wr P v' (runP s (wordsP ts))) := by have h := hA.out; rw [List.take_of_length_le (by rw [HL.out]; omega)] at h; exact h
      go_wp2
      go_end0
      exact ⟨rfl, v', A2.out, hG.out⟩
end Go.Proofs.YtipfhfeaalbmcaaDoor
