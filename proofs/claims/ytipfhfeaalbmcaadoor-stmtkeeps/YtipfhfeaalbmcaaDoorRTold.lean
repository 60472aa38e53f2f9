/- All that has begun is told. -/
import Derived.Test.YtipfhfeaalbmcaaDoorRTake
import Derived.Handy
namespace Go.Proofs.YtipfhfeaalbmcaaDoor
open Go.RowKit

def itmS (x : Itm) : Array Value := stmA x.s.kind x.s.label x.s.key x.s.fin x.s.proving x.vw x.vp
theorem infoSM : (Tryd.prog.info? 36).map (fun i => (i.zero, i.size, i.bytes)) = some (some (.agg #[.int .i64 0, .string ⟨#[]⟩, .int .i64 0, .int .i64 0, .int .i64 0, .string ⟨#[]⟩, .int .i64 0, .int .i64 0, .int .i64 0, .bool false, .slice none 0 0, .slice none 0 0, .string ⟨#[]⟩, .int .i64 0, .int .i64 0, .int .i64 0]), 16, 184) := by kernel_rfl
theorem itmT_any (w : World) (N : Nat) (x : Itm) (h : ItmAt w N x) (h7 : x.s.kind = 7) : Calls Tryd.prog 116 #[.pointer (some ⟨x.g, 0, none⟩)] w fun e w' => e = .returned (.agg (itmS x)) ∧ Below w.heap.size w w' := by
  obtain ⟨aw, cw, ew⟩ := own_slice h.ow
  obtain ⟨ap, cp, ep⟩ := own_slice h.op
  have hb := h.box
  rw [itmC_thm h7, ew, ep] at hb
  have c : ∀ i, w.cell? ⟨x.g, i, none⟩ = _ := fun i => M.cell_whole hb i
  unfold itmS
  rw [ew, ep]
  exact toldT_any w x.g x.s.kind x.s.label x.s.key x.s.fin aw _ cw x.s.proving ap _ cp ⟨c 0, c 1, c 2, c 3, c 4, c 5, c 6, c 7, c 8, c 9, c 10, c 11, c 12, c 13, c 14, c 15⟩
theorem itmCl_any (w : World) (N : Nat) (x : Itm) (h : ItmAt w N x) (hb : brk x.s.kind = false) (h7 : x.s.kind ≠ 7) : Calls Tryd.prog 117 #[.pointer (some ⟨x.g, 0, none⟩)] w fun e w' => e = .returned (.agg (itmS x)) ∧ Below w.heap.size w w' := by
  obtain ⟨aw, cw, ew⟩ := own_slice h.ow
  have hbx := h.box
  rw [itmC_cl hb h7, ew] at hbx
  have c : ∀ i, w.cell? ⟨x.g, i, none⟩ = _ := fun i => M.cell_whole hbx i
  unfold itmS
  obtain ⟨_, e2, e3⟩ := h.nt h7
  rw [ew, e2, e3]
  exact toldC_any w x.g x.s.kind x.s.label x.s.key x.s.fin aw _ cw ⟨c 0, c 1, c 2, c 3, c 4, c 5, c 6, c 7, c 8, c 9, c 10, c 11, c 12, c 13⟩
theorem itmB_any (w : World) (N : Nat) (x : Itm) (h : ItmAt w N x) (hb : brk x.s.kind = true) : Calls Tryd.prog 118 #[.pointer (some ⟨x.g, 0, none⟩)] w fun e w' => e = .returned (.agg (itmS x)) ∧ Below w.heap.size w w' := by
  have h7 : x.s.kind ≠ 7 := fun e => by rw [e] at hb; cases hb
  have hbx := h.box
  rw [itmC_br hb] at hbx
  have c : ∀ i, w.cell? ⟨x.g, i, none⟩ = _ := fun i => M.cell_whole hbx i
  unfold itmS
  obtain ⟨_, e2, e3⟩ := h.nt h7
  obtain ⟨_, d2, d3, d4⟩ := h.nb hb
  rw [e2, e3, d2, d3, d4]
  exact toldB_any w x.g x.s.kind x.s.key ⟨c 0, c 1, c 2, c 3, c 4⟩
def rowS (l : List Itm) : List Value := l.flatMap fun x => (itmS x).toList
theorem rowS_len (l : List Itm) : (rowS l).length = l.length * 16 := by
  induction l with
  | nil => rfl
  | cons x l ih =>
    have e : rowS (x :: l) = (itmS x).toList ++ rowS l := rfl
    rw [e, List.length_append, ih, List.length_cons]
    have : (itmS x).toList.length = 16 := rfl
    omega

theorem itmS_one {w : World} {N : Nat} (x : Itm) (h : ItmAt w N x) : ∀ u ∈ (#[.int .i64 x.s.kind, .string x.s.label.text, .int .i64 x.s.label.off, .int .i64 x.s.label.line, .int .i64 x.s.label.col, .string x.s.key.text, .int .i64 x.s.key.off, .int .i64 x.s.key.line, .int .i64 x.s.key.col, .bool x.s.proving, x.vw, x.vp, .string x.s.fin.text, .int .i64 x.s.fin.off, .int .i64 x.s.fin.line, .int .i64 x.s.fin.col] : Array Value).toList, u.oneCell' = true := fun u hu => by
  obtain ⟨aw, cw, ew⟩ := own_slice h.ow
  obtain ⟨ap, cp, ep⟩ := own_slice h.op
  rw [ew, ep] at hu
  simp at hu
  rcases hu with rfl | rfl | rfl | rfl | rfl | rfl | rfl | rfl | rfl | rfl | rfl | rfl | rfl | rfl | rfl | rfl <;> rfl
set_option maxRecDepth 100000 in
set_option maxHeartbeats 16000000 in
theorem told_any (w : World) (N R : Nat) (vb vo : Value) (its : List Itm) (wt : Tok) (h : RSt N R w vb vo its wt) (hn : its.length ≤ 1048576) :
    Calls Tryd.prog 26 #[.pointer (some ⟨R, 0, none⟩)] w fun e w' => ∃ v, e = .returned v ∧ w'.ownsRow w.heap.size 36 16 v its.length (rowS its) ∧ Below w.heap.size w w' := by
  obtain ⟨ip, hip, ipz, ips, ipb⟩ := info_parts infoSM
  obtain ⟨n, hnn⟩ : ∃ n, its.length = n := ⟨_, rfl⟩
  have H : Hid (RSt N R w vb vo its wt) := h
  obtain ⟨av, cv, hvb, _, hcell⟩ := M.own_cell h.own
  rw [hnn] at hn hvb
  subst hvb
  have HC : Hid (∀ i x, its[i]? = some x → ∃ g, av = some ⟨g, 0, none⟩ ∧ w.cell? ⟨g, i, none⟩ = some (itmI x)) := fun i x hx => hcell i _ (by rw [List.getElem?_map, hx]; rfl)
  have HL : Hid (its.length = n) := hnn
  have r0 : w.cell? ⟨R, 0, none⟩ = some (.slice av n cv) := M.cell_whole h.box 0
  rw [hnn]
  clear h hcell hnn
  go_enter Tryd.func26, Tryd.ntmps26
  go_wp2_with fail
  go_loopw [11, 3] (fun v11 v3 wx => ∃ (j : Nat) (v : Value), j ≤ n ∧ v11 = .int .i64 j ∧ v3 = v ∧ Hid (wx.ownsRow w.heap.size 36 16 v j (rowS (its.take j))) ∧ Hid (Below w.heap.size w wx)) (fun v11 _ _ => n - (intOf v11).toNat)
  case atStart => exact ⟨0, _, Nat.zero_le _, rfl, rfl, World.ownsRow_nil _ _ _ _, Below.refl _ _⟩
  case round =>
    obtain ⟨j, v, hj, rfl, rfl, hO, hB⟩ := hrel
    obtain ⟨a3, c3, hv3, _⟩ := own_shape hO.out
    subst hv3
    by_cases hlt : j < n
    · have n1 : (j : Int) < (n : Int) := by omega
      obtain ⟨x, hx⟩ : ∃ x, its[j]? = some x := ⟨its[j]'(by rw [HL.out]; exact hlt), List.getElem?_eq_getElem _⟩
      have HIt : Hid (ItmAt w N x) := H.out.all x (List.mem_of_getElem? hx)
      have HIr : Hid (ItmAt wr N x) := HIt.out.under hB.out
      obtain ⟨gb, rfl, y0⟩ := HC.out j x hx
      have y1 : wr.cell? ⟨gb, j, none⟩ = some (itmI x) := (hB.out.cell (p := ⟨gb, j, none⟩) (World.block_lt_of_cell? _ _ y0)).trans y0
      have TK : Hid (rowS (its.take (j + 1)) = rowS (its.take j) ++ (itmS x).toList) := by show _ = _; rw [List.take_add_one, hx]; simp [rowS]
      clear hx y0 r0
      cases hb : brk x.s.kind with
      | true =>
        have ey : itmI x = .iface 123 (.pointer (some ⟨x.g, 0, none⟩)) := by unfold itmI itmY; rw [if_pos hb]
        have TD : Hid _ := itmB_any wr N x HIr.out hb
        rw [ey] at y1
        clear ey hb
        go_wp2_with fail
        refine Calls.mono TD.out ?_
        rintro e w2 ⟨rfl, hb2⟩
        have HB2 : Hid (Below wr.heap.size wr w2) := hb2
        have HBw : Hid (Below w.heap.size w w2) := hB.out.trans (hb2.mono hB.out.size)
        have O2 : Hid ((w2.alloc (.cells #[.int .i64 x.s.kind, .string x.s.label.text, .int .i64 x.s.label.off, .int .i64 x.s.label.line, .int .i64 x.s.label.col, .string x.s.key.text, .int .i64 x.s.key.off, .int .i64 x.s.key.line, .int .i64 x.s.key.col, .bool x.s.proving, x.vw, x.vp, .string x.s.fin.text, .int .i64 x.s.fin.off, .int .i64 x.s.fin.line, .int .i64 x.s.fin.col] 36)).ownsRow w.heap.size 36 16 (.slice a3 j c3) j (rowS (its.take j))) := M.owns_alloc (M.owns_ch hO.out (M.Ch.of_below (X := fun _ => False) hb2) fun _ _ e => e) _
        have HS2 : Hid (w.heap.size ≤ w2.heap.size) := HBw.out.size
        simp only [itmS, stmA]
        clear hb2
        go_wp2_with (at_builtin; (refine wpList_append_lies (w2.alloc (.cells #[.int .i64 x.s.kind, .string x.s.label.text, .int .i64 x.s.label.off, .int .i64 x.s.label.line, .int .i64 x.s.label.col, .string x.s.key.text, .int .i64 x.s.key.off, .int .i64 x.s.key.line, .int .i64 x.s.key.col, .bool x.s.proving, x.vw, x.vp, .string x.s.fin.text, .int .i64 x.s.fin.off, .int .i64 x.s.fin.line, .int .i64 x.s.fin.col] 36)) rfl _ _ _ rfl w.heap.size 36 ip _ 16 184 Tryd.underlying22 hip ipz ips ipb rfl (by omega) _ j (rowS (its.take j)) (by rfl) (by exact O2.out) ⟨w2.heap.size, 0, none⟩ 1 1 (#[.int .i64 x.s.kind, .string x.s.label.text, .int .i64 x.s.label.off, .int .i64 x.s.label.line, .int .i64 x.s.label.col, .string x.s.key.text, .int .i64 x.s.key.off, .int .i64 x.s.key.line, .int .i64 x.s.key.col, .bool x.s.proving, x.vw, x.vp, .string x.s.fin.text, .int .i64 x.s.fin.off, .int .i64 x.s.fin.line, .int .i64 x.s.fin.col] : Array Value).toList (by rfl) (by rfl) (fun j' u hu => World.news_of_block (cs := #[.int .i64 x.s.kind, .string x.s.label.text, .int .i64 x.s.label.off, .int .i64 x.s.label.line, .int .i64 x.s.label.col, .string x.s.key.text, .int .i64 x.s.key.off, .int .i64 x.s.key.line, .int .i64 x.s.key.col, .bool x.s.proving, x.vw, x.vp, .string x.s.fin.text, .int .i64 x.s.fin.off, .int .i64 x.s.fin.line, .int .i64 x.s.fin.col]) (t := 36) (fr := (0, 0)) (heap_alloc_new w2 _) j' u hu) (fun u hu => itmS_one x HIt.out u hu) (by omega) (by unfold maxLen; omega) (by omega) (by have := HS2.out; simp; omega) _ rfl ?_; intro gg cap w3 ho hgr hat hlt; have O3 : Hid (w3.ownsRow w.heap.size 36 16 (.slice (some ⟨gg, 0, none⟩) (j + 1) cap) (j + 1) (rowS (its.take (j + 1)))) := (by show World.ownsRow _ _ _ _ _ _ _; rw [TK.out]; exact ho); have B3 : Hid (Below w.heap.size w w3) := (HBw.out.alloc HBw.out.size _).trans ((M.Ch.of_grown hgr).below (by have := HS2.out; simp; omega) fun b e => M.own_ge' O2.out b e); clear ho hgr hat hlt))
        exact ⟨⟨j + 1, _, by omega, by go_num, rfl, O3.out, B3.out⟩, by simp [intOf]; omega⟩
      | false =>
        have hbn : ¬ brk x.s.kind = true := by rw [hb]; exact Bool.false_ne_true
        by_cases h7 : x.s.kind = 7
        · have ey : itmI x = .iface 116 (.pointer (some ⟨x.g, 0, none⟩)) := by unfold itmI itmY; rw [if_neg hbn, if_pos h7]
          have TD : Hid _ := itmT_any wr N x HIr.out h7
          rw [ey] at y1
          clear ey hb hbn h7
          go_wp2_with fail
          refine Calls.mono TD.out ?_
          rintro e w2 ⟨rfl, hb2⟩
          have HB2 : Hid (Below wr.heap.size wr w2) := hb2
          have HBw : Hid (Below w.heap.size w w2) := hB.out.trans (hb2.mono hB.out.size)
          have O2 : Hid ((w2.alloc (.cells #[.int .i64 x.s.kind, .string x.s.label.text, .int .i64 x.s.label.off, .int .i64 x.s.label.line, .int .i64 x.s.label.col, .string x.s.key.text, .int .i64 x.s.key.off, .int .i64 x.s.key.line, .int .i64 x.s.key.col, .bool x.s.proving, x.vw, x.vp, .string x.s.fin.text, .int .i64 x.s.fin.off, .int .i64 x.s.fin.line, .int .i64 x.s.fin.col] 36)).ownsRow w.heap.size 36 16 (.slice a3 j c3) j (rowS (its.take j))) := M.owns_alloc (M.owns_ch hO.out (M.Ch.of_below (X := fun _ => False) hb2) fun _ _ e => e) _
          have HS2 : Hid (w.heap.size ≤ w2.heap.size) := HBw.out.size
          simp only [itmS, stmA]
          clear hb2
          go_wp2_with (at_builtin; (refine wpList_append_lies (w2.alloc (.cells #[.int .i64 x.s.kind, .string x.s.label.text, .int .i64 x.s.label.off, .int .i64 x.s.label.line, .int .i64 x.s.label.col, .string x.s.key.text, .int .i64 x.s.key.off, .int .i64 x.s.key.line, .int .i64 x.s.key.col, .bool x.s.proving, x.vw, x.vp, .string x.s.fin.text, .int .i64 x.s.fin.off, .int .i64 x.s.fin.line, .int .i64 x.s.fin.col] 36)) rfl _ _ _ rfl w.heap.size 36 ip _ 16 184 Tryd.underlying22 hip ipz ips ipb rfl (by omega) _ j (rowS (its.take j)) (by rfl) (by exact O2.out) ⟨w2.heap.size, 0, none⟩ 1 1 (#[.int .i64 x.s.kind, .string x.s.label.text, .int .i64 x.s.label.off, .int .i64 x.s.label.line, .int .i64 x.s.label.col, .string x.s.key.text, .int .i64 x.s.key.off, .int .i64 x.s.key.line, .int .i64 x.s.key.col, .bool x.s.proving, x.vw, x.vp, .string x.s.fin.text, .int .i64 x.s.fin.off, .int .i64 x.s.fin.line, .int .i64 x.s.fin.col] : Array Value).toList (by rfl) (by rfl) (fun j' u hu => World.news_of_block (cs := #[.int .i64 x.s.kind, .string x.s.label.text, .int .i64 x.s.label.off, .int .i64 x.s.label.line, .int .i64 x.s.label.col, .string x.s.key.text, .int .i64 x.s.key.off, .int .i64 x.s.key.line, .int .i64 x.s.key.col, .bool x.s.proving, x.vw, x.vp, .string x.s.fin.text, .int .i64 x.s.fin.off, .int .i64 x.s.fin.line, .int .i64 x.s.fin.col]) (t := 36) (fr := (0, 0)) (heap_alloc_new w2 _) j' u hu) (fun u hu => itmS_one x HIt.out u hu) (by omega) (by unfold maxLen; omega) (by omega) (by have := HS2.out; simp; omega) _ rfl ?_; intro gg cap w3 ho hgr hat hlt; have O3 : Hid (w3.ownsRow w.heap.size 36 16 (.slice (some ⟨gg, 0, none⟩) (j + 1) cap) (j + 1) (rowS (its.take (j + 1)))) := (by show World.ownsRow _ _ _ _ _ _ _; rw [TK.out]; exact ho); have B3 : Hid (Below w.heap.size w w3) := (HBw.out.alloc HBw.out.size _).trans ((M.Ch.of_grown hgr).below (by have := HS2.out; simp; omega) fun b e => M.own_ge' O2.out b e); clear ho hgr hat hlt))
          exact ⟨⟨j + 1, _, by omega, by go_num, rfl, O3.out, B3.out⟩, by simp [intOf]; omega⟩
        · have ey : itmI x = .iface 121 (.pointer (some ⟨x.g, 0, none⟩)) := by unfold itmI itmY; rw [if_neg hbn, if_neg h7]
          have TD : Hid _ := itmCl_any wr N x HIr.out hb h7
          rw [ey] at y1
          clear ey hb hbn h7
          go_wp2_with fail
          refine Calls.mono TD.out ?_
          rintro e w2 ⟨rfl, hb2⟩
          have HB2 : Hid (Below wr.heap.size wr w2) := hb2
          have HBw : Hid (Below w.heap.size w w2) := hB.out.trans (hb2.mono hB.out.size)
          have O2 : Hid ((w2.alloc (.cells #[.int .i64 x.s.kind, .string x.s.label.text, .int .i64 x.s.label.off, .int .i64 x.s.label.line, .int .i64 x.s.label.col, .string x.s.key.text, .int .i64 x.s.key.off, .int .i64 x.s.key.line, .int .i64 x.s.key.col, .bool x.s.proving, x.vw, x.vp, .string x.s.fin.text, .int .i64 x.s.fin.off, .int .i64 x.s.fin.line, .int .i64 x.s.fin.col] 36)).ownsRow w.heap.size 36 16 (.slice a3 j c3) j (rowS (its.take j))) := M.owns_alloc (M.owns_ch hO.out (M.Ch.of_below (X := fun _ => False) hb2) fun _ _ e => e) _
          have HS2 : Hid (w.heap.size ≤ w2.heap.size) := HBw.out.size
          simp only [itmS, stmA]
          clear hb2
          go_wp2_with (at_builtin; (refine wpList_append_lies (w2.alloc (.cells #[.int .i64 x.s.kind, .string x.s.label.text, .int .i64 x.s.label.off, .int .i64 x.s.label.line, .int .i64 x.s.label.col, .string x.s.key.text, .int .i64 x.s.key.off, .int .i64 x.s.key.line, .int .i64 x.s.key.col, .bool x.s.proving, x.vw, x.vp, .string x.s.fin.text, .int .i64 x.s.fin.off, .int .i64 x.s.fin.line, .int .i64 x.s.fin.col] 36)) rfl _ _ _ rfl w.heap.size 36 ip _ 16 184 Tryd.underlying22 hip ipz ips ipb rfl (by omega) _ j (rowS (its.take j)) (by rfl) (by exact O2.out) ⟨w2.heap.size, 0, none⟩ 1 1 (#[.int .i64 x.s.kind, .string x.s.label.text, .int .i64 x.s.label.off, .int .i64 x.s.label.line, .int .i64 x.s.label.col, .string x.s.key.text, .int .i64 x.s.key.off, .int .i64 x.s.key.line, .int .i64 x.s.key.col, .bool x.s.proving, x.vw, x.vp, .string x.s.fin.text, .int .i64 x.s.fin.off, .int .i64 x.s.fin.line, .int .i64 x.s.fin.col] : Array Value).toList (by rfl) (by rfl) (fun j' u hu => World.news_of_block (cs := #[.int .i64 x.s.kind, .string x.s.label.text, .int .i64 x.s.label.off, .int .i64 x.s.label.line, .int .i64 x.s.label.col, .string x.s.key.text, .int .i64 x.s.key.off, .int .i64 x.s.key.line, .int .i64 x.s.key.col, .bool x.s.proving, x.vw, x.vp, .string x.s.fin.text, .int .i64 x.s.fin.off, .int .i64 x.s.fin.line, .int .i64 x.s.fin.col]) (t := 36) (fr := (0, 0)) (heap_alloc_new w2 _) j' u hu) (fun u hu => itmS_one x HIt.out u hu) (by omega) (by unfold maxLen; omega) (by omega) (by have := HS2.out; simp; omega) _ rfl ?_; intro gg cap w3 ho hgr hat hlt; have O3 : Hid (w3.ownsRow w.heap.size 36 16 (.slice (some ⟨gg, 0, none⟩) (j + 1) cap) (j + 1) (rowS (its.take (j + 1)))) := (by show World.ownsRow _ _ _ _ _ _ _; rw [TK.out]; exact ho); have B3 : Hid (Below w.heap.size w w3) := (HBw.out.alloc HBw.out.size _).trans ((M.Ch.of_grown hgr).below (by have := HS2.out; simp; omega) fun b e => M.own_ge' O2.out b e); clear ho hgr hat hlt))
          exact ⟨⟨j + 1, _, by omega, by go_num, rfl, O3.out, B3.out⟩, by simp [intOf]; omega⟩
    · have n1 : ¬ (j : Int) < (n : Int) := by omega
      obtain rfl : j = n := by omega
      have O2 : Hid (wr.ownsRow w.heap.size 36 16 (.slice a3 j c3) j (rowS its)) := by have h := hO.out; rw [List.take_of_length_le (by rw [HL.out]; exact Nat.le_refl _)] at h; exact h
      go_wp2
      go_ret
      exact ⟨_, rfl, O2.out, hB.out⟩
end Go.Proofs.YtipfhfeaalbmcaaDoor
