/- A statement that is open takes a word more. -/
import Derived.Test.YtipfhfeaalbmcaaDoorAdd
namespace Go.Proofs.YtipfhfeaalbmcaaDoor
open Go.RowKit

/-- What add comes to: the error's number, and the world behind it. -/
def AddR (w w' : World) (N g : Nat) (cs : Array Value) (t : TypeId) (k : Nat) (v : Value) (ws : List Tok) (tk : Tok) (c : Int) : Prop :=
  ((ws.length : Int) = mstI k ∧ c = 62 ∧ Below w.heap.size w w') ∨ ((ws.length : Int) ≠ mstI k ∧ c = 0 ∧ AppPost w w' N g 9 cs t v ws tk)
theorem AppPost.from {w w0 w' : World} {N g o : Nat} {cs : Array Value} {t : TypeId} {v : Value} {ts : List Tok} {tk : Tok} (h0 : Below w.heap.size w w0) (h : AppPost w0 w' N g o cs t v ts tk) : AppPost w w' N g o cs t v ts tk := by
  obtain ⟨v', h1, h2, h3, h4⟩ := h
  exact ⟨v', h1, fun b e => (h2 b e).elim .inl fun e => .inr (Nat.le_trans h0.size e), (M.Ch.of_below h0).trans h3, h4⟩
theorem AddR.from {w w0 w' : World} {N g : Nat} {cs : Array Value} {t : TypeId} {k : Nat} {v : Value} {ws : List Tok} {tk : Tok} {c : Int} (h0 : Below w.heap.size w w0) (h : AddR w0 w' N g cs t k v ws tk c) : AddR w w' N g cs t k v ws tk c := by
  rcases h with ⟨a, b, d⟩ | ⟨a, b, d⟩
  · exact .inl ⟨a, b, h0.trans (d.mono h0.size)⟩
  · exact .inr ⟨a, b, d.from h0⟩
theorem add_uni (w : World) (N g : Nat) (cs : Array Value) (t : TypeId) (k : Nat) (hk : k < 10) (aw : Option Addr) (nw cw : Nat) (tk : Tok) (ws : List Tok)
    (hB : w.heap[g]? = some (.cells cs t (0, 0))) (h0 : cs[0]? = some (.int .i64 k)) (h9 : cs[9]? = some (.slice aw nw cw)) (hS : ShapesAt w) (hN : N ≤ w.heap.size) (hl : ws.length = nw) (hn : nw ≤ 1048576)
    (hO : w.ownsRow N 34 4 (.slice aw nw cw) nw (rowT ws)) (hvg : (Value.slice aw nw cw).ownBlock ≠ some g) :
    Calls Tryd.prog 85 #[.pointer (some ⟨g, 0, none⟩), tokV tk] w fun e w' => ∃ c, e = .returned (.int .i64 c) ∧ AddR w w' N g cs t k (.slice aw nw cw) ws tk c := by
  refine Calls.mono (add_any w N g cs t k hk aw nw cw tk ws hB h0 h9 hS hN hl hn hO hvg) ?_
  subst hl
  rintro e w' (⟨a, b, d⟩ | ⟨a, b, d⟩)
  · exact ⟨62, b, .inl ⟨a, rfl, d⟩⟩
  · exact ⟨0, b, .inr ⟨a, rfl, d⟩⟩

set_option maxRecDepth 100000 in
set_option maxHeartbeats 4000000 in
theorem addWordC (w : World) (N g : Nat) (cs : Array Value) (t : TypeId) (k : Nat) (hk : k < 10) (aw : Option Addr) (nw cw : Nat) (tk : Tok) (ws : List Tok)
    (hB : w.heap[g]? = some (.cells cs t (0, 0))) (h0 : cs[0]? = some (.int .i64 k)) (h9 : cs[9]? = some (.slice aw nw cw)) (hS : ShapesAt w) (hN : N ≤ w.heap.size) (hl : ws.length = nw) (hn : nw ≤ 1048576)
    (hO : w.ownsRow N 34 4 (.slice aw nw cw) nw (rowT ws)) (hvg : (Value.slice aw nw cw).ownBlock ≠ some g) :
    Calls Tryd.prog 70 #[.iface 121 (.pointer (some ⟨g, 0, none⟩)), tokV tk] w fun e w' => ∃ c, e = .returned (.int .i64 c) ∧ AddR w w' N g cs t k (.slice aw nw cw) ws tk c := by
  obtain ⟨w1, hw1⟩ : ∃ w1, w1 = w.alloc (.cells #[.string tk.text, .int .i64 tk.off, .int .i64 tk.line, .int .i64 tk.col] 34) := ⟨_, rfl⟩
  have hb1 : Below w.heap.size w w1 := by rw [hw1]; exact below_alloc _ _
  have hg : g < w.heap.size := (Array.getElem?_eq_some_iff.1 hB).1
  have HN1 : w1.heap[w.heap.size]? = some (.cells #[.string tk.text, .int .i64 tk.off, .int .i64 tk.line, .int .i64 tk.col] 34 (0, 0)) := by rw [hw1]; exact heap_alloc_new w _
  have x0 : w1.cell? ⟨w.heap.size, 0, none⟩ = some (.string tk.text) := M.cell_whole HN1 0
  have x1 : w1.cell? ⟨w.heap.size, 1, none⟩ = some (.int .i64 tk.off) := M.cell_whole HN1 1
  have x2 : w1.cell? ⟨w.heap.size, 2, none⟩ = some (.int .i64 tk.line) := M.cell_whole HN1 2
  have x3 : w1.cell? ⟨w.heap.size, 3, none⟩ = some (.int .i64 tk.col) := M.cell_whole HN1 3
  have HB : Hid (Below w.heap.size w w1) := hb1
  have AD : Hid _ := add_uni w1 N g cs t k hk aw nw cw tk ws ((hb1.block g hg).trans hB) h0 h9 (hS.under hb1) (Nat.le_trans hN hb1.size) hl hn (M.owns_ch hO (M.Ch.of_below (X := fun _ => False) hb1) fun _ _ e => e) hvg
  unfold tokV at AD ⊢
  clear hB h0 h9 hS hO hvg HN1 hb1
  have a1 := as121_116
  have a2 := as121_121
  go_enter Tryd.func70, Tryd.ntmps70
  go_upto_region 1 with fail
  rw [← hw1]
  clear hw1
  go_wp2_with fail
  refine Calls.mono AD.out ?_
  rintro e w2 ⟨c, rfl, hp⟩
  have HP : Hid (AddR w w2 N g cs t k (.slice aw nw cw) ws tk c) := hp.from HB.out
  clear hp AD
  go_wp2
  go_ret
  exact ⟨c, rfl, HP.out⟩

set_option maxRecDepth 100000 in
set_option maxHeartbeats 4000000 in
theorem addWordT (w : World) (N g : Nat) (cs : Array Value) (t : TypeId) (k : Nat) (hk : k < 10) (aw : Option Addr) (nw cw : Nat) (tk : Tok) (ws : List Tok)
    (hB : w.heap[g]? = some (.cells cs t (0, 0))) (h0 : cs[0]? = some (.int .i64 k)) (h9 : cs[9]? = some (.slice aw nw cw)) (h14 : cs[14]? = some (.bool false)) (hS : ShapesAt w) (hN : N ≤ w.heap.size) (hl : ws.length = nw) (hn : nw ≤ 1048576)
    (hO : w.ownsRow N 34 4 (.slice aw nw cw) nw (rowT ws)) (hvg : (Value.slice aw nw cw).ownBlock ≠ some g) :
    Calls Tryd.prog 70 #[.iface 116 (.pointer (some ⟨g, 0, none⟩)), tokV tk] w fun e w' => ∃ c, e = .returned (.int .i64 c) ∧ AddR w w' N g cs t k (.slice aw nw cw) ws tk c := by
  obtain ⟨w1, hw1⟩ : ∃ w1, w1 = w.alloc (.cells #[.string tk.text, .int .i64 tk.off, .int .i64 tk.line, .int .i64 tk.col] 34) := ⟨_, rfl⟩
  have hb1 : Below w.heap.size w w1 := by rw [hw1]; exact below_alloc _ _
  have hg : g < w.heap.size := (Array.getElem?_eq_some_iff.1 hB).1
  have HN1 : w1.heap[w.heap.size]? = some (.cells #[.string tk.text, .int .i64 tk.off, .int .i64 tk.line, .int .i64 tk.col] 34 (0, 0)) := by rw [hw1]; exact heap_alloc_new w _
  have x0 : w1.cell? ⟨w.heap.size, 0, none⟩ = some (.string tk.text) := M.cell_whole HN1 0
  have x1 : w1.cell? ⟨w.heap.size, 1, none⟩ = some (.int .i64 tk.off) := M.cell_whole HN1 1
  have x2 : w1.cell? ⟨w.heap.size, 2, none⟩ = some (.int .i64 tk.line) := M.cell_whole HN1 2
  have x3 : w1.cell? ⟨w.heap.size, 3, none⟩ = some (.int .i64 tk.col) := M.cell_whole HN1 3
  have HB1 : w1.heap[g]? = some (.cells cs t (0, 0)) := (hb1.block g hg).trans hB
  have c14 : w1.cell? ⟨g, 14, none⟩ = some (.bool false) := (M.cell_whole HB1 14).trans h14
  have HB : Hid (Below w.heap.size w w1.drew) := below_drewN hb1 1
  have AD : Hid _ := add_uni w1.drew N g cs t k hk aw nw cw tk ws HB1 h0 h9 (hS.under HB.out) (Nat.le_trans hN hb1.size) hl hn (M.owns_ch hO (M.Ch.of_below (X := fun _ => False) HB.out) fun _ _ e => e) hvg
  unfold tokV at AD ⊢
  clear hB h0 h9 h14 hS hO hvg HN1 hb1 HB1
  have a1 := as116_116
  go_enter Tryd.func70, Tryd.ntmps70
  go_upto_region 1 with fail
  rw [← hw1]
  clear hw1
  go_upto_region 7 with fail
  go_region_law (go_simp; go_at_call 85; refine Calls.mono AD.out ?_; rintro e w2 ⟨c, rfl, hp⟩; have HP : Hid (AddR w w2 N g cs t k (.slice aw nw cw) ws tk c) := hp.from HB.out; clear hp)
  go_wp2
  go_ret
  exact ⟨c, rfl, HP.out⟩

set_option maxRecDepth 100000 in
set_option maxHeartbeats 4000000 in
theorem addWordP (w : World) (N g : Nat) (cs : Array Value) (t : TypeId) (aw : Option Addr) (nw cw : Nat) (tk : Tok) (ws : List Tok)
    (hB : w.heap[g]? = some (.cells cs t (0, 0))) (h14 : cs[14]? = some (.bool true)) (h15 : cs[15]? = some (.slice aw nw cw)) (hN : N ≤ w.heap.size) (hl : ws.length = nw) (hn : nw ≤ 1048576)
    (hO : w.ownsRow N 34 4 (.slice aw nw cw) nw (rowT ws)) (hvg : (Value.slice aw nw cw).ownBlock ≠ some g) :
    Calls Tryd.prog 70 #[.iface 116 (.pointer (some ⟨g, 0, none⟩)), tokV tk] w fun e w' => e = .returned (.int .i64 0) ∧ AppPost w w' N g 15 cs t (.slice aw nw cw) ws tk := by
  obtain ⟨ip, hip, ipz, ips, ipb⟩ := info_parts infoT
  obtain ⟨w1, hw1⟩ : ∃ w1, w1 = w.alloc (.cells #[.string tk.text, .int .i64 tk.off, .int .i64 tk.line, .int .i64 tk.col] 34) := ⟨_, rfl⟩
  have hb1 : Below w.heap.size w w1 := by rw [hw1]; exact below_alloc _ _
  have hg : g < w.heap.size := (Array.getElem?_eq_some_iff.1 hB).1
  have HN1 : w1.heap[w.heap.size]? = some (.cells #[.string tk.text, .int .i64 tk.off, .int .i64 tk.line, .int .i64 tk.col] 34 (0, 0)) := by rw [hw1]; exact heap_alloc_new w _
  have x0 : w1.cell? ⟨w.heap.size, 0, none⟩ = some (.string tk.text) := M.cell_whole HN1 0
  have x1 : w1.cell? ⟨w.heap.size, 1, none⟩ = some (.int .i64 tk.off) := M.cell_whole HN1 1
  have x2 : w1.cell? ⟨w.heap.size, 2, none⟩ = some (.int .i64 tk.line) := M.cell_whole HN1 2
  have x3 : w1.cell? ⟨w.heap.size, 3, none⟩ = some (.int .i64 tk.col) := M.cell_whole HN1 3
  have HB1 : w1.heap[g]? = some (.cells cs t (0, 0)) := (hb1.block g hg).trans hB
  have c14 : w1.cell? ⟨g, 14, none⟩ = some (.bool true) := (M.cell_whole HB1 14).trans h14
  have HC1 : Hid (Below w.heap.size w w1) := hb1
  have O1 : Hid (w1.ownsRow N 34 4 (.slice aw nw cw) nw (rowT ws)) := M.owns_ch hO (M.Ch.of_below (X := fun _ => False) hb1) fun _ _ e => e
  have HB : Hid (w.heap[g]? = some (.cells cs t (0, 0))) := hB
  have HB2 : Hid (w1.heap[g]? = some (.cells cs t (0, 0))) := HB1
  have HV : Hid ((Value.slice aw nw cw).ownBlock ≠ some g) := hvg
  have HL : Hid (ws.length = nw) := hl
  have H9 : Hid (cs[15]? = some (.slice aw nw cw)) := h15
  have d9 : w1.cell? ⟨g, 15, none⟩ = some (.slice aw nw cw) := (M.cell_whole HB1 15).trans h15
  have HG2 : Hid (g < w1.heap.size) := Nat.lt_of_lt_of_le hg hb1.size
  have HZ : Hid (w.heap.size ≤ w1.heap.size) := hb1.size
  unfold tokV
  clear hB h14 h15 hO hvg HN1 hb1 HB1 hl hg
  have a1 := as116_116
  go_enter Tryd.func70, Tryd.ntmps70
  go_upto_region 1 with fail
  rw [← hw1]
  clear hw1
  go_upto_region 5 with fail
  have e9 : (w1.alloc (.cells #[.string tk.text, .int .i64 tk.off, .int .i64 tk.line, .int .i64 tk.col] 34)).cell? ⟨g, 15, none⟩ = some (.slice aw nw cw) := (M.cell_whole ((Below.heap_alloc _ _ g HG2.out).trans HB2.out) 15).trans H9.out
  go_region_law (refine step_append_lies _ (by rfl) _ _ _ (by rfl) N 34 ip _ 4 40 Tryd.underlying31 hip ipz ips ipb rfl (by omega) _ nw (rowT ws) (by rfl) (by exact (M.owns_alloc O1.out _)) ⟨w1.heap.size, 0, none⟩ 1 1 (tokCells tk) (by rfl) (by rfl) (World.news_of_block (cs := #[.string tk.text, .int .i64 tk.off, .int .i64 tk.line, .int .i64 tk.col]) (t := 34) (fr := (0, 0)) (heap_alloc_new w1 _)) (by simp [tokCells, Value.oneCell']) (by omega) (by unfold maxLen; omega) (by omega) (by have := HZ.out; simp; omega) _ rfl ?_; intro gg cap' w3 hown3 hgrow hat hlt3; have K3 : Hid (w3.heap[g]? = some (.cells cs t (0, 0))) := (hgrow.block g (by have := HG2.out; simp; omega) (fun e => HV.out e.symm)).trans ((Below.heap_alloc _ _ g HG2.out).trans HB2.out); have d9' : w3.cell? ⟨g, 15, none⟩ = some (.slice aw nw cw) := (M.cell_whole K3.out 15).trans H9.out; have f9' : w3.frozen? ⟨g, 15, none⟩ = false := (by simp [World.frozen?, K3.out]); have PO : Hid (AppPost w (w3.setCell ⟨g, 15, none⟩ (.slice (some ⟨gg, 0, none⟩) (nw + 1) cap')) N g 15 cs t (.slice aw nw cw) ws tk) := (by have hl := HL.out; subst hl; exact AppPost.of HB.out (show Below w.heap.size w (w1.alloc (.cells #[.string tk.text, .int .i64 tk.off, .int .i64 tk.line, .int .i64 tk.col] 34)).drew from below_drewN (HC1.out.alloc HC1.out.size _) 1) hgrow hat HV.out hown3 rfl); clear hgrow hat hown3 hlt3)
  all_goals go_wp2
  all_goals go_ret
  all_goals exact ⟨rfl, PO.out⟩

/-! ### The proof's beginning -/
set_option maxRecDepth 100000 in
theorem beginC (w : World) (g : Nat) : Calls Tryd.prog 71 #[.iface 121 (.pointer (some ⟨g, 0, none⟩))] w fun e w' => e = .returned (.int .i64 60) ∧ w' = w := by
  have a1 := as121_116
  go_enter Tryd.func71, Tryd.ntmps71
  go_wp2
  go_ret
  exact ⟨rfl, rfl⟩
set_option maxRecDepth 100000 in
set_option maxHeartbeats 4000000 in
theorem beginT (w : World) (g : Nat) (cs : Array Value) (t : TypeId) (k : Nat) (hk : k < 10) (aw : Option Addr) (nw cw : Nat) (pr : Bool)
    (hB : w.heap[g]? = some (.cells cs t (0, 0))) (h0 : cs[0]? = some (.int .i64 k)) (h9 : cs[9]? = some (.slice aw nw cw)) (h14 : cs[14]? = some (.bool pr)) (hS : ShapesAt w) :
    Calls Tryd.prog 71 #[.iface 116 (.pointer (some ⟨g, 0, none⟩))] w fun e w' =>
      e = .returned (.int .i64 (if pr then 60 else if (nw : Int) < lstI k then 62 else 0)) ∧ M.Ch (fun b => b = g) w w' ∧ w'.heap[g]? = some (.cells (if pr then cs else if (nw : Int) < lstI k then cs else cs.setIfInBounds 14 (.bool true)) t (0, 0)) := by
  have a1 := as116_116
  have HB : Hid (w.heap[g]? = some (.cells cs t (0, 0))) := hB
  have c0 : w.cell? ⟨g, 0, none⟩ = some (.int .i64 k) := (M.cell_whole hB 0).trans h0
  have c9 : w.cell? ⟨g, 9, none⟩ = some (.slice aw nw cw) := (M.cell_whole hB 9).trans h9
  have c14 : w.cell? ⟨g, 14, none⟩ = some (.bool pr) := (M.cell_whole hB 14).trans h14
  obtain ⟨_, _, l2, _⟩ := hS k hk
  have k0 : (0 : Int) ≤ (k : Int) := by omega
  have k1 : (k : Int) < 10 := by omega
  obtain ⟨L, hL⟩ : ∃ L, lstI k = L := ⟨_, rfl⟩
  have H14 : Hid (cs[14]? = some (.bool pr)) := h14
  rw [hL] at l2 ⊢
  clear hL hS hB h0 h9 h14
  cases pr with
  | true =>
    go_enter Tryd.func71, Tryd.ntmps71
    go_wp2
    go_ret
    exact ⟨rfl, M.Ch.refl _ _, HB.out⟩
  | false =>
    go_enter Tryd.func71, Tryd.ntmps71
    go_upto_region 6 with fail
    go_quiet (fail)
    have HB2 : Hid ((w.drewN nq).heap[g]? = some (.cells cs t (0, 0))) := HB.out
    have HC2 : Hid (M.Ch (fun b => b = g) w (w.drewN nq)) := ⟨rfl, rfl, rfl, Nat.le_refl _, fun _ _ _ => rfl⟩
    clear c0 c9 c14 l2
    generalize w.drewN nq = w2 at *
    by_cases hlt : (nw : Int) < L
    · go_wp2
      go_ret
      exact ⟨rfl, HC2.out, HB2.out⟩
    · have d14 : w2.cell? ⟨g, 14, none⟩ = some (.bool false) := (M.cell_whole HB2.out 14).trans H14.out
      have f14 : w2.frozen? ⟨g, 14, none⟩ = false := by simp [World.frozen?, HB2.out]
      go_wp2
      go_ret
      exact ⟨rfl, HC2.out.trans (M.ch_set _ _ _ _), M.heap_set_same HB2.out⟩
end Go.Proofs.YtipfhfeaalbmcaaDoor
