/- A hypothesis laid behind those of a scope. -/
import Derived.Test.YtkejjiilcoacfaaGreatFrA
import Derived.Test.YtkejjiilcoacfaaGreatShelfF
namespace Go.Proofs.YtkejjiilcoacfaaGreat
open Go.Maps Go.RowKit Go.WideMaps

theorem infoHy : (Tryz.prog.info? 61).map (fun i => (i.zero, i.size, i.bytes)) = some (some (.agg #[.string ⟨#[]⟩, .bool false, .int .i64 0, .slice none 0 0]), 4, 56) := by kernel_rfl
theorem infoNn : (Tryz.prog.info? 3).map (fun i => (i.zero, i.size, i.bytes)) = some (some (.int .i64 0), 1, 8) := by kernel_rfl
theorem infoSc : (Tryz.prog.info? 83).map (fun i => (i.zero, i.size, i.bytes)) = some (some (.agg #[.slice none 0 0, .map none, .slice none 0 0]), 3, 56) := by kernel_rfl
theorem infoQq : (Tryz.prog.info? 64).map (fun i => (i.zero, i.size, i.bytes)) = some (some (.agg #[.int .i64 0, .int .i64 0]), 2, 16) := by kernel_rfl
theorem rowHy_append (l m : List HyC) : rowHy (l ++ m) = rowHy l ++ rowHy m := by unfold rowHy; rw [List.flatMap_append]
set_option maxRecDepth 100000 in
theorem sclone_any (t : ByteArray) (w : World) (ht : t.size ≤ 281474976710656) : Calls Tryz.prog 103 #[.string t] w fun e w' => e = .returned (.string t) ∧ Below w.heap.size w w' := by
  go_enter Tryz.func103, Tryz.ntmps103
  go_wp2_with (go_at_call 115; refine (Tryz.stringslite_Clone _ _ ht).mono ?_; rintro e w' ⟨rfl, hb⟩)
  go_ret
  exact ⟨rfl, hb⟩
/-- What a list of hypotheses that grew by one tells. -/
structure Listed (w W : World) (g o : Nat) (vl vl' : Value) (hs : List HyC) (y : HyC) : Prop where
  cell : W.cell? ⟨g, o, none⟩ = some vl'
  own : W.ownsRow 0 61 4 vl' (hs.length + 1) (rowHy (hs ++ [y]))
  loc : ∀ b, vl'.ownBlock = some b → vl.ownBlock = some b ∨ w.heap.size ≤ b
  blk : ∀ cs t, w.heap[g]? = some (.cells cs t (0, 0)) → W.heap[g]? = some (.cells (cs.setIfInBounds o vl') t (0, 0))
  ch : M.Ch (fun b => vl.ownBlock = some b ∨ b = g) w W

set_option maxRecDepth 100000 in
set_option maxHeartbeats 8000000 in
theorem list_any (w : World) (g o : Nat) (cs : Array Value) (vl : Value) (hs : List HyC) (lab : ByteArray) (fl : Bool) (var : Int) (ae : Option Addr) (ne ce : Nat) (ex : List Int) (hg : w.heap[g]? = some (.cells cs 83 (0, 0))) (ho : cs[o]? = some vl) (hl : w.ownsRow 0 61 4 vl hs.length (rowHy hs)) (hn : hs.length ≤ 1048576) (hlab : lab.size ≤ 281474976710656) :
    Calls Tryz.prog 91 #[.pointer (some ⟨g, o, none⟩), .agg #[.string lab, .bool fl, .int .i64 var, .slice ae ne ce]] w fun e w' => e = .returned (.tuple #[]) ∧ ∃ vl', Listed w w' g o vl vl' hs ⟨⟨lab, fl, var, ex⟩, .slice ae ne ce⟩ := by
  obtain ⟨iH, hiH, iHz, iHs, iHb⟩ := info_parts infoHy
  obtain ⟨T, hT⟩ : ∃ T, w.heap.size = T := ⟨_, rfl⟩
  obtain ⟨w1, hw1⟩ : ∃ w1, w1 = w.alloc (.cells #[.string lab, .bool fl, .int .i64 var, .slice ae ne ce] 61) := ⟨_, rfl⟩
  have HW1 : Hid (w1 = w.alloc (.cells #[.string lab, .bool fl, .int .i64 var, .slice ae ne ce] 61)) := hw1
  have b1 : Below w.heap.size w w1 := by rw [hw1]; exact fr_below_alloc _ _
  have k1 : w1.heap[T]? = some (.cells #[.string lab, .bool fl, .int .i64 var, .slice ae ne ce] 61 (0, 0)) := by rw [hw1, ← hT]; exact heap_alloc_new w _
  have s1 : w1.heap.size = T + 1 := by rw [hw1, ← hT]; simp
  have x0 : w1.cell? ⟨T, 0, none⟩ = some (.string lab) := M.cell_whole k1 0
  have CL : Hid _ := sclone_any lab w1 hlab
  have hgT : g < T := by rw [← hT]; exact (Array.getElem?_eq_some_iff.1 hg).1
  have HO : Hid (w.ownsRow 0 61 4 vl hs.length (rowHy hs)) := hl
  have HG : Hid (w.heap[g]? = some (.cells cs 83 (0, 0)) ∧ cs[o]? = some vl) := ⟨hg, ho⟩
  have HT : Hid (w.heap.size = T) := hT
  have K1 : Hid (w1.heap[T]? = some (.cells #[.string lab, .bool fl, .int .i64 var, .slice ae ne ce] 61 (0, 0))) := k1
  have B1 : Hid (Below w.heap.size w w1) := b1
  have S1 : Hid (w1.heap.size = T + 1) := s1
  obtain ⟨n, hnn⟩ : ∃ n, hs.length = n := ⟨_, rfl⟩
  rw [hnn] at hn HO
  have HN : Hid (hs.length = n) := hnn
  clear hw1 b1 k1 s1 hg ho hl hlab hT hnn
  go_enter Tryz.func91, Tryz.ntmps91
  go_upto_region 1 with fail
  rw [← HW1.out, HT.out]
  clear HW1
  go_wp2_with fail
  refine Calls.mono CL.out ?_
  rintro e w2 ⟨rfl, hb2⟩
  have k2 : w2.heap[T]? = some (.cells #[.string lab, .bool fl, .int .i64 var, .slice ae ne ce] 61 (0, 0)) := (hb2.block T (by have := S1.out; omega)).trans K1.out
  have y0 : w2.cell? ⟨T, 0, none⟩ = some (.string lab) := M.cell_whole k2 0
  have f0 : w2.frozen? ⟨T, 0, none⟩ = false := by simp [World.frozen?, k2]
  obtain ⟨w3, hw3⟩ : ∃ w3, w3 = w2.setCell ⟨T, 0, none⟩ (.string lab) := ⟨_, rfl⟩
  have HW3 : Hid (w3 = w2.setCell ⟨T, 0, none⟩ (.string lab)) := hw3
  have ch3 : M.Ch (fun b => b = T) w2 w3 := by rw [hw3]; exact M.ch_set w2 T 0 _
  have K3 : Hid (w3.heap[T]? = some (.cells #[.string lab, .bool fl, .int .i64 var, .slice ae ne ce] 61 (0, 0))) := by show _ = _; rw [hw3]; exact M.heap_set_same k2
  have B3 : Hid (Below w.heap.size w w3) := B1.out.trans ((hb2.mono B1.out.size).trans (ch3.below (Nat.le_trans B1.out.size hb2.size) fun b e => by have := HT.out; omega))
  clear hb2 k2 hw3 ch3 CL B1 K1 x0
  go_upto_region 2 with fail
  rw [← HW3.out]
  clear HW3 y0 f0
  have BD : Hid (Below w.heap.size w w3.drew) := fr_below_drewN B3.out 1
  have KT : Hid (∀ W, M.Ch (fun b => vl.ownBlock = some b ∨ b = g) w3 W → W.heap[T]? = some (.cells #[.string lab, .bool fl, .int .i64 var, .slice ae ne ce] 61 (0, 0))) := fun W hc => (hc.block T (Array.getElem?_eq_some_iff.1 K3.out).1 (fun e => by
    rcases e with e | e
    · have h1 := M.own_lt HO.out _ e; have h2 := HT.out; omega
    · omega)).trans K3.out
  have SF : Hid (∀ W, M.Ch (fun b => vl.ownBlock = some b ∨ b = g) w3 W → W.cell? ⟨T, 0, none⟩ = some (.string lab) ∧ W.cell? ⟨T, 1, none⟩ = some (.bool fl) ∧ W.cell? ⟨T, 2, none⟩ = some (.int .i64 var) ∧ W.cell? ⟨T, 3, none⟩ = some (.slice ae ne ce)) := fun W hc => ⟨M.cell_whole (KT.out W hc) 0, M.cell_whole (KT.out W hc) 1, M.cell_whole (KT.out W hc) 2, M.cell_whole (KT.out W hc) 3⟩
  have C0 : Hid (M.Ch (fun b => vl.ownBlock = some b ∨ b = g) w3 w3.drew) := M.Ch.of_below (fr_below_drewN (Below.refl _ _) 1)
  have G0 : Hid (w3.drew.heap[g]? = some (.cells cs 83 (0, 0)) ∧ w3.drew.ownsRow 0 61 4 vl n (rowHy hs)) := ⟨(BD.out.block g (by have := HT.out; omega)).trans HG.out.1, M.owns_ch HO.out (M.Ch.of_below (X := fun _ => False) BD.out) fun _ _ e => e⟩
  refine wp_region_held_drew (S := fun w' => w'.cell? ⟨T, 0, none⟩ = some (.string lab) ∧ w'.cell? ⟨T, 1, none⟩ = some (.bool fl) ∧ w'.cell? ⟨T, 2, none⟩ = some (.int .i64 var) ∧ w'.cell? ⟨T, 3, none⟩ = some (.slice ae ne ce)) (by kernel_rfl) ?_ (fun hHeld => ?_)
  · exact SF.out _ C0.out
  refine wpAnyH_take (i := 0) (oi := { dst := some 8, op := Op.move (Operand.tmp 0), type := 127, pos := "scope.go:42", after := #[], guard := none }) (v := ?_) rfl (by kernel_rfl) (by kernel_rfl) (by kernel_rfl) (fun _ _ _ h => h) (Or.inl ⟨by rfl, ?_⟩) hHeld ?_
  rotate_left
  · (intro w hSw; (try dsimp only at hSw); go_simp; try with_reducible rfl)
  try simp only [Act.put, List.setIfInBounds_toArray, List.set_cons_zero, List.set_cons_succ]
  refine wpAnyH_take (i := 1) (oi := { dst := some 9, op := Op.move (Operand.tmp 0), type := 127, pos := "scope.go:42", after := #[], guard := none }) (v := ?_) rfl (by kernel_rfl) (by kernel_rfl) (by kernel_rfl) (fun _ _ _ h => h) (Or.inl ⟨by rfl, ?_⟩) hHeld ?_
  rotate_left
  · (intro w hSw; (try dsimp only at hSw); go_simp; try with_reducible rfl)
  try simp only [Act.put, List.setIfInBounds_toArray, List.set_cons_zero, List.set_cons_succ]
  refine wpAnyH_take (i := 2) (oi := { dst := some 10, op := Op.nilCheck (Operand.tmp 9), type := 0, pos := "scope.go:42", after := #[{ on := 1, ground := Ground.data }], guard := none }) (v := ?_) rfl (by kernel_rfl) (by kernel_rfl) (by kernel_rfl) (fun _ _ _ h => h) (Or.inl ⟨by rfl, ?_⟩) hHeld ?_
  rotate_left
  · (intro w hSw; (try dsimp only at hSw); go_simp; try with_reducible rfl)
  try simp only [Act.put, List.setIfInBounds_toArray, List.set_cons_zero, List.set_cons_succ]
  refine wpAnyH_take (i := 3) (oi := { dst := some 11, op := Op.fieldAddr 79 (Operand.tmp 10) 0, type := 0, pos := "scope.go:42", after := #[{ on := 2, ground := Ground.data }], guard := none }) (v := ?_) rfl (by kernel_rfl) (by kernel_rfl) (by kernel_rfl) (fun _ _ _ h => h) (Or.inl ⟨by rfl, ?_⟩) hHeld ?_
  rotate_left
  · (intro w hSw; (try dsimp only at hSw); go_simp; try with_reducible rfl)
  try simp only [Act.put, List.setIfInBounds_toArray, List.set_cons_zero, List.set_cons_succ]
  refine wpAnyH_take (i := 5) (oi := { dst := some 13, op := Op.load 61 (Operand.tmp 3), type := 61, pos := "scope.go:42", after := #[], guard := none }) (v := ?_) rfl (by kernel_rfl) (by kernel_rfl) (by kernel_rfl) (fun _ _ _ h => h) (Or.inl ⟨by rfl, ?_⟩) hHeld ?_
  rotate_left
  · (intro w hSw; (try dsimp only at hSw); go_simp; try with_reducible rfl)
  try simp only [Act.put, List.setIfInBounds_toArray, List.set_cons_zero, List.set_cons_succ]
  refine wpAnyH_ready (rs := [4, 6]) (by kernel_rfl) (by simp) ?_
  refine AllReadyH.cons (o := { dst := some 12, op := Op.load 34 (Operand.tmp 11), type := 34, pos := "scope.go:42", after := #[{ on := 3, ground := Ground.data }], guard := none }) rfl (fun K hK => ?_) (AllReadyH.cons (o := { dst := some 14, op := Op.buildSlice 34 1 #[(0, Operand.tmp 13)], type := 34, pos := "scope.go:42", after := #[{ on := 5, ground := Ground.data }], guard := none }) rfl (fun K hK => ?_) AllReadyH.nil)
  · have qL : w3.drew.cell? ⟨g, o, none⟩ = some vl := (M.cell_whole G0.out.1 o).trans HG.out.2
    go_simp
    refine hK.out _ _ ?_ (fun hHeld_4 => ?_)
    · exact SF.out _ C0.out
    clear hK K
    try simp only [Act.put, List.setIfInBounds_toArray, List.set_cons_zero, List.set_cons_succ]
    refine wpAnyH_ready (rs := [6]) (by kernel_rfl) (by simp) ?_
    refine AllReadyH.cons (o := { dst := some 14, op := Op.buildSlice 34 1 #[(0, Operand.tmp 13)], type := 34, pos := "scope.go:42", after := #[{ on := 5, ground := Ground.data }], guard := none }) rfl (fun K hK => ?_) AllReadyH.nil
    have C1 : Hid (M.Ch (fun b => vl.ownBlock = some b ∨ b = g) w3 (w3.drew.alloc (.cells #[.string lab, .bool fl, .int .i64 var, .slice ae ne ce] 61))) := C0.out.trans (M.Ch.of_below (fr_below_alloc _ _))
    have G1 : Hid ((w3.drew.alloc (.cells #[.string lab, .bool fl, .int .i64 var, .slice ae ne ce] 61)).heap[g]? = some (.cells cs 83 (0, 0)) ∧ (w3.drew.alloc (.cells #[.string lab, .bool fl, .int .i64 var, .slice ae ne ce] 61)).ownsRow 0 61 4 vl n (rowHy hs)) := ⟨((fr_below_alloc w3.drew _).block g (Array.getElem?_eq_some_iff.1 G0.out.1).1).trans G0.out.1, M.owns_alloc G0.out.2 _⟩
    go_simp
    refine hK.out _ _ ?_ (fun hHeld_6 => ?_)
    · exact SF.out _ C1.out
    clear hK K
    try simp only [Act.put, List.setIfInBounds_toArray, List.set_cons_zero, List.set_cons_succ]
    refine wpAnyH_ready (rs := [7]) (by kernel_rfl) (by simp) ?_
    refine AllReadyH.cons (o := { dst := some 15, op := Op.call { callee := Callee.builtin Builtin.append, args := #[Operand.tmp 12, Operand.tmp 14], argTypes := #[34, 34] }, type := 34, pos := "scope.go:42", after := #[{ on := 4, ground := Ground.data }, { on := 6, ground := Ground.data }], guard := none }) rfl (fun K hK => ?_) AllReadyH.nil
    refine step_append_lies (w3.drew.alloc (.cells #[.string lab, .bool fl, .int .i64 var, .slice ae ne ce] 61)) rfl _ _ 34 rfl 0 61 iH _ 4 56 Tryz.underlying34 hiH iHz iHs iHb rfl (by omega) vl n (rowHy hs) (by rfl) G1.out.2 ⟨w3.drew.heap.size, 0, none⟩ 1 1 [.string lab, .bool fl, .int .i64 var, .slice ae ne ce] (by rfl) (by rfl) (World.news_of_block (cs := #[.string lab, .bool fl, .int .i64 var, .slice ae ne ce]) (t := 61) (fr := (0, 0)) (heap_alloc_new w3.drew _)) (by simp [Value.oneCell']) (by omega) (by unfold maxLen; omega) (by omega) (Nat.zero_le _) _ rfl ?_
    intro gg cap' w8 hown8 hgrow hat hlt8
    have C8 : Hid (M.Ch (fun b => vl.ownBlock = some b ∨ b = g) w3 w8) := C1.out.trans ((M.Ch.of_grown hgrow).mono fun b e => .inl e)
    have O8 : Hid (w8.ownsRow 0 61 4 (.slice (some ⟨gg, 0, none⟩) (n + 1) cap') (n + 1) (rowHy (hs ++ [⟨⟨lab, fl, var, ex⟩, .slice ae ne ce⟩]))) := by show World.ownsRow _ _ _ _ _ _ _; rw [rowHy_append]; exact hown8
    have G8 : Hid (w8.heap[g]? = some (.cells cs 83 (0, 0))) := (hgrow.block g (Array.getElem?_eq_some_iff.1 G1.out.1).1 (fun e => own_ne G1.out.2 G1.out.1 (by decide) e.symm)).trans G1.out.1
    have L8 : Hid (∀ b, (Value.slice (some ⟨gg, 0, none⟩) (n + 1) cap').ownBlock = some b → vl.ownBlock = some b ∨ w.heap.size ≤ b) := fun b e => by
      rcases M.loc_of (c := cap') (n := n + 1) hat b e with h | h
      · exact .inl h
      · exact .inr (Nat.le_trans (Nat.le_trans BD.out.size (fr_below_alloc w3.drew (.cells #[.string lab, .bool fl, .int .i64 var, .slice ae ne ce] 61)).size) h)
    clear hgrow hat hown8 hlt8
    refine hK.out _ _ ?_ (fun hHeld_7 => ?_)
    · exact SF.out _ C8.out
    clear hK K
    try simp only [Act.put, List.setIfInBounds_toArray, List.set_cons_zero, List.set_cons_succ]
    refine wpAnyH_take (i := 8) (oi := { dst := some 16, op := Op.nilCheck (Operand.tmp 8), type := 0, pos := "scope.go:42", after := #[{ on := 0, ground := Ground.data }, { on := 0, ground := Ground.phase }, { on := 1, ground := Ground.phase }, { on := 2, ground := Ground.phase }, { on := 3, ground := Ground.phase }, { on := 4, ground := Ground.phase }, { on := 5, ground := Ground.phase }, { on := 6, ground := Ground.phase }, { on := 7, ground := Ground.phase }], guard := none }) (v := ?_) rfl (by kernel_rfl) (by kernel_rfl) (by kernel_rfl) (fun _ _ _ h => h) (Or.inl ⟨by rfl, ?_⟩) hHeld_7 ?_
    rotate_left
    · (intro w hSw; (try dsimp only at hSw); go_simp; try with_reducible rfl)
    try simp only [Act.put, List.setIfInBounds_toArray, List.set_cons_zero, List.set_cons_succ]
    refine wpAnyH_take (i := 9) (oi := { dst := some 17, op := Op.fieldAddr 79 (Operand.tmp 16) 0, type := 0, pos := "scope.go:42", after := #[{ on := 8, ground := Ground.data }, { on := 0, ground := Ground.phase }, { on := 1, ground := Ground.phase }, { on := 2, ground := Ground.phase }, { on := 3, ground := Ground.phase }, { on := 4, ground := Ground.phase }, { on := 5, ground := Ground.phase }, { on := 6, ground := Ground.phase }, { on := 7, ground := Ground.phase }], guard := none }) (v := ?_) rfl (by kernel_rfl) (by kernel_rfl) (by kernel_rfl) (fun _ _ _ h => h) (Or.inl ⟨by rfl, ?_⟩) hHeld_7 ?_
    rotate_left
    · (intro w hSw; (try dsimp only at hSw); go_simp; try with_reducible rfl)
    try simp only [Act.put, List.setIfInBounds_toArray, List.set_cons_zero, List.set_cons_succ]
    refine wpAnyH_ready (rs := [10]) (by kernel_rfl) (by simp) ?_
    refine AllReadyH.cons (o := { dst := none, op := Op.store 34 (Operand.tmp 17) (Operand.tmp 15), type := 0, pos := "scope.go:42", after := #[{ on := 9, ground := Ground.data }, { on := 7, ground := Ground.data }, { on := 7, ground := Ground.chain }, { on := 0, ground := Ground.phase }, { on := 1, ground := Ground.phase }, { on := 2, ground := Ground.phase }, { on := 3, ground := Ground.phase }, { on := 4, ground := Ground.phase }, { on := 5, ground := Ground.phase }, { on := 6, ground := Ground.phase }, { on := 7, ground := Ground.phase }], guard := none }) rfl (fun K hK => ?_) AllReadyH.nil
    have dL : w8.cell? ⟨g, o, none⟩ = some vl := (M.cell_whole G8.out o).trans HG.out.2
    have fL : w8.frozen? ⟨g, o, none⟩ = false := by simp [World.frozen?, G8.out]
    have C9 : Hid (M.Ch (fun b => vl.ownBlock = some b ∨ b = g) w3 (w8.setCell ⟨g, o, none⟩ (.slice (some ⟨gg, 0, none⟩) (n + 1) cap'))) := C8.out.trans ((M.ch_set w8 g o (.slice (some ⟨gg, 0, none⟩) (n + 1) cap')).mono fun b e => .inr e)
    have FI : Hid (Listed w (w8.setCell ⟨g, o, none⟩ (.slice (some ⟨gg, 0, none⟩) (n + 1) cap')) g o vl (.slice (some ⟨gg, 0, none⟩) (n + 1) cap') hs ⟨⟨lab, fl, var, ex⟩, .slice ae ne ce⟩) := by
      have hset := M.heap_set_same (o := o) (v := (.slice (some ⟨gg, 0, none⟩) (n + 1) cap')) G8.out
      have hlt : o < cs.size := (Array.getElem?_eq_some_iff.1 HG.out.2).1
      refine ⟨?_, ?_, L8.out, fun cs' t' h => ?_, ?_⟩
      · rw [M.cell_whole hset o, Array.getElem?_setIfInBounds_self_of_lt hlt]
      · rw [HN.out]; exact M.owns_ch O8.out (M.ch_set w8 g o _) fun b e e2 => own_ne O8.out G8.out (by decide) (by rw [e, e2])
      · rw [HG.out.1] at h; cases h; exact hset
      · exact (M.Ch.of_below B3.out).trans C9.out
    go_simp
    refine hK.out _ _ ?_ (fun hHeld_10 => ?_)
    · exact SF.out _ C9.out
    clear hK K
    try simp only [Act.put, List.setIfInBounds_toArray, List.set_cons_zero, List.set_cons_succ]
    refine wpAnyH_done (by kernel_rfl) ?_ _
    go_wp2_with fail
    refine bodyPost_end (results_none rfl _ _ _) rfl ?_
    exact ⟨rfl, _, FI.out⟩
  · have C1 : Hid (M.Ch (fun b => vl.ownBlock = some b ∨ b = g) w3 (w3.drew.alloc (.cells #[.string lab, .bool fl, .int .i64 var, .slice ae ne ce] 61))) := C0.out.trans (M.Ch.of_below (fr_below_alloc _ _))
    have G1 : Hid ((w3.drew.alloc (.cells #[.string lab, .bool fl, .int .i64 var, .slice ae ne ce] 61)).heap[g]? = some (.cells cs 83 (0, 0)) ∧ (w3.drew.alloc (.cells #[.string lab, .bool fl, .int .i64 var, .slice ae ne ce] 61)).ownsRow 0 61 4 vl n (rowHy hs)) := ⟨((fr_below_alloc w3.drew _).block g (Array.getElem?_eq_some_iff.1 G0.out.1).1).trans G0.out.1, M.owns_alloc G0.out.2 _⟩
    go_simp
    refine hK.out _ _ ?_ (fun hHeld_6 => ?_)
    · exact SF.out _ C1.out
    clear hK K
    try simp only [Act.put, List.setIfInBounds_toArray, List.set_cons_zero, List.set_cons_succ]
    refine wpAnyH_ready (rs := [4]) (by kernel_rfl) (by simp) ?_
    refine AllReadyH.cons (o := { dst := some 12, op := Op.load 34 (Operand.tmp 11), type := 34, pos := "scope.go:42", after := #[{ on := 3, ground := Ground.data }], guard := none }) rfl (fun K hK => ?_) AllReadyH.nil
    have qL : (w3.alloc (.cells #[.string lab, .bool fl, .int .i64 var, .slice ae ne ce] 61)).cell? ⟨g, o, none⟩ = some vl := (M.cell_whole (W := (w3.drew.alloc (.cells #[.string lab, .bool fl, .int .i64 var, .slice ae ne ce] 61))) G1.out.1 o).trans HG.out.2
    go_simp
    refine hK.out _ _ ?_ (fun hHeld_4 => ?_)
    · exact SF.out _ C1.out
    clear hK K
    try simp only [Act.put, List.setIfInBounds_toArray, List.set_cons_zero, List.set_cons_succ]
    refine wpAnyH_ready (rs := [7]) (by kernel_rfl) (by simp) ?_
    refine AllReadyH.cons (o := { dst := some 15, op := Op.call { callee := Callee.builtin Builtin.append, args := #[Operand.tmp 12, Operand.tmp 14], argTypes := #[34, 34] }, type := 34, pos := "scope.go:42", after := #[{ on := 4, ground := Ground.data }, { on := 6, ground := Ground.data }], guard := none }) rfl (fun K hK => ?_) AllReadyH.nil
    refine step_append_lies (w3.drew.alloc (.cells #[.string lab, .bool fl, .int .i64 var, .slice ae ne ce] 61)) rfl _ _ 34 rfl 0 61 iH _ 4 56 Tryz.underlying34 hiH iHz iHs iHb rfl (by omega) vl n (rowHy hs) (by rfl) G1.out.2 ⟨w3.drew.heap.size, 0, none⟩ 1 1 [.string lab, .bool fl, .int .i64 var, .slice ae ne ce] (by rfl) (by rfl) (World.news_of_block (cs := #[.string lab, .bool fl, .int .i64 var, .slice ae ne ce]) (t := 61) (fr := (0, 0)) (heap_alloc_new w3.drew _)) (by simp [Value.oneCell']) (by omega) (by unfold maxLen; omega) (by omega) (Nat.zero_le _) _ rfl ?_
    intro gg cap' w8 hown8 hgrow hat hlt8
    have C8 : Hid (M.Ch (fun b => vl.ownBlock = some b ∨ b = g) w3 w8) := C1.out.trans ((M.Ch.of_grown hgrow).mono fun b e => .inl e)
    have O8 : Hid (w8.ownsRow 0 61 4 (.slice (some ⟨gg, 0, none⟩) (n + 1) cap') (n + 1) (rowHy (hs ++ [⟨⟨lab, fl, var, ex⟩, .slice ae ne ce⟩]))) := by show World.ownsRow _ _ _ _ _ _ _; rw [rowHy_append]; exact hown8
    have G8 : Hid (w8.heap[g]? = some (.cells cs 83 (0, 0))) := (hgrow.block g (Array.getElem?_eq_some_iff.1 G1.out.1).1 (fun e => own_ne G1.out.2 G1.out.1 (by decide) e.symm)).trans G1.out.1
    have L8 : Hid (∀ b, (Value.slice (some ⟨gg, 0, none⟩) (n + 1) cap').ownBlock = some b → vl.ownBlock = some b ∨ w.heap.size ≤ b) := fun b e => by
      rcases M.loc_of (c := cap') (n := n + 1) hat b e with h | h
      · exact .inl h
      · exact .inr (Nat.le_trans (Nat.le_trans BD.out.size (fr_below_alloc w3.drew (.cells #[.string lab, .bool fl, .int .i64 var, .slice ae ne ce] 61)).size) h)
    clear hgrow hat hown8 hlt8
    refine hK.out _ _ ?_ (fun hHeld_7 => ?_)
    · exact SF.out _ C8.out
    clear hK K
    try simp only [Act.put, List.setIfInBounds_toArray, List.set_cons_zero, List.set_cons_succ]
    refine wpAnyH_take (i := 8) (oi := { dst := some 16, op := Op.nilCheck (Operand.tmp 8), type := 0, pos := "scope.go:42", after := #[{ on := 0, ground := Ground.data }, { on := 0, ground := Ground.phase }, { on := 1, ground := Ground.phase }, { on := 2, ground := Ground.phase }, { on := 3, ground := Ground.phase }, { on := 4, ground := Ground.phase }, { on := 5, ground := Ground.phase }, { on := 6, ground := Ground.phase }, { on := 7, ground := Ground.phase }], guard := none }) (v := ?_) rfl (by kernel_rfl) (by kernel_rfl) (by kernel_rfl) (fun _ _ _ h => h) (Or.inl ⟨by rfl, ?_⟩) hHeld_7 ?_
    rotate_left
    · (intro w hSw; (try dsimp only at hSw); go_simp; try with_reducible rfl)
    try simp only [Act.put, List.setIfInBounds_toArray, List.set_cons_zero, List.set_cons_succ]
    refine wpAnyH_take (i := 9) (oi := { dst := some 17, op := Op.fieldAddr 79 (Operand.tmp 16) 0, type := 0, pos := "scope.go:42", after := #[{ on := 8, ground := Ground.data }, { on := 0, ground := Ground.phase }, { on := 1, ground := Ground.phase }, { on := 2, ground := Ground.phase }, { on := 3, ground := Ground.phase }, { on := 4, ground := Ground.phase }, { on := 5, ground := Ground.phase }, { on := 6, ground := Ground.phase }, { on := 7, ground := Ground.phase }], guard := none }) (v := ?_) rfl (by kernel_rfl) (by kernel_rfl) (by kernel_rfl) (fun _ _ _ h => h) (Or.inl ⟨by rfl, ?_⟩) hHeld_7 ?_
    rotate_left
    · (intro w hSw; (try dsimp only at hSw); go_simp; try with_reducible rfl)
    try simp only [Act.put, List.setIfInBounds_toArray, List.set_cons_zero, List.set_cons_succ]
    refine wpAnyH_ready (rs := [10]) (by kernel_rfl) (by simp) ?_
    refine AllReadyH.cons (o := { dst := none, op := Op.store 34 (Operand.tmp 17) (Operand.tmp 15), type := 0, pos := "scope.go:42", after := #[{ on := 9, ground := Ground.data }, { on := 7, ground := Ground.data }, { on := 7, ground := Ground.chain }, { on := 0, ground := Ground.phase }, { on := 1, ground := Ground.phase }, { on := 2, ground := Ground.phase }, { on := 3, ground := Ground.phase }, { on := 4, ground := Ground.phase }, { on := 5, ground := Ground.phase }, { on := 6, ground := Ground.phase }, { on := 7, ground := Ground.phase }], guard := none }) rfl (fun K hK => ?_) AllReadyH.nil
    have dL : w8.cell? ⟨g, o, none⟩ = some vl := (M.cell_whole G8.out o).trans HG.out.2
    have fL : w8.frozen? ⟨g, o, none⟩ = false := by simp [World.frozen?, G8.out]
    have C9 : Hid (M.Ch (fun b => vl.ownBlock = some b ∨ b = g) w3 (w8.setCell ⟨g, o, none⟩ (.slice (some ⟨gg, 0, none⟩) (n + 1) cap'))) := C8.out.trans ((M.ch_set w8 g o (.slice (some ⟨gg, 0, none⟩) (n + 1) cap')).mono fun b e => .inr e)
    have FI : Hid (Listed w (w8.setCell ⟨g, o, none⟩ (.slice (some ⟨gg, 0, none⟩) (n + 1) cap')) g o vl (.slice (some ⟨gg, 0, none⟩) (n + 1) cap') hs ⟨⟨lab, fl, var, ex⟩, .slice ae ne ce⟩) := by
      have hset := M.heap_set_same (o := o) (v := (.slice (some ⟨gg, 0, none⟩) (n + 1) cap')) G8.out
      have hlt : o < cs.size := (Array.getElem?_eq_some_iff.1 HG.out.2).1
      refine ⟨?_, ?_, L8.out, fun cs' t' h => ?_, ?_⟩
      · rw [M.cell_whole hset o, Array.getElem?_setIfInBounds_self_of_lt hlt]
      · rw [HN.out]; exact M.owns_ch O8.out (M.ch_set w8 g o _) fun b e e2 => own_ne O8.out G8.out (by decide) (by rw [e, e2])
      · rw [HG.out.1] at h; cases h; exact hset
      · exact (M.Ch.of_below B3.out).trans C9.out
    go_simp
    refine hK.out _ _ ?_ (fun hHeld_10 => ?_)
    · exact SF.out _ C9.out
    clear hK K
    try simp only [Act.put, List.setIfInBounds_toArray, List.set_cons_zero, List.set_cons_succ]
    refine wpAnyH_done (by kernel_rfl) ?_ _
    go_wp2_with fail
    refine bodyPost_end (results_none rfl _ _ _) rfl ?_
    exact ⟨rfl, _, FI.out⟩
end Go.Proofs.YtkejjiilcoacfaaGreat
