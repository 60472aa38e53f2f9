/- Letters on lines of their own: onLines. -/
import Derived.Test.YtffchjigpppoaaaDoorChunk
import Derived.Test.YtffchjigpppoaaaDoorRPacked
import Derived.Lib.ConvBytes
import Derived.Shelf.Strings.BuilderK
namespace Go.Proofs.YtffchjigpppoaaaDoor
open Go.RowKit Go.Shelf
attribute [local go_sem] Oper.semAt_some

theorem brk_append (A B : List UInt8) : ∀ i, brk i (A ++ B) = brk i A ++ brk (i + A.length) B := by
  induction A with
  | nil => intro i; simp [brk]
  | cons x r ih =>
    intro i
    have e : i + 1 + r.length = i + (r.length + 1) := by omega
    simp only [brk, List.cons_append, ih, List.length_cons, e, List.append_assoc]
theorem brk_in (B : List UInt8) : ∀ j, j % 72 ≠ 0 → j % 72 + B.length ≤ 72 → brk j B = B := by
  induction B with
  | nil => intro j _ _; rfl
  | cons x r ih =>
    intro j h1 h2
    simp only [brk, if_neg h1, List.nil_append]
    simp only [List.length_cons] at h2
    cases r with
    | nil => simp [brk]
    | cons y t => rw [ih (j + 1) (by simp at h2; omega) (by simp at h2 ⊢; omega)]
/-- The bytes of a chunk. -/
def chB (L : List UInt8) (q : Nat) : List UInt8 := (L.drop (72 * q)).take 72
theorem chB_len (L : List UInt8) (q : Nat) : (chB L q).length = chLen L.length q := by
  unfold chB chLen
  rw [List.length_take, List.length_drop]
theorem brk_chunk (L : List UInt8) (q : Nat) (h : 72 * q < L.length) : brk 0 (L.take (72 * (q + 1))) = brk 0 (L.take (72 * q)) ++ 10 :: chB L q := by
  have e : L.take (72 * (q + 1)) = L.take (72 * q) ++ chB L q := by
    rw [show 72 * (q + 1) = 72 * q + 72 by omega, List.take_add]
    rfl
  rw [e, brk_append, List.length_take, Nat.min_eq_left (by omega), Nat.zero_add]
  congr 1
  have hl := chB_len L q
  unfold chLen at hl
  cases hc : chB L q with
  | nil => rw [hc] at hl; simp at hl; omega
  | cons x r =>
    rw [hc] at hl
    simp only [List.length_cons] at hl
    simp only [brk, if_pos (show 72 * q % 72 = 0 by omega), List.cons_append, List.nil_append]
    cases r with
    | nil => simp [brk]
    | cons y t => rw [brk_in _ _ (by omega) (by simp at hl ⊢; omega)]
def accB (L : List UInt8) (p : List Nat) : List UInt8 := p.flatMap fun x => 10 :: chB L x
theorem acc_range (L : List UInt8) : ∀ k, k ≤ chCount L.length → accB L (List.range k) = brk 0 (L.take (72 * k)) := by
  intro k
  induction k with
  | zero => intro _; simp [accB, brk]
  | succ k ih =>
    intro h
    rw [brk_chunk L k (ch_lt.2 (by omega)), ← ih (by omega), List.range_succ]
    simp [accB]
theorem acc_all (L : List UInt8) : accB L (List.range (chCount L.length)) = brk 0 L := by
  rw [acc_range L _ (Nat.le_refl _), List.take_of_length_le (by unfold chCount; omega)]
theorem acc_len (L : List UInt8) (p : List Nat) : (accB L p).length ≤ 73 * p.length := by
  induction p with
  | nil => simp [accB]
  | cons x r ih =>
    have e : accB L (x :: r) = (10 :: chB L x) ++ accB L r := rfl
    have h := chB_len L x
    unfold chLen at h
    rw [e, List.length_append, List.length_cons, List.length_cons]
    omega
theorem acc_snoc (L : List UInt8) (p : List Nat) (x : Nat) : accB L (p ++ [x]) = (accB L p ++ [10]) ++ chB L x := by simp [accB]
theorem chB_at (L : List UInt8) (q j : Nat) (c : UInt8) (h : (chB L q)[j]? = some c) : L[72 * q + j]? = some c := by
  unfold chB at h
  rw [List.getElem?_take] at h
  split at h
  · rw [List.getElem?_drop] at h; exact h
  · cases h
theorem Bat.own {β : Type} {lo b : Nat} (hb : b < lo) (f : β → List Value) : OwnFrom lo (fun (p : β) W => Bat lo b (f p) W) := fun s W W' row hs hg hr => by
  obtain ⟨p, v, hp, hbk, hown⟩ := hs
  have hlt := (Array.getElem?_eq_some_iff.1 hbk).1
  refine ⟨p, v, hp, (hg.block b hlt (fun e => by have := (hr b e.symm).1; omega)).trans hbk, hown.kept hg ?_⟩
  cases hv : v.ownBlock with
  | none => exact .inl rfl
  | some j =>
    refine .inr fun e => ?_
    obtain ⟨_, o, ho, hc⟩ := hr j e.symm
    rw [own_isCells hown j o hv ho] at hc
    cases hc
theorem Kps.own {β : Type} {lo b : Nat} (W0 : World) (h0 : lo ≤ W0.heap.size) : OwnFrom lo (fun (_ : β) W => Kps lo b W0 W) := fun _ _ _ _ hs hg hr =>
  hs.trans (Kps.grown lo b hg (Nat.le_trans h0 hs.size) (fun k e => (hr k e).1))

set_option maxRecDepth 100000 in
set_option maxHeartbeats 4000000 in
theorem onLines_any (w : World) (s : ByteArray) (hs : s.size ≤ 1099511627776) :
    Calls Tryd.prog 32 #[.string s] w fun e w' => e = .returned (.string (strB (brk 0 s.data.toList))) ∧ Below w.heap.size w w' := by
  refine (callsIn_wide (n := 9)).1 ?_
  refine callsIn_of_wp_marks Tryd.func32 rfl trivial ?_ rfl
  simp only [Tryd.ntmps32, List.size_toArray, List.length_cons, List.length_nil, Nat.reduceAdd, Nat.reduceSub, Array.replicate_succ, Array.replicate_zero, List.push_toArray, List.append_toArray, List.nil_append, List.cons_append]
  obtain ⟨wB, hwB⟩ : ∃ wB, Lib.bytesWorld (w.alloc (.cells #[.pointer none, .slice none 0 0] 77)) 5 s = wB := ⟨_, rfl⟩
  obtain ⟨cap, hcap⟩ : ∃ cap, grownCap (w.alloc (.cells #[.pointer none, .slice none 0 0] 77)) s.size 0 5 = cap := ⟨_, rfl⟩
  have hNc : s.size ≤ cap := by rw [← hcap]; exact grownCap_ge _ _ _ _
  have CV : (convert 9 54 (.string s)).run Tryd.prog (w.alloc (.cells #[.pointer none, .slice none 0 0] 77)) = .ok (.slice (some ⟨w.heap.size + 1, 0, none⟩) s.size cap) wB := by
    have h := Lib.run_convert_string_bytes (P := Tryd.prog) (w.alloc (.cells #[.pointer none, .slice none 0 0] 77)) 9 54 5 s Tryd.underlying9 Tryd.underlying54 Tryd.underlying5
    rw [hwB, hcap, World.size_alloc] at h
    exact h
  have hBs : wB.heap.size = w.heap.size + 2 := by rw [← hwB, Lib.bytesWorld_size, World.size_alloc]
  have hBb : wB.heap[w.heap.size]? = some (.cells #[.pointer none, .slice none 0 0] 77 (0, 0)) := by
    rw [← hwB, Lib.bytesWorld_at_old _ _ _ _ (by simp)]
    exact World.alloc_heap_new w _
  have hBc : ∀ j c, s.data.toList[j]? = some c → wB.cell? ⟨w.heap.size + 1, j, none⟩ = some (byteV c) := fun j c hj => by
    have hlt : j < s.size := (List.getElem?_eq_some_iff.1 hj).1
    have h := Lib.bytesWorld_cell (w.alloc (.cells #[.pointer none, .slice none 0 0] 77)) 5 s j hlt
    rw [hwB, World.size_alloc] at h
    rw [h]
    simp [List.getD, hj, byteV]
  have hBw : Below w.heap.size w wB := by
    rw [← hwB]
    exact ⟨rfl, rfl, rfl, by simp [Lib.bytesWorld_size]; omega, fun k hk => (Lib.bytesWorld_at_old _ _ _ k (by simp; omega)).trans (Below.heap_alloc w _ k hk)⟩
  have HBb : Hid _ := hBb
  have HBc : Hid _ := hBc
  have HBw : Hid _ := hBw
  clear hBb hBc hBw hcap hwB
  gi_wp2_with fail
  refine ⟨trivial, (chunk_in Fence.wide _ trivial rfl _ _ _ _).mono ?_⟩
  rintro e wC ⟨rfl, hwC⟩
  rw [hBs]
  obtain ⟨b, hb⟩ : ∃ b, w.heap.size = b := ⟨_, rfl⟩
  have hCs : wC.heap.size = b + 4 := by rw [hwC]; simp [hBs, hb]
  have hCo : ∀ k, k < b + 2 → wC.heap[k]? = wB.heap[k]? := fun k hk => by
    rw [hwC]
    exact (Below.heap_alloc _ _ k (by simp; omega)).trans (Below.heap_alloc wB _ k (by omega))
  have hCS : wC.cell? ⟨b + 2, 0, none⟩ = some (.slice (some ⟨b + 1, 0, none⟩) s.size cap) := by
    rw [hwC, World.cell?_of_block (w := wB.alloc (.cells #[.slice (some ⟨w.heap.size + 1, 0, none⟩) s.size cap] 54)) (a := ⟨b + 2, 0, none⟩) (Below.heap_alloc _ _ (b + 2) (by simp; omega))]
    have h := World.cell?_alloc_new wB #[.slice (some ⟨w.heap.size + 1, 0, none⟩) s.size cap] 54 0
    rw [hBs, hb] at h
    rw [hb]
    exact h
  have hCT : wC.cell? ⟨b + 3, 0, none⟩ = some (.int .i64 72) := by
    rw [hwC]
    have h := World.cell?_alloc_new (wB.alloc (.cells #[.slice (some ⟨w.heap.size + 1, 0, none⟩) s.size cap] 54)) #[.int .i64 72] 3 0
    rw [World.size_alloc, hBs, hb] at h
    rw [hb]
    exact h
  have HCb : Hid (wC.heap[b]? = some (.cells #[.pointer none, .slice none 0 0] 77 (0, 0))) := (hCo b (by omega)).trans (by have h := HBb.out; rw [hb] at h; exact h)
  have HCc : Hid (∀ j c, s.data.toList[j]? = some c → wC.cell? ⟨b + 1, j, none⟩ = some (byteV c)) := fun j c hj => (World.cell?_of_block (a := ⟨b + 1, j, none⟩) (hCo (b + 1) (by omega))).trans (by have h := HBc.out j c hj; rw [hb] at h; exact h)
  have HCw : Hid (Below b w wC) := by
    have h := HBw.out
    rw [hb] at h
    rw [hwC]
    exact (h.alloc (by omega) _).alloc (by simp; omega) _
  rw [hb] at CV ⊢
  clear HBb HBc HBw hwC hCo CV hBs
  gi_wp2_with fail
  refine wpIn_rangeFunc_ownG rfl (by omega) (gf := 61) (lb := #[.pointer (some ⟨b + 2, 0, none⟩), .pointer (some ⟨b + 3, 0, none⟩)]) rfl trivial (enters_of Tryd.func61 (by kernel_rfl) rfl)
    (chunk_stops Fence.wide _ trivial rfl (by omega) (b + 2) (b + 3) (b + 1) s.size cap (b + 4) b hNc hs wC (by omega) (by omega) (by omega) (by omega) hCS hCT) Kps.trans
    (fun W l o o' hl ho hc _ => Kps.grown (b + 4) b (grownBy_putObj' W l o') (by have := (Array.getElem?_eq_some_iff.1 ho).1; omega) (fun k e => by cases e; omega)) (Below.refl _ _) (fun _ => rfl)
    (fun pre W => Bat (b + 4) b ((accB s.data.toList (pre.map Fin.val)).map byteV) W ∧ Kps (b + 4) b wC W) (fun _ _ _ => False)
    (by rw [hCs]; exact OwnFrom.and (Bat.own (by omega) _) (Kps.own wC (by omega)))
    (fun _ _ _ _ _ h _ _ => h)
    ⟨⟨_, _, .inl rfl, HCb.out, World.ownsRow_nil _ _ _ _⟩, Kps.refl _ _ _⟩
    (fun x => { tmps := #[.string s, undef, .string ⟨#[]⟩, .pointer (some ⟨b, 0, none⟩), chV (b + 1) s.size x, .string s, .slice (some ⟨b + 1, 0, none⟩) s.size cap, .func (.func 61) #[] #[.pointer (some ⟨b + 2, 0, none⟩), .pointer (some ⟨b + 3, 0, none⟩)], chV (b + 1) s.size x, undef, undef, undef, undef], defers := [] }) ?assign ?body ?done ?stop
  case assign =>
    intro l x W K hK
    gi_wp2
    exact hK
  case body =>
    rintro l pre x W ⟨hBt, hKw⟩ hlt
    have hlen := acc_len s.data.toList (pre.map Fin.val)
    rw [List.length_map] at hlen
    have hC : chCount s.size ≤ 15270994831 := by unfold chCount; omega
    have hx := ch_lt.2 x.2
    have hcl : (chB s.data.toList x).length = chLen s.size x := chB_len _ _
    have hm0 : 0 < chLen s.size x := by unfold chLen; omega
    have hm1 : chLen s.size x ≤ 72 := by unfold chLen; omega
    have hWs : b + 4 ≤ W.heap.size := by have := hKw.size; omega
    have C1 : Hid _ := bbyte_any (b + 4) b _ 10 W (by omega) hWs hBt (by rw [List.length_map]; omega)
    have HKw : Hid (Kps (b + 4) b wC W) := hKw
    clear hBt hKw
    gi_wp2_with fail
    refine ⟨trivial, (CallsIn.inRound l (callsIn_wide.2 C1.out)).mono ?_⟩
    rintro e W1 ⟨rfl, hB1, hK1, hO1⟩
    have C2 : Hid _ := bwrite_any (b + 4) b _ ⟨b + 1, 72 * x, none⟩ (chLen s.size x) (chLen s.size x) ((chB s.data.toList x).map byteV) W1 (by omega) (by have := hK1.size; omega) hB1 (by rw [List.length_map]; exact hcl) hm0 (by rw [List.length_append, List.length_map]; simp; omega) (by simp) (by simp)
      (fun j u hj => by
        rw [List.getElem?_map] at hj
        cases hc : (chB s.data.toList x)[j]? with
        | none => rw [hc] at hj; cases hj
        | some c =>
          rw [hc] at hj
          cases hj
          have h0 := HCc.out _ c (chB_at _ _ _ _ hc)
          have h1 : W1.cell? ⟨b + 1, 72 * x + j, none⟩ = some (byteV c) := (World.cell?_of_block (a := ⟨b + 1, 72 * x + j, none⟩) ((HKw.out.trans hK1).block (b + 1) (by omega) (by omega))).trans h0
          by_cases hj0 : j = 0
          · subst hj0; exact h1
          · simpa [Addr.add, hj0] using h1) (fun u hu => by obtain ⟨c, _, rfl⟩ := List.mem_map.1 hu; rfl)
    have HK1 : Hid (Kps (b + 4) b W W1) := hK1
    have HO1 : Hid (KeepsOthers W W1) := hO1
    clear hB1 hK1 hO1 C1
    gi_wp2_with fail
    refine ⟨trivial, (CallsIn.inRound l (callsIn_wide.2 C2.out)).mono ?_⟩
    rintro e W2 ⟨rfl, hB2, hK2, hO2⟩
    have HB2 : Hid _ := hB2
    have HK2 : Hid (Kps (b + 4) b W1 W2) := hK2
    have HO2 : Hid (KeepsOthers W1 W2) := hO2
    clear hB2 hK2 hO2 C2
    gi_wp2
    refine ⟨(HO1.out.trans HO2.out).from _, HK1.out.trans HK2.out, ?_, HKw.out.trans (HK1.out.trans HK2.out)⟩
    have h := HB2.out
    rw [List.map_append, List.map_cons, List.map_nil, acc_snoc, List.map_append, List.map_append]
    exact h
  case done =>
    rintro D ys W hD hys ⟨hBt, hKw⟩ hK
    have e : accB s.data.toList (ys.map Fin.val) = brk 0 s.data.toList := by rw [hys]; exact acc_all s.data.toList
    rw [e] at hBt
    have hWs : b + 4 ≤ W.heap.size := by have := hKw.size; omega
    have C1 : Hid _ := Any.Builder_String_any_k (P := Tryd.prog) (ρ := Tryd.bren) Tryd.lays169 Tryd.bextra b b (brk 0 s.data.toList) W (by
      obtain ⟨p, v, hp, hbk, hown⟩ := hBt
      have hat : Lib.BuilderAtF 77 5 b b p ((brk 0 s.data.toList).map byteV) W := ⟨Nat.le_refl _, v, hbk, World.ownsRowF_of (hown.mono (by omega)), fun e => by have := own_ge hown b e; omega⟩
      rcases hp with rfl | rfl
      · exact .inl hat
      · exact .inr hat) (by omega)
    have HK : Hid (W.heap[D]? = some (.deferred (some []))) := hK
    have HKw : Hid (Below b w W) := ⟨hKw.os.trans HCw.out.os, hKw.tape.trans HCw.out.tape, hKw.output.trans HCw.out.output, Nat.le_trans HCw.out.size hKw.size, fun k hk => (hKw.block k (by omega) (by omega)).trans (HCw.out.block k hk)⟩
    clear hBt hKw hK
    gi_wp2_with fail
    refine ⟨trivial, (callsIn_wide.2 C1.out).mono ?_⟩
    rintro e W1 ⟨rfl, _, hb1, hk1⟩
    have hD1 : W1.heap[D]? = some (.deferred (some [])) := hk1 D _ HK.out (fun e => by cases e; omega) (fun c fz e => by cases e)
    have HB1 : Hid (Below b w W1) := HKw.out.trans hb1
    clear hb1 hk1 C1
    gi_wp2
    refine ⟨by simp, .inl ⟨_, _, rfl, run_takeDeferred hD1, ?_⟩⟩
    rw [hb]
    refine ⟨_, results_tmp rfl _ _ _, rfl, HB1.out.trans (belowK_b (w := w) (by omega) W1 D _ _ (by omega) hD1 rfl rfl)⟩
  case stop =>
    rintro D c pre W _ _ h _
    exact h.elim
end Go.Proofs.YtffchjigpppoaaaDoor
