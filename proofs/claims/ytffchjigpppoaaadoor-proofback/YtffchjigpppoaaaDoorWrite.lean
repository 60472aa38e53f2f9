/- A strings.Builder whose bytes lie in a row of its own behind all that stands: WriteByte, Write. -/
import Derived.Test.YtffchjigpppoaaaDoorShelfB
import Derived.Test.YtffchjigpppoaaaDoorOnto
import Derived.Test.YtffchjigpppoaaaDoorEnc
import Derived.RangeFuncBox
import Derived.Lib.OwnKind
namespace Go.Proofs.YtffchjigpppoaaaDoor
open Go.RowKit Go.Shelf

/-- Below lo nothing has turned but the block b. -/
structure Kps (lo b : Nat) (W W' : World) : Prop where
  os : W'.os = W.os
  tape : W'.tape = W.tape
  output : W'.output = W.output
  size : W.heap.size ≤ W'.heap.size
  block : ∀ k, k < lo → k ≠ b → W'.heap[k]? = W.heap[k]?
theorem Kps.refl (lo b : Nat) (W : World) : Kps lo b W W := ⟨rfl, rfl, rfl, Nat.le_refl _, fun _ _ _ => rfl⟩
theorem Kps.trans {lo b : Nat} {A B C : World} (h : Kps lo b A B) (k : Kps lo b B C) : Kps lo b A C :=
  ⟨k.os.trans h.os, k.tape.trans h.tape, k.output.trans h.output, Nat.le_trans h.size k.size, fun i hi hr => (k.block i hi hr).trans (h.block i hi hr)⟩
theorem Kps.alloc (lo b : Nat) (A : World) (h : lo ≤ A.heap.size) (O : Obj) : Kps lo b A (A.alloc O) := ⟨rfl, rfl, rfl, by simp, fun k hk _ => Below.heap_alloc A O k (by omega)⟩
theorem Kps.grown (lo b : Nat) {A B : World} {row : Option Nat} (h : A.grownBy B row) (hlo : lo ≤ A.heap.size) (hr : ∀ k, row = some k → lo ≤ k) : Kps lo b A B :=
  ⟨h.os, h.tape, h.output, h.size, fun k hk _ => h.block k (by omega) (fun e => by have := hr k e.symm; omega)⟩
theorem own_isCells {w : World} {lo : Nat} {v : Value} {n : Nat} {xs : List Value} (h : w.ownsRow lo 5 1 v n xs) : ∀ (j : Nat) (o : Obj), v.ownBlock = some j → w.heap[j]? = some o → o.isCells = true := fun j o hj ho => by
  obtain ⟨c, fz, hc⟩ := Lib.ownsRow_kind h j hj
  rw [hc] at ho
  cases ho
  rfl
theorem Kps.set (lo b o : Nat) (A : World) (v : Value) : Kps lo b A (A.setCell ⟨b, o, none⟩ v) := ⟨rfl, rfl, rfl, by simp [World.setCell], fun k _ hk => Below.heap_setCell _ _ _ k hk⟩
/-- A builder at b, its bytes in a row of its own from lo on. -/
def Bat (lo b : Nat) (bs : List Value) (w : World) : Prop :=
  ∃ p v, (p = .pointer none ∨ p = .pointer (some ⟨b, 0, none⟩)) ∧ w.heap[b]? = some (.cells #[p, v] 77 (0, 0)) ∧ w.ownsRow lo 5 1 v bs.length bs
theorem set_block (w : World) (b o : Nat) (cs : Array Value) (v : Value) (h : w.heap[b]? = some (.cells cs 77 (0, 0))) : (w.setCell ⟨b, o, none⟩ v).heap[b]? = some (.cells (cs.setIfInBounds o v) 77 (0, 0)) := by
  simp only [World.setCell]
  rw [Array.getElem?_modify, if_pos rfl, h]
  rfl

set_option maxHeartbeats 4000000 in
theorem bcopy_any (lo b : Nat) (bs : List Value) (w : World) (hb : b < lo) (h : Bat lo b bs w) :
    Calls Tryd.prog 58 #[.pointer (some ⟨b, 0, none⟩)] w fun e w' => e = .returned (.tuple #[]) ∧ ∃ v, w'.heap[b]? = some (.cells #[.pointer (some ⟨b, 0, none⟩), v] 77 (0, 0)) ∧ w'.ownsRow lo 5 1 v bs.length bs ∧ Kps lo b w w' ∧ KeepsOthers w w' := by
  obtain ⟨p, v, hp, hbk, hown⟩ := h
  have hc0 : w.cell? ⟨b, 0, none⟩ = some p := by rw [Lib.cell_of_heap hbk]; rfl
  rcases hp with rfl | rfl
  · refine Calls.mono (Any.Builder_copyCheck_fresh (P := Tryd.prog) (ρ := Tryd.bren) { Tryd.lays167 with } Tryd.bextra.toX72 b w hc0 (by simp [World.shape?, hbk]; rfl) (Lib.frozen_of_heap hbk 0)) ?_
    rintro e w' ⟨rfl, rfl⟩
    exact ⟨rfl, v, set_block w b 0 _ _ hbk, ownsRow_setCell_below hown hb _, Kps.set _ _ _ _ _, KeepsOthers.setCell _ _ _⟩
  · refine Calls.mono (Any.Builder_copyCheck_used (P := Tryd.prog) (ρ := Tryd.bren) { Tryd.lays167 with } Tryd.bextra.toX72 b w hc0) ?_
    rintro e w' ⟨rfl, rfl⟩
    exact ⟨rfl, v, hbk, hown, Kps.refl _ _ _, KeepsOthers.refl _⟩

set_option maxRecDepth 100000 in
set_option maxHeartbeats 4000000 in
theorem bbyte_any (lo b : Nat) (bs : List Value) (c : Int) (w : World) (hb : b < lo) (hlo : lo ≤ w.heap.size) (h : Bat lo b bs w) (hlen : bs.length + 1 ≤ 140737488355328) :
    Calls Tryd.prog 44 #[.pointer (some ⟨b, 0, none⟩), .int .u8 c] w fun e w' => e = .returned .nilIface ∧ Bat lo b (bs ++ [.int .u8 c]) w' ∧ Kps lo b w w' ∧ KeepsOthers w w' := by
  obtain ⟨i0, hi0, hz0, hz1, hz3⟩ := info_parts infoY
  have CC : Hid _ := bcopy_any lo b bs w hb h
  clear h
  go_enter Tryd.func44, Tryd.ntmps44
  go_wp2_with fail
  refine Calls.mono CC.out ?_
  rintro e w1 ⟨rfl, v, hbk, hown, hk1, ho1⟩
  have c0 : w1.cell? ⟨b, 0, none⟩ = some (.pointer (some ⟨b, 0, none⟩)) := by rw [Lib.cell_of_heap hbk]; rfl
  have c1 : w1.cell? ⟨b, 1, none⟩ = some v := by rw [Lib.cell_of_heap hbk]; rfl
  have HK1 : Hid (Kps lo b w w1) := hk1
  have HO1 : Hid (KeepsOthers w w1) := ho1
  have HBK : Hid (w1.heap[b]? = some (.cells #[.pointer (some ⟨b, 0, none⟩), v] 77 (0, 0))) := hbk
  have HOW : Hid (w1.ownsRow lo 5 1 v bs.length bs) := hown
  have hs1 := hk1.size
  clear hk1 ho1 hbk hown CC
  go_wp2_with (at_builtin; refine wpList_append_lies (w := w1.alloc (.cells #[.int .u8 c] 5)) rfl _ _ _ rfl lo 5 i0 (.int .u8 0) 1 1 Tryd.underlying54 hi0 hz0 hz1 hz3 rfl (by decide) v bs.length bs (by rfl) (by exact HOW.out.alloc _) ⟨w1.heap.size, 0, none⟩ 1 1 [.int .u8 c] (by rfl) (by rfl) (fun j' u hu => World.news_of_block (cs := #[.int .u8 c]) (t := 5) (fr := (0, 0)) (heap_alloc_new w1 _) j' u hu) (by simp [Value.oneCell']) (by omega) (by unfold maxLen; omega) (by omega) (by simp; omega) (w1.heap.size + 1) (by simp) ?_; intro g cap w2 ho2 hg2 _ _; have HO2 : Hid (w2.ownsRow lo 5 1 (.slice (some ⟨g, 0, none⟩) (bs.length + 1) cap) (bs.length + 1) (bs ++ [.int .u8 c])) := ho2; have HG2 : Hid ((w1.alloc (.cells #[.int .u8 c] 5)).grownBy w2 v.ownBlock) := hg2; clear ho2 hg2; have hb2 : w2.heap[b]? = some (.cells #[.pointer (some ⟨b, 0, none⟩), v] 77 (0, 0)) := ((HG2.out.block b (by simp; omega) (fun e => by have := own_ge HOW.out b e.symm; omega)).trans (Below.heap_alloc w1 _ b (by omega))).trans HBK.out; have d0 : w2.cell? ⟨b, 0, none⟩ = some (.pointer (some ⟨b, 0, none⟩)) := (by rw [Lib.cell_of_heap hb2]; rfl); have d1 : w2.cell? ⟨b, 1, none⟩ = some v := (by rw [Lib.cell_of_heap hb2]; rfl); have f1 : w2.frozen? ⟨b, 1, none⟩ = false := Lib.frozen_of_heap hb2 1; have HB2 : Hid (w2.heap[b]? = some (.cells #[.pointer (some ⟨b, 0, none⟩), v] 77 (0, 0))) := hb2; clear hb2)
  go_ret
  refine ⟨rfl, ⟨_, _, .inr rfl, set_block w2 b 1 _ _ HB2.out, ?_⟩, ?_, ?_⟩
  · have h := ownsRow_setCell_below HO2.out (a := ⟨b, 1, none⟩) hb (.slice (some ⟨g, 0, none⟩) (bs.length + 1) cap)
    rw [List.length_append]
    exact h
  · exact HK1.out.trans (((Kps.alloc lo b w1 (by omega) _).trans (Kps.grown lo b HG2.out (by simp; omega) (own_ge HOW.out))).trans (Kps.set _ _ _ _ _))
  · exact HO1.out.trans (((KeepsOthers.alloc w1 _).trans (KeepsOthers.of_grownBy HG2.out (own_isCells (HOW.out.alloc _)))).trans (KeepsOthers.setCell _ _ _))

set_option maxRecDepth 100000 in
set_option maxHeartbeats 4000000 in
theorem bwrite_any (lo b : Nat) (bs : List Value) (ad : Addr) (m c : Nat) (news : List Value) (w : World) (hb : b < lo) (hlo : lo ≤ w.heap.size) (h : Bat lo b bs w) (hl : news.length = m) (hm : 0 < m) (hlen : bs.length + m ≤ 140737488355328)
    (had : ad.block < lo) (hne : ad.block ≠ b) (hnews : ∀ j u, news[j]? = some u → w.cell? (ad.add j) = some u) (h1 : ∀ u ∈ news, u.oneCell' = true) :
    Calls Tryd.prog 50 #[.pointer (some ⟨b, 0, none⟩), .slice (some ad) m c] w fun e w' => e = .returned (.tuple #[.int .i64 m, .nilIface]) ∧ Bat lo b (bs ++ news) w' ∧ Kps lo b w w' ∧ KeepsOthers w w' := by
  obtain ⟨i0, hi0, hz0, hz1, hz3⟩ := info_parts infoY
  have CC : Hid _ := bcopy_any lo b bs w hb h
  have HN : Hid _ := hnews
  clear hnews h
  go_enter Tryd.func50, Tryd.ntmps50
  go_wp2_with fail
  refine Calls.mono CC.out ?_
  rintro e w1 ⟨rfl, v, hbk, hown, hk1, ho1⟩
  have c0 : w1.cell? ⟨b, 0, none⟩ = some (.pointer (some ⟨b, 0, none⟩)) := by rw [Lib.cell_of_heap hbk]; rfl
  have c1 : w1.cell? ⟨b, 1, none⟩ = some v := by rw [Lib.cell_of_heap hbk]; rfl
  have HK1 : Hid (Kps lo b w w1) := hk1
  have HO1 : Hid (KeepsOthers w w1) := ho1
  have HBK : Hid (w1.heap[b]? = some (.cells #[.pointer (some ⟨b, 0, none⟩), v] 77 (0, 0))) := hbk
  have HOW : Hid (w1.ownsRow lo 5 1 v bs.length bs) := hown
  have hs1 := hk1.size
  have HN1 : Hid (∀ j u, news[j]? = some u → w1.cell? (ad.add j) = some u) := fun j u hj => by
    have h := HN.out j u hj
    have e : (ad.add j).block = ad.block := by unfold Addr.add; split <;> rfl
    exact (World.cell?_of_block (a := ad.add j) (by rw [e]; exact HK1.out.block _ had hne)).trans h
  clear hk1 ho1 hbk hown CC HN
  go_wp2_with (at_builtin; refine wpList_append_lies (w := w1) rfl _ _ _ rfl lo 5 i0 (.int .u8 0) 1 1 Tryd.underlying54 hi0 hz0 hz1 hz3 rfl (by decide) v bs.length bs (by rfl) (by exact HOW.out) ad m c news (by rfl) (by omega) HN1.out h1 hm (by unfold maxLen; omega) (by omega) (by omega) w1.heap.size rfl ?_; intro g cap w2 ho2 hg2 _ _; have HO2 : Hid (w2.ownsRow lo 5 1 (.slice (some ⟨g, 0, none⟩) (bs.length + m) cap) (bs.length + m) (bs ++ news)) := ho2; have HG2 : Hid (w1.grownBy w2 v.ownBlock) := hg2; clear ho2 hg2; have hb2 : w2.heap[b]? = some (.cells #[.pointer (some ⟨b, 0, none⟩), v] 77 (0, 0)) := (HG2.out.block b (by omega) (fun e => by have := own_ge HOW.out b e.symm; omega)).trans HBK.out; have d0 : w2.cell? ⟨b, 0, none⟩ = some (.pointer (some ⟨b, 0, none⟩)) := (by rw [Lib.cell_of_heap hb2]; rfl); have d1 : w2.cell? ⟨b, 1, none⟩ = some v := (by rw [Lib.cell_of_heap hb2]; rfl); have f1 : w2.frozen? ⟨b, 1, none⟩ = false := Lib.frozen_of_heap hb2 1; have HB2 : Hid (w2.heap[b]? = some (.cells #[.pointer (some ⟨b, 0, none⟩), v] 77 (0, 0))) := hb2; clear hb2)
  go_ret2
  refine ⟨rfl, ⟨_, _, .inr rfl, set_block w2 b 1 _ _ HB2.out, ?_⟩, ?_, ?_⟩
  · have h := ownsRow_setCell_below HO2.out (a := ⟨b, 1, none⟩) hb (.slice (some ⟨g, 0, none⟩) (bs.length + m) cap)
    rw [List.length_append, hl]
    exact h
  · exact HK1.out.trans ((Kps.grown lo b HG2.out (by omega) (own_ge HOW.out)).trans (Kps.set _ _ _ _ _))
  · exact HO1.out.trans ((KeepsOthers.of_grownBy HG2.out (own_isCells HOW.out)).trans (KeepsOthers.setCell _ _ _))
end Go.Proofs.YtffchjigpppoaaaDoor
