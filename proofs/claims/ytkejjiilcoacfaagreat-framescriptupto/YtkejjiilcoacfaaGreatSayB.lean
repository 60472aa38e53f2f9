/- A step said to the program's stack. -/
import Derived.Test.YtkejjiilcoacfaaGreatSayA
import Derived.Test.YtkejjiilcoacfaaGreatNeedsPu
namespace Go.Proofs.YtkejjiilcoacfaaGreat
open Go.Maps Go.RowKit Go.WideMaps

theorem StackAt.ch {O X : Nat → Prop} {W W' : World} {P : Nat} {vS : Value} {xs : List ScC} (h : StackAt O W P vS xs) (hc : M.Ch X W W') (hx : ∀ g, O g → ¬ X g) : StackAt O W' P vS xs :=
  ⟨(hc.block P (h.lt P h.bo) (hx P h.bo)).trans h.box, h.bo, M.owns_ch h.row hc fun g e => hx g (h.ro g e), h.ro, fun x hx' => (h.each x hx').ch hc (fun g e => hx g ((h.each x hx').lo g e)) (fun y hy g e => hx g (((h.each x hx').e y hy).2 g e)) (hx _ (h.each x hx').mo) (fun g e => hx g ((h.each x hx').po g e)), h.ap, fun g hg => Nat.lt_of_lt_of_le (h.lt g hg) hc.size⟩
theorem StO.ch {O X : Nat → Prop} {w w' : World} {P : Nat} {l : List Sa} (h : StO O w P l) (hc : M.Ch X w w') (hx : ∀ g, O g → ¬ X g) : StO O w' P l := by
  obtain ⟨vS, xs, h1, h2⟩ := h
  exact ⟨vS, xs, h1.ch hc hx, h2⟩
theorem StO.up {O O' : Nat → Prop} {w : World} {P : Nat} {l : List Sa} (h : StO O w P l) (ho : ∀ g, O g → O' g) (hl : ∀ g, O' g → g < w.heap.size) : StO O' w P l := by
  obtain ⟨vS, xs, h1, h2⟩ := h
  exact ⟨vS, xs, h1.up ho hl, h2⟩
theorem M.Ch.old {O : Nat → Prop} {w w' : World} (h : M.Ch (fun g => O g ∨ w.heap.size ≤ g) w w') : M.Ch O w w' := ⟨h.os, h.tape, h.output, h.size, fun g hg hx => h.block g hg fun e => by
  rcases e with e | e
  · exact hx e
  · omega⟩
theorem NsAt.ch {X : Nat → Prop} {w w' : World} {a : Option Addr} {l : List Int} (h : NsAt w a l) (hc : M.Ch X w w') (hx : ∀ g off, a = some ⟨g, off, none⟩ → ¬ X g) : NsAt w' a l := fun i x hi => by
  obtain ⟨b, off, e, h0⟩ := h i x hi
  exact ⟨b, off, e, (World.cell?_of_block (a := ⟨b, off + i, none⟩) (hc.block b (World.block_lt_of_cell? _ _ h0) (hx b off e))).trans h0⟩
def SayPost (O : Nat → Prop) (w : World) (P : Nat) (E : Int) (l : List Sa) (e : Ending) (w' : World) : Prop := e = .returned (.tuple #[.int .i64 E, .bool true]) ∧ StO (More O w w') w' P l ∧ M.Ch O w w'
theorem say_end {O : Nat → Prop} {w w2 w3 w4 w5 : World} {P L cap : Nat} {l' : List Sa} {e : List Int} (hO : ∀ g, O g → g < w.heap.size) (h2 : Below w.heap.size w w2) (hL : LentAt w.heap.size w2 L cap e) (hS : StO (More O w2 w3) w3 P l') (h3 : M.Ch O w2 w3) (h4 : Below w3.heap.size w3 w4) (h5 : M.Ch (fun g => g = L) w4 w5) : StO (More O w w5) w5 P l' ∧ M.Ch O w w5 := by
  have l1 : w.heap.size ≤ L := M.own_ge' hL.own L rfl
  have l2 : L < w2.heap.size := M.own_lt hL.own L rfl
  refine ⟨((hS.below h4).ch h5 fun g hg e => ?_).up (fun g hg => ?_) (fun g hg => ?_), M.Ch.old ?_⟩
  · subst e
    rcases hg with hg | hg
    · have := hO g hg; omega
    · have := hg.1; omega
  · rcases hg with hg | hg
    · exact .inl hg
    · exact .inr ⟨Nat.le_trans h2.size hg.1, Nat.lt_of_lt_of_le (Nat.lt_of_lt_of_le hg.2 h4.size) h5.size⟩
  · rcases hg with hg | hg
    · exact Nat.lt_of_lt_of_le (hO g hg) (Nat.le_trans h2.size (Nat.le_trans h3.size (Nat.le_trans h4.size h5.size)))
    · exact hg.2
  · exact ((M.Ch.of_below h2).trans (h3.mono fun _ h => .inl h)).trans ((M.Ch.of_below h4).trans (h5.mono fun g e => .inr (by omega)))

set_option maxRecDepth 100000 in
set_option maxHeartbeats 8000000 in
theorem says_1 {O : Nat → Prop} {w : World} {P : Nat} {l : List Sa} (h : StO O w P l) (hl : SaOk l) (kk : Int) (lab : ByteArray) (A B : Int) (a : Option Addr) (n c : Nat) (e : List Int) (he : e.length = n) (hn : n ≤ 1048576) (hE : NsAt w a e) (hEO : ∀ W, M.Ch O w W → NsAt W a e) (hlab : lab.size ≤ 281474976710656) (hwA : wfN A) (hwB : wfN B) (hw : ∀ x ∈ e, wfN x) (hk : kk = 1) :
    Calls Tryz.prog 16 #[.pointer (some ⟨P, 0, none⟩), .agg #[.int .i64 kk, .string lab, .int .i64 A, .int .i64 B, .slice a n c]] w (SayPost O w P (openE l) (openL l)) := by
  subst hk
  obtain ⟨w1, hw1⟩ : ∃ w1, w1 = w.alloc (.cells #[.int .i64 1, .string lab, .int .i64 A, .int .i64 B, .slice a n c] 45) := ⟨_, rfl⟩
  obtain ⟨T, hT⟩ : ∃ T, w.heap.size = T := ⟨_, rfl⟩
  have HW1 : Hid (w1 = w.alloc (.cells #[.int .i64 1, .string lab, .int .i64 A, .int .i64 B, .slice a n c] 45)) := hw1
  have HT : Hid (w.heap.size = T) := hT
  have b1 : Below w.heap.size w w1 := by rw [hw1]; exact fr_below_alloc _ _
  have k1 : w1.heap[T]? = some (.cells #[.int .i64 1, .string lab, .int .i64 A, .int .i64 B, .slice a n c] 45 (0, 0)) := by rw [hw1, ← hT]; exact heap_alloc_new w _
  have x4 : w1.cell? ⟨T, 4, none⟩ = some (.slice a n c) := M.cell_whole k1 4
  have B1 : Hid (Below w.heap.size w w1) := b1
  have K1 : Hid (w1.heap[T]? = some (.cells #[.int .i64 1, .string lab, .int .i64 A, .int .i64 B, .slice a n c] 45 (0, 0)) ∧ T < w1.heap.size) := ⟨k1, (Array.getElem?_eq_some_iff.1 k1).1⟩
  have LE : Hid _ := lent_any w1 a n c e he hn (hE.under b1)
  have HS : Hid (StO O w P l) := h
  have HO : Hid (∀ g, O g → g < w.heap.size) := h.lt
  have HE : Hid (NsAt w a e ∧ e.length = n ∧ (∀ W, M.Ch O w W → NsAt W a e) ∧ n ≤ 1048576 ∧ (∀ x ∈ e, wfN x)) := ⟨hE, he, hEO, hn, hw⟩
  have OK : Hid (SaOk l ∧ lab.size ≤ 281474976710656 ∧ wfN A ∧ wfN B) := ⟨hl, hlab, hwA, hwB⟩
  have NU : Hid (∀ n wx, Calls Tryz.prog 11 #[.int .i64 n] wx fun e w' => e = .returned (.int .i64 n) ∧ w' = wx) := fun n wx => num_any wx n
  clear hw1 hT b1 k1 h hl hE he hEO hlab hwA hwB hw
  go_enter Tryz.func16, Tryz.ntmps16
  go_upto_region 1 with fail
  rw [← HW1.out, HT.out]
  clear HW1
  go_wp2_with fail
  refine Calls.mono LE.out ?_
  rintro e' w2 ⟨L, cap, rfl, hL2, hb2⟩
  have B2 : Hid (Below w.heap.size w w2) := B1.out.trans (hb2.mono B1.out.size)
  have k2 : w2.heap[T]? = some (.cells #[.int .i64 1, .string lab, .int .i64 A, .int .i64 B, .slice a n c] 45 (0, 0)) := (hb2.block T K1.out.2).trans K1.out.1
  have x0 : w2.cell? ⟨T, 0, none⟩ = some (.int .i64 1) := M.cell_whole k2 0
  have x1 : w2.cell? ⟨T, 1, none⟩ = some (.string lab) := M.cell_whole k2 1
  have x2 : w2.cell? ⟨T, 2, none⟩ = some (.int .i64 A) := M.cell_whole k2 2
  have x3 : w2.cell? ⟨T, 3, none⟩ = some (.int .i64 B) := M.cell_whole k2 3
  have K2 : Hid (w2.heap[T]? = some (.cells #[.int .i64 1, .string lab, .int .i64 A, .int .i64 B, .slice a n c] 45 (0, 0))) := k2
  have L2 : Hid (LentAt w1.heap.size w2 L cap e ∧ w.heap.size < w1.heap.size) := ⟨hL2, by have := K1.out.2; have := HT.out; omega⟩
  have S2 : Hid (StO O w2 P l) := (HS.out.below B1.out).below (by have h := hb2; exact h)
  clear hL2 hb2 k2 LE HS x4
  have CA : Hid _ := open_so S2.out (by have := OK.out.1.n1; omega)
  go_wp2_with fail
  refine Calls.mono CA.out ?_
  rintro e' w3 ⟨rfl, hS3, hc3⟩
  clear CA
  have S3 : Hid (StO (More O w2 w3) w3 P (openL l)) := hS3
  have C3 : Hid (M.Ch O w2 w3) := hc3
  have TL : ¬ O T := fun h => by have := HO.out T h; have := HT.out; omega
  have k3 : w3.heap[T]? = some (.cells #[.int .i64 1, .string lab, .int .i64 A, .int .i64 B, .slice a n c] 45 (0, 0)) := (hc3.block T (Array.getElem?_eq_some_iff.1 K2.out).1 TL).trans K2.out
  have x4 : w3.cell? ⟨T, 4, none⟩ = some (.slice a n c) := M.cell_whole k3 4
  have hL3 : LentAt w1.heap.size w3 L cap e := ⟨M.owns_ch L2.out.1.own hc3 fun g hg ho => by have h1 := M.own_ge' L2.out.1.own g hg; have h2 := HO.out g ho; have h3 := L2.out.2; omega⟩
  have KE : Hid _ := kept_t w3 w1.heap.size L cap a n c e hL3 HE.out.2.1 HE.out.2.2.2.1 (HE.out.2.2.1 w3 ((M.Ch.of_below B2.out).trans hc3))
  have L3 : Hid (LentAt w1.heap.size w3 L cap e) := hL3
  clear hS3 hc3 TL k3 hL3 K2 x0 x1 x2 x3
  go_wp2_with fail
  refine Calls.mono KE.out ?_
  rintro e' w4 ⟨rfl, hb4⟩
  have B4 : Hid (Below w3.heap.size w3 w4) := hb4
  have WI : Hid _ := wipe_any w4 w1.heap.size L cap n e ⟨M.owns_ch L3.out.own (M.Ch.of_below (X := fun _ => False) hb4) fun _ _ e => e⟩ HE.out.2.1 HE.out.2.2.2.1
  clear hb4 KE x4
  go_wp2_with fail
  refine Calls.mono WI.out ?_
  rintro e' w5 ⟨rfl, hc5⟩
  have FI : Hid _ := say_end HO.out B2.out ⟨M.owns_mono L2.out.1.own (Nat.le_of_lt L2.out.2)⟩ S3.out C3.out B4.out hc5
  clear hc5 WI
  go_wp2_with fail
  refine Calls.mono (NU.out _ _) ?_
  rintro e' wz ⟨rfl, hwz⟩
  subst wz
  go_wp2
  go_ret2
  exact ⟨rfl, FI.out.1, FI.out.2⟩

set_option maxRecDepth 100000 in
set_option maxHeartbeats 8000000 in
theorem says_2 {O : Nat → Prop} {w : World} {P : Nat} {l : List Sa} (h : StO O w P l) (hl : SaOk l) (kk : Int) (lab : ByteArray) (A B : Int) (a : Option Addr) (n c : Nat) (e : List Int) (he : e.length = n) (hn : n ≤ 1048576) (hE : NsAt w a e) (hEO : ∀ W, M.Ch O w W → NsAt W a e) (hlab : lab.size ≤ 281474976710656) (hwA : wfN A) (hwB : wfN B) (hw : ∀ x ∈ e, wfN x) (hk : kk = 2) :
    Calls Tryz.prog 16 #[.pointer (some ⟨P, 0, none⟩), .agg #[.int .i64 kk, .string lab, .int .i64 A, .int .i64 B, .slice a n c]] w (SayPost O w P (closeE l) (closeL l)) := by
  subst hk
  obtain ⟨w1, hw1⟩ : ∃ w1, w1 = w.alloc (.cells #[.int .i64 2, .string lab, .int .i64 A, .int .i64 B, .slice a n c] 45) := ⟨_, rfl⟩
  obtain ⟨T, hT⟩ : ∃ T, w.heap.size = T := ⟨_, rfl⟩
  have HW1 : Hid (w1 = w.alloc (.cells #[.int .i64 2, .string lab, .int .i64 A, .int .i64 B, .slice a n c] 45)) := hw1
  have HT : Hid (w.heap.size = T) := hT
  have b1 : Below w.heap.size w w1 := by rw [hw1]; exact fr_below_alloc _ _
  have k1 : w1.heap[T]? = some (.cells #[.int .i64 2, .string lab, .int .i64 A, .int .i64 B, .slice a n c] 45 (0, 0)) := by rw [hw1, ← hT]; exact heap_alloc_new w _
  have x4 : w1.cell? ⟨T, 4, none⟩ = some (.slice a n c) := M.cell_whole k1 4
  have B1 : Hid (Below w.heap.size w w1) := b1
  have K1 : Hid (w1.heap[T]? = some (.cells #[.int .i64 2, .string lab, .int .i64 A, .int .i64 B, .slice a n c] 45 (0, 0)) ∧ T < w1.heap.size) := ⟨k1, (Array.getElem?_eq_some_iff.1 k1).1⟩
  have LE : Hid _ := lent_any w1 a n c e he hn (hE.under b1)
  have HS : Hid (StO O w P l) := h
  have HO : Hid (∀ g, O g → g < w.heap.size) := h.lt
  have HE : Hid (NsAt w a e ∧ e.length = n ∧ (∀ W, M.Ch O w W → NsAt W a e) ∧ n ≤ 1048576 ∧ (∀ x ∈ e, wfN x)) := ⟨hE, he, hEO, hn, hw⟩
  have OK : Hid (SaOk l ∧ lab.size ≤ 281474976710656 ∧ wfN A ∧ wfN B) := ⟨hl, hlab, hwA, hwB⟩
  have NU : Hid (∀ n wx, Calls Tryz.prog 11 #[.int .i64 n] wx fun e w' => e = .returned (.int .i64 n) ∧ w' = wx) := fun n wx => num_any wx n
  clear hw1 hT b1 k1 h hl hE he hEO hlab hwA hwB hw
  go_enter Tryz.func16, Tryz.ntmps16
  go_upto_region 1 with fail
  rw [← HW1.out, HT.out]
  clear HW1
  go_wp2_with fail
  refine Calls.mono LE.out ?_
  rintro e' w2 ⟨L, cap, rfl, hL2, hb2⟩
  have B2 : Hid (Below w.heap.size w w2) := B1.out.trans (hb2.mono B1.out.size)
  have k2 : w2.heap[T]? = some (.cells #[.int .i64 2, .string lab, .int .i64 A, .int .i64 B, .slice a n c] 45 (0, 0)) := (hb2.block T K1.out.2).trans K1.out.1
  have x0 : w2.cell? ⟨T, 0, none⟩ = some (.int .i64 2) := M.cell_whole k2 0
  have x1 : w2.cell? ⟨T, 1, none⟩ = some (.string lab) := M.cell_whole k2 1
  have x2 : w2.cell? ⟨T, 2, none⟩ = some (.int .i64 A) := M.cell_whole k2 2
  have x3 : w2.cell? ⟨T, 3, none⟩ = some (.int .i64 B) := M.cell_whole k2 3
  have K2 : Hid (w2.heap[T]? = some (.cells #[.int .i64 2, .string lab, .int .i64 A, .int .i64 B, .slice a n c] 45 (0, 0))) := k2
  have L2 : Hid (LentAt w1.heap.size w2 L cap e ∧ w.heap.size < w1.heap.size) := ⟨hL2, by have := K1.out.2; have := HT.out; omega⟩
  have S2 : Hid (StO O w2 P l) := (HS.out.below B1.out).below (by have h := hb2; exact h)
  clear hL2 hb2 k2 LE HS x4
  have CA : Hid _ := close_so S2.out OK.out.1.n0 (by have := OK.out.1.n1; omega)
  go_wp2_with fail
  refine Calls.mono CA.out ?_
  rintro e' w3 ⟨rfl, hS3, hc3⟩
  clear CA
  have S3 : Hid (StO (More O w2 w3) w3 P (closeL l)) := hS3
  have C3 : Hid (M.Ch O w2 w3) := hc3
  have TL : ¬ O T := fun h => by have := HO.out T h; have := HT.out; omega
  have k3 : w3.heap[T]? = some (.cells #[.int .i64 2, .string lab, .int .i64 A, .int .i64 B, .slice a n c] 45 (0, 0)) := (hc3.block T (Array.getElem?_eq_some_iff.1 K2.out).1 TL).trans K2.out
  have x4 : w3.cell? ⟨T, 4, none⟩ = some (.slice a n c) := M.cell_whole k3 4
  have hL3 : LentAt w1.heap.size w3 L cap e := ⟨M.owns_ch L2.out.1.own hc3 fun g hg ho => by have h1 := M.own_ge' L2.out.1.own g hg; have h2 := HO.out g ho; have h3 := L2.out.2; omega⟩
  have KE : Hid _ := kept_t w3 w1.heap.size L cap a n c e hL3 HE.out.2.1 HE.out.2.2.2.1 (HE.out.2.2.1 w3 ((M.Ch.of_below B2.out).trans hc3))
  have L3 : Hid (LentAt w1.heap.size w3 L cap e) := hL3
  clear hS3 hc3 TL k3 hL3 K2 x0 x1 x2 x3
  go_wp2_with fail
  refine Calls.mono KE.out ?_
  rintro e' w4 ⟨rfl, hb4⟩
  have B4 : Hid (Below w3.heap.size w3 w4) := hb4
  have WI : Hid _ := wipe_any w4 w1.heap.size L cap n e ⟨M.owns_ch L3.out.own (M.Ch.of_below (X := fun _ => False) hb4) fun _ _ e => e⟩ HE.out.2.1 HE.out.2.2.2.1
  clear hb4 KE x4
  go_wp2_with fail
  refine Calls.mono WI.out ?_
  rintro e' w5 ⟨rfl, hc5⟩
  have FI : Hid _ := say_end HO.out B2.out ⟨M.owns_mono L2.out.1.own (Nat.le_of_lt L2.out.2)⟩ S3.out C3.out B4.out hc5
  clear hc5 WI
  go_wp2_with fail
  refine Calls.mono (NU.out _ _) ?_
  rintro e' wz ⟨rfl, hwz⟩
  subst wz
  go_wp2
  go_ret2
  exact ⟨rfl, FI.out.1, FI.out.2⟩

set_option maxRecDepth 100000 in
set_option maxHeartbeats 8000000 in
theorem says_3 {O : Nat → Prop} {w : World} {P : Nat} {l : List Sa} (h : StO O w P l) (hl : SaOk l) (kk : Int) (lab : ByteArray) (A B : Int) (a : Option Addr) (n c : Nat) (e : List Int) (he : e.length = n) (hn : n ≤ 1048576) (hE : NsAt w a e) (hEO : ∀ W, M.Ch O w W → NsAt W a e) (hlab : lab.size ≤ 281474976710656) (hwA : wfN A) (hwB : wfN B) (hw : ∀ x ∈ e, wfN x) (hk : kk = 3) :
    Calls Tryz.prog 16 #[.pointer (some ⟨P, 0, none⟩), .agg #[.int .i64 kk, .string lab, .int .i64 A, .int .i64 B, .slice a n c]] w (SayPost O w P (floatE l A B) (floatL l lab A B)) := by
  subst hk
  obtain ⟨w1, hw1⟩ : ∃ w1, w1 = w.alloc (.cells #[.int .i64 3, .string lab, .int .i64 A, .int .i64 B, .slice a n c] 45) := ⟨_, rfl⟩
  obtain ⟨T, hT⟩ : ∃ T, w.heap.size = T := ⟨_, rfl⟩
  have HW1 : Hid (w1 = w.alloc (.cells #[.int .i64 3, .string lab, .int .i64 A, .int .i64 B, .slice a n c] 45)) := hw1
  have HT : Hid (w.heap.size = T) := hT
  have b1 : Below w.heap.size w w1 := by rw [hw1]; exact fr_below_alloc _ _
  have k1 : w1.heap[T]? = some (.cells #[.int .i64 3, .string lab, .int .i64 A, .int .i64 B, .slice a n c] 45 (0, 0)) := by rw [hw1, ← hT]; exact heap_alloc_new w _
  have x4 : w1.cell? ⟨T, 4, none⟩ = some (.slice a n c) := M.cell_whole k1 4
  have B1 : Hid (Below w.heap.size w w1) := b1
  have K1 : Hid (w1.heap[T]? = some (.cells #[.int .i64 3, .string lab, .int .i64 A, .int .i64 B, .slice a n c] 45 (0, 0)) ∧ T < w1.heap.size) := ⟨k1, (Array.getElem?_eq_some_iff.1 k1).1⟩
  have LE : Hid _ := lent_any w1 a n c e he hn (hE.under b1)
  have HS : Hid (StO O w P l) := h
  have HO : Hid (∀ g, O g → g < w.heap.size) := h.lt
  have HE : Hid (NsAt w a e ∧ e.length = n ∧ (∀ W, M.Ch O w W → NsAt W a e) ∧ n ≤ 1048576 ∧ (∀ x ∈ e, wfN x)) := ⟨hE, he, hEO, hn, hw⟩
  have OK : Hid (SaOk l ∧ lab.size ≤ 281474976710656 ∧ wfN A ∧ wfN B) := ⟨hl, hlab, hwA, hwB⟩
  have NU : Hid (∀ n wx, Calls Tryz.prog 11 #[.int .i64 n] wx fun e w' => e = .returned (.int .i64 n) ∧ w' = wx) := fun n wx => num_any wx n
  clear hw1 hT b1 k1 h hl hE he hEO hlab hwA hwB hw
  go_enter Tryz.func16, Tryz.ntmps16
  go_upto_region 1 with fail
  rw [← HW1.out, HT.out]
  clear HW1
  go_wp2_with fail
  refine Calls.mono LE.out ?_
  rintro e' w2 ⟨L, cap, rfl, hL2, hb2⟩
  have B2 : Hid (Below w.heap.size w w2) := B1.out.trans (hb2.mono B1.out.size)
  have k2 : w2.heap[T]? = some (.cells #[.int .i64 3, .string lab, .int .i64 A, .int .i64 B, .slice a n c] 45 (0, 0)) := (hb2.block T K1.out.2).trans K1.out.1
  have x0 : w2.cell? ⟨T, 0, none⟩ = some (.int .i64 3) := M.cell_whole k2 0
  have x1 : w2.cell? ⟨T, 1, none⟩ = some (.string lab) := M.cell_whole k2 1
  have x2 : w2.cell? ⟨T, 2, none⟩ = some (.int .i64 A) := M.cell_whole k2 2
  have x3 : w2.cell? ⟨T, 3, none⟩ = some (.int .i64 B) := M.cell_whole k2 3
  have K2 : Hid (w2.heap[T]? = some (.cells #[.int .i64 3, .string lab, .int .i64 A, .int .i64 B, .slice a n c] 45 (0, 0))) := k2
  have L2 : Hid (LentAt w1.heap.size w2 L cap e ∧ w.heap.size < w1.heap.size) := ⟨hL2, by have := K1.out.2; have := HT.out; omega⟩
  have S2 : Hid (StO O w2 P l) := (HS.out.below B1.out).below (by have h := hb2; exact h)
  clear hL2 hb2 k2 LE HS x4
  have CA : Hid _ := float_so S2.out OK.out.1 lab A B OK.out.2.1 OK.out.2.2.1 OK.out.2.2.2
  go_wp2_with fail
  refine Calls.mono CA.out ?_
  rintro e' w3 ⟨rfl, hS3, hc3⟩
  clear CA
  have S3 : Hid (StO (More O w2 w3) w3 P (floatL l lab A B)) := hS3
  have C3 : Hid (M.Ch O w2 w3) := hc3
  have TL : ¬ O T := fun h => by have := HO.out T h; have := HT.out; omega
  have k3 : w3.heap[T]? = some (.cells #[.int .i64 3, .string lab, .int .i64 A, .int .i64 B, .slice a n c] 45 (0, 0)) := (hc3.block T (Array.getElem?_eq_some_iff.1 K2.out).1 TL).trans K2.out
  have x4 : w3.cell? ⟨T, 4, none⟩ = some (.slice a n c) := M.cell_whole k3 4
  have hL3 : LentAt w1.heap.size w3 L cap e := ⟨M.owns_ch L2.out.1.own hc3 fun g hg ho => by have h1 := M.own_ge' L2.out.1.own g hg; have h2 := HO.out g ho; have h3 := L2.out.2; omega⟩
  have KE : Hid _ := kept_t w3 w1.heap.size L cap a n c e hL3 HE.out.2.1 HE.out.2.2.2.1 (HE.out.2.2.1 w3 ((M.Ch.of_below B2.out).trans hc3))
  have L3 : Hid (LentAt w1.heap.size w3 L cap e) := hL3
  clear hS3 hc3 TL k3 hL3 K2 x0 x1 x2 x3
  go_wp2_with fail
  refine Calls.mono KE.out ?_
  rintro e' w4 ⟨rfl, hb4⟩
  have B4 : Hid (Below w3.heap.size w3 w4) := hb4
  have WI : Hid _ := wipe_any w4 w1.heap.size L cap n e ⟨M.owns_ch L3.out.own (M.Ch.of_below (X := fun _ => False) hb4) fun _ _ e => e⟩ HE.out.2.1 HE.out.2.2.2.1
  clear hb4 KE x4
  go_wp2_with fail
  refine Calls.mono WI.out ?_
  rintro e' w5 ⟨rfl, hc5⟩
  have FI : Hid _ := say_end HO.out B2.out ⟨M.owns_mono L2.out.1.own (Nat.le_of_lt L2.out.2)⟩ S3.out C3.out B4.out hc5
  clear hc5 WI
  go_wp2_with fail
  refine Calls.mono (NU.out _ _) ?_
  rintro e' wz ⟨rfl, hwz⟩
  subst wz
  go_wp2
  go_ret2
  exact ⟨rfl, FI.out.1, FI.out.2⟩

set_option maxRecDepth 100000 in
set_option maxHeartbeats 8000000 in
theorem says_4 {O : Nat → Prop} {w : World} {P : Nat} {l : List Sa} (h : StO O w P l) (hl : SaOk l) (kk : Int) (lab : ByteArray) (A B : Int) (a : Option Addr) (n c : Nat) (e : List Int) (he : e.length = n) (hn : n ≤ 1048576) (hE : NsAt w a e) (hEO : ∀ W, M.Ch O w W → NsAt W a e) (hlab : lab.size ≤ 281474976710656) (hwA : wfN A) (hwB : wfN B) (hw : ∀ x ∈ e, wfN x) (hk : kk = 4) :
    Calls Tryz.prog 16 #[.pointer (some ⟨P, 0, none⟩), .agg #[.int .i64 kk, .string lab, .int .i64 A, .int .i64 B, .slice a n c]] w (SayPost O w P (judgeE l e) (essL l lab e)) := by
  subst hk
  obtain ⟨w1, hw1⟩ : ∃ w1, w1 = w.alloc (.cells #[.int .i64 4, .string lab, .int .i64 A, .int .i64 B, .slice a n c] 45) := ⟨_, rfl⟩
  obtain ⟨T, hT⟩ : ∃ T, w.heap.size = T := ⟨_, rfl⟩
  have HW1 : Hid (w1 = w.alloc (.cells #[.int .i64 4, .string lab, .int .i64 A, .int .i64 B, .slice a n c] 45)) := hw1
  have HT : Hid (w.heap.size = T) := hT
  have b1 : Below w.heap.size w w1 := by rw [hw1]; exact fr_below_alloc _ _
  have k1 : w1.heap[T]? = some (.cells #[.int .i64 4, .string lab, .int .i64 A, .int .i64 B, .slice a n c] 45 (0, 0)) := by rw [hw1, ← hT]; exact heap_alloc_new w _
  have x4 : w1.cell? ⟨T, 4, none⟩ = some (.slice a n c) := M.cell_whole k1 4
  have B1 : Hid (Below w.heap.size w w1) := b1
  have K1 : Hid (w1.heap[T]? = some (.cells #[.int .i64 4, .string lab, .int .i64 A, .int .i64 B, .slice a n c] 45 (0, 0)) ∧ T < w1.heap.size) := ⟨k1, (Array.getElem?_eq_some_iff.1 k1).1⟩
  have LE : Hid _ := lent_any w1 a n c e he hn (hE.under b1)
  have HS : Hid (StO O w P l) := h
  have HO : Hid (∀ g, O g → g < w.heap.size) := h.lt
  have HE : Hid (NsAt w a e ∧ e.length = n ∧ (∀ W, M.Ch O w W → NsAt W a e) ∧ n ≤ 1048576 ∧ (∀ x ∈ e, wfN x)) := ⟨hE, he, hEO, hn, hw⟩
  have OK : Hid (SaOk l ∧ lab.size ≤ 281474976710656 ∧ wfN A ∧ wfN B) := ⟨hl, hlab, hwA, hwB⟩
  have NU : Hid (∀ n wx, Calls Tryz.prog 11 #[.int .i64 n] wx fun e w' => e = .returned (.int .i64 n) ∧ w' = wx) := fun n wx => num_any wx n
  clear hw1 hT b1 k1 h hl hE he hEO hlab hwA hwB hw
  go_enter Tryz.func16, Tryz.ntmps16
  go_upto_region 1 with fail
  rw [← HW1.out, HT.out]
  clear HW1
  go_wp2_with fail
  refine Calls.mono LE.out ?_
  rintro e' w2 ⟨L, cap, rfl, hL2, hb2⟩
  have B2 : Hid (Below w.heap.size w w2) := B1.out.trans (hb2.mono B1.out.size)
  have k2 : w2.heap[T]? = some (.cells #[.int .i64 4, .string lab, .int .i64 A, .int .i64 B, .slice a n c] 45 (0, 0)) := (hb2.block T K1.out.2).trans K1.out.1
  have x0 : w2.cell? ⟨T, 0, none⟩ = some (.int .i64 4) := M.cell_whole k2 0
  have x1 : w2.cell? ⟨T, 1, none⟩ = some (.string lab) := M.cell_whole k2 1
  have x2 : w2.cell? ⟨T, 2, none⟩ = some (.int .i64 A) := M.cell_whole k2 2
  have x3 : w2.cell? ⟨T, 3, none⟩ = some (.int .i64 B) := M.cell_whole k2 3
  have K2 : Hid (w2.heap[T]? = some (.cells #[.int .i64 4, .string lab, .int .i64 A, .int .i64 B, .slice a n c] 45 (0, 0))) := k2
  have L2 : Hid (LentAt w1.heap.size w2 L cap e ∧ w.heap.size < w1.heap.size) := ⟨hL2, by have := K1.out.2; have := HT.out; omega⟩
  have S2 : Hid (StO O w2 P l) := (HS.out.below B1.out).below (by have h := hb2; exact h)
  clear hL2 hb2 k2 LE HS x4
  have CA : Hid _ := ess_so S2.out OK.out.1 lab (some ⟨L, 0, none⟩) n cap e OK.out.2.1 HE.out.2.1 (by have := HE.out.2.2.2.1; omega) L2.out.1.ns HE.out.2.2.2.2
  go_wp2_with fail
  refine Calls.mono CA.out ?_
  rintro e' w3 ⟨rfl, hS3, hc3⟩
  clear CA
  have S3 : Hid (StO (More O w2 w3) w3 P (essL l lab e)) := hS3
  have C3 : Hid (M.Ch O w2 w3) := hc3
  have TL : ¬ O T := fun h => by have := HO.out T h; have := HT.out; omega
  have k3 : w3.heap[T]? = some (.cells #[.int .i64 4, .string lab, .int .i64 A, .int .i64 B, .slice a n c] 45 (0, 0)) := (hc3.block T (Array.getElem?_eq_some_iff.1 K2.out).1 TL).trans K2.out
  have x4 : w3.cell? ⟨T, 4, none⟩ = some (.slice a n c) := M.cell_whole k3 4
  have hL3 : LentAt w1.heap.size w3 L cap e := ⟨M.owns_ch L2.out.1.own hc3 fun g hg ho => by have h1 := M.own_ge' L2.out.1.own g hg; have h2 := HO.out g ho; have h3 := L2.out.2; omega⟩
  have KE : Hid _ := kept_t w3 w1.heap.size L cap a n c e hL3 HE.out.2.1 HE.out.2.2.2.1 (HE.out.2.2.1 w3 ((M.Ch.of_below B2.out).trans hc3))
  have L3 : Hid (LentAt w1.heap.size w3 L cap e) := hL3
  clear hS3 hc3 TL k3 hL3 K2 x0 x1 x2 x3
  go_wp2_with fail
  refine Calls.mono KE.out ?_
  rintro e' w4 ⟨rfl, hb4⟩
  have B4 : Hid (Below w3.heap.size w3 w4) := hb4
  have WI : Hid _ := wipe_any w4 w1.heap.size L cap n e ⟨M.owns_ch L3.out.own (M.Ch.of_below (X := fun _ => False) hb4) fun _ _ e => e⟩ HE.out.2.1 HE.out.2.2.2.1
  clear hb4 KE x4
  go_wp2_with fail
  refine Calls.mono WI.out ?_
  rintro e' w5 ⟨rfl, hc5⟩
  have FI : Hid _ := say_end HO.out B2.out ⟨M.owns_mono L2.out.1.own (Nat.le_of_lt L2.out.2)⟩ S3.out C3.out B4.out hc5
  clear hc5 WI
  go_wp2_with fail
  refine Calls.mono (NU.out _ _) ?_
  rintro e' wz ⟨rfl, hwz⟩
  subst wz
  go_wp2
  go_ret2
  exact ⟨rfl, FI.out.1, FI.out.2⟩

set_option maxRecDepth 100000 in
set_option maxHeartbeats 8000000 in
theorem says_5 {O : Nat → Prop} {w : World} {P : Nat} {l : List Sa} (h : StO O w P l) (hl : SaOk l) (kk : Int) (lab : ByteArray) (A B : Int) (a : Option Addr) (n c : Nat) (e : List Int) (he : e.length = n) (hn : n ≤ 1048576) (hE : NsAt w a e) (hEO : ∀ W, M.Ch O w W → NsAt W a e) (hlab : lab.size ≤ 281474976710656) (hwA : wfN A) (hwB : wfN B) (hw : ∀ x ∈ e, wfN x) (hk : kk = 5) :
    Calls Tryz.prog 16 #[.pointer (some ⟨P, 0, none⟩), .agg #[.int .i64 kk, .string lab, .int .i64 A, .int .i64 B, .slice a n c]] w (SayPost O w P (distE l e) (distL l e)) := by
  subst hk
  obtain ⟨w1, hw1⟩ : ∃ w1, w1 = w.alloc (.cells #[.int .i64 5, .string lab, .int .i64 A, .int .i64 B, .slice a n c] 45) := ⟨_, rfl⟩
  obtain ⟨T, hT⟩ : ∃ T, w.heap.size = T := ⟨_, rfl⟩
  have HW1 : Hid (w1 = w.alloc (.cells #[.int .i64 5, .string lab, .int .i64 A, .int .i64 B, .slice a n c] 45)) := hw1
  have HT : Hid (w.heap.size = T) := hT
  have b1 : Below w.heap.size w w1 := by rw [hw1]; exact fr_below_alloc _ _
  have k1 : w1.heap[T]? = some (.cells #[.int .i64 5, .string lab, .int .i64 A, .int .i64 B, .slice a n c] 45 (0, 0)) := by rw [hw1, ← hT]; exact heap_alloc_new w _
  have x4 : w1.cell? ⟨T, 4, none⟩ = some (.slice a n c) := M.cell_whole k1 4
  have B1 : Hid (Below w.heap.size w w1) := b1
  have K1 : Hid (w1.heap[T]? = some (.cells #[.int .i64 5, .string lab, .int .i64 A, .int .i64 B, .slice a n c] 45 (0, 0)) ∧ T < w1.heap.size) := ⟨k1, (Array.getElem?_eq_some_iff.1 k1).1⟩
  have LE : Hid _ := lent_any w1 a n c e he hn (hE.under b1)
  have HS : Hid (StO O w P l) := h
  have HO : Hid (∀ g, O g → g < w.heap.size) := h.lt
  have HE : Hid (NsAt w a e ∧ e.length = n ∧ (∀ W, M.Ch O w W → NsAt W a e) ∧ n ≤ 1048576 ∧ (∀ x ∈ e, wfN x)) := ⟨hE, he, hEO, hn, hw⟩
  have OK : Hid (SaOk l ∧ lab.size ≤ 281474976710656 ∧ wfN A ∧ wfN B) := ⟨hl, hlab, hwA, hwB⟩
  have NU : Hid (∀ n wx, Calls Tryz.prog 11 #[.int .i64 n] wx fun e w' => e = .returned (.int .i64 n) ∧ w' = wx) := fun n wx => num_any wx n
  clear hw1 hT b1 k1 h hl hE he hEO hlab hwA hwB hw
  go_enter Tryz.func16, Tryz.ntmps16
  go_upto_region 1 with fail
  rw [← HW1.out, HT.out]
  clear HW1
  go_wp2_with fail
  refine Calls.mono LE.out ?_
  rintro e' w2 ⟨L, cap, rfl, hL2, hb2⟩
  have B2 : Hid (Below w.heap.size w w2) := B1.out.trans (hb2.mono B1.out.size)
  have k2 : w2.heap[T]? = some (.cells #[.int .i64 5, .string lab, .int .i64 A, .int .i64 B, .slice a n c] 45 (0, 0)) := (hb2.block T K1.out.2).trans K1.out.1
  have x0 : w2.cell? ⟨T, 0, none⟩ = some (.int .i64 5) := M.cell_whole k2 0
  have x1 : w2.cell? ⟨T, 1, none⟩ = some (.string lab) := M.cell_whole k2 1
  have x2 : w2.cell? ⟨T, 2, none⟩ = some (.int .i64 A) := M.cell_whole k2 2
  have x3 : w2.cell? ⟨T, 3, none⟩ = some (.int .i64 B) := M.cell_whole k2 3
  have K2 : Hid (w2.heap[T]? = some (.cells #[.int .i64 5, .string lab, .int .i64 A, .int .i64 B, .slice a n c] 45 (0, 0))) := k2
  have L2 : Hid (LentAt w1.heap.size w2 L cap e ∧ w.heap.size < w1.heap.size) := ⟨hL2, by have := K1.out.2; have := HT.out; omega⟩
  have S2 : Hid (StO O w2 P l) := (HS.out.below B1.out).below (by have h := hb2; exact h)
  clear hL2 hb2 k2 LE HS x4
  have CA : Hid _ := dist_so S2.out OK.out.1 (some ⟨L, 0, none⟩) n cap e HE.out.2.1 HE.out.2.2.2.1 L2.out.1.ns
  go_wp2_with fail
  refine Calls.mono CA.out ?_
  rintro e' w3 ⟨rfl, hS3, hc3⟩
  clear CA
  have S3 : Hid (StO (More O w2 w3) w3 P (distL l e)) := hS3
  have C3 : Hid (M.Ch O w2 w3) := hc3
  have TL : ¬ O T := fun h => by have := HO.out T h; have := HT.out; omega
  have k3 : w3.heap[T]? = some (.cells #[.int .i64 5, .string lab, .int .i64 A, .int .i64 B, .slice a n c] 45 (0, 0)) := (hc3.block T (Array.getElem?_eq_some_iff.1 K2.out).1 TL).trans K2.out
  have x4 : w3.cell? ⟨T, 4, none⟩ = some (.slice a n c) := M.cell_whole k3 4
  have hL3 : LentAt w1.heap.size w3 L cap e := ⟨M.owns_ch L2.out.1.own hc3 fun g hg ho => by have h1 := M.own_ge' L2.out.1.own g hg; have h2 := HO.out g ho; have h3 := L2.out.2; omega⟩
  have KE : Hid _ := kept_t w3 w1.heap.size L cap a n c e hL3 HE.out.2.1 HE.out.2.2.2.1 (HE.out.2.2.1 w3 ((M.Ch.of_below B2.out).trans hc3))
  have L3 : Hid (LentAt w1.heap.size w3 L cap e) := hL3
  clear hS3 hc3 TL k3 hL3 K2 x0 x1 x2 x3
  go_wp2_with fail
  refine Calls.mono KE.out ?_
  rintro e' w4 ⟨rfl, hb4⟩
  have B4 : Hid (Below w3.heap.size w3 w4) := hb4
  have WI : Hid _ := wipe_any w4 w1.heap.size L cap n e ⟨M.owns_ch L3.out.own (M.Ch.of_below (X := fun _ => False) hb4) fun _ _ e => e⟩ HE.out.2.1 HE.out.2.2.2.1
  clear hb4 KE x4
  go_wp2_with fail
  refine Calls.mono WI.out ?_
  rintro e' w5 ⟨rfl, hc5⟩
  have FI : Hid _ := say_end HO.out B2.out ⟨M.owns_mono L2.out.1.own (Nat.le_of_lt L2.out.2)⟩ S3.out C3.out B4.out hc5
  clear hc5 WI
  go_wp2_with fail
  refine Calls.mono (NU.out _ _) ?_
  rintro e' wz ⟨rfl, hwz⟩
  subst wz
  go_wp2
  go_ret2
  exact ⟨rfl, FI.out.1, FI.out.2⟩

set_option maxRecDepth 100000 in
set_option maxHeartbeats 8000000 in
theorem says_0 {O : Nat → Prop} {w : World} {P : Nat} {l : List Sa} (h : StO O w P l) (hl : SaOk l) (kk : Int) (lab : ByteArray) (A B : Int) (a : Option Addr) (n c : Nat) (e : List Int) (he : e.length = n) (hn : n ≤ 1048576) (hE : NsAt w a e) (hEO : ∀ W, M.Ch O w W → NsAt W a e) (hlab : lab.size ≤ 281474976710656) (hwA : wfN A) (hwB : wfN B) (hw : ∀ x ∈ e, wfN x) (m1 : ¬ kk = 1) (m2 : ¬ kk = 2) (m3 : ¬ kk = 3) (m4 : ¬ kk = 4) (m5 : ¬ kk = 5) :
    Calls Tryz.prog 16 #[.pointer (some ⟨P, 0, none⟩), .agg #[.int .i64 kk, .string lab, .int .i64 A, .int .i64 B, .slice a n c]] w (SayPost O w P 0 l) := by
  obtain ⟨w1, hw1⟩ : ∃ w1, w1 = w.alloc (.cells #[.int .i64 kk, .string lab, .int .i64 A, .int .i64 B, .slice a n c] 45) := ⟨_, rfl⟩
  obtain ⟨T, hT⟩ : ∃ T, w.heap.size = T := ⟨_, rfl⟩
  have HW1 : Hid (w1 = w.alloc (.cells #[.int .i64 kk, .string lab, .int .i64 A, .int .i64 B, .slice a n c] 45)) := hw1
  have HT : Hid (w.heap.size = T) := hT
  have b1 : Below w.heap.size w w1 := by rw [hw1]; exact fr_below_alloc _ _
  have k1 : w1.heap[T]? = some (.cells #[.int .i64 kk, .string lab, .int .i64 A, .int .i64 B, .slice a n c] 45 (0, 0)) := by rw [hw1, ← hT]; exact heap_alloc_new w _
  have x4 : w1.cell? ⟨T, 4, none⟩ = some (.slice a n c) := M.cell_whole k1 4
  have B1 : Hid (Below w.heap.size w w1) := b1
  have K1 : Hid (w1.heap[T]? = some (.cells #[.int .i64 kk, .string lab, .int .i64 A, .int .i64 B, .slice a n c] 45 (0, 0)) ∧ T < w1.heap.size) := ⟨k1, (Array.getElem?_eq_some_iff.1 k1).1⟩
  have LE : Hid _ := lent_any w1 a n c e he hn (hE.under b1)
  have HS : Hid (StO O w P l) := h
  have HO : Hid (∀ g, O g → g < w.heap.size) := h.lt
  have HE : Hid (NsAt w a e ∧ e.length = n ∧ (∀ W, M.Ch O w W → NsAt W a e) ∧ n ≤ 1048576 ∧ (∀ x ∈ e, wfN x)) := ⟨hE, he, hEO, hn, hw⟩
  have OK : Hid (SaOk l ∧ lab.size ≤ 281474976710656 ∧ wfN A ∧ wfN B) := ⟨hl, hlab, hwA, hwB⟩
  have NU : Hid (∀ n wx, Calls Tryz.prog 11 #[.int .i64 n] wx fun e w' => e = .returned (.int .i64 n) ∧ w' = wx) := fun n wx => num_any wx n
  clear hw1 hT b1 k1 h hl hE he hEO hlab hwA hwB hw
  go_enter Tryz.func16, Tryz.ntmps16
  go_upto_region 1 with fail
  rw [← HW1.out, HT.out]
  clear HW1
  go_wp2_with fail
  refine Calls.mono LE.out ?_
  rintro e' w2 ⟨L, cap, rfl, hL2, hb2⟩
  have B2 : Hid (Below w.heap.size w w2) := B1.out.trans (hb2.mono B1.out.size)
  have k2 : w2.heap[T]? = some (.cells #[.int .i64 kk, .string lab, .int .i64 A, .int .i64 B, .slice a n c] 45 (0, 0)) := (hb2.block T K1.out.2).trans K1.out.1
  have x0 : w2.cell? ⟨T, 0, none⟩ = some (.int .i64 kk) := M.cell_whole k2 0
  have x1 : w2.cell? ⟨T, 1, none⟩ = some (.string lab) := M.cell_whole k2 1
  have x2 : w2.cell? ⟨T, 2, none⟩ = some (.int .i64 A) := M.cell_whole k2 2
  have x3 : w2.cell? ⟨T, 3, none⟩ = some (.int .i64 B) := M.cell_whole k2 3
  have K2 : Hid (w2.heap[T]? = some (.cells #[.int .i64 kk, .string lab, .int .i64 A, .int .i64 B, .slice a n c] 45 (0, 0))) := k2
  have L2 : Hid (LentAt w1.heap.size w2 L cap e ∧ w.heap.size < w1.heap.size) := ⟨hL2, by have := K1.out.2; have := HT.out; omega⟩
  have S2 : Hid (StO O w2 P l) := (HS.out.below B1.out).below (by have h := hb2; exact h)
  clear hL2 hb2 k2 LE HS x4
  obtain ⟨w3, hw3⟩ : ∃ w3, w3 = w2 := ⟨_, rfl⟩
  subst hw3
  have hS3 : StO (More O w3 w3) w3 P l := S2.out.up (fun _ h => .inl h) (fun g hg => by
    rcases hg with hg | hg
    · exact S2.out.lt g hg
    · exact hg.2)
  have hc3 : M.Ch O w3 w3 := M.Ch.refl _ _
  have S3 : Hid (StO (More O w3 w3) w3 P (l)) := hS3
  have C3 : Hid (M.Ch O w3 w3) := hc3
  have TL : ¬ O T := fun h => by have := HO.out T h; have := HT.out; omega
  have k3 : w3.heap[T]? = some (.cells #[.int .i64 kk, .string lab, .int .i64 A, .int .i64 B, .slice a n c] 45 (0, 0)) := (hc3.block T (Array.getElem?_eq_some_iff.1 K2.out).1 TL).trans K2.out
  have x4 : w3.cell? ⟨T, 4, none⟩ = some (.slice a n c) := M.cell_whole k3 4
  have hL3 : LentAt w1.heap.size w3 L cap e := ⟨M.owns_ch L2.out.1.own hc3 fun g hg ho => by have h1 := M.own_ge' L2.out.1.own g hg; have h2 := HO.out g ho; have h3 := L2.out.2; omega⟩
  have KE : Hid _ := kept_t w3 w1.heap.size L cap a n c e hL3 HE.out.2.1 HE.out.2.2.2.1 (HE.out.2.2.1 w3 ((M.Ch.of_below B2.out).trans hc3))
  have L3 : Hid (LentAt w1.heap.size w3 L cap e) := hL3
  clear hS3 hc3 TL k3 hL3 K2 x1 x2 x3
  go_wp2_with fail
  refine Calls.mono KE.out ?_
  rintro e' w4 ⟨rfl, hb4⟩
  have B4 : Hid (Below w3.heap.size w3 w4) := hb4
  have WI : Hid _ := wipe_any w4 w1.heap.size L cap n e ⟨M.owns_ch L3.out.own (M.Ch.of_below (X := fun _ => False) hb4) fun _ _ e => e⟩ HE.out.2.1 HE.out.2.2.2.1
  clear hb4 KE x4
  go_wp2_with fail
  refine Calls.mono WI.out ?_
  rintro e' w5 ⟨rfl, hc5⟩
  have FI : Hid _ := say_end HO.out B2.out ⟨M.owns_mono L2.out.1.own (Nat.le_of_lt L2.out.2)⟩ S3.out C3.out B4.out hc5
  clear hc5 WI
  go_wp2_with fail
  refine Calls.mono (NU.out _ _) ?_
  rintro e' wz ⟨rfl, hwz⟩
  subst wz
  go_wp2
  go_ret2
  exact ⟨rfl, FI.out.1, FI.out.2⟩

theorem says_so {O : Nat → Prop} {w : World} {P : Nat} {l : List Sa} (h : StO O w P l) (hl : SaOk l) (o : OpA) (ho : OpOk 1048576 o) (hlab : o.lab.size ≤ 281474976710656) (a : Option Addr) (n c : Nat) (he : o.e.length = n) (hE : NsAt w a o.e) (hEO : ∀ W, M.Ch O w W → NsAt W a o.e) :
    Calls Tryz.prog 16 #[.pointer (some ⟨P, 0, none⟩), .agg #[.int .i64 o.k, .string o.lab, .int .i64 o.a, .int .i64 o.b, .slice a n c]] w (SayPost O w P (sayE l o) (sayL l o)) := by
  have hn : n ≤ 1048576 := by have := ho.n; omega
  unfold sayE sayL
  by_cases m1 : o.k = 1
  · rw [if_pos m1, if_pos m1]; exact says_1 h hl o.k o.lab o.a o.b a n c o.e he hn hE hEO hlab ho.a ho.b ho.e m1
  rw [if_neg m1, if_neg m1]
  by_cases m2 : o.k = 2
  · rw [if_pos m2, if_pos m2]; exact says_2 h hl o.k o.lab o.a o.b a n c o.e he hn hE hEO hlab ho.a ho.b ho.e m2
  rw [if_neg m2, if_neg m2]
  by_cases m3 : o.k = 3
  · rw [if_pos m3, if_pos m3]; exact says_3 h hl o.k o.lab o.a o.b a n c o.e he hn hE hEO hlab ho.a ho.b ho.e m3
  rw [if_neg m3, if_neg m3]
  by_cases m4 : o.k = 4
  · rw [if_pos m4, if_pos m4]; exact says_4 h hl o.k o.lab o.a o.b a n c o.e he hn hE hEO hlab ho.a ho.b ho.e m4
  rw [if_neg m4, if_neg m4]
  by_cases m5 : o.k = 5
  · rw [if_pos m5, if_pos m5]; exact says_5 h hl o.k o.lab o.a o.b a n c o.e he hn hE hEO hlab ho.a ho.b ho.e m5
  rw [if_neg m5, if_neg m5]
  exact says_0 h hl o.k o.lab o.a o.b a n c o.e he hn hE hEO hlab ho.a ho.b ho.e m1 m2 m3 m4 m5
end Go.Proofs.YtkejjiilcoacfaaGreat
