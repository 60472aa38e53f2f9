/- The document's Packed. -/
import Derived.Test.YtffchjigpppoaaaDoorPlain
import Derived.Test.YtffchjigpppoaaaDoorRefD
namespace Go.Proofs.YtffchjigpppoaaaDoor
open Go.RowKit

/-- The words ahead of the letters. -/
def packW (l : List ByteArray) : List ByteArray := ⟨#[40]⟩ :: (l ++ [⟨#[41]⟩])
/-- Letters on lines of their own. -/
def brk : Nat → List UInt8 → List UInt8
  | _, [] => []
  | i, c :: r => (if i % 72 = 0 then [10] else []) ++ c :: brk (i + 1) r
theorem brk_snoc (l : List UInt8) (c : UInt8) : ∀ i, brk i (l ++ [c]) = brk i l ++ ((if (i + l.length) % 72 = 0 then [10] else []) ++ [c]) := by
  induction l with
  | nil => intro i; simp [brk]
  | cons x r ih =>
    intro i
    have e : i + 1 + r.length = i + (r.length + 1) := by omega
    simp only [brk, List.cons_append, ih, List.length_cons, e, List.append_assoc]
theorem brk_len (l : List UInt8) : ∀ i, (brk i l).length ≤ 2 * l.length := by
  induction l with
  | nil => intro i; simp [brk]
  | cons x r ih =>
    intro i
    have h := ih (i + 1)
    simp only [brk, List.length_append, List.length_cons]
    split <;> simp <;> omega
def packT (l : List ByteArray) (c : List Int) : ByteArray := if l.any noName then ⟨#[]⟩ else if prOk c then strB (linesOf (packW l) ++ brk 0 (prB c)) else ⟨#[]⟩
def packE (l : List ByteArray) (c : List Int) : Int := if l.any noName then 21 else prE c
theorem packW_len (l : List ByteArray) : (packW l).length = l.length + 2 := by simp [packW]
theorem lenTo_packW (l : List ByteArray) {n : Nat} (hl : l.length = n) : lenTo (packW l) (n + 2) = lenTo l n + 4 := by
  unfold lenTo
  rw [List.take_of_length_le (by rw [packW_len]; omega), List.take_of_length_le (by omega)]
  simp [packW]
  omega
theorem infoS : (Tryd.prog.info? 9).map (fun i => (i.zero, i.size, i.bytes)) = some (some (.string ⟨#[]⟩), 1, 16) := by kernel_rfl
theorem own_strs {W : World} {base : Nat} {v : Value} {n : Nat} {l : List ByteArray} (h : W.ownsRow base 9 1 v n (l.map Value.string)) : ∃ a c, v = .slice a n c ∧ n ≤ c ∧ StrsAt W a l := by
  obtain ⟨a, c, rfl, hc, hcell⟩ := own_cell h
  refine ⟨a, c, rfl, hc, fun i x hx => ?_⟩
  obtain ⟨g, rfl, h0⟩ := hcell i (.string x) (by rw [List.getElem?_map, hx]; rfl)
  exact ⟨g, 0, rfl, by rw [Nat.zero_add]; exact h0⟩
theorem StrsAt.up {w w' : World} {a : Option Addr} {l : List ByteArray} (h : StrsAt w a l) (hb : Below w.heap.size w w') : StrsAt w' a l := fun i x hi => by
  obtain ⟨g, off, e, h0⟩ := h i x hi
  exact ⟨g, off, e, (hb.cell (p := ⟨g, _, none⟩) (World.block_lt_of_cell? _ _ h0)).trans h0⟩
theorem own_first (w : World) (s : ByteArray) : (w.alloc (.cells #[.string s] 9)).ownsRow w.heap.size 9 1 (.slice (some ⟨w.heap.size, 0, none⟩) 1 1) 1 ([s].map Value.string) :=
  ⟨rfl, .inr ⟨w.heap.size, 1, #[.string s], rfl, Nat.le_refl _, heap_alloc_new w _, Nat.le_refl _, by unfold maxLen; omega, rfl, rfl⟩⟩

set_option maxRecDepth 100000 in
set_option maxHeartbeats 8000000 in
theorem rpacked_any (w : World) (a : Option Addr) (n c : Nat) (l : List ByteArray) (hl : l.length = n) (hS : lenTo l n ≤ 1099511620000) (h : StrsAt w a l)
    (b : Option Addr) (m d : Nat) (z : List Int) (hz : z.length = m) (hm : m ≤ 4294967296) (hI : IntsAt w b z) :
    Calls Tryd.prog 15 #[.slice a n c, .slice b m d] w fun e w' => e = .returned (.tuple #[.string (packT l z), .int .i64 (packE l z)]) ∧ Below w.heap.size w w' := by
  obtain ⟨i0, hi0, hz0, hz1, hz3⟩ := info_parts infoY
  obtain ⟨s0, hs0, sz0, sz1, sz3⟩ := info_parts infoS
  have hnb : n ≤ 1099511620000 := by
    have h1 : n ≤ lenTo l n := by unfold lenTo; omega
    omega
  have HW : Hid (∀ x ∈ l, x.size ≤ maxLen) := fun x hx => word_size hl (by omega) hx
  have HS : Hid (lenTo (packW l) (n + 2) ≤ 1099511627776) := by show _ ≤ _; rw [lenTo_packW l hl]; omega
  have HI : Hid (StrsAt w a l) := h
  have HZ : Hid (IntsAt w b z) := hI
  have HL : Hid (l.length = n) := hl
  have HM : Hid (z.length = m) := hz
  clear hl hS h hz hI
  go_enter Tryd.func15, Tryd.ntmps15
  go_wp2_with fail
  go_loopw [6, 7] (fun v i wx => ∃ (j : Nat) (av : Option Addr) (cap : Nat), j ≤ n ∧ v = .slice av (1 + j) cap ∧ i = .int .i64 j ∧ Hid (∀ y ∈ l.take j, noName y = false) ∧ Hid (wx.ownsRow w.heap.size 9 1 (.slice av (1 + j) cap) (1 + j) (((⟨#[40]⟩ : ByteArray) :: l.take j).map Value.string)) ∧ Hid (Below w.heap.size w wx)) (fun _ i _ => n - (intOf i).toNat)
  case atStart => exact ⟨0, _, 1, Nat.zero_le _, rfl, rfl, fun y hy => by simp at hy, own_first w _, below_alloc _ _⟩
  case round =>
    obtain ⟨j, av, cap, hj, rfl, rfl, hno, hO, hB⟩ := hrel
    by_cases hlt : j < n
    · have n1 : (j : Int) < (n : Int) := by omega
      obtain ⟨x, hx⟩ : ∃ x, l[j]? = some x := ⟨l[j]'(by rw [HL.out]; exact hlt), List.getElem?_eq_getElem _⟩
      obtain ⟨g, off, rfl, c0w⟩ := HI.out j x hx
      have hgw : g < w.heap.size := World.block_lt_of_cell? _ _ c0w
      have c0 := (hB.out.cell (p := ⟨g, off + j, none⟩) hgw).trans c0w
      have NM : Hid _ := K.refName_any x wr (HW.out x (List.mem_of_getElem? hx))
      have htk : Hid (l.take (j + 1) = l.take j ++ [x]) := by show _ = _; rw [List.take_add_one, hx]; rfl
      have HBD : Hid (noName x = true → l.any noName = true) := fun hb => List.any_eq_true.2 ⟨x, List.mem_of_getElem? hx, hb⟩
      clear hx c0w
      obtain ⟨mb, hmb⟩ : ∃ mb, K.madeB x 4 = mb := ⟨_, rfl⟩
      rw [hmb] at NM
      cases mb
      · have hb : Hid (l.any noName = true) := HBD.out (by unfold noName; rw [hmb]; rfl)
        clear hmb HBD
        go_wp2_with fail
        refine Calls.mono NM.out ?_
        rintro e wz ⟨rfl, hwz⟩
        subst wz
        go_wp2
        go_ret2
        refine ⟨?_, hB.out⟩
        unfold packT packE
        rw [if_pos hb.out, if_pos hb.out]
        rfl
      · have hb : Hid (∀ y ∈ l.take (j + 1), noName y = false) := fun y hy => by
          rw [htk.out, List.mem_append] at hy
          rcases hy with hy | hy
          · exact hno.out y hy
          · simp at hy; rw [hy]; unfold noName; rw [hmb]; rfl
        clear hmb HBD hno
        have c1 : (wr.alloc (.cells #[.string x] 9)).cell? ⟨g, off + j, none⟩ = some (.string x) := ((below_alloc wr _).cell (p := ⟨g, off + j, none⟩) (Nat.lt_of_lt_of_le hgw hB.out.size)).trans c0
        go_wp2_with fail
        refine Calls.mono NM.out ?_
        rintro e wz ⟨rfl, hwz⟩
        subst wz
        clear NM
        go_wp2_with (at_builtin; (refine wpList_append_more (w := wr.alloc (.cells #[.string x] 9)) rfl _ _ _ rfl w.heap.size 9 s0 _ 1 16 Tryd.underlying23 hs0 sz0 sz1 sz3 rfl (by omega) _ (1 + j) (((⟨#[40]⟩ : ByteArray) :: l.take j).map Value.string) (by rfl) (by exact owns_alloc hO.out _) (some ⟨wr.heap.size, 0, none⟩) 1 1 [.string x] (by rfl) (by rfl) (fun j' u hu => ⟨_, rfl, World.news_of_block (cs := #[.string x]) (t := 9) (fr := (0, 0)) (heap_alloc_new wr _) j' u hu⟩) (by simp [Value.oneCell']) (by unfold maxLen; omega) (by omega) (by exact Nat.le_trans hB.out.size (below_alloc _ _).size) ?_; intro a4 c4 w4 ho4 hb4; have HO4 : Hid (w4.ownsRow w.heap.size 9 1 (.slice a4 (1 + j + 1) c4) (1 + j + 1) (((⟨#[40]⟩ : ByteArray) :: l.take j).map Value.string ++ [.string x])) := ho4; have HB4 : Hid (Below w.heap.size w w4) := (hB.out.alloc hB.out.size _).trans hb4; clear ho4 hb4))
        go_wp2
        exact ⟨⟨j + 1, a4, c4, by omega, rfl, by go_num, hb.out, (by rw [htk.out]; have h := HO4.out; rw [show ((⟨#[40]⟩ : ByteArray) :: l.take j).map Value.string ++ [.string x] = (((⟨#[40]⟩ : ByteArray) :: (l.take j ++ [x])).map Value.string) by simp] at h; exact h : w4.ownsRow w.heap.size 9 1 (.slice a4 (1 + (j + 1)) c4) (1 + (j + 1)) (((⟨#[40]⟩ : ByteArray) :: l.take (j + 1)).map Value.string)), HB4.out⟩, by simp [intOf]; omega⟩
    · have n1 : ¬ (j : Int) < (n : Int) := by omega
      have e1 : l.take j = l := List.take_of_length_le (by rw [HL.out]; omega)
      obtain rfl : j = n := by omega
      rw [e1] at hno hO
      have HA : Hid (¬ l.any noName = true) := by
        show ¬ _
        rw [List.any_eq_true]
        rintro ⟨x, hx, hx2⟩
        rw [hno.out x hx] at hx2
        cases hx2
      clear hno e1
      go_wp2_with (at_builtin; (refine wpList_append_more (w := wr.alloc (.cells #[.string ⟨#[41]⟩] 9)) rfl _ _ _ rfl w.heap.size 9 s0 _ 1 16 Tryd.underlying23 hs0 sz0 sz1 sz3 rfl (by omega) _ (1 + j) (((⟨#[40]⟩ : ByteArray) :: l).map Value.string) (by rfl) (by exact owns_alloc hO.out _) (some ⟨wr.heap.size, 0, none⟩) 1 1 [.string ⟨#[41]⟩] (by rfl) (by rfl) (fun j' u hu => ⟨_, rfl, World.news_of_block (cs := #[.string ⟨#[41]⟩]) (t := 9) (fr := (0, 0)) (heap_alloc_new wr _) j' u hu⟩) (by simp [Value.oneCell']) (by unfold maxLen; omega) (by omega) (by exact Nat.le_trans hB.out.size (below_alloc _ _).size) ?_; intro a4 c4 w4 ho4 hb4; have HO4 : Hid (w4.ownsRow w.heap.size 9 1 (.slice a4 (1 + j + 1) c4) (1 + j + 1) (((⟨#[40]⟩ : ByteArray) :: l).map Value.string ++ [.string ⟨#[41]⟩])) := ho4; have HB4 : Hid (Below w.heap.size w w4) := (hB.out.alloc hB.out.size _).trans hb4; clear ho4 hb4))
      have HP : Hid (w4.ownsRow w.heap.size 9 1 (.slice a4 (j + 2) c4) (j + 2) ((packW l).map Value.string)) := by
        show World.ownsRow _ _ _ _ _ _ _
        have h := HO4.out
        rw [show ((⟨#[40]⟩ : ByteArray) :: l).map Value.string ++ [.string ⟨#[41]⟩] = (packW l).map Value.string by simp [packW], show 1 + j + 1 = j + 2 by omega] at h
        exact h
      obtain ⟨a5, c5, e5, hc5, hst⟩ := own_strs HP.out
      cases e5
      have HST : Hid (StrsAt w4 a4 (packW l)) := hst
      have hsz4 := HB4.out.size
      have RP : Hid _ := rprint_any w4 b m d z HM.out hm (fun i x hi => by
        obtain ⟨g, off, e, h0⟩ := HZ.out i x hi
        exact ⟨g, off, e, (HB4.out.cell (p := ⟨g, _, none⟩) (World.block_lt_of_cell? _ _ h0)).trans h0⟩)
      rw [show 1 + j + 1 = j + 2 by omega]
      clear hst hO HO4 HP
      refine Calls.mono RP.out ?_
      rintro e w5 ⟨rfl, hb5⟩
      have HB5 : Hid (Below w.heap.size w w5) := HB4.out.trans (hb5.mono hsz4)
      have HST5 : Hid (StrsAt w5 a4 (packW l)) := HST.out.up hb5
      clear RP hb5 HST
      cases hq : prOk z
      · have hqT : prT z = ⟨#[]⟩ := by unfold prT; rw [hq]; rfl
        have hqE : prE z = 90 := by unfold prE; rw [hq]; rfl
        have HE : Hid (packT l z = ⟨#[]⟩ ∧ packE l z = 90) := by
          unfold packT packE
          rw [if_neg HA.out, if_neg HA.out, hq, hqE]
          exact ⟨rfl, rfl⟩
        rw [hqT, hqE]
        clear hqT hqE hq
        go_wp2
        go_ret2
        refine ⟨?_, HB5.out⟩
        rw [HE.out.1, HE.out.2]
        rfl
      · have hqT : prT z = strB (prB z) := by unfold prT; rw [hq]; rfl
        have hqE : prE z = 0 := by unfold prE; rw [hq]; rfl
        have hlen := prB_len z hq
        rw [HM.out] at hlen
        have HE : Hid (packT l z = strB (linesOf (packW l) ++ brk 0 (prB z)) ∧ packE l z = 0) := by
          unfold packT packE
          rw [if_neg HA.out, if_neg HA.out, hq, hqE]
          exact ⟨rfl, rfl⟩
        rw [hqT, hqE]
        obtain ⟨L, hL⟩ : ∃ L, prB z = L := ⟨_, rfl⟩
        rw [hL] at hlen HE ⊢
        clear hqT hqE hq hL
        have RL : Hid _ := rlines_any w5 a4 (j + 2) c4 (packW l) (by rw [packW_len, HL.out]) HS.out HST5.out
        have hll := lines_len (packW l) (j + 2) (by have h1 := packW_len l; have h2 := HL.out; omega)
        rw [List.take_of_length_le (by have h1 := packW_len l; have h2 := HL.out; omega)] at hll
        have hll2 : (linesOf (packW l)).length ≤ 1099511627776 := Nat.le_trans hll.1 HS.out
        obtain ⟨X, hX⟩ : ∃ X, linesOf (packW l) = X := ⟨_, rfl⟩
        rw [hX] at RL HE hll2
        have hXs : (strB X).size = X.length := strB_size _
        clear hX hll HST5
        go_wp2_with fail
        refine Calls.mono RL.out ?_
        rintro e w6 ⟨rfl, hb6⟩
        have HB6 : Hid (Below w.heap.size w w6) := HB5.out.trans (hb6.mono HB5.out.size)
        clear RL hb6
        obtain ⟨q, hq⟩ : ∃ q, X.length = q := ⟨_, rfl⟩
        have HX : Hid (X.length = q) := hq
        rw [hq] at hll2 hXs
        clear hq
        go_wp2_with (at_builtin; (refine wpList_append_str (w := w6) rfl _ _ _ _ rfl w.heap.size 5 i0 Tryd.underlying54 Tryd.underlying9 hi0 hz0 hz1 hz3 _ (0) ([]) (by rfl) (by exact World.ownsRow_nil _ _ _ _) (strB X) (by rfl) (by unfold maxLen; omega) (by omega) (by exact HB6.out.size) ?_; intro a7 c7 w7 ho7 hb7; have HO7 : Hid (w7.ownsRow w.heap.size 5 1 (.slice a7 (0 + (strB X).size) c7) (0 + (strB X).size) ([] ++ Lib.strCells (strB X))) := ho7; have HB7 : Hid (Below w.heap.size w w7) := HB6.out.trans hb7; clear ho7 hb7))
        have HO8 : Hid (w7.ownsRow w.heap.size 5 1 (.slice a7 q c7) q ((X ++ brk 0 (L.take 0)).map byteV)) := by
          show World.ownsRow _ _ _ _ _ _ _
          have h := HO7.out
          rw [hXs, Nat.zero_add] at h
          rw [List.take_zero, show brk 0 [] = [] from rfl, List.append_nil]
          exact h
        have hLs : (strB L).size = L.length := strB_size _
        obtain ⟨r, hr⟩ : ∃ r, L.length = r := ⟨_, rfl⟩
        have HR : Hid (L.length = r) := hr
        rw [hr] at hlen hLs
        clear hr HO7 hXs HA HI HZ HL HM HW HS
        go_loopw [10, 11] (fun v i wx => ∃ (k p : Nat) (av : Option Addr) (cap : Nat), k ≤ r ∧ p ≤ q + 2 * k ∧ v = .slice av p cap ∧ i = .int .i64 k ∧ Hid (wx.ownsRow w.heap.size 5 1 (.slice av p cap) p ((X ++ brk 0 (L.take k)).map byteV)) ∧ Hid (Below w.heap.size w wx)) (fun _ i _ => r - (intOf i).toNat)
        case atStart => exact ⟨0, q, a7, c7, Nat.zero_le _, by omega, rfl, rfl, HO8.out, HB7.out⟩
        case round =>
          clear HB7 HO8 HB6 HB5 HB4 hB
          obtain ⟨k, p, av2, cap2, hk, hp, rfl, rfl, hO, hB⟩ := hrel
          by_cases hlt : k < r
          · have n2 : (k : Int) < (r : Int) := by omega
            have hlt2 : k < (strB L).size := by omega
            obtain ⟨y, hy⟩ : ∃ y, (strB L)[k]'hlt2 = y := ⟨_, rfl⟩
            have htk : Hid (brk 0 (L.take (k + 1)) = brk 0 (L.take k) ++ ((if k % 72 = 0 then [10] else []) ++ [y])) := by
              show _ = _
              have hx2 : L[k]? = some y := by
                rw [← hy]
                exact List.getElem?_eq_getElem (by rw [HR.out]; exact hlt)
              rw [List.take_add_one, hx2, Option.toList_some, brk_snoc, List.length_take, HR.out, Nat.min_eq_left (by omega), Nat.zero_add]
            by_cases h72 : k % 72 = 0
            · have i1 : (k : Int) % 72 = 0 := by omega
              rw [if_pos h72] at htk
              go_wp2_with (at_builtin; first | (refine wpList_append_more (w := wr.alloc (.cells #[.int .u8 10] 5)) rfl _ _ _ rfl w.heap.size 5 i0 _ 1 1 Tryd.underlying54 hi0 hz0 hz1 hz3 rfl (by omega) _ p ((X ++ brk 0 (L.take k)).map byteV) (by rfl) (by exact owns_alloc hO.out _) (some ⟨wr.heap.size, 0, none⟩) 1 1 [.int .u8 10] (by rfl) (by rfl) (fun j' u hu => ⟨_, rfl, World.news_of_block (cs := #[.int .u8 10]) (t := 5) (fr := (0, 0)) (heap_alloc_new wr _) j' u hu⟩) (by simp [Value.oneCell']) (by unfold maxLen; omega) (by omega) (by exact Nat.le_trans hB.out.size (below_alloc _ _).size) ?_; intro a8 c8 w8 ho8 hb8; have HO8 : Hid (w8.ownsRow w.heap.size 5 1 (.slice a8 (p + 1) c8) (p + 1) ((X ++ brk 0 (L.take k)).map byteV ++ [.int .u8 10])) := ho8; have HB8 : Hid (Below w.heap.size w w8) := (hB.out.alloc hB.out.size _).trans hb8; clear ho8 hb8) | (refine wpList_append_more (w := w8.alloc (.cells #[.int .u8 (y.toNat : Int)] 5)) rfl _ _ _ rfl w.heap.size 5 i0 _ 1 1 Tryd.underlying54 hi0 hz0 hz1 hz3 rfl (by omega) _ (p + 1) ((X ++ brk 0 (L.take k)).map byteV ++ [.int .u8 10]) (by rfl) (by exact owns_alloc HO8.out _) (some ⟨w8.heap.size, 0, none⟩) 1 1 [.int .u8 (y.toNat : Int)] (by rfl) (by rfl) (fun j' u hu => ⟨_, rfl, World.news_of_block (cs := #[.int .u8 (y.toNat : Int)]) (t := 5) (fr := (0, 0)) (heap_alloc_new w8 _) j' u hu⟩) (by simp [Value.oneCell']) (by unfold maxLen; omega) (by omega) (by exact Nat.le_trans HB8.out.size (below_alloc _ _).size) ?_; intro a9 c9 w9 ho9 hb9; have HO9 : Hid (w9.ownsRow w.heap.size 5 1 (.slice a9 ((p + 1) + 1) c9) ((p + 1) + 1) ((X ++ brk 0 (L.take k)).map byteV ++ [.int .u8 10] ++ [.int .u8 (y.toNat : Int)])) := ho9; have HB9 : Hid (Below w.heap.size w w9) := (HB8.out.alloc HB8.out.size _).trans hb9; clear ho9 hb9))
              exact ⟨⟨k + 1, p + 1 + 1, a9, c9, by omega, by omega, rfl, by go_num, (by rw [htk.out]; have h := HO9.out; rw [show (X ++ brk 0 (L.take k)).map byteV ++ [.int .u8 10] ++ [.int .u8 (y.toNat : Int)] = (X ++ (brk 0 (L.take k) ++ ([10] ++ [y]))).map byteV by simp [byteV]] at h; exact h : w9.ownsRow w.heap.size 5 1 (.slice a9 (p + 1 + 1) c9) (p + 1 + 1) ((X ++ brk 0 (L.take (k + 1))).map byteV)), HB9.out⟩, by simp [intOf]; omega⟩
            · have i1 : ¬ (k : Int) % 72 = 0 := by omega
              rw [if_neg h72] at htk
              go_wp2_with (at_builtin; (refine wpList_append_more (w := wr.alloc (.cells #[.int .u8 (y.toNat : Int)] 5)) rfl _ _ _ rfl w.heap.size 5 i0 _ 1 1 Tryd.underlying54 hi0 hz0 hz1 hz3 rfl (by omega) _ p ((X ++ brk 0 (L.take k)).map byteV) (by rfl) (by exact owns_alloc hO.out _) (some ⟨wr.heap.size, 0, none⟩) 1 1 [.int .u8 (y.toNat : Int)] (by rfl) (by rfl) (fun j' u hu => ⟨_, rfl, World.news_of_block (cs := #[.int .u8 (y.toNat : Int)]) (t := 5) (fr := (0, 0)) (heap_alloc_new wr _) j' u hu⟩) (by simp [Value.oneCell']) (by unfold maxLen; omega) (by omega) (by exact Nat.le_trans hB.out.size (below_alloc _ _).size) ?_; intro a9 c9 w9 ho9 hb9; have HO9 : Hid (w9.ownsRow w.heap.size 5 1 (.slice a9 (p + 1) c9) (p + 1) ((X ++ brk 0 (L.take k)).map byteV ++ [.int .u8 (y.toNat : Int)])) := ho9; have HB9 : Hid (Below w.heap.size w w9) := (hB.out.alloc hB.out.size _).trans hb9; clear ho9 hb9))
              go_wp2
              exact ⟨⟨k + 1, p + 1, a9, c9, by omega, by omega, rfl, by go_num, (by rw [htk.out]; have h := HO9.out; rw [show (X ++ brk 0 (L.take k)).map byteV ++ [.int .u8 (y.toNat : Int)] = (X ++ (brk 0 (L.take k) ++ ([] ++ [y]))).map byteV by simp [byteV]] at h; exact h : w9.ownsRow w.heap.size 5 1 (.slice a9 (p + 1) c9) (p + 1) ((X ++ brk 0 (L.take (k + 1))).map byteV)), HB9.out⟩, by simp [intOf]; omega⟩
          · have n2 : ¬ (k : Int) < (r : Int) := by omega
            have e1 : L.take k = L := List.take_of_length_le (by rw [HR.out]; omega)
            rw [e1] at hO
            have CV : (convert 54 9 (.slice av2 p cap2)).run Tryd.prog wr = .ok (.string (strB (X ++ brk 0 L))) wr := conv_own hO.out
            clear hO e1
            go_wp2
            go_ret2
            refine ⟨?_, hB.out⟩
            rw [HE.out.1, HE.out.2]
            rfl
end Go.Proofs.YtffchjigpppoaaaDoor
