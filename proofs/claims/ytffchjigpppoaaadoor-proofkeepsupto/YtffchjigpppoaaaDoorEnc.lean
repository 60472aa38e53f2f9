/- What Encode answers. -/
import Derived.Test.YtffchjigpppoaaaDoorPure
import Derived.Test.YtffchjigpppoaaaDoorOnto
import Derived.Test.YtffchjigpppoaaaDoorRev
import Derived.Laws.BytesArg
import Derived.BigQuiet
namespace Go.Proofs.YtffchjigpppoaaaDoor
open Go.RowKit

def byteV (c : UInt8) : Value := .int .u8 c.toNat
theorem below_alloc (w : World) (o : Obj) : Below w.heap.size w (w.alloc o) := (Below.refl _ w).alloc (Nat.le_refl _) o
/-- A text out of its bytes. -/
def strB (l : List UInt8) : ByteArray := ⟨l.toArray⟩
theorem strB_of (s : ByteArray) : strB s.data.toList = s := rfl
theorem strB_size (l : List UInt8) : (strB l).size = l.length := by simp [strB, ByteArray.size]
theorem strOf_bytes (l : List UInt8) : strOfNums (l.map fun c => (c.toNat : Int)) = strB l := by
  unfold strOfNums strB
  rw [List.map_map]
  congr 2
  conv => rhs; rw [← List.map_id l]
  apply List.map_congr_left
  intro c _
  simp
theorem infoY : (Tryd.prog.info? 5).map (fun i => (i.zero, i.size, i.bytes)) = some (some (.int .u8 0), 1, 1) := by kernel_rfl
/-- A row that is owned, its cells. -/
theorem own_cells {W : World} {base : Nat} {v : Value} {n : Nat} {l : List UInt8} (h : W.ownsRow base 5 1 v n (l.map byteV)) (hn : 0 < n) : ∃ g c, v = .slice (some ⟨g, 0, none⟩) n c ∧ n ≤ c ∧ base ≤ g ∧ g < W.heap.size ∧ ByAt W g n (fun i => l.getD i 0) := by
  rcases h.2 with ⟨_, rfl⟩ | ⟨g, cap, cur, rfl, hg, hh, hc, hs, hsz, ht⟩
  · omega
  · refine ⟨g, cap, rfl, hc, hg, (Array.getElem?_eq_some_iff.1 hh).1, fun i hi => ?_⟩
    have hl := h.1
    rw [List.length_map, Nat.mul_one] at hl
    have hi2 : (l.map byteV)[i]? = some (byteV (l.getD i 0)) := by
      rw [List.getElem?_map, List.getElem?_eq_getElem (by omega : i < l.length)]
      simp [List.getD, List.getElem?_eq_getElem (by omega : i < l.length)]
    have hcu : cur[i]? = some (byteV (l.getD i 0)) := by
      rw [← ht, List.getElem?_take, if_pos (by omega)] at hi2
      simpa using hi2
    exact ⟨by simp [World.cell?, hh, hcu, byteV], by simp [World.frozen?, hh]⟩

/-- What Encode answers: the text and the error. -/
def encT (n : Int) : ByteArray := if n < 0 ∨ (lim : Int) ≤ n then ⟨#[]⟩ else strB (enc n.toNat)
def encE (n : Int) : Int := if n < 0 ∨ (lim : Int) ≤ n then 90 else 0

set_option maxRecDepth 100000 in
set_option maxHeartbeats 4000000 in
theorem encode_bad (w : World) (n : Int) (h : n < 0 ∨ (lim : Int) ≤ n) :
    Calls Tryd.prog 60 #[.int .i64 n] w fun e w' => e = .returned (.tuple #[.string ⟨#[]⟩, .int .i64 90]) ∧ w' = w := by
  unfold lim at h
  have F : decide (n < 0) = true ∨ (decide (n < 0) = false ∧ decide ((1125899906842624 : Int) ≤ n) = true) := by
    by_cases h1 : n < 0
    · exact .inl (decide_eq_true h1)
    · exact .inr ⟨decide_eq_false h1, decide_eq_true (by omega)⟩
  clear h
  rcases F with d1 | ⟨d1, d2⟩
  all_goals
    go_enter Tryd.func60, Tryd.ntmps60
    go_wp2
    go_ret2
    exact ⟨rfl, rfl⟩

set_option maxRecDepth 100000 in
set_option maxHeartbeats 4000000 in
theorem encode_good (w : World) (n : Nat) (h : n < lim) :
    Calls Tryd.prog 60 #[.int .i64 n] w fun e w' => e = .returned (.tuple #[.string (strB (enc n)), .int .i64 0]) ∧ Below w.heap.size w w' := by
  obtain ⟨i0, hi0, hz0, hz1, hz3⟩ := info_parts infoY
  have d1 : decide ((n : Int) < 0) = false := decide_eq_false (by omega)
  have d2 : decide ((1125899906842624 : Int) ≤ (n : Int)) = false := decide_eq_false (by unfold lim at h; omega)
  have HN : Hid (n < lim) := h
  have hn : n < 1125899906842624 := h
  clear h
  go_enter Tryd.func60, Tryd.ntmps60
  go_wp2_with fail
  have hOwn : (w.alloc (.cells #[.int .u8 (65 + (n : Int) % 20)] 5)).ownsRow w.heap.size 5 1 (.slice (some ⟨w.heap.size, 0, none⟩) 1 1) 1 ([UInt8.ofNat (65 + n % 20)].map byteV) := by
    have e : (65 + (n : Int) % 20) = (((UInt8.ofNat (65 + n % 20)).toNat : Nat) : Int) := by rw [u8_toNat _ (by omega)]; omega
    rw [e]
    exact ⟨rfl, .inr ⟨w.heap.size, 1, _, rfl, Nat.le_refl _, heap_alloc_new w _, Nat.le_refl _, by unfold maxLen; omega, rfl, rfl⟩⟩
  have HB0 : Hid (Below w.heap.size w (w.alloc (.cells #[.int .u8 (65 + (n : Int) % 20)] 5))) := below_alloc _ _
  have HO0 : Hid _ := hOwn
  have HL : Hid ((enc n).length ≤ 21) := enc_len n HN.out
  clear hOwn
  go_loopw [4, 5] (fun t r wx => ∃ (acc : List UInt8) (k : Nat) (a : Option Addr) (c : Nat), k ≤ 1125899906842624 ∧ acc.length ≤ 21 ∧ 0 < acc.length ∧ t = .slice a acc.length c ∧ r = .int .i64 k ∧ Hid (ahead k ++ acc.reverse = enc n) ∧ Hid (wx.ownsRow w.heap.size 5 1 (.slice a acc.length c) acc.length (acc.map byteV)) ∧ Hid (Below w.heap.size w wx)) (fun _ r _ => (intOf r).toNat)
  case atStart => exact ⟨[UInt8.ofNat (65 + n % 20)], n / 20, some ⟨w.heap.size, 0, none⟩, 1, by omega, by simp, by simp, rfl, by simp, rfl, HO0.out, HB0.out⟩
  case round =>
    obtain ⟨acc, k, a, c, hk, hl1, hl2, rfl, rfl, hA, hO, hb⟩ := hrel
    have hsz : Hid (w.heap.size ≤ wr.heap.size) := hb.out.size
    by_cases hk0 : 0 < k
    · have n1 : (0 : Int) < (k : Int) := by omega
      obtain ⟨m, rfl⟩ : ∃ m, k = m + 1 := ⟨k - 1, by omega⟩
      obtain ⟨q, hq⟩ : ∃ q, q = acc.length := ⟨_, rfl⟩
      have hA2 : Hid (ahead (m / 5) ++ (acc ++ [UInt8.ofNat (85 + m % 5)]).reverse = enc n) := by
        show _ = _
        have := hA.out
        rw [ahead] at this
        rw [List.reverse_append, ← this]; simp
      have hl3 : acc.length + 1 ≤ 21 := by
        have h1 := HL.out
        have h2 := congrArg List.length hA2.out
        simp only [List.length_append, List.length_reverse, List.length_singleton] at h2
        omega
      have HQ : Hid (acc.length = q) := hq.symm
      rw [← hq] at hl1 hl2 hl3 hO ⊢
      clear hq hA n1 hk0
      have n1 : (0 : Int) < ((m : Int) + 1) := by omega
      have ec : (85 + (m : Int) % 5) = (((UInt8.ofNat (85 + m % 5)).toNat : Nat) : Int) := by rw [u8_toNat _ (by omega)]; omega
      have EC : Hid ((85 + (m : Int) % 5) = (((UInt8.ofNat (85 + m % 5)).toNat : Nat) : Int)) := ec
      clear ec
      go_wp2_with (at_builtin; refine wpList_append_more (w := wr.alloc (.cells #[.int .u8 (85 + (m : Int) % 5)] 5)) rfl _ _ _ rfl w.heap.size 5 i0 _ 1 1 Tryd.underlying54 hi0 hz0 hz1 hz3 rfl (by omega) _ q (acc.map byteV) (by rfl) (by exact hO.out.alloc _) (some ⟨wr.heap.size, 0, none⟩) 1 1 ([UInt8.ofNat (85 + m % 5)].map byteV) (by rfl) (by rfl) (by intro j u hj; refine ⟨_, rfl, ?_⟩; rw [EC.out]; exact World.news_of_block (cs := #[.int .u8 (((UInt8.ofNat (85 + m % 5)).toNat : Nat) : Int)]) (t := 5) (fr := (0, 0)) (heap_alloc_new wr _) j u hj) (by simp [byteV, Value.oneCell']) (by unfold maxLen; omega) (by omega) (by have := hsz.out; simp; omega) ?_; intro a2 c2 w2 ho2 hb2; have HO2 : Hid (w2.ownsRow w.heap.size 5 1 (.slice a2 (q + 1) c2) (q + 1) (acc.map byteV ++ [UInt8.ofNat (85 + m % 5)].map byteV)) := ho2; have HB2 : Hid (Below w.heap.size w w2) := (hb.out.alloc hsz.out _).trans hb2; clear ho2 hb2)
      go_wp2
      have hqq := HQ.out
      have hO3 := HO2.out
      rw [← List.map_append, ← hqq] at hO3
      refine ⟨⟨acc ++ [UInt8.ofNat (85 + m % 5)], m / 5, a2, c2, by omega, by simp; omega, by simp, by simp; omega, by simp, hA2.out, by show World.ownsRow _ _ _ _ _ _ _; simpa using hO3, HB2.out⟩, by simp [intOf]; omega⟩
    · have n1 : ¬ (0 : Int) < (k : Int) := by omega
      obtain rfl : k = 0 := by omega
      have hE : Hid (acc.reverse = enc n) := by show _ = _; have := hA.out; simpa [ahead] using this
      obtain ⟨g, c', hv, hcc, hg, hgl, hBy⟩ := own_cells hO.out hl2
      cases hv
      have RV : Hid _ := reverse_any wr g acc.length c (fun i => acc.getD i 0) (by omega) hcc hBy
      obtain ⟨q, hq⟩ : ∃ q, q = acc.length := ⟨_, rfl⟩
      have HQ : Hid (acc.length = q) := hq.symm
      rw [← hq] at RV hl1 hl2 ⊢
      clear hq hA hBy hO
      go_wp2_with fail
      refine Calls.mono RV.out ?_
      rintro e w2 ⟨rfl, hB2, hb2⟩
      have hcv : (convert 54 9 (.slice (some ⟨g, 0, none⟩) q c)).run Tryd.prog w2 = .ok (.string (strB (enc n))) w2 := by
        have hqq := HQ.out
        have h1 := run_convert_bytes_arg (P := Tryd.prog) w2 54 5 Tryd.underlying54 Tryd.underlying5 g 0 q c ((enc n).map fun c => (c.toNat : Int)) (by rw [← hE.out]; simp; omega) (fun i hi => by
          rw [Nat.zero_add, (hB2 i hi).1, ← hE.out]
          congr 2
          have hi2 : i < acc.length := by omega
          simp only [List.getD, List.getElem?_map]
          rw [List.getElem?_reverse hi2, hqq]
          rw [List.getElem?_eq_getElem (by omega : q - 1 - i < acc.length)]
          simp) 9 Tryd.underlying9
        rw [strOf_bytes] at h1
        exact h1
      have HB2 : Hid (Below w.heap.size w w2) := hb.out.trans (hb2.mono hg)
      clear hB2 hb2 RV
      go_wp2
      go_ret2
      exact ⟨rfl, HB2.out⟩
end Go.Proofs.YtffchjigpppoaaaDoor
