/- Packed. -/
import Derived.Test.YtffchjigpppoaaaDoorGrow
namespace Go.Proofs.YtffchjigpppoaaaDoor
open Go.RowKit

theorem strB_cat (X Y : List UInt8) : strB X ++ strB Y = strB (X ++ Y) := strB_append X Y

set_option maxRecDepth 100000 in
set_option maxHeartbeats 8000000 in
theorem packed_any (w : World) (a : Option Addr) (n c : Nat) (l : List ByteArray) (hl : l.length = n) (_ : n ≤ c) (hS : lenTo l n ≤ 1099511620000) (h : StrsAt w a l) (hK : KBs w)
    (b : Option Addr) (m d : Nat) (z : List Int) (hz : z.length = m) (hd : m ≤ d) (hm : m ≤ 4294967296) (hI : IntsAt w b z) :
    Calls Tryd.prog 12 #[.slice a n c, .slice b m d] w fun e w' => e = .returned (.tuple #[.string (packT l z), .int .i64 (packE l z)]) ∧ Below w.heap.size w w' := by
  have hn : n ≤ lenTo l n := by unfold lenTo; omega
  have C1 : Hid _ := contains29_any w noName a n c l hl (by omega) h fun x hx => noName_any w x (word_size hl (by omega) hx) hK
  have C2 : Hid _ := print_any w b m d z hz hd hm hI
  obtain ⟨bb, hb⟩ : ∃ bb, l.any noName = bb := ⟨_, rfl⟩
  rw [hb] at C1
  clear hK
  cases bb
  · have HF : Hid (prOk z = false → packT l z = ⟨#[]⟩ ∧ packE l z = 90) := fun hq => by
      unfold packT packE prE
      rw [hb, hq]
      exact ⟨rfl, rfl⟩
    have HT : Hid (prOk z = true → packT l z = strB (linesOf (packW l) ++ brk 0 (prB z)) ∧ packE l z = 0) := fun hq => by
      unfold packT packE prE
      rw [hb, hq]
      exact ⟨rfl, rfl⟩
    clear hb
    go_enter Tryd.func12, Tryd.ntmps12
    go_wp2_with fail
    refine Calls.mono C1.out ?_
    rintro e wz ⟨rfl, hwz⟩
    subst wz
    clear C1
    go_wp2_with fail
    refine Calls.mono C2.out ?_
    rintro e w1 ⟨rfl, hb1⟩
    have HB1 : Hid (Below w.heap.size w w1) := hb1
    clear hb1 C2
    cases hq : prOk z
    · have hqT : prT z = ⟨#[]⟩ := by unfold prT; rw [hq]; rfl
      have hqE : prE z = 90 := by unfold prE; rw [hq]; rfl
      have HE : Hid _ := HF.out hq
      rw [hqT, hqE]
      clear hqT hqE hq HF HT
      go_wp2
      go_ret2
      rw [HE.out.1, HE.out.2]
      exact ⟨rfl, HB1.out⟩
    · have hqT : prT z = strB (prB z) := by unfold prT; rw [hq]; rfl
      have hqE : prE z = 0 := by unfold prE; rw [hq]; rfl
      have hlen := prB_len z hq
      rw [hz] at hlen
      have HE : Hid (packT l z = strB (linesOf (packW l) ++ brk 0 (prB z)) ∧ packE l z = 0) := HT.out hq
      rw [hqT, hqE]
      clear hqT hqE hq HF HT
      obtain ⟨Z, hZ⟩ : ∃ Z, prB z = Z := ⟨_, rfl⟩
      rw [hZ] at hlen HE ⊢
      clear hZ
      have hs1 := HB1.out.size
      obtain ⟨w2, hw2⟩ : ∃ w2, ((w1.alloc (.cells #[.string ⟨#[40]⟩] 9)).alloc (.cells #[.string ⟨#[41]⟩] 9)).alloc (.cells #[.slice (some ⟨w1.heap.size, 0, none⟩) 1 1, .slice a n c, .slice (some ⟨w1.heap.size + 1, 0, none⟩) 1 1] 23) = w2 := ⟨_, rfl⟩
      have hB2 : Below w1.heap.size w1 w2 := by
        rw [← hw2]
        exact (((Below.refl _ w1).alloc (Nat.le_refl _) _).alloc (by simp) _).alloc (by simp; omega) _
      have k0 : w2.heap[w1.heap.size]? = some (.cells #[.string ⟨#[40]⟩] 9 (0, 0)) := by
        rw [← hw2]
        exact ((Below.heap_alloc _ _ _ (by simp; omega)).trans (Below.heap_alloc _ _ _ (by simp))).trans (World.alloc_heap_new w1 _)
      have k1 : w2.heap[w1.heap.size + 1]? = some (.cells #[.string ⟨#[41]⟩] 9 (0, 0)) := by
        rw [← hw2]
        refine (Below.heap_alloc _ _ _ (by simp)).trans ?_
        have h := World.alloc_heap_new (w1.alloc (.cells #[.string ⟨#[40]⟩] 9)) (.cells #[.string ⟨#[41]⟩] 9)
        rw [World.size_alloc] at h
        exact h
      have k2 : w2.heap[w1.heap.size + 2]? = some (.cells #[.slice (some ⟨w1.heap.size, 0, none⟩) 1 1, .slice a n c, .slice (some ⟨w1.heap.size + 1, 0, none⟩) 1 1] 23 (0, 0)) := by
        rw [← hw2]
        have h := World.alloc_heap_new ((w1.alloc (.cells #[.string ⟨#[40]⟩] 9)).alloc (.cells #[.string ⟨#[41]⟩] 9)) (.cells #[.slice (some ⟨w1.heap.size, 0, none⟩) 1 1, .slice a n c, .slice (some ⟨w1.heap.size + 1, 0, none⟩) 1 1] 23)
        rw [World.size_alloc, World.size_alloc] at h
        exact h
      have HB2 : Hid (Below w.heap.size w w2) := HB1.out.trans (hB2.mono hs1)
      have CC := concat_any w2 (w1.heap.size + 2) 3 (fun j => if j = 0 then some ⟨w1.heap.size, 0, none⟩ else if j = 1 then a else some ⟨w1.heap.size + 1, 0, none⟩) (fun j => if j = 1 then n else 1) (fun j => if j = 1 then c else 1) (fun j => if j = 0 then [⟨#[40]⟩] else if j = 1 then l else [⟨#[41]⟩])
        (fun j hj => by
          rcases j with _ | _ | _ | j
          · simp [World.cell?, k2]
          · simp [World.cell?, k2]
          · simp [World.cell?, k2]
          · omega)
        (fun j hj => by
          rcases j with _ | _ | _ | j
          · rfl
          · exact hl
          · rfl
          · omega)
        (fun j hj => by
          rcases j with _ | _ | _ | j
          · intro i x hi
            cases i with
            | zero => cases hi; exact ⟨w1.heap.size, 0, rfl, by simp [World.cell?, k0]⟩
            | succ i => simp at hi
          · exact h.up HB2.out
          · intro i x hi
            cases i with
            | zero => cases hi; exact ⟨w1.heap.size + 1, 0, rfl, by simp [World.cell?, k1]⟩
            | succ i => simp at hi
          · omega)
        (fun j hj => by
          rcases j with _ | _ | _ | _ | j
          · simp [sumTo]
          · simp [sumTo]
          · simp [sumTo]; omega
          · simp [sumTo]; omega
          · omega)
        (by simp [sumTo])
      have esum : sumTo (fun j => if j = 1 then n else 1) 3 = n + 2 := by simp [sumTo]; omega
      have ecat : catTo (fun j => if j = 0 then [⟨#[40]⟩] else if j = 1 then l else [⟨#[41]⟩]) 3 = packW l := by simp [catTo, packW]
      rw [esum, ecat] at CC
      clear k0 k1 k2 hB2 esum ecat
      replace CC := show Hid _ from CC
      go_wp2_with fail
      refine Calls.mono CC.out ?_
      rintro e w3 ⟨a3, c3, rfl, hc3, hst, hb3⟩
      have HB3 : Hid (Below w.heap.size w w3) := HB2.out.trans (hb3.mono HB2.out.size)
      have IL : Hid _ := inLines_any w3 a3 (n + 2) c3 (packW l) (by rw [packW_len, hl]) hc3 (by rw [lenTo_packW l hl]; omega) hst
      have hll := lines_len (packW l) (n + 2) (by rw [packW_len, hl]; omega)
      rw [List.take_of_length_le (by rw [packW_len, hl]; omega), lenTo_packW l hl] at hll
      obtain ⟨X, hX⟩ : ∃ X, linesOf (packW l) = X := ⟨_, rfl⟩
      rw [hX] at IL HE hll
      have hXs : (strB X).size = X.length := strB_size _
      have hYs : (strB (brk 0 Z)).size = (brk 0 Z).length := strB_size _
      have hyl := brk_len Z 0
      have hcat : strB X ++ strB (brk 0 Z) = strB (X ++ brk 0 Z) := strB_append _ _
      have hZs : (strB Z).size ≤ 1099511627776 := by rw [strB_size]; omega
      clear hX CC hst hb3
      go_wp2_with fail
      refine Calls.mono IL.out ?_
      rintro e w4 ⟨rfl, hb4⟩
      have HB4 : Hid (Below w.heap.size w w4) := HB3.out.trans (hb4.mono HB3.out.size)
      have OL : Hid _ := onLines_any w4 (strB Z) hZs
      have eZ : (strB Z).data.toList = Z := by unfold strB; simp
      rw [eZ] at OL
      clear IL hb4 eZ
      go_wp2_with fail
      refine Calls.mono OL.out ?_
      rintro e w5 ⟨rfl, hb5⟩
      have HB5 : Hid (Below w.heap.size w w5) := HB4.out.trans (hb5.mono HB4.out.size)
      clear OL hb5
      go_wp2
      go_ret2
      rw [HE.out.1, HE.out.2]
      exact ⟨rfl, HB5.out⟩
  · have HE : Hid (packT l z = ⟨#[]⟩ ∧ packE l z = 21) := by
      unfold packT packE
      rw [hb]
      exact ⟨rfl, rfl⟩
    clear hb
    go_enter Tryd.func12, Tryd.ntmps12
    go_wp2_with fail
    refine Calls.mono C1.out ?_
    rintro e wz ⟨rfl, hwz⟩
    subst wz
    go_wp2
    go_ret2
    rw [HE.out.1, HE.out.2]
    exact ⟨rfl, Below.refl _ _⟩
end Go.Proofs.YtffchjigpppoaaaDoor
