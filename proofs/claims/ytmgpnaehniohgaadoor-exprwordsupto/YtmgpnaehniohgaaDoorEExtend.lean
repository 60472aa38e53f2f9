/- What extend answers: how many of a part's first items were met last behind one item more. -/
import Derived.Test.YtmgpnaehniohgaaDoorEFits
namespace Go.Proofs.YtmgpnaehniohgaaDoor.E
open Go.RowKit

/-- The first K borders lie in memory. -/
def BordAt (w : World) (b : Option Addr) (p : List Int) (K : Nat) (bd : Nat → Nat) : Prop := ∀ i, i < K → (∃ bb off, b = some ⟨bb, off, none⟩ ∧ w.cell? ⟨bb, off + i, none⟩ = some (.int .i64 (bd i : Nat))) ∧ bd i ≤ i ∧ Most p (i + 1) (bd i) (p.take (i + 1))

set_option maxRecDepth 100000 in
set_option maxHeartbeats 4000000 in
theorem extend_any (w : World) (a b : Option Addr) (ca cb : Nat) (p s : List Int) (n m K fit : Nat) (x : Int) (bd : Nat → Nat) (hp : p.length = n) (hn0 : 0 < n) (_hn : n ≤ 4611686018427387904) (hK : K ≤ n) (hA : IntsAt w a p) (hB : BordAt w b p K bd) (hf : fit ≤ K) (hs : Seek p m fit s x) :
    Calls Tryd.prog 57 #[.slice a n ca, .slice b n cb, .int .i64 fit, .int .i64 x] w fun e w' => (∃ r : Nat, e = .returned (.int .i64 r) ∧ r ≤ fit + 1 ∧ Most p (m + 1) r (s ++ [x])) ∧ w' = w := by
  have HA : Hid (IntsAt w a p) := hA
  have HB : Hid (BordAt w b p K bd) := hB
  have HP : Hid (p.length = n) := hp
  have HS : Hid (Seek p m fit s x) := hs
  clear hA hB hp hs
  go_enter Tryd.func57, Tryd.ntmps57
  go_wp2_with fail
  go_loop [2] (fun v => ∃ f : Nat, f ≤ fit ∧ f ≤ K ∧ v = .int .i64 f ∧ Hid (Seek p m f s x)) (fun v => (intOf v).toNat)
  case atStart => exact ⟨fit, Nat.le_refl _, hf, rfl, HS.out⟩
  case round =>
    obtain ⟨f, hff, hfK, rfl, he⟩ := hrel
    have back : 0 < f → p[f]? ≠ some x → ∃ bb off, b = some ⟨bb, off, none⟩ ∧ w.cell? ⟨bb, off + (f - 1), none⟩ = some (.int .i64 (bd (f - 1) : Nat)) ∧ bd (f - 1) < f ∧ Seek p m (bd (f - 1)) s x := by
      intro h0 hx
      obtain ⟨⟨bb, off, e1, e2⟩, h1, h2⟩ := HB.out (f - 1) (by omega)
      rw [show f - 1 + 1 = f by omega] at h2
      exact ⟨bb, off, e1, e2, by omega, seek_step he.out hx h2⟩
    have Back : Hid _ := back
    clear back
    by_cases h0 : f = 0
    · subst h0
      obtain ⟨y, hy⟩ : ∃ y, p[0]? = some y := ⟨p[0]'(by rw [HP.out]; exact hn0), List.getElem?_eq_getElem _⟩
      obtain ⟨b1, o1, rfl, c1⟩ := HA.out 0 y hy
      rw [Nat.add_zero] at c1
      have n1 : (0 : Int) < (n : Int) := by omega
      by_cases hxy : y = x
      · subst hxy
        have R : Hid (Most p (m + 1) (0 + 1) (s ++ [y])) := seek_found he.out hy
        clear hy he
        go_wp2
        go_ret
        exact ⟨⟨1, rfl, by omega, R.out⟩, rfl⟩
      · have R : Hid (Most p (m + 1) 0 (s ++ [x])) := seek_none he.out (by rw [hy]; simpa using hxy)
        have hb : (y == x) = false := by simpa using hxy
        clear hy he hxy
        go_wp2
        go_ret
        exact ⟨⟨0, rfl, by omega, R.out⟩, rfl⟩
    · have f0 : (0 : Int) < (f : Int) := by omega
      by_cases hfn : f = n
      · obtain ⟨bb, off, rfl, c1, hlt, hsk⟩ := Back.out (by omega) (by rw [List.getElem?_eq_none (by rw [HP.out]; omega)]; simp)
        have Hsk : Hid _ := hsk
        obtain ⟨q, hq⟩ : ∃ q, f = q + 1 := ⟨f - 1, by omega⟩
        subst hq
        rw [Nat.add_sub_cancel] at c1 hlt
        subst hfn
        have g1 : (q : Int) < ((q + 1 : Nat) : Int) := by omega
        clear hsk he
        go_wp2
        go_round
        case rel => exact ⟨bd q, by omega, by omega, rfl, Hsk.out⟩
        case measure => simp [intOf]; omega
      · obtain ⟨y, hy⟩ : ∃ y, p[f]? = some y := ⟨p[f]'(by rw [HP.out]; omega), List.getElem?_eq_getElem _⟩
        obtain ⟨b1, o1, rfl, c1⟩ := HA.out f y hy
        have n1 : (f : Int) < (n : Int) := by omega
        have n2 : ¬ (f : Int) = (n : Int) := by omega
        have n3 : ((f : Int) == (n : Int)) = false := by simpa using n2
        by_cases hxy : y = x
        · subst hxy
          have R : Hid (Most p (m + 1) (f + 1) (s ++ [y])) := seek_found he.out hy
          clear hy he
          go_wp2
          go_ret
          exact ⟨⟨f + 1, by go_num, by omega, R.out⟩, rfl⟩
        · obtain ⟨bb, off, rfl, c2, hlt, hsk⟩ := Back.out (by omega) (by rw [hy]; simpa using hxy)
          have Hsk : Hid _ := hsk
          have hb : (y == x) = false := by simpa using hxy
          have hb2 : (y != x) = true := by simpa using hxy
          obtain ⟨q, hq⟩ : ∃ q, f = q + 1 := ⟨f - 1, by omega⟩
          subst hq
          rw [Nat.add_sub_cancel] at c2 hlt
          clear hsk he hy hxy
          go_wp2
          go_round
          case rel => exact ⟨bd q, by omega, by omega, rfl, Hsk.out⟩
          case measure => simp [intOf]; omega
end Go.Proofs.YtmgpnaehniohgaaDoor.E
