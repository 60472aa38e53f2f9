/- The document's answer: own, Of, length, Size, Apply. -/
import Derived.Test.YtjaccgkeldabfaaGreatSMore
namespace Go.Proofs.YtjaccgkeldabfaaGreat.S
open Go.RowKit

theorem look_in {bl : List (Int × List Int)} {x : Int} {l : List Int} (h : look bl x = some l) : (x, l) ∈ bl := by
  unfold look at h
  obtain ⟨p, hp, rfl⟩ := Option.map_eq_some_iff.1 h
  have h1 := List.find?_some hp
  have h2 := List.mem_of_find?_eq_some hp
  have : p.1 = x := by simpa using h1
  rw [← this]
  exact h2
/-- The document's substitution in memory: binds of unlike variables, in whatever order. -/
structure RefAt (w : World) (a : Option Addr) (n : Nat) (rl : List (Int × List Int)) : Prop where
  row : ∃ vs, RowAt w a (rowB vs) ∧ Matches w vs rl
  len : rl.length = n
  nodup : (rl.map (·.1)).Nodup
theorem RefAt.under {w w' : World} {a : Option Addr} {n : Nat} {rl : List (Int × List Int)} (h : RefAt w a n rl) (hb : Below w.heap.size w w') : RefAt w' a n rl := by
  obtain ⟨vs, h1, h2⟩ := h.row
  exact ⟨⟨vs, h1.under hb, h2.under hb⟩, h.len, h.nodup⟩
theorem RefAt.at {w : World} {a : Option Addr} {n : Nat} {rl : List (Int × List Int)} (h : RefAt w a n rl) {i : Nat} {p : Int × List Int} (hp : rl[i]? = some p) :
    ∃ b off a' c', a = some ⟨b, off, none⟩ ∧ w.cell? ⟨b, off + i * 2, none⟩ = some (.int .i64 p.1) ∧ w.cell? ⟨b, off + i * 2 + 1, none⟩ = some (.slice a' p.2.length c') ∧ IntsAt w a' p.2 := by
  obtain ⟨vs, h1, h2⟩ := h.row
  obtain ⟨a', c', hv, hi⟩ := h2.2 i p hp
  obtain ⟨r1, r2⟩ := rowB_at vs i _ hv
  obtain ⟨b, off, rfl, k1⟩ := h1 _ _ r1
  obtain ⟨_, _, e, k2⟩ := h1 _ _ r2
  cases e
  exact ⟨b, off, a', c', rfl, k1, by rw [Nat.add_assoc]; exact k2, hi⟩

set_option maxRecDepth 100000 in
set_option maxHeartbeats 2000000 in
theorem rown_any (w : World) (a : Option Addr) (c : Nat) (l : List Int) (n : Nat) (hl : l.length = n) (hn : n ≤ 17592186043904) (h : IntsAt w a l) :
    Calls Tryz.prog 47 #[.slice a n c] w fun e w' => ∃ v, e = .returned v ∧ w'.ownsRow w.heap.size 3 1 v n (l.map intV) ∧ Below w.heap.size w w' := by
  obtain ⟨i0, hi0, hz0, hz1, hz3⟩ := info_parts infoI
  have H : Hid (IntsAt w a l) := h
  have HL : Hid (l.length = n) := hl
  clear h hl
  go_enter Tryz.func47, Tryz.ntmps47
  go_wp2_with (at_builtin; refine wpList_append_more (w := w) rfl _ _ _ rfl w.heap.size 3 i0 _ 1 8 Tryz.underlying44 hi0 hz0 hz1 hz3 rfl (by omega) _ 0 [] (by rfl) (by exact World.ownsRow_nil _ _ _ _) a n c (l.map intV) (by rfl) (by rw [List.length_map, HL.out, Nat.mul_one]) (by exact H.out.row.news) (by simp [intV, Value.oneCell']) (by unfold maxLen; omega) (by omega) (Nat.le_refl _) ?_; intro a2 c2 w2 ho hb; rw [Nat.zero_add, List.nil_append] at ho; have HO : Hid (w2.ownsRow w.heap.size 3 1 (.slice a2 n c2) n (l.map intV)) := ho; have HB : Hid (Below w.heap.size w w2) := hb; clear ho hb)
  go_wp2
  go_ret
  refine ⟨_, rfl, ?_, HB.out⟩
  have := HO.out
  simpa using this
def ROfIs (w w' : World) (e : Ending) (rl : List (Int × List Int)) (y : Int) : Prop := Below w.heap.size w w' ∧
  ((∃ (l : List Int) (v : Value), look rl y = some l ∧ e = .returned (.tuple #[v, .bool true]) ∧ w'.ownsRow w.heap.size 3 1 v l.length (l.map intV)) ∨ (look rl y = none ∧ e = .returned (.tuple #[.slice none 0 0, .bool false])))

set_option maxRecDepth 100000 in
set_option maxHeartbeats 4000000 in
theorem rof_any (w : World) (a : Option Addr) (n c : Nat) (rl : List (Int × List Int)) (y : Int) (hn : n ≤ 4398046511000) (hbig : ∀ p ∈ rl, p.2.length ≤ 17592186043904) (h : RefAt w a n rl) :
    Calls Tryz.prog 46 #[.agg #[.slice a n c], .int .i64 y] w fun e w' => ROfIs w w' e rl y := by
  have k0 : (w.alloc (.cells #[.slice a n c] 63)).cell? ⟨w.heap.size, 0, none⟩ = some (.slice a n c) := World.cell?_alloc_new w _ _ 0
  have hbA := below_alloc w (.cells #[.slice a n c] 63)
  have H : Hid (RefAt (w.alloc (.cells #[.slice a n c] 63)) a n rl) := h.under hbA
  have HA : Hid (Below w.heap.size w (w.alloc (.cells #[.slice a n c] 63))) := hbA
  have HBG : Hid (∀ p ∈ rl, p.2.length ≤ 17592186043904) := hbig
  clear h hbA hbig
  go_enter Tryz.func46, Tryz.ntmps46
  go_wp2_with fail
  generalize w.alloc (.cells #[.slice a n c] 63) = wA at *
  generalize hB0 : w.heap.size = B0 at *
  have HB0e : Hid (w.heap.size = B0) := hB0
  clear hB0
  go_loopw [6] (fun i wx => ∃ j : Nat, j ≤ n ∧ i = .int .i64 j ∧ wx = wA ∧ Hid (∀ q ∈ rl.take j, q.1 ≠ y)) (fun i _ => n - (intOf i).toNat)
  case atStart => exact ⟨0, Nat.zero_le _, rfl, rfl, fun q hq => by simp at hq⟩
  case round =>
    obtain ⟨j, hj, rfl, hwr, hno⟩ := hrel
    subst wr
    by_cases hlt : j < n
    · have n1 : (j : Int) < (n : Int) := by omega
      obtain ⟨p, hp⟩ : ∃ p, rl[j]? = some p := ⟨rl[j]'(by rw [H.out.len]; exact hlt), List.getElem?_eq_getElem _⟩
      obtain ⟨b1, o1, a1, c1, rfl, k1, k2, k3⟩ := H.out.at hp
      have hpb := HBG.out p (List.mem_of_getElem? hp)
      have Htk : Hid (rl.take (j + 1) = rl.take j ++ [p]) := by show _ = _; rw [List.take_add_one, hp]; rfl
      by_cases hxy : p.1 = y
      · have HLk : Hid (look rl y = some p.2) := by
          have := look_of_mem H.out.nodup (List.mem_of_getElem? hp)
          rw [hxy] at this
          exact this
        obtain ⟨x, lx⟩ := p
        have hxy' : x = y := hxy
        subst hxy'
        have OW : Hid _ := rown_any wA a1 c1 lx lx.length rfl hpb k3
        have k1' : wA.cell? ⟨b1, o1 + j * 2, none⟩ = some (.int .i64 x) := k1
        have k2' : wA.cell? ⟨b1, o1 + j * 2 + 1, none⟩ = some (.slice a1 lx.length c1) := k2
        clear k1 k2 k3 hp hpb hxy Htk
        have HLk' : Hid (look rl x = some lx) := HLk
        obtain ⟨xl, hxl⟩ : ∃ xl, xl = lx.length := ⟨_, rfl⟩
        have Hxl : Hid (xl = lx.length) := hxl
        rw [← hxl] at k2' OW
        clear hxl HLk
        go_wp2_with fail
        refine Calls.mono OW.out ?_
        rintro e w2 ⟨v2, rfl, ho2, hb2⟩
        have HR : Hid (w2.ownsRow w.heap.size 3 1 v2 lx.length (lx.map intV) ∧ Below w.heap.size w w2) := by
          have h1 := HA.out
          have h2 := h1.size
          rw [Hxl.out] at ho2
          rw [HB0e.out] at h2 ⊢
          exact ⟨owns_down ho2 h2, h1.trans (hb2.mono h2)⟩
        clear ho2 hb2 OW
        go_wp2
        go_ret2
        exact ⟨HR.out.2, .inl ⟨lx, v2, HLk'.out, rfl, HR.out.1⟩⟩
      · obtain ⟨x, lx⟩ := p
        have hxy' : (x == y) = false := by simpa using hxy
        have k1' : wA.cell? ⟨b1, o1 + j * 2, none⟩ = some (.int .i64 x) := k1
        have Hno : Hid (∀ q ∈ rl.take (j + 1), q.1 ≠ y) := fun q hq => by
          rw [Htk.out] at hq
          rcases List.mem_append.1 hq with h1 | h1
          · exact hno.out q h1
          · rw [List.mem_singleton.1 h1]; exact hxy
        clear k1 k2 k3 hp hpb hxy Htk hno
        go_wp2
        exact ⟨⟨j + 1, by omega, by go_num, by trivial, Hno.out⟩, by simp [intOf]; omega⟩
    · have n1 : ¬ (j : Int) < (n : Int) := by omega
      have HN : Hid (look rl y = none) := look_out fun p hp => hno.out p (by rw [List.take_of_length_le (by rw [H.out.len]; omega)]; exact hp)
      go_wp2
      go_ret2
      exact ⟨by have h1 := HA.out; rw [HB0e.out]; exact h1, .inr ⟨HN.out, rfl⟩⟩

end Go.Proofs.YtjaccgkeldabfaaGreat.S
