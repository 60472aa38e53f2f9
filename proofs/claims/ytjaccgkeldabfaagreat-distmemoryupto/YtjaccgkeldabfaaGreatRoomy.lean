/- The law's own roomy. -/
import Derived.Test.YtjaccgkeldabfaaGreatStill
namespace Go.Proofs.YtjaccgkeldabfaaGreat
open Go.RowKit

def room3 : List Pr := [(7, 7), (8, 8), (9, 9)]
theorem M.pairs_news {w : World} {a : Option Addr} {l : List Pr} (h : PairsAt w a l) : ∀ (j : Nat) (u : Value), (rowP l)[j]? = some u → ∃ ad, a = some ad ∧ w.cell? (ad.add j) = some u := fun j u hu => by
  have hlt : j < l.length * 2 := by rw [← rowP_len]; exact (List.getElem?_eq_some_iff.1 hu).1
  have hi : j / 2 < l.length := by omega
  have hx : l[j / 2]? = some (l[j / 2]'hi) := List.getElem?_eq_getElem hi
  obtain ⟨b, off, e, h0, h1⟩ := h (j / 2) _ hx
  obtain ⟨r0, r1⟩ := rowP_at l (j / 2) _ hx
  refine ⟨_, e, ?_⟩
  rw [Addr.add_lit]
  rcases Nat.lt_or_ge (j % 2) 1 with h2 | h2
  · have ej : j / 2 * 2 = j := by omega
    rw [ej] at h0 r0
    rw [r0] at hu
    rw [← Option.some.inj hu]
    exact h0
  · have ej : j / 2 * 2 + 1 = j := by omega
    rw [ej] at r1
    rw [show off + j / 2 * 2 + 1 = off + j by omega] at h1
    rw [r1] at hu
    rw [← Option.some.inj hu]
    exact h1
theorem M.own_pairs {W : World} {base n : Nat} {v : Value} {l : List Pr} (h : W.ownsRow base 33 2 v n (rowP l)) : ∃ a c, v = .slice a n c ∧ n ≤ c ∧ PairsAt W a l := by
  obtain ⟨a, c, rfl, hc, hcell⟩ := M.own_cell h
  refine ⟨a, c, rfl, hc, fun i p hi => ?_⟩
  obtain ⟨r0, r1⟩ := rowP_at l i p hi
  obtain ⟨g, rfl, h0⟩ := hcell _ _ r0
  obtain ⟨g', e, h1⟩ := hcell _ _ r1
  cases e
  exact ⟨g, 0, rfl, by rw [Nat.zero_add]; exact h0, by rw [Nat.zero_add]; exact h1⟩

set_option maxRecDepth 100000 in
set_option maxHeartbeats 8000000 in
theorem roomy_any (w : World) (a : Option Addr) (n c : Nat) (l : List Pr) (hl : l.length = n) (hn : n ≤ 1099511627776) (h : PairsAt w a l) :
    Calls Tryz.prog 17 #[.slice a n c] w fun e w' => ∃ g cap, e = .returned (.slice (some ⟨g, 0, none⟩) n cap) ∧ n + 3 ≤ cap ∧ w'.ownsRow w.heap.size 33 2 (.slice (some ⟨g, 0, none⟩) (n + 3) cap) (n + 3) (rowP (l ++ room3)) ∧ Below w.heap.size w w' := by
  obtain ⟨ip, hip, ipz, ips, ipb⟩ := info_parts infoPr
  have HL : Hid (l.length = n) := hl
  have HP : Hid (PairsAt w a l) := h
  clear hl h
  go_enter Tryz.func17, Tryz.ntmps17
  go_upto_region 4 with (at_builtin; first | (refine wpList_append_more (w := w) rfl _ _ _ rfl w.heap.size 33 ip _ 2 16 Tryz.underlying22 hip ipz ips ipb rfl (by omega) _ 0 [] (by rfl) (by exact World.ownsRow_nil _ _ _ _) a n c (rowP l) (by rfl) (by rw [rowP_len, HL.out]) (M.pairs_news HP.out) (prs_one l) (by unfold maxLen; omega) (by omega) (by omega) ?_; intro a4 c4 w4 ho4 hb4; simp only [Nat.zero_add, List.nil_append] at ho4 ⊢; have HO4 : Hid (w4.ownsRow w.heap.size 33 2 (.slice a4 n c4) n (rowP l)) := ho4; have HB4 : Hid (Below w.heap.size w w4) := hb4; clear ho4 hb4) | (refine wpList_append_more (w := w4.alloc (.cells #[.int .i64 7, .int .i64 7, .int .i64 8, .int .i64 8, .int .i64 9, .int .i64 9] 33)) rfl _ _ _ rfl w.heap.size 33 ip _ 2 16 Tryz.underlying22 hip ipz ips ipb rfl (by omega) _ n (rowP l) (by rfl) (by exact M.owns_alloc HO4.out _) (some ⟨w4.heap.size, 0, none⟩) 3 3 (rowP room3) (by rfl) (by rfl) (fun j' u hu => ⟨_, rfl, World.news_of_block (cs := #[.int .i64 7, .int .i64 7, .int .i64 8, .int .i64 8, .int .i64 9, .int .i64 9]) (t := 33) (fr := (0, 0)) (heap_alloc_new w4 _) j' u hu⟩) (prs_one room3) (by unfold maxLen; omega) (by omega) (by exact Nat.le_trans HB4.out.size (M.below_al _ _).size) ?_; intro a5 c5 w5 ho5 hb5; have HO5 : Hid (w5.ownsRow w.heap.size 33 2 (.slice a5 (n + 3) c5) (n + 3) (rowP l ++ rowP room3)) := ho5; have HB5 : Hid (Below w.heap.size w w5) := (HB4.out.alloc HB4.out.size _).trans hb5; clear ho5 hb5))
  obtain ⟨g, _, hv, hcp, _, _⟩ := M.own_some HO5.out (by omega)
  cases hv
  have n1 : (n : Int) ≤ (c5 : Int) := by omega
  have n2 : n ≤ c5 := by omega
  go_wp2
  go_ret
  exact ⟨g, c5, rfl, hcp, (by rw [rowP_app]; exact HO5.out), HB5.out⟩
end Go.Proofs.YtjaccgkeldabfaaGreat
