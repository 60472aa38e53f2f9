/- What join and Join answer. -/
import Derived.Test.YtmgpnaehniohgaaDoorECut
namespace Go.Proofs.YtmgpnaehniohgaaDoor.E
open Go.RowKit Go.Deep

/-- A row of values in memory, a cell each. -/
def RowAt (w : World) (a : Option Addr) (vs : List Value) : Prop := ∀ (i : Nat) (u : Value), vs[i]? = some u → ∃ b off, a = some ⟨b, off, none⟩ ∧ w.cell? ⟨b, off + i, none⟩ = some u
theorem own_row {W : World} {base : Nat} {e : TypeId} {v : Value} {n : Nat} {xs : List Value} (h : W.ownsRow base e 1 v n xs) : ∃ a c, v = .slice a n c ∧ RowAt W a xs := by
  rcases h.2 with ⟨rfl, rfl⟩ | ⟨g, cap, cur, rfl, hg, hh, hn, hc, hsz, ht⟩
  · exact ⟨_, _, rfl, fun i u hi => by
      have := h.1
      rw [Nat.zero_mul] at this
      rw [List.eq_nil_of_length_eq_zero this] at hi
      simp at hi⟩
  · refine ⟨_, _, rfl, fun i u hi => ⟨g, 0, rfl, ?_⟩⟩
    have hlt : i < n * 1 := by have := h.1; have := (List.getElem?_eq_some_iff.1 hi).1; omega
    have : cur[i]? = some u := by
      rw [← ht, List.getElem?_take, if_pos hlt] at hi
      simpa using hi
    rw [Nat.zero_add]
    simp [World.cell?, hh, this]
theorem RowAt.ints {w : World} {a : Option Addr} {l : List Int} (h : RowAt w a (l.map intV)) : IntsAt w a l := fun i x hi => h i (intV x) (by rw [List.getElem?_map, hi]; rfl)
theorem IntsAt.row {w : World} {a : Option Addr} {l : List Int} (h : IntsAt w a l) : RowAt w a (l.map intV) := fun i u hi => by
  rw [List.getElem?_map] at hi
  obtain ⟨x, hx, rfl⟩ := Option.map_eq_some_iff.1 hi
  exact h i x hx
theorem RowAt.under {B : Nat} {w w' : World} {a : Option Addr} {vs : List Value} (h : RowAt w a vs) (hb : Below B w w') (hB : w.heap.size ≤ B) : RowAt w' a vs := fun i u hi => by
  obtain ⟨b, off, e, hc⟩ := h i u hi
  exact ⟨b, off, e, (hb.cell (p := ⟨b, off + i, none⟩) (Nat.lt_of_lt_of_le (World.block_lt_of_cell? _ _ hc) hB)).trans hc⟩
theorem PartsAt.under {w w' : World} {vs : List Value} {ls : List (List Int)} (h : PartsAt w vs ls) (hb : Below w.heap.size w w') : PartsAt w' vs ls := ⟨h.1, fun i l hi => by
  obtain ⟨a, c, h1, h2⟩ := h.2 i l hi
  exact ⟨a, c, h1, h2.under hb⟩⟩
theorem RowAt.news {w : World} {a : Option Addr} {vs : List Value} (h : RowAt w a vs) : ∀ (j : Nat) (u : Value), vs[j]? = some u → ∃ ad, a = some ad ∧ w.cell? (ad.add j) = some u := fun j u hu => by
  obtain ⟨b, off, rfl, hc⟩ := h j u hu
  exact ⟨_, rfl, by rw [← hc]; unfold Addr.add; split <;> simp_all⟩
def JoinIs (w w' : World) (e : Ending) (ls : List (List Int)) : Prop := Below w.heap.size w w' ∧
  ((ls.flatten.length ≤ 200 ∧ ∃ v, e = .returned (.tuple #[v, .bool true]) ∧ w'.ownsRow w.heap.size 3 1 v ls.flatten.length (ls.flatten.map intV)) ∨
   (200 < ls.flatten.length ∧ e = .returned (.tuple #[.slice none 0 0, .bool false])))

set_option maxRecDepth 100000 in
set_option maxHeartbeats 8000000 in
theorem join_any (w : World) (ap : Option Addr) (cp : Nat) (vs : List Value) (ls : List (List Int)) (k : Nat) (hk : vs.length = k) (hk2 : k ≤ 17592186043904) (hR : RowAt w ap vs) (hP : PartsAt w vs ls) (hbig : ∀ l ∈ ls, l.length ≤ 1048576) :
    Calls Tryd.prog 33 #[.int .i64 200, .slice ap k cp] w fun e w' => JoinIs w w' e ls := by
  obtain ⟨i0, hi0, hz0, hz1, hz3⟩ := info_parts infoI
  have HR : Hid (RowAt w ap vs) := hR
  have HP : Hid (PartsAt w vs ls) := hP
  have HK : Hid (vs.length = k) := hk
  have HB : Hid (∀ l ∈ ls, l.length ≤ 1048576) := hbig
  clear hR hP hk hbig
  go_enter Tryd.func33, Tryd.ntmps33
  go_wp2_with fail
  go_loopw [6, 8, 11] (fun v _ i wx => ∃ (j t : Nat) (av : Option Addr) (cap : Nat), j ≤ k ∧ t ≤ 200 ∧ i = .int .i64 j ∧ v = .slice av t cap ∧ Hid ((ls.take j).flatten.length = t) ∧ Hid (wx.ownsRow w.heap.size 3 1 (.slice av t cap) t ((ls.take j).flatten.map intV)) ∧ Hid (Below w.heap.size w wx)) (fun _ _ i _ => k - (intOf i).toNat)
  case atStart => exact ⟨0, 0, none, 0, Nat.zero_le _, by omega, rfl, rfl, rfl, World.ownsRow_nil _ _ _ _, Below.refl _ _⟩
  case round =>
    obtain ⟨j, t, av, cap, hj, ht, rfl, rfl, hlen, hown, hb⟩ := hrel
    have hs2 : w.heap.size ≤ wr.heap.size := hb.out.size
    by_cases hlt : j < k
    · have n1 : (j : Int) < (k : Int) := by omega
      obtain ⟨l, hl⟩ : ∃ l, ls[j]? = some l := ⟨ls[j]'(by rw [← HP.out.1, HK.out]; exact hlt), List.getElem?_eq_getElem _⟩
      obtain ⟨a1, c1, hv, hi1⟩ := HP.out.2 j l hl
      obtain ⟨b2, o2, rfl, hc2⟩ := (HR.out.under hb.out (Nat.le_refl _)) j _ hv
      have hl2 := HB.out l (List.mem_of_getElem? hl)
      have htk : Hid ((ls.take (j + 1)).flatten = (ls.take j).flatten ++ l) := by show _ = _; rw [List.take_add_one, hl, List.flatten_append]; simp
      have hin : Hid (IntsAt wr a1 l) := hi1.under hb.out
      generalize hp : l.length = p at hc2 hl2
      have Hp : Hid (l.length = p) := hp
      have Hl : Hid (ls[j]? = some l) := hl
      clear hp hv hi1 hl
      by_cases hfit : t + p ≤ 200
      · have f1 : ¬ (200 : Int) - (t : Int) < (p : Int) := by omega
        go_wp2_with (at_builtin; refine wpList_append_more (w := wr) rfl _ _ _ rfl w.heap.size 3 i0 _ 1 8 Tryd.underlying23 hi0 hz0 hz1 hz3 rfl (by omega) _ t ((ls.take j).flatten.map intV) (by rfl) (by exact hown.out) a1 p c1 (l.map intV) (by rfl) (by rw [List.length_map, Hp.out, Nat.mul_one]) (by exact hin.out.row.news) (by simp [intV, Value.oneCell']) (by unfold maxLen; omega) (by omega) (by omega) ?_; intro av2 cap2 w3 hown3 hb3; have Hown3 : Hid (w3.ownsRow w.heap.size 3 1 (.slice av2 (t + p) cap2) (t + p) ((ls.take j).flatten.map intV ++ l.map intV)) := hown3; have Hb3 : Hid (Below w.heap.size w w3) := hb.out.trans hb3; clear hown3 hb3)
        go_wp2
        refine ⟨⟨j + 1, t + p, _, _, by omega, by omega, by go_num, rfl, ?_, ?_, Hb3.out⟩, by simp [intOf]; omega⟩
        · show _ = _
          rw [htk.out, List.length_append, hlen.out, Hp.out]
        · show World.ownsRow _ _ _ _ _ _ _
          rw [htk.out, List.map_append]
          exact Hown3.out
      · have f1 : (200 : Int) - (t : Int) < (p : Int) := by omega
        have hbig : Hid (200 < ls.flatten.length) := by
          show _ < _
          have e1 : ls.flatten.length = (ls.take (j + 1)).flatten.length + (ls.drop (j + 1)).flatten.length := by rw [← List.length_append, ← List.flatten_append, List.take_append_drop]
          rw [e1, htk.out, List.length_append, hlen.out, Hp.out]
          omega
        go_wp2
        go_ret2
        exact ⟨hb.out, .inr ⟨hbig.out, rfl⟩⟩
    · have n1 : ¬ (j : Int) < (k : Int) := by omega
      have htk : Hid (ls.take j = ls) := by show _ = _; rw [List.take_of_length_le (by rw [← HP.out.1, HK.out]; omega)]
      go_wp2
      go_ret2
      refine ⟨hb.out, .inl ⟨?_, _, rfl, ?_⟩⟩
      · have := hlen.out
        rw [htk.out] at this
        omega
      · have h1 := hlen.out
        have h2 := hown.out
        rw [htk.out] at h1 h2
        rw [h1]
        exact h2
/-- What Join answers. -/
def LaidIs (w w' : World) (e : Ending) (ls : List (List Int)) : Prop := Below w.heap.size w w' ∧
  ((ls.flatten.length ≤ 200 ∧ ∃ v, e = .returned (.tuple #[v, .int .i64 0]) ∧ w'.ownsRow w.heap.size 3 1 v ls.flatten.length (ls.flatten.map intV)) ∨
   (200 < ls.flatten.length ∧ e = .returned (.tuple #[.slice none 0 0, .int .i64 31])))
set_option maxRecDepth 100000 in
set_option maxHeartbeats 8000000 in
theorem laid_any (w : World) (ap : Option Addr) (cp : Nat) (vs : List Value) (ls : List (List Int)) (k : Nat) (hk : vs.length = k) (hk2 : k ≤ 17592186043904) (hR : RowAt w ap vs) (hP : PartsAt w vs ls) (hbig : ∀ l ∈ ls, l.length ≤ 1048576) :
    Calls Tryd.prog 11 #[.slice ap k cp] w fun e w' => LaidIs w w' e ls := by
  have J : Hid _ := join_any w ap cp vs ls k hk hk2 hR hP hbig
  clear hk hR hP hbig
  go_enter Tryd.func11, Tryd.ntmps11
  go_wp2_with fail
  refine Calls.mono J.out ?_
  rintro e w1 ⟨hb, ⟨hle, v, rfl, ho⟩ | ⟨hle, rfl⟩⟩
  · have Ho : Hid (w1.ownsRow w.heap.size 3 1 v ls.flatten.length (ls.flatten.map intV)) := ho
    have Hb : Hid (Below w.heap.size w w1) := hb
    have Hle : Hid (ls.flatten.length ≤ 200) := hle
    clear ho hb J hle
    go_wp2
    go_ret2
    exact ⟨Hb.out, .inl ⟨Hle.out, _, rfl, Ho.out⟩⟩
  · have Hb : Hid (Below w.heap.size w w1) := hb
    have Hle : Hid (200 < ls.flatten.length) := hle
    clear hb J hle
    go_wp2
    go_ret2
    exact ⟨Hb.out, .inr ⟨Hle.out, rfl⟩⟩
end Go.Proofs.YtmgpnaehniohgaaDoor.E
