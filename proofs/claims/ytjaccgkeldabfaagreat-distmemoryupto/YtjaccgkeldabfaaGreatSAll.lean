/- Laid together: SShelf, SOnto, SBase, SBinds, SFind, SSort, SPart, SNew. -/
import Derived.Shelf.SlSortCmp.WholeK
import Derived.Shelf.SlSortCmp.NoneTotal
import Derived.Ground.SlsfProg
import Derived.Test.YtjaccgkeldabfaaGreatProg
import Derived.Deep.AppendLies
import Derived.Deep.Upon
import Derived.Below
import Derived.WalkKit
import Derived.BigQuiet
import Derived.Deep.QuietTactic
import Derived.Deep.RegionHeld3
import Derived.Handy
namespace Go.Proofs
open Go.Shelf
def Tryz.sortS_ren : Go.Shelf.Ren := ⟨fun | 6 => 51 | 15 => 75 | 14 => 74 | 28 => 98 | 29 => 99 | 20 => 90 | 21 => 91 | 22 => 92 | 23 => 93 | 24 => 94 | 25 => 95 | 26 => 96 | 27 => 97 | 46 => 104 | 47 => 105 | 48 => 106 | 49 => 107 | 50 => 108 | 57 => 125 | n => n, fun | 22 => 23 | 24 => 46 | 25 => 96 | 3 => 3 | 39 => 118 | 0 => 0 | 53 => 135 | 55 => 137 | 4 => 4 | 46 => 129 | 45 => 128 | 50 => 112 | 5 => 5 | 9 => 9 | 66 => 142 | 70 => 146 | 76 => 158 | 77 => 159 | n => n, fun | n => n⟩
theorem Tryz.sortS : Go.Proofs.SlLaysF0.n6 Tryz.prog Tryz.sortS_ren := {
  mixed := by kernel_rfl
  f6 := ⟨Tryz.f51.name, by decide, Tryz.func51.trans (congrArg some (by kernel_rfl))⟩
  f14 := ⟨Tryz.f74.name, by decide, Tryz.func74.trans (congrArg some (by kernel_rfl))⟩
  f15 := Tryz.func75.trans (congrArg some (by kernel_rfl))
  f20 := ⟨Tryz.f90.name, by decide, Tryz.func90.trans (congrArg some (by kernel_rfl))⟩
  f21 := ⟨Tryz.f91.name, by decide, Tryz.func91.trans (congrArg some (by kernel_rfl))⟩
  f22 := ⟨Tryz.f92.name, by decide, Tryz.func92.trans (congrArg some (by kernel_rfl))⟩
  f23 := ⟨Tryz.f93.name, by decide, Tryz.func93.trans (congrArg some (by kernel_rfl))⟩
  f24 := ⟨Tryz.f94.name, by decide, Tryz.func94.trans (congrArg some (by kernel_rfl))⟩
  f25 := ⟨Tryz.f95.name, by decide, Tryz.func95.trans (congrArg some (by kernel_rfl))⟩
  f26 := ⟨Tryz.f96.name, by decide, Tryz.func96.trans (congrArg some (by kernel_rfl))⟩
  f27 := ⟨Tryz.f97.name, by decide, Tryz.func97.trans (congrArg some (by kernel_rfl))⟩
  f28 := Tryz.func98.trans (congrArg some (by kernel_rfl))
  f29 := Tryz.func99.trans (congrArg some (by kernel_rfl))
  f46 := ⟨Tryz.f104.name, by decide, Tryz.func104.trans (congrArg some (by kernel_rfl))⟩
  f47 := Tryz.func105.trans (congrArg some (by kernel_rfl))
  f48 := Tryz.func106.trans (congrArg some (by kernel_rfl))
  f49 := ⟨Tryz.f107.name, by decide, Tryz.func107.trans (congrArg some (by kernel_rfl))⟩
  f50 := ⟨Tryz.f108.name, by decide, Tryz.func108.trans (congrArg some (by kernel_rfl))⟩
  f57 := ⟨Tryz.f125.name, by decide, Tryz.func125.trans (congrArg some (by kernel_rfl))⟩
  t0 := Tryz.underlying0
  a0 := Tryz.isAgg0
  z0 := Tryz.sizeOf0
  v0 := Tryz.zeroValue0
  t3 := Tryz.underlying3
  a3 := Tryz.isAgg3
  z3 := Tryz.sizeOf3
  v3 := Tryz.zeroValue3
  t4 := Tryz.underlying4
  a4 := Tryz.isAgg4
  z4 := Tryz.sizeOf4
  v4 := Tryz.zeroValue4
  t5 := Tryz.underlying5
  a5 := Tryz.isAgg5
  z5 := Tryz.sizeOf5
  v5 := Tryz.zeroValue5
  t9 := Tryz.underlying9
  a9 := Tryz.isAgg9
  z9 := Tryz.sizeOf9
  v9 := Tryz.zeroValue9
  t22 := Tryz.underlying23
  a22 := Tryz.isAgg23
  z22 := Tryz.sizeOf23
  v22 := Tryz.zeroValue23
  t25 := Tryz.underlying96
  a25 := Tryz.isAgg96
  z25 := Tryz.sizeOf96
  v25 := Tryz.zeroValue96
  t39 := Tryz.underlying118
  a39 := Tryz.isAgg118
  z39 := Tryz.sizeOf118
  v39 := Tryz.zeroValue118
  t45 := Tryz.underlying128
  a45 := Tryz.isAgg128
  z45 := Tryz.sizeOf128
  v45 := Tryz.zeroValue128
  t46 := Tryz.underlying129
  a46 := Tryz.isAgg129
  z46 := Tryz.sizeOf129
  v46 := Tryz.zeroValue129
  t50 := Tryz.underlying112
  a50 := Tryz.isAgg112
  z50 := Tryz.sizeOf112
  v50 := Tryz.zeroValue112
  t53 := Tryz.underlying135
  a53 := Tryz.isAgg135
  z53 := Tryz.sizeOf135
  v53 := Tryz.zeroValue135
  t55 := Tryz.underlying137
  a55 := Tryz.isAgg137
  z55 := Tryz.sizeOf137
  v55 := Tryz.zeroValue137
  t66 := Tryz.underlying142
  a66 := Tryz.isAgg142
  z66 := Tryz.sizeOf142
  v66 := Tryz.zeroValue142
  t70 := Tryz.underlying146
  a70 := Tryz.isAgg146
  z70 := Tryz.sizeOf146
  v70 := Tryz.zeroValue146
  t76 := Tryz.underlying158
  a76 := Tryz.isAgg158
  z76 := Tryz.sizeOf158
  v76 := Tryz.zeroValue158
  t77 := Tryz.underlying159
  a77 := Tryz.isAgg159
  z77 := Tryz.sizeOf159
  v77 := Tryz.zeroValue159 }
end Go.Proofs

namespace Go.Proofs.YtjaccgkeldabfaaGreat.S
open Go.RowKit

section
variable {P : Program} {w : World}
theorem own_ge {base : Nat} {e : TypeId} {size : Nat} {v : Value} {n : Nat} {xs : List Value} (h : w.ownsRow base e size v n xs) : ∀ k, v.ownBlock = some k → base ≤ k := fun k hk => by
  rcases h.2 with ⟨rfl, _⟩ | ⟨g, cap, cur, rfl, hb, _⟩
  · cases hk
  · cases hk; exact hb
theorem own_shape {base : Nat} {e : TypeId} {size : Nat} {v : Value} {n : Nat} {xs : List Value} (h : w.ownsRow base e size v n xs) : ∃ a c, v = .slice a n c ∧ n ≤ c := by
  rcases h.2 with ⟨rfl, rfl⟩ | ⟨g, cap, cur, rfl, _, _, hc, _⟩
  · exact ⟨_, _, rfl, Nat.le_refl _⟩
  · exact ⟨_, _, rfl, hc⟩
theorem run_append_more (t ty : TypeId) (base : Nat) (e : TypeId) (i : TypeInfo) (z : Value) (size bytes : Nat) (ht : P.underlying t = some (.slice e)) (hi : P.info? e = some i) (hz : i.zero = some z)
    (hsize : i.size = size) (hby : i.bytes = bytes) (hzs : z.cells.size = size) (hsz : 0 < size)
    (v : Value) (n : Nat) (xs : List Value) (hown : w.ownsRow base e size v n xs)
    (x0 : Option Addr) (m c : Nat) (news : List Value) (hl : news.length = m * size) (hnews : ∀ j u, news[j]? = some u → ∃ ad, x0 = some ad ∧ w.cell? (ad.add j) = some u) (h1 : ∀ u ∈ news, u.oneCell' = true)
    (h63 : n + m ≤ maxLen) (hbytes : (n + m) * bytes ≤ 140737488355328) (hbase : base ≤ w.heap.size) :
    ∃ a' c' w', (Builtin.append_ #[t, t] ty #[v, .slice x0 m c]).run P w = .ok (.slice a' (n + m) c') w' ∧ w'.ownsRow base e size (.slice a' (n + m) c') (n + m) (xs ++ news) ∧ Below base w w' := by
  rcases Nat.eq_zero_or_pos m with rfl | hm
  · have hn0 : news = [] := List.eq_nil_of_length_eq_zero (by rw [hl, Nat.zero_mul])
    subst hn0
    obtain ⟨a', c', rfl, hc⟩ := own_shape hown
    have src : Src P i.size t (.slice x0 0 c) 0 [] w := by
      cases x0 with
      | none => exact Src.ofNil w ht c
      | some ad => exact Src.ofSlice w ht ad 0 c [] (by simp) (fun j u hu => by simp at hu) (fun u hu => by simp at hu)
    refine ⟨a', c', w, run_append_nothing w t t ty e i ht hi a' n c' hc _ src, ?_, Below.refl _ _⟩
    rw [List.append_nil]
    exact hown
  · have hne : 0 < news.length := by rw [hl]; exact Nat.mul_pos hm hsz
    obtain ⟨ad, rfl, _⟩ := hnews 0 _ (List.getElem?_eq_getElem hne)
    obtain ⟨g, cap, w', hr, h2, h3, _, _⟩ := run_append_lies (P := P) w t ty base e i z size bytes ht hi hz hsize hby hzs hsz v n xs hown ad m c news hl (fun j u hu => by
      obtain ⟨ad', he, hc⟩ := hnews j u hu
      cases he
      exact hc) h1 hm h63 hbytes hbase w.heap.size rfl
    exact ⟨_, _, w', hr, h2, (Below.refl _ _).grown h3 hbase (own_ge hown)⟩
theorem wp_append_more {o : Oper} {a : Act} {K : Act → World → Prop} {Q : Exit → Act → World → Prop} (s x : Operand) (t : TypeId)
    (ho : o.op = .call { callee := .builtin .append, args := #[s, x], argTypes := #[t, t] })
    (base : Nat) (e : TypeId) (i : TypeInfo) (z : Value) (size bytes : Nat) (ht : P.underlying t = some (.slice e)) (hi : P.info? e = some i) (hz : i.zero = some z)
    (hsize : i.size = size) (hby : i.bytes = bytes) (hzs : z.cells.size = size) (hsz : 0 < size)
    (v : Value) (n : Nat) (xs : List Value) (hs : a.eval s = v) (hown : w.ownsRow base e size v n xs)
    (x0 : Option Addr) (m c : Nat) (news : List Value) (hx : a.eval x = .slice x0 m c) (hl : news.length = m * size) (hnews : ∀ j u, news[j]? = some u → ∃ ad, x0 = some ad ∧ w.cell? (ad.add j) = some u) (h1 : ∀ u ∈ news, u.oneCell' = true)
    (h63 : n + m ≤ maxLen) (hbytes : (n + m) * bytes ≤ 140737488355328) (hbase : base ≤ w.heap.size)
    (h : ∀ a' c' w', w'.ownsRow base e size (.slice a' (n + m) c') (n + m) (xs ++ news) → Below base w w' → K (a.put o.dst (.slice a' (n + m) c')) w') : o.wp P a w K Q := by
  obtain ⟨a', c', w', hr, h2, h3⟩ := run_append_more (P := P) (w := w) t o.type base e i z size bytes ht hi hz hsize hby hzs hsz v n xs hown x0 m c news hl hnews h1 h63 hbytes hbase
  unfold Oper.wp execOp
  simp only [ho, resolve, invoke, builtin, Sem.run_bind, Sem.run_pure, Result.andThen_ok, List.map_toArray, List.map_cons, List.map_nil, hs, hx, hr]
  exact h a' c' w' h2 h3
theorem wpList_append_more {ops : Array Oper} {rest : List Oper} {o : Oper} {a : Act} {Q : Exit → Act → World → Prop} (hgd : o.guard = none) (s x : Operand) (t : TypeId)
    (ho : o.op = .call { callee := .builtin .append, args := #[s, x], argTypes := #[t, t] })
    (base : Nat) (e : TypeId) (i : TypeInfo) (z : Value) (size bytes : Nat) (ht : P.underlying t = some (.slice e)) (hi : P.info? e = some i) (hz : i.zero = some z)
    (hsize : i.size = size) (hby : i.bytes = bytes) (hzs : z.cells.size = size) (hsz : 0 < size)
    (v : Value) (n : Nat) (xs : List Value) (hs : a.eval s = v) (hown : w.ownsRow base e size v n xs)
    (x0 : Option Addr) (m c : Nat) (news : List Value) (hx : a.eval x = .slice x0 m c) (hl : news.length = m * size) (hnews : ∀ j u, news[j]? = some u → ∃ ad, x0 = some ad ∧ w.cell? (ad.add j) = some u) (h1 : ∀ u ∈ news, u.oneCell' = true)
    (h63 : n + m ≤ maxLen) (hbytes : (n + m) * bytes ≤ 140737488355328) (hbase : base ≤ w.heap.size)
    (h : ∀ a' c' w', w'.ownsRow base e size (.slice a' (n + m) c') (n + m) (xs ++ news) → Below base w w' → wpList P ops Q rest (a.put o.dst (.slice a' (n + m) c')) w') : wpList P ops Q (o :: rest) a w :=
  wpList_plain hgd fun _ hK => wp_append_more s x t ho base e i z size bytes ht hi hz hsize hby hzs hsz v n xs hs hown x0 m c news hx hl hnews h1 h63 hbytes hbase fun a' c' w' h2 h3 => hK _ _ (h a' c' w' h2 h3)
end
end Go.Proofs.YtjaccgkeldabfaaGreat.S

namespace Go.Proofs.YtjaccgkeldabfaaGreat.S
open Go.RowKit

def intV (x : Int) : Value := .int .i64 x
/-- A slice of numbers in memory. -/
def IntsAt (w : World) (a : Option Addr) (l : List Int) : Prop := ∀ (i : Nat) (x : Int), l[i]? = some x → ∃ b off, a = some ⟨b, off, none⟩ ∧ w.cell? ⟨b, off + i, none⟩ = some (.int .i64 x)
/-- A row of values in memory, a cell each. -/
def RowAt (w : World) (a : Option Addr) (vs : List Value) : Prop := ∀ (i : Nat) (u : Value), vs[i]? = some u → ∃ b off, a = some ⟨b, off, none⟩ ∧ w.cell? ⟨b, off + i, none⟩ = some u
theorem own_row {W : World} {base : Nat} {e : TypeId} {size : Nat} {v : Value} {n : Nat} {xs : List Value} (h : W.ownsRow base e size v n xs) : ∃ a c, v = .slice a n c ∧ n ≤ c ∧ RowAt W a xs ∧ ∀ g, v.ownBlock = some g → base ≤ g := by
  rcases h.2 with ⟨rfl, rfl⟩ | ⟨g, cap, cur, rfl, hg, hh, hn, hc, hsz, ht⟩
  · exact ⟨_, _, rfl, Nat.le_refl _, fun i u hi => by
      have := h.1
      rw [Nat.zero_mul] at this
      rw [List.eq_nil_of_length_eq_zero this] at hi
      simp at hi, fun g e => by cases e⟩
  · refine ⟨_, _, rfl, hn, fun i u hi => ⟨g, 0, rfl, ?_⟩, fun g e => by cases e; exact hg⟩
    have hlt : i < n * size := by have := h.1; have := (List.getElem?_eq_some_iff.1 hi).1; omega
    have : cur[i]? = some u := by
      rw [← ht, List.getElem?_take, if_pos hlt] at hi
      simpa using hi
    rw [Nat.zero_add]
    simp [World.cell?, hh, this]
theorem RowAt.ints {w : World} {a : Option Addr} {l : List Int} (h : RowAt w a (l.map intV)) : IntsAt w a l := fun i x hi => h i (intV x) (by rw [List.getElem?_map, hi]; rfl)
theorem IntsAt.row {w : World} {a : Option Addr} {l : List Int} (h : IntsAt w a l) : RowAt w a (l.map intV) := fun i u hi => by
  rw [List.getElem?_map] at hi
  obtain ⟨x, hx, rfl⟩ := Option.map_eq_some_iff.1 hi
  exact h i x hx
theorem RowAt.under {w w' : World} {a : Option Addr} {vs : List Value} (h : RowAt w a vs) (hb : Below w.heap.size w w') : RowAt w' a vs := fun i u hi => by
  obtain ⟨b, off, e, hc⟩ := h i u hi
  exact ⟨b, off, e, (hb.cell (p := ⟨b, off + i, none⟩) (World.block_lt_of_cell? _ _ hc)).trans hc⟩
theorem IntsAt.under {w w' : World} {a : Option Addr} {l : List Int} (h : IntsAt w a l) (hb : Below w.heap.size w w') : IntsAt w' a l := fun i x hi => by
  obtain ⟨b, off, e, hc⟩ := h i x hi
  exact ⟨b, off, e, (hb.cell (p := ⟨b, off + i, none⟩) (World.block_lt_of_cell? _ _ hc)).trans hc⟩
theorem RowAt.news {w : World} {a : Option Addr} {vs : List Value} (h : RowAt w a vs) : ∀ (j : Nat) (u : Value), vs[j]? = some u → ∃ ad, a = some ad ∧ w.cell? (ad.add j) = some u := fun j u hu => by
  obtain ⟨b, off, rfl, hc⟩ := h j u hu
  exact ⟨_, rfl, by rw [← hc]; unfold Addr.add; split <;> simp_all⟩
theorem infoI : (Tryz.prog.info? 3).map (fun i => (i.zero, i.size, i.bytes)) = some (some (.int .i64 0), 1, 8) := by kernel_rfl
theorem infoB : (Tryz.prog.info? 46).map (fun i => (i.zero, i.size, i.bytes)) = some (some (.agg #[.int .i64 0, .slice none 0 0]), 2, 32) := by kernel_rfl

set_option maxRecDepth 100000 in
set_option maxHeartbeats 2000000 in
/-- own: a list of its own. -/
theorem own_any (w : World) (a : Option Addr) (c : Nat) (l : List Int) (n : Nat) (hl : l.length = n) (hn : n ≤ 17592186043904) (h : IntsAt w a l) :
    Calls Tryz.prog 54 #[.slice a n c] w fun e w' => ∃ v, e = .returned v ∧ w'.ownsRow w.heap.size 3 1 v n (l.map intV) ∧ Below w.heap.size w w' := by
  obtain ⟨i0, hi0, hz0, hz1, hz3⟩ := info_parts infoI
  have H : Hid (IntsAt w a l) := h
  have HL : Hid (l.length = n) := hl
  clear h hl
  go_enter Tryz.func54, Tryz.ntmps54
  go_wp2_with (at_builtin; refine wpList_append_more (w := w) rfl _ _ _ rfl w.heap.size 3 i0 _ 1 8 Tryz.underlying44 hi0 hz0 hz1 hz3 rfl (by omega) _ 0 [] (by rfl) (by exact World.ownsRow_nil _ _ _ _) a n c (l.map intV) (by rfl) (by rw [List.length_map, HL.out, Nat.mul_one]) (by exact H.out.row.news) (by simp [intV, Value.oneCell']) (by unfold maxLen; omega) (by omega) (Nat.le_refl _) ?_; intro a2 c2 w2 ho hb; rw [Nat.zero_add, List.nil_append] at ho; have HO : Hid (w2.ownsRow w.heap.size 3 1 (.slice a2 n c2) n (l.map intV)) := ho; have HB : Hid (Below w.heap.size w w2) := hb; clear ho hb)
  go_wp2
  go_ret
  refine ⟨_, rfl, ?_, HB.out⟩
  have := HO.out
  simpa using this
end Go.Proofs.YtjaccgkeldabfaaGreat.S

namespace Go.Proofs.YtjaccgkeldabfaaGreat.S
open Go.RowKit

/-- A bind's two cells. -/
def encB (p : Int × Value) : List Value := [intV p.1, p.2]
def rowB (vs : List (Int × Value)) : List Value := vs.flatMap encB
theorem rowB_len (vs : List (Int × Value)) : (rowB vs).length = vs.length * 2 := by
  induction vs with
  | nil => rfl
  | cons p vs ih => simp [rowB, encB] at ih ⊢; omega
theorem rowB_snoc (vs : List (Int × Value)) (p : Int × Value) : rowB (vs ++ [p]) = rowB vs ++ [intV p.1, p.2] := by simp [rowB, encB]
theorem rowB_at : ∀ (vs : List (Int × Value)) (i : Nat) (p : Int × Value), vs[i]? = some p → (rowB vs)[i * 2]? = some (intV p.1) ∧ (rowB vs)[i * 2 + 1]? = some p.2
  | [], _, _, h => by simp at h
  | q :: vs, 0, p, h => by
    simp at h
    subst h
    exact ⟨rfl, rfl⟩
  | q :: vs, i + 1, p, h => by
    have := rowB_at vs i p (by simpa using h)
    rw [show (i + 1) * 2 = i * 2 + 1 + 1 by omega]
    exact this
theorem rowB_one (vs : List (Int × Value)) (h : ∀ p ∈ vs, p.2.oneCell' = true) : ∀ u ∈ rowB vs, u.oneCell' = true := fun u hu => by
  simp only [rowB, encB, List.mem_flatMap, List.mem_cons, List.not_mem_nil, or_false] at hu
  obtain ⟨p, hp, rfl | rfl⟩ := hu
  · rfl
  · exact h p hp
/-- The lists of binds, each where its slice says. -/
def Matches (w : World) (vs : List (Int × Value)) (bl : List (Int × List Int)) : Prop := vs.length = bl.length ∧ ∀ (i : Nat) (p : Int × List Int), bl[i]? = some p → ∃ a c, vs[i]? = some (p.1, Value.slice a p.2.length c) ∧ IntsAt w a p.2
/-- .. each in a row of its own, in new memory. -/
def Owns (base : Nat) (w : World) (vs : List (Int × Value)) (bl : List (Int × List Int)) : Prop := vs.length = bl.length ∧ ∀ (i : Nat) (p : Int × List Int), bl[i]? = some p → ∃ v, vs[i]? = some (p.1, v) ∧ w.ownsRow base 3 1 v p.2.length (p.2.map intV)
theorem Owns.matches {base : Nat} {w : World} {vs : List (Int × Value)} {bl : List (Int × List Int)} (h : Owns base w vs bl) : Matches w vs bl := ⟨h.1, fun i p hi => by
  obtain ⟨v, h1, h2⟩ := h.2 i p hi
  obtain ⟨a, c, rfl, _, hr, _⟩ := own_row h2
  exact ⟨a, c, h1, hr.ints⟩⟩
theorem Matches.under {w w' : World} {vs : List (Int × Value)} {bl : List (Int × List Int)} (h : Matches w vs bl) (hb : Below w.heap.size w w') : Matches w' vs bl := ⟨h.1, fun i p hi => by
  obtain ⟨a, c, h1, h2⟩ := h.2 i p hi
  exact ⟨a, c, h1, h2.under hb⟩⟩
theorem owns_same {W W' : World} {base e size : Nat} {v : Value} {n : Nat} {xs : List Value} (h : W.ownsRow base e size v n xs) (hk : ∀ g, v.ownBlock = some g → W'.heap[g]? = W.heap[g]?) : W'.ownsRow base e size v n xs := by
  refine ⟨h.1, ?_⟩
  rcases h.2 with h0 | ⟨g, cap, cur, hv, hg, hh, hr⟩
  · exact .inl h0
  · exact .inr ⟨g, cap, cur, hv, hg, (hk g (by rw [hv]; rfl)).trans hh, hr⟩
theorem own_low {W : World} {base e size : Nat} {v : Value} {n : Nat} {xs : List Value} (h : W.ownsRow base e size v n xs) : ∀ g, v.ownBlock = some g → g < W.heap.size := by
  intro g hg
  rcases h.2 with ⟨rfl, _⟩ | ⟨g', cap, cur, rfl, _, hh, _⟩
  · simp [Value.ownBlock] at hg
  · have e' : g' = g := by simpa [Value.ownBlock] using hg
    subst e'
    exact (Array.getElem?_eq_some_iff.1 hh).1
theorem kinds_apart {wr : World} {e e2 b2 : Nat} {base size size2 : Nat} {v u : Value} {n n2 : Nat} {xs ys : List Value} (h : wr.ownsRow base e size v n xs) (h2 : wr.ownsRow b2 e2 size2 u n2 ys) (hne : e ≠ e2) : ∀ g, u.ownBlock = some g → v.ownBlock ≠ some g := fun g hu hv => by
  rcases h.2 with ⟨rfl, _⟩ | ⟨g1, c1, cur1, rfl, _, hh1, _⟩
  · cases hv
  · rcases h2.2 with ⟨rfl, _⟩ | ⟨g2, c2, cur2, rfl, _, hh2, _⟩
    · cases hu
    · cases hu
      cases hv
      rw [hh1] at hh2
      simp at hh2
      exact hne hh2.2
theorem owns_under {W W' : World} {base e size : Nat} {v : Value} {n : Nat} {xs : List Value} (h : W.ownsRow base e size v n xs) (hb : Below W.heap.size W W') : W'.ownsRow base e size v n xs := owns_same h fun g e => hb.block g (own_low h g e)
theorem owns_down {W : World} {base base' e size : Nat} {v : Value} {n : Nat} {xs : List Value} (h : W.ownsRow base e size v n xs) (hb : base' ≤ base) : W.ownsRow base' e size v n xs := by
  refine ⟨h.1, ?_⟩
  rcases h.2 with h0 | ⟨g, cap, cur, hv, h1, hr⟩
  · exact .inl h0
  · exact .inr ⟨g, cap, cur, hv, by omega, hr⟩
theorem Owns.under {base : Nat} {w w' : World} {vs : List (Int × Value)} {bl : List (Int × List Int)} (h : Owns base w vs bl) (hb : Below w.heap.size w w') : Owns base w' vs bl := ⟨h.1, fun i p hi => by
  obtain ⟨v, h1, h2⟩ := h.2 i p hi
  exact ⟨v, h1, owns_under h2 hb⟩⟩
/-- .. where a row of binds has grown. -/
theorem Owns.grown {base b2 n : Nat} {w w' : World} {vs : List (Int × Value)} {bl : List (Int × List Int)} {v : Value} {xs : List Value} (h : Owns base w vs bl) (hv : w.ownsRow b2 46 2 v n xs) (hg : w.grownBy w' v.ownBlock) : Owns base w' vs bl := ⟨h.1, fun i p hi => by
  obtain ⟨u, h1, h2⟩ := h.2 i p hi
  exact ⟨u, h1, owns_same h2 fun g e => hg.block g (own_low h2 g e) fun e' => kinds_apart hv h2 (by decide) g e e'.symm⟩⟩
theorem Owns.snoc {base : Nat} {w : World} {vs : List (Int × Value)} {bl : List (Int × List Int)} (h : Owns base w vs bl) (p : Int × List Int) (v : Value) (hv : w.ownsRow base 3 1 v p.2.length (p.2.map intV)) : Owns base w (vs ++ [(p.1, v)]) (bl ++ [p]) := by
  refine ⟨by simp [h.1], fun i q hi => ?_⟩
  by_cases hlt : i < bl.length
  · rw [List.getElem?_append_left hlt] at hi
    obtain ⟨u, h1, h2⟩ := h.2 i q hi
    exact ⟨u, by rw [List.getElem?_append_left (by rw [h.1]; exact hlt)]; exact h1, h2⟩
  · rw [List.getElem?_append_right (by omega)] at hi
    have hi0 : i - bl.length = 0 := by
      have := (List.getElem?_eq_some_iff.1 hi).1
      simp at this; omega
    rw [hi0] at hi
    simp at hi
    subst hi
    exact ⟨v, by rw [List.getElem?_append_right (by rw [h.1]; omega), h.1, hi0]; rfl, hv⟩
/-- What copies answers. -/
def CopyIs (w w' : World) (v : Value) (bl : List (Int × List Int)) : Prop := ∃ vs, w'.ownsRow w.heap.size 46 2 v bl.length (rowB vs) ∧ Owns w.heap.size w' vs bl ∧ Below w.heap.size w w'

set_option maxRecDepth 100000 in
set_option maxHeartbeats 8000000 in
theorem copies_any (w : World) (a : Option Addr) (c : Nat) (vs0 : List (Int × Value)) (bl : List (Int × List Int)) (n : Nat) (hl : bl.length = n) (hn : n ≤ 4398046511000) (hbig : ∀ p ∈ bl, p.2.length ≤ 17592186043904) (hR : RowAt w a (rowB vs0)) (hM : Matches w vs0 bl) :
    Calls Tryz.prog 31 #[.slice a n c] w fun e w' => ∃ v, e = .returned v ∧ CopyIs w w' v bl := by
  obtain ⟨i0, hi0, hz0, hz1, hz3⟩ := info_parts infoB
  have HR : Hid (RowAt w a (rowB vs0)) := hR
  have HM : Hid (Matches w vs0 bl) := hM
  have HL : Hid (bl.length = n) := hl
  have HB : Hid (∀ p ∈ bl, p.2.length ≤ 17592186043904) := hbig
  clear hR hM hl hbig
  go_enter Tryz.func31, Tryz.ntmps31
  go_wp2_with fail
  go_loopw [3, 5, 8] (fun v _ i wx => ∃ (j : Nat) (av : Option Addr) (cap : Nat), j ≤ n ∧ i = .int .i64 j ∧ v = .slice av j cap ∧ Hid (∃ vs, wx.ownsRow w.heap.size 46 2 (.slice av j cap) j (rowB vs) ∧ Owns w.heap.size wx vs (bl.take j)) ∧ Hid (Below w.heap.size w wx)) (fun _ _ i _ => n - (intOf i).toNat)
  case atStart => exact ⟨0, none, 0, Nat.zero_le _, rfl, rfl, ⟨[], World.ownsRow_nil _ _ _ _, rfl, fun i p h => by simp at h⟩, Below.refl _ _⟩
  case round =>
    obtain ⟨j, av, cap, hj, rfl, rfl, hv, hb⟩ := hrel
    obtain ⟨vs, hown, hO⟩ := hv.out
    have HO : Hid (wr.ownsRow w.heap.size 46 2 (.slice av j cap) j (rowB vs)) := hown
    have OW : Hid (Owns w.heap.size wr vs (bl.take j)) := hO
    clear hv hown hO
    by_cases hlt : j < n
    · have n1 : (j : Int) < (n : Int) := by omega
      obtain ⟨p, hp⟩ : ∃ p, bl[j]? = some p := ⟨bl[j]'(by rw [HL.out]; exact hlt), List.getElem?_eq_getElem _⟩
      obtain ⟨a1, c1, hv1, hi1⟩ := HM.out.2 j p hp
      obtain ⟨r1, r2⟩ := rowB_at vs0 j _ hv1
      have hR2 := HR.out.under hb.out
      obtain ⟨b2, o2, rfl, hc1⟩ := hR2 _ _ r1
      obtain ⟨_, _, e2, hc2⟩ := hR2 _ _ r2
      cases e2
      have hq := HB.out p (List.mem_of_getElem? hp)
      obtain ⟨x, lx⟩ := p
      have hc1' : wr.cell? ⟨b2, o2 + j * 2, none⟩ = some (.int .i64 x) := hc1
      have hc2' : wr.cell? ⟨b2, o2 + (j * 2 + 1), none⟩ = some (.slice a1 lx.length c1) := hc2
      rw [← Nat.add_assoc] at hc2'
      have Htk : Hid (bl.take (j + 1) = bl.take j ++ [(x, lx)]) := by show _ = _; rw [List.take_add_one, hp]; rfl
      have HI : Hid (IntsAt wr a1 lx) := hi1.under hb.out
      have hq' : lx.length ≤ 17592186043904 := hq
      generalize hlx : lx.length = q at *
      have Hlx : Hid (lx.length = q) := hlx
      clear hc1 hc2 r1 r2 hR2 hq hv1 hi1 hp hlx
      go_wp2_with fail
      have k0 : (wr.alloc (.cells #[.int .i64 x, .slice a1 q c1] 46)).cell? ⟨wr.heap.size, 0, none⟩ = some (.int .i64 x) := World.cell?_alloc_new wr _ _ 0
      have k1 : (wr.alloc (.cells #[.int .i64 x, .slice a1 q c1] 46)).cell? ⟨wr.heap.size, 1, none⟩ = some (.slice a1 q c1) := World.cell?_alloc_new wr _ _ 1
      have hbA : Below wr.heap.size wr (wr.alloc (.cells #[.int .i64 x, .slice a1 q c1] 46)) := (Below.refl _ _).alloc (Nat.le_refl _) _
      have hB5 : wr.heap.size < (wr.alloc (.cells #[.int .i64 x, .slice a1 q c1] 46)).heap.size := by simp
      have hL5 := own_low HO.out
      have hs0 : w.heap.size ≤ wr.heap.size := hb.out.size
      replace HO : Hid ((wr.alloc (.cells #[.int .i64 x, .slice a1 q c1] 46)).ownsRow w.heap.size 46 2 (.slice av j cap) j (rowB vs)) := owns_under HO.out hbA
      replace OW : Hid (Owns w.heap.size (wr.alloc (.cells #[.int .i64 x, .slice a1 q c1] 46)) vs (bl.take j)) := OW.out.under hbA
      replace HI : Hid (IntsAt (wr.alloc (.cells #[.int .i64 x, .slice a1 q c1] 46)) a1 lx) := HI.out.under hbA
      replace hb : Hid (Below w.heap.size w (wr.alloc (.cells #[.int .i64 x, .slice a1 q c1] 46))) := hb.out.trans (hbA.mono hs0)
      generalize wr.heap.size = B5 at *
      generalize wr.alloc (.cells #[.int .i64 x, .slice a1 q c1] 46) = wA at *
      clear hbA hc1' hc2'
      refine wp_region_held_drew (S := fun w' => w'.cell? ⟨B5, 0, none⟩ = some (.int .i64 x) ∧ w'.cell? ⟨B5, 1, none⟩ = some (.slice a1 q c1)) (by kernel_rfl) ?_ (fun hHeld => ?_)
      · exact ⟨k0, k1⟩
      refine wpAnyH_take (i := 0) (oi := { dst := some 12, op := Op.move (Operand.tmp 3), type := 23, pos := "subst.go:137", after := #[], guard := none }) (v := ?_) rfl (by kernel_rfl) (by kernel_rfl) (by kernel_rfl) (fun _ _ _ h => h) (Or.inl ⟨by rfl, ?_⟩) hHeld ?_
      rotate_left
      · (intro w hSw; (try dsimp only at hSw); go_simp; try with_reducible rfl)
      try simp only [Act.put, List.setIfInBounds_toArray, List.set_cons_zero, List.set_cons_succ]
      refine wpAnyH_take (i := 1) (oi := { dst := some 13, op := Op.fieldAddr 46 (Operand.tmp 5) 0, type := 0, pos := "subst.go:137", after := #[], guard := none }) (v := ?_) rfl (by kernel_rfl) (by kernel_rfl) (by kernel_rfl) (fun _ _ _ h => h) (Or.inl ⟨by rfl, ?_⟩) hHeld ?_
      rotate_left
      · (intro w hSw; (try dsimp only at hSw); go_simp; try with_reducible rfl)
      try simp only [Act.put, List.setIfInBounds_toArray, List.set_cons_zero, List.set_cons_succ]
      refine wpAnyH_take (i := 2) (oi := { dst := some 14, op := Op.load 3 (Operand.tmp 13), type := 3, pos := "subst.go:137", after := #[{ on := 1, ground := Ground.data }], guard := none }) (v := ?_) rfl (by kernel_rfl) (by kernel_rfl) (by kernel_rfl) (fun _ _ _ h => h) (Or.inl ⟨by rfl, ?_⟩) hHeld ?_
      rotate_left
      · (intro w hSw; (try dsimp only at hSw); go_simp; try with_reducible rfl)
      try simp only [Act.put, List.setIfInBounds_toArray, List.set_cons_zero, List.set_cons_succ]
      refine wpAnyH_take (i := 3) (oi := { dst := some 15, op := Op.fieldAddr 46 (Operand.tmp 5) 1, type := 0, pos := "subst.go:137", after := #[], guard := none }) (v := ?_) rfl (by kernel_rfl) (by kernel_rfl) (by kernel_rfl) (fun _ _ _ h => h) (Or.inl ⟨by rfl, ?_⟩) hHeld ?_
      rotate_left
      · (intro w hSw; (try dsimp only at hSw); go_simp; try with_reducible rfl)
      try simp only [Act.put, List.setIfInBounds_toArray, List.set_cons_zero, List.set_cons_succ]
      refine wpAnyH_take (i := 4) (oi := { dst := some 16, op := Op.load 44 (Operand.tmp 15), type := 44, pos := "subst.go:137", after := #[{ on := 3, ground := Ground.data }], guard := none }) (v := ?_) rfl (by kernel_rfl) (by kernel_rfl) (by kernel_rfl) (fun _ _ _ h => h) (Or.inl ⟨by rfl, ?_⟩) hHeld ?_
      rotate_left
      · (intro w hSw; (try dsimp only at hSw); go_simp; try with_reducible rfl)
      try simp only [Act.put, List.setIfInBounds_toArray, List.set_cons_zero, List.set_cons_succ]
      refine wpAnyH_ready (rs := [5]) (by kernel_rfl) (by simp) ?_
      refine AllReadyH.cons (o := { dst := some 17, op := Op.call { callee := Callee.value (Operand.func 54), args := #[Operand.tmp 16], argTypes := #[44] }, type := 44, pos := "subst.go:137", after := #[{ on := 4, ground := Ground.data }], guard := none }) rfl (fun K hK => ?_) AllReadyH.nil
      go_simp
      go_at_call 54
      refine (own_any wA.drew a1 c1 lx q Hlx.out hq' HI.out).mono ?_
      rintro e w6 ⟨v6, rfl, ho6, hb6⟩
      obtain ⟨a6, c6, rfl, _, _, _⟩ := own_row ho6
      have hb6' : Below wA.heap.size wA w6 := ⟨hb6.os, hb6.tape, hb6.output, hb6.size, hb6.block⟩
      have ho6' : w6.ownsRow wA.heap.size 3 1 (.slice a6 q c6) q (lx.map intV) := ho6
      have k2 : w6.cell? ⟨B5, 0, none⟩ = some (.int .i64 x) := (hb6'.cell (p := ⟨B5, 0, none⟩) hB5).trans k0
      have k3 : w6.cell? ⟨B5, 1, none⟩ = some (.slice a1 q c1) := (hb6'.cell (p := ⟨B5, 1, none⟩) hB5).trans k1
      have HO6 : Hid (w6.ownsRow w.heap.size 46 2 (.slice av j cap) j (rowB vs)) := owns_under HO.out hb6'
      have OW6 : Hid (Owns w.heap.size w6 (vs ++ [(x, .slice a6 q c6)]) (bl.take j ++ [(x, lx)])) := (OW.out.under hb6').snoc (x, lx) _ (by show w6.ownsRow _ _ _ _ lx.length _; rw [Hlx.out]; exact owns_down ho6' hb.out.size)
      have Hb6 : Hid (Below w.heap.size w w6) := hb.out.trans (hb6'.mono hb.out.size)
      have hB6 : B5 < w6.heap.size := Nat.lt_of_lt_of_le hB5 hb6'.size
      clear ho6 ho6' hb6 hb6' HO OW hb
      try go_wp2_with fail
      refine hK.out _ _ ?_ (fun hHeld2 => ?_)
      · exact ⟨k2, k3⟩
      clear hK K
      try simp only [Act.put, List.setIfInBounds_toArray, List.set_cons_zero, List.set_cons_succ]
      refine wpAnyH_take (i := 6) (oi := { dst := some 18, op := Op.build 46 #[(0, Operand.tmp 14), (1, Operand.tmp 17)], type := 46, pos := "subst.go:137", after := #[{ on := 2, ground := Ground.data }, { on := 5, ground := Ground.data }], guard := none }) (v := ?_) rfl (by kernel_rfl) (by kernel_rfl) (by kernel_rfl) (fun _ _ _ h => h) (Or.inl ⟨by rfl, ?_⟩) hHeld2 ?_
      rotate_left
      · (intro w hSw; (try dsimp only at hSw); go_simp; try with_reducible rfl)
      try simp only [Act.put, List.setIfInBounds_toArray, List.set_cons_zero, List.set_cons_succ]
      refine wpAnyH_ready (rs := [7]) (by kernel_rfl) (by simp) ?_
      refine AllReadyH.cons (o := { dst := some 19, op := Op.buildSlice 23 1 #[(0, Operand.tmp 18)], type := 23, pos := "subst.go:137", after := #[{ on := 6, ground := Ground.data }], guard := none }) rfl (fun K hK => ?_) AllReadyH.nil
      go_simp
      refine hK.out _ _ ?_ (fun hHeld3 => ?_)
      · exact ⟨(World.cell?_alloc_lt _ _ _ hB6).trans k2, (World.cell?_alloc_lt _ _ _ hB6).trans k3⟩
      clear hK K
      try simp only [Act.put, List.setIfInBounds_toArray, List.set_cons_zero, List.set_cons_succ]
      refine wpAnyH_ready (rs := [8]) (by kernel_rfl) (by simp) ?_
      refine AllReadyH.cons (o := { dst := some 20, op := Op.call { callee := Callee.builtin Builtin.append, args := #[Operand.tmp 12, Operand.tmp 19], argTypes := #[23, 23] }, type := 23, pos := "subst.go:137", after := #[{ on := 0, ground := Ground.data }, { on := 7, ground := Ground.data }, { on := 5, ground := Ground.chain }], guard := none }) rfl (fun K hK => ?_) AllReadyH.nil
      refine step_append_lies (w6.alloc (.cells #[.int .i64 x, .slice a6 q c6] 46)) rfl _ _ _ rfl w.heap.size 46 i0 _ 2 32 Tryz.underlying23 hi0 hz0 hz1 hz3 rfl (by omega) _ j (rowB vs) (by rfl) (by exact HO6.out.alloc _) ⟨w6.heap.size, 0, none⟩ 1 1 [.int .i64 x, .slice a6 q c6] (by rfl) (by rfl) (World.news_of_block (cs := #[.int .i64 x, .slice a6 q c6]) (t := 46) (fr := (0, 0)) (heap_alloc_new w6 _)) (by simp [Value.oneCell']) (by omega) (by unfold maxLen; omega) (by omega) (by have := Hb6.out.size; simp; omega) (w6.heap.size + 1) (by simp) ?_
      intro g2 cap2 w8 hown8 hgrow8 hat8 hlt8
      have hbx : ∀ t, w8.cell? ⟨B5, t, none⟩ = w6.cell? ⟨B5, t, none⟩ := fun t => (hgrow8.cell_far ⟨B5, t, none⟩ (by simp; omega) (fun e => by have := hL5 B5 e.symm; omega)).trans (World.cell?_alloc_lt _ _ _ hB6)
      have H8 : Hid (w8.ownsRow w.heap.size 46 2 (.slice (some ⟨g2, 0, none⟩) (j + 1) cap2) (j + 1) (rowB (vs ++ [(x, .slice a6 q c6)]))) := by rw [rowB_snoc]; exact hown8
      have O8 : Hid (Owns w.heap.size w8 (vs ++ [(x, .slice a6 q c6)]) (bl.take (j + 1))) := by rw [Htk.out]; exact (OW6.out.under ((Below.refl _ _).alloc (Nat.le_refl _) _)).grown (HO6.out.alloc _) hgrow8
      have B8 : Hid (Below w.heap.size w w8) := (Hb6.out.alloc Hb6.out.size _).grown hgrow8 (by have := Hb6.out.size; simp; omega) (own_ge HO6.out)
      clear hown8 hgrow8 hat8 hlt8
      refine hK.out _ _ ?_ (fun hHeld4 => ?_)
      · exact ⟨(hbx 0).trans k2, (hbx 1).trans k3⟩
      clear hK K
      try simp only [Act.put, List.setIfInBounds_toArray, List.set_cons_zero, List.set_cons_succ]
      refine wpAnyH_take (i := 9) (oi := { dst := some 3, op := Op.assign (Operand.tmp 20), type := 23, pos := "subst.go:137", after := #[{ on := 8, ground := Ground.data }, { on := 8, ground := Ground.chain }, { on := 0, ground := Ground.phase }, { on := 1, ground := Ground.phase }, { on := 2, ground := Ground.phase }, { on := 3, ground := Ground.phase }, { on := 4, ground := Ground.phase }, { on := 5, ground := Ground.phase }, { on := 6, ground := Ground.phase }, { on := 7, ground := Ground.phase }, { on := 8, ground := Ground.phase }], guard := none }) (v := ?_) rfl (by kernel_rfl) (by kernel_rfl) (by kernel_rfl) (fun _ _ _ h => h) (Or.inl ⟨by rfl, ?_⟩) hHeld4 ?_
      rotate_left
      · (intro w hSw; (try dsimp only at hSw); go_simp; try with_reducible rfl)
      try simp only [Act.put, List.setIfInBounds_toArray, List.set_cons_zero, List.set_cons_succ]
      refine wpAnyH_done (by kernel_rfl) ?_ _
      go_wp2
      exact ⟨⟨j + 1, _, _, by omega, by go_num, rfl, ⟨_, H8.out, O8.out⟩, B8.out⟩, by simp [intOf]; omega⟩
    · have n1 : ¬ (j : Int) < (n : Int) := by omega
      go_wp2
      go_ret
      have hjn : j = n := by omega
      subst hjn
      refine ⟨_, rfl, vs, ?_, ?_, hb.out⟩
      · rw [HL.out]; exact HO.out
      · have := OW.out
        rw [List.take_of_length_le (by rw [HL.out]; exact Nat.le_refl _)] at this
        exact this
end Go.Proofs.YtjaccgkeldabfaaGreat.S

namespace Go.Proofs.YtjaccgkeldabfaaGreat.S
open Go.RowKit

def cmpI (x y : Int) : Int := if x < y then -1 else if y < x then 1 else 0
set_option maxHeartbeats 2000000 in
theorem cmp_any (x y : Int) (w : World) : Calls Tryz.prog 53 #[.int .i64 x, .int .i64 y] w fun e w' => e = .returned (.int .i64 (cmpI x y)) ∧ w' = w := by
  by_cases h1 : x < y
  · have O : Hid (cmpI x y = -1) := by show _ = _; unfold cmpI; rw [if_pos h1]
    go_enter Tryz.func53, Tryz.ntmps53
    go_wp2
    go_ret
    exact ⟨by rw [O.out]; rfl, rfl⟩
  · by_cases h2 : y < x
    · have O : Hid (cmpI x y = 1) := by show _ = _; unfold cmpI; rw [if_neg h1, if_pos h2]
      go_enter Tryz.func53, Tryz.ntmps53
      go_wp2
      go_ret
      exact ⟨by rw [O.out]; rfl, rfl⟩
    · have O : Hid (cmpI x y = 0) := by show _ = _; unfold cmpI; rw [if_neg h1, if_neg h2]
      go_enter Tryz.func53, Tryz.ntmps53
      go_wp2
      go_ret
      exact ⟨by rw [O.out]; rfl, rfl⟩
set_option maxHeartbeats 2000000 in
theorem cmpF_any (x y : Int) (a : Option Addr) (n c : Nat) (w : World) : Calls Tryz.prog 82 #[.agg #[.int .i64 x, .slice a n c], .int .i64 y] w fun e w' => e = .returned (.int .i64 (cmpI x y)) ∧ Below w.heap.size w w' := by
  have C : Hid (∀ wx : World, Calls Tryz.prog 53 #[.int .i64 x, .int .i64 y] wx fun e w' => e = .returned (.int .i64 (cmpI x y)) ∧ w' = wx) := fun wx => cmp_any x y wx
  have k0 : (w.alloc (.cells #[.int .i64 x, .slice a n c] 46)).cell? ⟨w.heap.size, 0, none⟩ = some (.int .i64 x) := World.cell?_alloc_new w _ _ 0
  have Hb : Hid (Below w.heap.size w (w.alloc (.cells #[.int .i64 x, .slice a n c] 46))) := (Below.refl _ _).alloc (Nat.le_refl _) _
  go_enter Tryz.func82, Tryz.ntmps82
  go_wp2_with fail
  refine Calls.mono (C.out _) ?_
  rintro e wz ⟨rfl, hwz⟩
  subst wz
  go_wp2
  go_ret
  exact ⟨rfl, Hb.out⟩

def look (bl : List (Int × List Int)) (y : Int) : Option (List Int) := (bl.find? (fun p => p.1 == y)).map (·.2)
/-- Binds that rise by their variables. -/
def Rises (bl : List (Int × List Int)) : Prop := bl.Pairwise (fun p q => p.1 < q.1)
/-- A row of binds in memory. -/
structure BindsAt (w : World) (a : Option Addr) (n : Nat) (bl : List (Int × List Int)) : Prop where
  row : ∃ vs, RowAt w a (rowB vs) ∧ Matches w vs bl
  len : bl.length = n
  rises : Rises bl
theorem BindsAt.under {w w' : World} {a : Option Addr} {n : Nat} {bl : List (Int × List Int)} (h : BindsAt w a n bl) (hb : Below w.heap.size w w') : BindsAt w' a n bl := by
  obtain ⟨vs, h1, h2⟩ := h.row
  exact ⟨⟨vs, h1.under hb, h2.under hb⟩, h.len, h.rises⟩
theorem BindsAt.at {w : World} {a : Option Addr} {n : Nat} {bl : List (Int × List Int)} (h : BindsAt w a n bl) {i : Nat} {p : Int × List Int} (hp : bl[i]? = some p) :
    ∃ b off a' c', a = some ⟨b, off, none⟩ ∧ w.cell? ⟨b, off + i * 2, none⟩ = some (.int .i64 p.1) ∧ w.cell? ⟨b, off + i * 2 + 1, none⟩ = some (.slice a' p.2.length c') ∧ IntsAt w a' p.2 := by
  obtain ⟨vs, h1, h2⟩ := h.row
  obtain ⟨a', c', hv, hi⟩ := h2.2 i p hp
  obtain ⟨r1, r2⟩ := rowB_at vs i _ hv
  obtain ⟨b, off, rfl, k1⟩ := h1 _ _ r1
  obtain ⟨_, _, e, k2⟩ := h1 _ _ r2
  cases e
  exact ⟨b, off, a', c', rfl, k1, by rw [Nat.add_assoc]; exact k2, hi⟩
theorem look_at {bl : List (Int × List Int)} (hr : Rises bl) {i : Nat} {p : Int × List Int} (hp : bl[i]? = some p) : look bl p.1 = some p.2 := by
  obtain ⟨hlt, he⟩ := List.getElem?_eq_some_iff.1 hp
  have hf : bl.find? (fun q => q.1 == p.1) = some p := by
    rw [List.find?_eq_some_iff_getElem]
    refine ⟨by simp, i, hlt, he, fun j hj => ?_⟩
    have := List.pairwise_iff_getElem.1 hr j i (by omega) hlt hj
    rw [he] at this
    simp; omega
  unfold look
  rw [hf]; rfl
theorem look_none {bl : List (Int × List Int)} {y : Int} (h : ∀ (i : Nat) (p : Int × List Int), bl[i]? = some p → p.1 ≠ y) : look bl y = none := by
  have hf : bl.find? (fun q => q.1 == y) = none := by
    rw [List.find?_eq_none]
    intro p hp
    obtain ⟨i, hi⟩ := List.getElem?_of_mem hp
    simpa using h i p hi
  unfold look
  rw [hf]; rfl
/-- What the search answers: the first place that is not ahead of y. -/
def SearchIs (w w' : World) (e : Ending) (bl : List (Int × List Int)) (y : Int) : Prop := Below w.heap.size w w' ∧
  ((∃ (i : Nat) (l : List Int), bl[i]? = some (y, l) ∧ e = .returned (.tuple #[.int .i64 i, .bool true])) ∨ (look bl y = none ∧ ∃ i : Nat, e = .returned (.tuple #[.int .i64 i, .bool false])))

set_option maxRecDepth 100000 in
set_option maxHeartbeats 8000000 in
theorem search_any (w : World) (a : Option Addr) (n c : Nat) (bl : List (Int × List Int)) (y : Int) (hn : n ≤ 4398046511000) (h : BindsAt w a n bl) :
    Calls Tryz.prog 81 #[.slice a n c, .int .i64 y, (.func (.func 82) #[] #[])] w fun e w' => SearchIs w w' e bl y := by
  have H : Hid (BindsAt w a n bl) := h
  clear h
  go_enter Tryz.func81, Tryz.ntmps81
  go_wp2_with fail
  go_loopw [9, 10, 11] (fun i j _ wx => ∃ (s t : Nat), s ≤ t ∧ t ≤ n ∧ i = .int .i64 s ∧ j = .int .i64 t ∧ Hid (∀ (k : Nat) (p : Int × List Int), bl[k]? = some p → k < s → p.1 < y) ∧ Hid (∀ (k : Nat) (p : Int × List Int), bl[k]? = some p → t ≤ k → y ≤ p.1) ∧ Hid (Below w.heap.size w wx)) (fun i j _ _ => (intOf j).toNat - (intOf i).toNat)
  case atStart => exact ⟨0, n, Nat.zero_le _, Nat.le_refl _, rfl, rfl, fun k p _ hk => absurd hk (by omega), fun k p hp hk => absurd (List.getElem?_eq_some_iff.1 hp).1 (by rw [H.out.len]; omega), Below.refl _ _⟩
  case round =>
    obtain ⟨s, t, hst, htn, rfl, rfl, hlo, hhi, hb⟩ := hrel
    by_cases hlt : s < t
    · have n1 : (s : Int) < (t : Int) := by omega
      obtain ⟨m, hm⟩ : ∃ m : Nat, ((s : Int) + (t : Int)) / 2 = (m : Int) := ⟨(s + t) / 2, by omega⟩
      have m1 : s ≤ m := by omega
      have m2 : m < t := by omega
      have m3 : (m : Int) < (n : Int) := by omega
      obtain ⟨p, hp⟩ : ∃ p, bl[m]? = some p := ⟨bl[m]'(by rw [H.out.len]; omega), List.getElem?_eq_getElem _⟩
      obtain ⟨b2, o2, a2, c2, rfl, k1, k2, _⟩ := (H.out.under hb.out).at hp
      obtain ⟨x, lx⟩ := p
      have k1' : wr.cell? ⟨b2, o2 + m * 2, none⟩ = some (.int .i64 x) := k1
      have k2' : wr.cell? ⟨b2, o2 + m * 2 + 1, none⟩ = some (.slice a2 lx.length c2) := k2
      generalize lx.length = q at *
      have Hp : Hid (bl[m]? = some (x, lx)) := hp
      have CF : Hid _ := cmpF_any x y a2 q c2 wr
      clear k1 k2 hp
      by_cases hxy : x < y
      · have hc : cmpI x y = -1 := by unfold cmpI; rw [if_pos hxy]
        rw [hc] at CF
        clear hc
        go_wp2_with fail
        refine Calls.mono CF.out ?_
        rintro e w2 ⟨rfl, hb2⟩
        have Hb2 : Hid (Below w.heap.size w w2) := hb.out.trans (hb2.mono hb.out.size)
        have Hlo : Hid (∀ (k : Nat) (p : Int × List Int), bl[k]? = some p → k < m + 1 → p.1 < y) := fun k p hk hlt => by
          by_cases e : k = m
          · subst e
            rw [Hp.out] at hk
            cases hk
            exact hxy
          · obtain ⟨h1, e1⟩ := List.getElem?_eq_some_iff.1 hk
            obtain ⟨h2, e2⟩ := List.getElem?_eq_some_iff.1 Hp.out
            have := List.pairwise_iff_getElem.1 H.out.rises k m h1 h2 (by omega)
            rw [e1, e2] at this
            have h3 : p.1 < x := this
            omega
        clear hb2 CF hlo
        go_wp2
        go_roundw
        case rel => exact ⟨m + 1, t, by omega, htn, by go_num, rfl, Hlo.out, hhi.out, Hb2.out⟩
        case measure => simp [intOf]; omega
      · have hc : 0 ≤ cmpI x y := by unfold cmpI; rw [if_neg hxy]; split <;> omega
        generalize cmpI x y = z at *
        have hc2 : ¬ z < 0 := by omega
        clear hc
        go_wp2_with fail
        refine Calls.mono CF.out ?_
        rintro e w2 ⟨rfl, hb2⟩
        have Hb2 : Hid (Below w.heap.size w w2) := hb.out.trans (hb2.mono hb.out.size)
        have Hhi : Hid (∀ (k : Nat) (p : Int × List Int), bl[k]? = some p → m ≤ k → y ≤ p.1) := fun k p hk hlt => by
          by_cases e : k = m
          · subst e
            rw [Hp.out] at hk
            cases hk
            show y ≤ x
            omega
          · obtain ⟨h1, e1⟩ := List.getElem?_eq_some_iff.1 hk
            obtain ⟨h2, e2⟩ := List.getElem?_eq_some_iff.1 Hp.out
            have := List.pairwise_iff_getElem.1 H.out.rises m k h2 h1 (by omega)
            rw [e1, e2] at this
            have h3 : x < p.1 := this
            omega
        clear hb2 CF hhi
        go_wp2
        go_roundw
        case rel => exact ⟨s, m, m1, by omega, rfl, rfl, hlo.out, Hhi.out, Hb2.out⟩
        case measure => simp [intOf]; omega
    · have n1 : ¬ (s : Int) < (t : Int) := by omega
      obtain rfl : s = t := by omega
      by_cases hsn : s < n
      · have m3 : (s : Int) < (n : Int) := by omega
        obtain ⟨p, hp⟩ : ∃ p, bl[s]? = some p := ⟨bl[s]'(by rw [H.out.len]; omega), List.getElem?_eq_getElem _⟩
        obtain ⟨b2, o2, a2, c2, rfl, k1, k2, _⟩ := (H.out.under hb.out).at hp
        obtain ⟨x, lx⟩ := p
        have k1' : wr.cell? ⟨b2, o2 + s * 2, none⟩ = some (.int .i64 x) := k1
        have k2' : wr.cell? ⟨b2, o2 + s * 2 + 1, none⟩ = some (.slice a2 lx.length c2) := k2
        generalize lx.length = q at *
        have Hp : Hid (bl[s]? = some (x, lx)) := hp
        have CF : Hid _ := cmpF_any x y a2 q c2 wr
        have hyx : y ≤ x := hhi.out s (x, lx) hp (Nat.le_refl _)
        clear k1 k2 hp
        by_cases hxy : x = y
        · subst hxy
          have hc : cmpI x x = 0 := by unfold cmpI; rw [if_neg (by omega), if_neg (by omega)]
          rw [hc] at CF
          clear hc
          go_wp2_with fail
          refine Calls.mono CF.out ?_
          rintro e w2 ⟨rfl, hb2⟩
          have Hb2 : Hid (Below w.heap.size w w2) := hb.out.trans (hb2.mono hb.out.size)
          clear hb2 CF
          go_wp2
          go_ret2
          exact ⟨Hb2.out, .inl ⟨s, lx, Hp.out, rfl⟩⟩
        · have hc : cmpI x y = 1 := by unfold cmpI; rw [if_neg (by omega), if_pos (by omega)]
          rw [hc] at CF
          clear hc
          have hnone : Hid (look bl y = none) := look_none fun k p hk e => by
            rcases Nat.lt_trichotomy k s with h1 | h1 | h1
            · have := hlo.out k p hk h1; omega
            · subst h1
              rw [Hp.out] at hk
              cases hk
              exact hxy e
            · obtain ⟨h3, e1⟩ := List.getElem?_eq_some_iff.1 hk
              obtain ⟨h2, e2⟩ := List.getElem?_eq_some_iff.1 Hp.out
              have := List.pairwise_iff_getElem.1 H.out.rises s k h2 h3 h1
              rw [e1, e2] at this
              have h4 : x < p.1 := this
              omega
          go_wp2_with fail
          refine Calls.mono CF.out ?_
          rintro e w2 ⟨rfl, hb2⟩
          have Hb2 : Hid (Below w.heap.size w w2) := hb.out.trans (hb2.mono hb.out.size)
          clear hb2 CF
          go_wp2
          go_ret2
          exact ⟨Hb2.out, .inr ⟨hnone.out, s, rfl⟩⟩
      · have m3 : ¬ (s : Int) < (n : Int) := by omega
        have hnone : Hid (look bl y = none) := look_none fun k p hk e => by
          have h1 := (List.getElem?_eq_some_iff.1 hk).1
          rw [H.out.len] at h1
          have := hlo.out k p hk (by omega)
          omega
        go_wp2
        go_ret2
        exact ⟨hb.out, .inr ⟨hnone.out, s, rfl⟩⟩
end Go.Proofs.YtjaccgkeldabfaaGreat.S

namespace Go.Proofs.YtjaccgkeldabfaaGreat.S
open Go.RowKit

/-- A bind: its variable, and the slice that stands for it. -/
abbrev S := Int × Option Addr × Nat × Nat
def encS (p : S) : List Value := [.int .i64 p.1, .slice p.2.1 p.2.2.1 p.2.2.2]
def toB (p : S) : Int × Value := (p.1, .slice p.2.1 p.2.2.1 p.2.2.2)
def cfS (p q : S) : Int := cmpI p.1 q.1
theorem ltS (x y : S) : ltOf cfS x y = decide (x.1 < y.1) := by
  unfold ltOf cfS cmpI
  by_cases h1 : x.1 < y.1
  · simp [h1]
  · by_cases h2 : y.1 < x.1 <;> simp [h1, h2]
theorem swoS : Sort.SWO (ltOf cfS) where
  irrefl x := by rw [ltS]; simp
  trans x y z h1 h2 := by rw [ltS] at *; simp at *; omega
  ntrans x y z h1 h2 := by rw [ltS] at *; simp at *; omega
set_option maxHeartbeats 1000000 in
theorem cmpS_any (x y : S) (W : World) : Calls Tryz.prog 52 #[.agg #[.int .i64 x.1, .slice x.2.1 x.2.2.1 x.2.2.2], .agg #[.int .i64 y.1, .slice y.2.1 y.2.2.1 y.2.2.2]] W fun e w' => e = .returned (.int .i64 (cfS x y)) ∧ ∃ q os', w' = Sort.grow (W.drewN q) os' := by
  have hcon : Hid (∀ W' : World, Calls Tryz.prog 53 #[.int .i64 x.1, .int .i64 y.1] W' fun e w' => e = .returned (.int .i64 (cfS x y)) ∧ w' = W') := fun W' => cmp_any x.1 y.1 W'
  generalize cfS x y = r at hcon ⊢
  go_enter Tryz.func52, Tryz.ntmps52
  go_wp2_with (go_at_call 53; refine (hcon.out _).mono ?_; rintro e w' ⟨rfl, rfl⟩)
  go_ret
  exact ⟨rfl, 0, _, by rw [Sort.alloc_eq_grow, Sort.alloc_eq_grow, Sort.grow_grow]; rfl⟩
theorem cmpLaysS (blk off size : Nat) (w : World) : CmpLays Tryz.prog  52 #[] encS 2 cfS blk off size w := fun _ _ _ _ x y => cmpS_any x y _
theorem row_flat (ds : List S) (t : Nat) (ht : t < ds.length * 2) : (rowB (ds.map toB))[t]? = some ((encS ds.toArray[t / 2]!)[t % 2]!) := by
  have hlt : t / 2 < ds.length := by omega
  have hg : ds.toArray[t / 2]! = ds[t / 2] := by
    rw [getElem!_pos ds.toArray (t / 2) (by simpa using hlt)]; simp
  have h := rowB_at (ds.map toB) (t / 2) (toB ds[t / 2]) (by rw [List.getElem?_map, List.getElem?_eq_getElem hlt]; rfl)
  rw [hg]
  rcases Nat.mod_two_eq_zero_or_one t with h2 | h2
  · rw [h2]
    have e : t = t / 2 * 2 := by omega
    have h3 := h.1
    rw [← e] at h3
    exact h3
  · rw [h2]
    have e : t = t / 2 * 2 + 1 := by omega
    have h3 := h.2
    rw [← e] at h3
    exact h3
/-- Binds in order: what sortByVar leaves. -/
def SortIs (w w' : World) (g : Nat) (ds : List S) : Prop := w.grownBy w' (some g) ∧ ∃ ds' : List S, ds'.Perm ds ∧ ds'.Pairwise (fun p q => p.1 ≤ q.1) ∧ RowAt w' (some ⟨g, 0, none⟩) (rowB (ds'.map toB))

theorem sort_world {w : World} {g m : Nat} {d' : Array S} {os : Array Obj} : w.grownBy (sortWorldK encS 2 w g 0 m d' os) (some g) := by
  refine ⟨rfl, rfl, rfl, ?_, fun k hk hne => ?_⟩
  · unfold sortWorldK Sort.putRowK Sort.putRow Sort.mapBlock Sort.grow Sort.ahead
    simp
  · have hkg : k ≠ g := fun e => hne (by rw [e])
    unfold sortWorldK Sort.putRowK Sort.putRow Sort.mapBlock Sort.grow Sort.ahead
    simp only [Array.getElem?_append, Array.size_modify, hk, if_true]
    rw [Array.getElem?_modify, if_neg (fun e => hkg e.symm)]

set_option maxRecDepth 100000 in
set_option maxHeartbeats 2000000 in
theorem sort_any (w : World) (base g n cap : Nat) (ds : List S) (hl : ds.length = n) (hn : n ≤ 4398046511000) (h : w.ownsRow base 46 2 (.slice (some ⟨g, 0, none⟩) n cap) n (rowB (ds.map toB))) :
    Calls Tryz.prog 30 #[.slice (some ⟨g, 0, none⟩) n cap] w fun e w' => e = .returned (.tuple #[]) ∧ SortIs w w' g ds := by
  have eg : ∀ args w, (callFunc 52 args).run Tryz.prog w = .ok (.enter 52 args) w := enters_of Tryz.func52 (by kernel_rfl) rfl
  have hblk : g < w.heap.size := own_low h g rfl
  obtain ⟨a0, c0, hv0, _, hrow, _⟩ := own_row h
  simp only [Value.slice.injEq] at hv0
  obtain ⟨rfl, _, rfl⟩ := hv0
  have hfz : ∀ j, w.frozen? ⟨g, j, none⟩ = false := fun j => by
    rcases h.2 with ⟨e', _⟩ | ⟨g', cap', cur, hv, hg', hh, _⟩
    · cases e'
    · simp only [Value.slice.injEq, Option.some.injEq, Addr.mk.injEq] at hv
      obtain ⟨⟨rfl, _⟩, _, rfl⟩ := hv
      simp [World.frozen?, hh]
  have hH : Sort.HoldsK encS 2 w g 0 ds.toArray := fun j hj => by
    rw [Sort.size_flatK] at hj
    refine ⟨?_, by rw [Nat.zero_add]; exact hfz j⟩
    rw [Sort.get_flatK _ _ _ j hj]
    obtain ⟨b, off, e, hc⟩ := hrow j _ (row_flat ds j (by simpa using hj))
    cases e
    exact hc
  have hcon := AnyQ.slices_SortFunc Tryz.sortS 2 Tryz.isAgg46 Tryz.sizeOf46 encS (fun _ => rfl) (fun x v hv => by simp [encS] at hv; rcases hv with rfl | rfl <;> rfl) cfS swoS 52 #[] g 0 cap ds.toArray w eg (cmpLaysS g 0 _ w) hH hblk (by simp; omega)
  rw [show ds.toArray.size = n by simpa using hl] at hcon
  change Calls Tryz.prog 51 _ _ _ at hcon
  have HC : Hid _ := hcon
  have HH : Hid (Sort.HoldsK encS 2 w g 0 ds.toArray) := hH
  have HB : Hid (g < w.heap.size) := hblk
  clear hH hrow hfz h eg hcon
  go_enter Tryz.func30, Tryz.ntmps30
  go_wp2_with fail
  refine Calls.mono HC.out ?_
  rintro e w2 ⟨rfl, d', m, os, hp, hs, rfl⟩
  have HS : Hid (SortIs w (sortWorldK encS 2 w g 0 m d' os) g ds) := by
    have hsz : d'.size = n := by have := hp.1; simpa [hl] using this
    refine ⟨sort_world, d'.toList, ?_, ?_, ?_⟩
    · have := hp.2.2
      rw [show (ds.toArray).extract 0 n = ds.toArray by rw [← hl]; simp, show d'.extract 0 n = d' by rw [← hsz]; simp] at this
      simpa using this
    · rw [List.pairwise_iff_getElem]
      intro i j hi hj hij
      have h1 := hs i j (Nat.zero_le _) hij (by rw [← hsz]; simpa using hj)
      rw [ltS, getElem!_pos d' j (by simpa using hj), getElem!_pos d' i (by simpa using hi)] at h1
      simpa using h1
    · intro t u ht
      have hlt : t < d'.size * 2 := by
        have := (List.getElem?_eq_some_iff.1 ht).1
        rw [rowB_len] at this
        simpa using this
      have h2 := holdsK_sortWorldK_c encS 2 w g 0 ds.toArray d' m os HH.out HB.out (by simp [hsz, hl]) t (by rw [Sort.size_flatK]; exact hlt)
      rw [Sort.get_flatK _ _ _ t hlt] at h2
      rw [row_flat d'.toList t (by simpa using hlt)] at ht
      simp at ht
      refine ⟨g, 0, rfl, ?_⟩
      rw [h2.1, ← ht]
      simp
  generalize sortWorldK encS 2 w g 0 m d' os = w3 at *
  clear HC HH hp hs
  go_wp2
  go_end0
  exact ⟨rfl, HS.out⟩
end Go.Proofs.YtjaccgkeldabfaaGreat.S

namespace Go.Proofs.YtjaccgkeldabfaaGreat.S
open Go.RowKit

def FindIs (w w' : World) (e : Ending) (bl : List (Int × List Int)) (y : Int) : Prop := Below w.heap.size w w' ∧
  ((∃ (l : List Int) (a : Option Addr) (c : Nat), look bl y = some l ∧ e = .returned (.tuple #[.slice a l.length c, .bool true]) ∧ IntsAt w a l) ∨ (look bl y = none ∧ e = .returned (.tuple #[.slice none 0 0, .bool false])))
/-- What stands for a symbol: what is bound to it, or the symbol itself. -/
def sub (bl : List (Int × List Int)) (x : Int) : List Int := (look bl x).getD [x]
theorem below_alloc (w : World) (o : Obj) : Below w.heap.size w (w.alloc o) := (Below.refl _ _).alloc (Nat.le_refl _) _

set_option maxRecDepth 100000 in
set_option maxHeartbeats 4000000 in
theorem find_any (w : World) (a : Option Addr) (n c : Nat) (bl : List (Int × List Int)) (y : Int) (hn : n ≤ 4398046511000) (h : BindsAt w a n bl) :
    Calls Tryz.prog 65 #[.agg #[.slice a n c], .int .i64 y] w fun e w' => FindIs w w' e bl y := by
  have k0 : (w.alloc (.cells #[.slice a n c] 27)).cell? ⟨w.heap.size, 0, none⟩ = some (.slice a n c) := World.cell?_alloc_new w _ _ 0
  have hbA := below_alloc w (.cells #[.slice a n c] 27)
  have SE : Hid _ := search_any (w.alloc (.cells #[.slice a n c] 27)) a n c bl y hn (h.under hbA)
  have H : Hid (BindsAt w a n bl) := h
  have HA : Hid (Below w.heap.size w (w.alloc (.cells #[.slice a n c] 27))) := hbA
  have hB : w.heap.size < (w.alloc (.cells #[.slice a n c] 27)).heap.size := by simp
  clear h hbA
  go_enter Tryz.func65, Tryz.ntmps65
  go_wp2_with fail
  refine Calls.mono SE.out ?_
  rintro e w2 ⟨hb2, ⟨i, l, hi, rfl⟩ | ⟨hnone, i, rfl⟩⟩
  · have Hb2 : Hid (Below w.heap.size w w2) := HA.out.trans (hb2.mono HA.out.size)
    have k2 : w2.cell? ⟨w.heap.size, 0, none⟩ = some (.slice a n c) := (hb2.cell (p := ⟨w.heap.size, 0, none⟩) hB).trans k0
    have hin : i < n := by rw [← H.out.len]; exact (List.getElem?_eq_some_iff.1 hi).1
    have i1 : (i : Int) < (n : Int) := by omega
    obtain ⟨b2, o2, a2, c2, rfl, q1, q2, hI⟩ := H.out.at hi
    have q2' : w2.cell? ⟨b2, o2 + i * 2 + 1, none⟩ = some (.slice a2 l.length c2) := (Hb2.out.cell (p := ⟨b2, o2 + i * 2 + 1, none⟩) (World.block_lt_of_cell? _ _ q2)).trans q2
    have HI : Hid (IntsAt w a2 l) := hI
    have HLk : Hid (look bl y = some l) := look_at H.out.rises hi
    clear hb2 SE k0 q1 q2 hI hi
    go_wp2
    go_ret2
    exact ⟨Hb2.out, .inl ⟨l, a2, c2, HLk.out, rfl, HI.out⟩⟩
  · have Hb2 : Hid (Below w.heap.size w w2) := HA.out.trans (hb2.mono HA.out.size)
    have HN : Hid (look bl y = none) := hnone
    clear hb2 SE hnone
    go_wp2
    go_ret2
    exact ⟨Hb2.out, .inr ⟨HN.out, rfl⟩⟩
theorem ints_one {w : World} {b off : Nat} {x : Int} (h : w.cell? ⟨b, off, none⟩ = some (.int .i64 x)) : IntsAt w (some ⟨b, off, none⟩) [x] := fun j y hj => by
  have hj0 : j = 0 := by have := (List.getElem?_eq_some_iff.1 hj).1; simp at this; omega
  subst hj0
  simp at hj
  subst hj
  exact ⟨b, off, rfl, h⟩
def PartIs (w w' : World) (e : Ending) (bl : List (Int × List Int)) (x : Int) : Prop := Below w.heap.size w w' ∧ ∃ (a : Option Addr) (c : Nat), e = .returned (.slice a (sub bl x).length c) ∧ IntsAt w' a (sub bl x)

set_option maxRecDepth 100000 in
set_option maxHeartbeats 8000000 in
theorem part_any (w : World) (a : Option Addr) (n c : Nat) (bl : List (Int × List Int)) (ae : Option Addr) (ne ce : Nat) (l : List Int) (i : Nat) (x : Int) (hn : n ≤ 4398046511000) (h : BindsAt w a n bl) (hl : l.length = ne) (hce : ne ≤ ce) (hne : ne ≤ 17592186043904) (hE : IntsAt w ae l) (hx : l[i]? = some x) :
    Calls Tryz.prog 66 #[.agg #[.slice a n c], .slice ae ne ce, .int .i64 i] w fun e w' => PartIs w w' e bl x := by
  have k0 : (w.alloc (.cells #[.slice a n c] 27)).cell? ⟨w.heap.size, 0, none⟩ = some (.slice a n c) := World.cell?_alloc_new w _ _ 0
  have hbA := below_alloc w (.cells #[.slice a n c] 27)
  have hin : i < ne := by rw [← hl]; exact (List.getElem?_eq_some_iff.1 hx).1
  have i1 : (i : Int) < (ne : Int) := by omega
  have FI : Hid (∀ wx : World, Hid (Below (w.alloc (.cells #[.slice a n c] 27)).heap.size (w.alloc (.cells #[.slice a n c] 27)) wx) → Calls Tryz.prog 65 #[.agg #[.slice a n c], .int .i64 x] wx fun e w' => FindIs wx w' e bl x) := fun wx hw => find_any wx a n c bl x hn ((h.under hbA).under hw.out)
  obtain ⟨b1, o1, rfl, hc1⟩ := hE i x hx
  have HC : Hid (IntsAt w (some ⟨b1, o1 + i, none⟩) [x]) := ints_one hc1
  have c1 : (w.alloc (.cells #[.slice a n c] 27)).cell? ⟨b1, o1 + i, none⟩ = some (.int .i64 x) := (hbA.cell (p := ⟨b1, o1 + i, none⟩) (World.block_lt_of_cell? _ _ hc1)).trans hc1
  have H : Hid (BindsAt w a n bl) := h
  have HA : Hid (Below w.heap.size w (w.alloc (.cells #[.slice a n c] 27))) := hbA
  clear h hbA hc1 hE hl hx
  go_enter Tryz.func66, Tryz.ntmps66
  go_wp2_with fail
  generalize hwA : w.alloc (.cells #[.slice a n c] 27) = wA at *
  have HB1 : b1 < wA.heap.size := World.block_lt_of_cell? _ _ c1
  have HB0 : w.heap.size < wA.heap.size := World.block_lt_of_cell? _ _ k0
  generalize hB0 : w.heap.size = B0 at *
  have HB0e : Hid (w.heap.size = B0) := hB0
  clear hwA hB0
  refine wp_region_held_drew (S := fun w' => w'.cell? ⟨B0, 0, none⟩ = some (.slice a n c) ∧ w'.cell? ⟨b1, o1 + i, none⟩ = some (.int .i64 x)) (by kernel_rfl) ?_ (fun hHeld => ?_)
  · exact ⟨k0, c1⟩
  refine wpAnyH_take (i := 0) (oi := { dst := some 10, op := Op.load 27 (Operand.tmp 3), type := 27, pos := "subst.go:102", after := #[], guard := none }) (v := ?_) rfl (by kernel_rfl) (by kernel_rfl) (by kernel_rfl) (fun _ _ _ h => h) (Or.inl ⟨by rfl, ?_⟩) hHeld ?_
  rotate_left
  · (intro w hSw; (try dsimp only at hSw); go_simp; try with_reducible rfl)
  try simp only [Act.put, List.setIfInBounds_toArray, List.set_cons_zero, List.set_cons_succ]
  refine wpAnyH_take (i := 1) (oi := { dst := some 11, op := Op.move (Operand.tmp 1), type := 44, pos := "subst.go:102", after := #[], guard := none }) (v := ?_) rfl (by kernel_rfl) (by kernel_rfl) (by kernel_rfl) (fun _ _ _ h => h) (Or.inl ⟨by rfl, ?_⟩) hHeld ?_
  rotate_left
  · (intro w hSw; (try dsimp only at hSw); go_simp; try with_reducible rfl)
  try simp only [Act.put, List.setIfInBounds_toArray, List.set_cons_zero, List.set_cons_succ]
  refine wpAnyH_take (i := 2) (oi := { dst := some 12, op := Op.move (Operand.tmp 2), type := 3, pos := "subst.go:102", after := #[], guard := none }) (v := ?_) rfl (by kernel_rfl) (by kernel_rfl) (by kernel_rfl) (fun _ _ _ h => h) (Or.inl ⟨by rfl, ?_⟩) hHeld ?_
  rotate_left
  · (intro w hSw; (try dsimp only at hSw); go_simp; try with_reducible rfl)
  try simp only [Act.put, List.setIfInBounds_toArray, List.set_cons_zero, List.set_cons_succ]
  refine wpAnyH_take (i := 3) (oi := { dst := some 13, op := Op.indexAddr 44 (Operand.tmp 11) (Operand.tmp 12), type := 0, pos := "subst.go:102", after := #[{ on := 1, ground := Ground.data }, { on := 2, ground := Ground.data }], guard := none }) (v := ?_) rfl (by kernel_rfl) (by kernel_rfl) (by kernel_rfl) (fun _ _ _ h => h) (Or.inl ⟨by rfl, ?_⟩) hHeld ?_
  rotate_left
  · (intro w hSw; (try dsimp only at hSw); go_simp; try with_reducible rfl)
  try simp only [Act.put, List.setIfInBounds_toArray, List.set_cons_zero, List.set_cons_succ]
  refine wpAnyH_take (i := 4) (oi := { dst := some 14, op := Op.load 3 (Operand.tmp 13), type := 3, pos := "subst.go:102", after := #[{ on := 3, ground := Ground.data }], guard := none }) (v := ?_) rfl (by kernel_rfl) (by kernel_rfl) (by kernel_rfl) (fun _ _ _ h => h) (Or.inl ⟨by rfl, ?_⟩) hHeld ?_
  rotate_left
  · (intro w hSw; (try dsimp only at hSw); go_simp; try with_reducible rfl)
  try simp only [Act.put, List.setIfInBounds_toArray, List.set_cons_zero, List.set_cons_succ]
  refine wpAnyH_ready (rs := [5]) (by kernel_rfl) (by simp) ?_
  refine AllReadyH.cons (o := { dst := some 15, op := Op.call { callee := Callee.value (Operand.func 65), args := #[Operand.tmp 10, Operand.tmp 14], argTypes := #[27, 3] }, type := 91, pos := "subst.go:102", after := #[{ on := 0, ground := Ground.data }, { on := 4, ground := Ground.data }], guard := none }) rfl (fun K hK => ?_) AllReadyH.nil
  go_simp
  go_at_call 65
  refine (FI.out wA.drew ⟨rfl, rfl, rfl, Nat.le_refl _, fun _ _ => rfl⟩).mono ?_
  rintro e w2 ⟨hb2, ⟨lx, ax, cx, hlk, rfl, hIx⟩ | ⟨hlk, rfl⟩⟩
  · have hb2' : Below wA.heap.size wA w2 := ⟨hb2.os, hb2.tape, hb2.output, hb2.size, hb2.block⟩
    have k2 : w2.cell? ⟨B0, 0, none⟩ = some (.slice a n c) := (hb2'.cell (p := ⟨B0, 0, none⟩) HB0).trans k0
    have c2 : w2.cell? ⟨b1, o1 + i, none⟩ = some (.int .i64 x) := (hb2'.cell (p := ⟨b1, o1 + i, none⟩) HB1).trans c1
    have Hb2 : Hid (Below B0 w w2) := HA.out.trans (hb2'.mono (Nat.le_of_lt HB0))
    try go_wp2_with fail
    refine hK.out _ _ ?_ (fun hHeld2 => ?_)
    · exact ⟨k2, c2⟩
    clear hK K
    try simp only [Act.put, List.setIfInBounds_toArray, List.set_cons_zero, List.set_cons_succ]
    refine wpAnyH_take (i := 6) (oi := { dst := some 9, op := Op.move (Operand.tmp 15), type := 91, pos := "subst.go:102", after := #[{ on := 5, ground := Ground.data }], guard := none }) (v := ?_) rfl (by kernel_rfl) (by kernel_rfl) (by kernel_rfl) (fun _ _ _ h => h) (Or.inl ⟨by rfl, ?_⟩) hHeld2 ?_
    rotate_left
    · (intro w hSw; (try dsimp only at hSw); go_simp; try with_reducible rfl)
    try simp only [Act.put, List.setIfInBounds_toArray, List.set_cons_zero, List.set_cons_succ]
    refine wpAnyH_take (i := 7) (oi := { dst := some 16, op := Op.extract (Operand.tmp 9) 0, type := 44, pos := "subst.go:102", after := #[{ on := 6, ground := Ground.data }], guard := none }) (v := ?_) rfl (by kernel_rfl) (by kernel_rfl) (by kernel_rfl) (fun _ _ _ h => h) (Or.inl ⟨by rfl, ?_⟩) hHeld2 ?_
    rotate_left
    · (intro w hSw; (try dsimp only at hSw); go_simp; try with_reducible rfl)
    try simp only [Act.put, List.setIfInBounds_toArray, List.set_cons_zero, List.set_cons_succ]
    refine wpAnyH_take (i := 8) (oi := { dst := some 17, op := Op.extract (Operand.tmp 9) 1, type := 4, pos := "subst.go:102", after := #[{ on := 6, ground := Ground.data }, { on := 9, ground := Ground.gcOnly Departure.lateStores }], guard := none }) (v := ?_) rfl (by kernel_rfl) (by kernel_rfl) (by kernel_rfl) (fun _ _ _ h => h) (Or.inl ⟨by rfl, ?_⟩) hHeld2 ?_
    rotate_left
    · (intro w hSw; (try dsimp only at hSw); go_simp; try with_reducible rfl)
    try simp only [Act.put, List.setIfInBounds_toArray, List.set_cons_zero, List.set_cons_succ]
    refine wpAnyH_take (i := 9) (oi := { dst := some 7, op := Op.assign (Operand.tmp 16), type := 44, pos := "subst.go:102", after := #[{ on := 7, ground := Ground.data }, { on := 5, ground := Ground.chain }, { on := 0, ground := Ground.phase }, { on := 1, ground := Ground.phase }, { on := 2, ground := Ground.phase }, { on := 3, ground := Ground.phase }, { on := 4, ground := Ground.phase }, { on := 5, ground := Ground.phase }, { on := 6, ground := Ground.phase }, { on := 7, ground := Ground.phase }, { on := 8, ground := Ground.textOnly Departure.lateStores }], guard := none }) (v := ?_) rfl (by kernel_rfl) (by kernel_rfl) (by kernel_rfl) (fun _ _ _ h => h) (Or.inl ⟨by rfl, ?_⟩) hHeld2 ?_
    rotate_left
    · (intro w hSw; (try dsimp only at hSw); go_simp; try with_reducible rfl)
    try simp only [Act.put, List.setIfInBounds_toArray, List.set_cons_zero, List.set_cons_succ]
    refine wpAnyH_take (i := 10) (oi := { dst := some 8, op := Op.assign (Operand.tmp 17), type := 4, pos := "subst.go:102", after := #[{ on := 8, ground := Ground.data }, { on := 9, ground := Ground.chain }, { on := 0, ground := Ground.phase }, { on := 1, ground := Ground.phase }, { on := 2, ground := Ground.phase }, { on := 3, ground := Ground.phase }, { on := 4, ground := Ground.phase }, { on := 5, ground := Ground.phase }, { on := 6, ground := Ground.phase }, { on := 7, ground := Ground.phase }, { on := 8, ground := Ground.phase }, { on := 9, ground := Ground.phase }], guard := none }) (v := ?_) rfl (by kernel_rfl) (by kernel_rfl) (by kernel_rfl) (fun _ _ _ h => h) (Or.inl ⟨by rfl, ?_⟩) hHeld2 ?_
    rotate_left
    · (intro w hSw; (try dsimp only at hSw); go_simp; try with_reducible rfl)
    try simp only [Act.put, List.setIfInBounds_toArray, List.set_cons_zero, List.set_cons_succ]
    refine wpAnyH_done (by kernel_rfl) ?_ _
    clear hb2 FI
    have Hlk : Hid (sub bl x = lx) := by show _ = _; unfold sub; rw [hlk]; rfl
    have hIw : IntsAt wA ax lx := hIx
    have HIx : Hid (IntsAt w2 ax lx) := hIw.under hb2'
    clear hlk hIx hIw
    go_wp2
    go_ret
    exact ⟨by rw [HB0e.out]; exact Hb2.out, ax, cx, by rw [Hlk.out]; rfl, by rw [Hlk.out]; exact HIx.out⟩
  · have hb2' : Below wA.heap.size wA w2 := ⟨hb2.os, hb2.tape, hb2.output, hb2.size, hb2.block⟩
    have k2 : w2.cell? ⟨B0, 0, none⟩ = some (.slice a n c) := (hb2'.cell (p := ⟨B0, 0, none⟩) HB0).trans k0
    have c2 : w2.cell? ⟨b1, o1 + i, none⟩ = some (.int .i64 x) := (hb2'.cell (p := ⟨b1, o1 + i, none⟩) HB1).trans c1
    have Hb2 : Hid (Below B0 w w2) := HA.out.trans (hb2'.mono (Nat.le_of_lt HB0))
    try go_wp2_with fail
    refine hK.out _ _ ?_ (fun hHeld2 => ?_)
    · exact ⟨k2, c2⟩
    clear hK K
    try simp only [Act.put, List.setIfInBounds_toArray, List.set_cons_zero, List.set_cons_succ]
    refine wpAnyH_take (i := 6) (oi := { dst := some 9, op := Op.move (Operand.tmp 15), type := 91, pos := "subst.go:102", after := #[{ on := 5, ground := Ground.data }], guard := none }) (v := ?_) rfl (by kernel_rfl) (by kernel_rfl) (by kernel_rfl) (fun _ _ _ h => h) (Or.inl ⟨by rfl, ?_⟩) hHeld2 ?_
    rotate_left
    · (intro w hSw; (try dsimp only at hSw); go_simp; try with_reducible rfl)
    try simp only [Act.put, List.setIfInBounds_toArray, List.set_cons_zero, List.set_cons_succ]
    refine wpAnyH_take (i := 7) (oi := { dst := some 16, op := Op.extract (Operand.tmp 9) 0, type := 44, pos := "subst.go:102", after := #[{ on := 6, ground := Ground.data }], guard := none }) (v := ?_) rfl (by kernel_rfl) (by kernel_rfl) (by kernel_rfl) (fun _ _ _ h => h) (Or.inl ⟨by rfl, ?_⟩) hHeld2 ?_
    rotate_left
    · (intro w hSw; (try dsimp only at hSw); go_simp; try with_reducible rfl)
    try simp only [Act.put, List.setIfInBounds_toArray, List.set_cons_zero, List.set_cons_succ]
    refine wpAnyH_take (i := 8) (oi := { dst := some 17, op := Op.extract (Operand.tmp 9) 1, type := 4, pos := "subst.go:102", after := #[{ on := 6, ground := Ground.data }, { on := 9, ground := Ground.gcOnly Departure.lateStores }], guard := none }) (v := ?_) rfl (by kernel_rfl) (by kernel_rfl) (by kernel_rfl) (fun _ _ _ h => h) (Or.inl ⟨by rfl, ?_⟩) hHeld2 ?_
    rotate_left
    · (intro w hSw; (try dsimp only at hSw); go_simp; try with_reducible rfl)
    try simp only [Act.put, List.setIfInBounds_toArray, List.set_cons_zero, List.set_cons_succ]
    refine wpAnyH_take (i := 9) (oi := { dst := some 7, op := Op.assign (Operand.tmp 16), type := 44, pos := "subst.go:102", after := #[{ on := 7, ground := Ground.data }, { on := 5, ground := Ground.chain }, { on := 0, ground := Ground.phase }, { on := 1, ground := Ground.phase }, { on := 2, ground := Ground.phase }, { on := 3, ground := Ground.phase }, { on := 4, ground := Ground.phase }, { on := 5, ground := Ground.phase }, { on := 6, ground := Ground.phase }, { on := 7, ground := Ground.phase }, { on := 8, ground := Ground.textOnly Departure.lateStores }], guard := none }) (v := ?_) rfl (by kernel_rfl) (by kernel_rfl) (by kernel_rfl) (fun _ _ _ h => h) (Or.inl ⟨by rfl, ?_⟩) hHeld2 ?_
    rotate_left
    · (intro w hSw; (try dsimp only at hSw); go_simp; try with_reducible rfl)
    try simp only [Act.put, List.setIfInBounds_toArray, List.set_cons_zero, List.set_cons_succ]
    refine wpAnyH_take (i := 10) (oi := { dst := some 8, op := Op.assign (Operand.tmp 17), type := 4, pos := "subst.go:102", after := #[{ on := 8, ground := Ground.data }, { on := 9, ground := Ground.chain }, { on := 0, ground := Ground.phase }, { on := 1, ground := Ground.phase }, { on := 2, ground := Ground.phase }, { on := 3, ground := Ground.phase }, { on := 4, ground := Ground.phase }, { on := 5, ground := Ground.phase }, { on := 6, ground := Ground.phase }, { on := 7, ground := Ground.phase }, { on := 8, ground := Ground.phase }, { on := 9, ground := Ground.phase }], guard := none }) (v := ?_) rfl (by kernel_rfl) (by kernel_rfl) (by kernel_rfl) (fun _ _ _ h => h) (Or.inl ⟨by rfl, ?_⟩) hHeld2 ?_
    rotate_left
    · (intro w hSw; (try dsimp only at hSw); go_simp; try with_reducible rfl)
    try simp only [Act.put, List.setIfInBounds_toArray, List.set_cons_zero, List.set_cons_succ]
    refine wpAnyH_done (by kernel_rfl) ?_ _
    clear hb2 FI
    have Hlk : Hid (sub bl x = [x]) := by show _ = _; unfold sub; rw [hlk]; rfl
    clear hlk
    have y3 : (i : Int) + 1 ≤ (ce : Int) := by omega
    go_wp2
    go_ret
    exact ⟨by rw [HB0e.out]; exact Hb2.out, _, _, by rw [Hlk.out]; rfl, by rw [Hlk.out]; exact HC.out.under (by rw [HB0e.out]; exact Hb2.out)⟩
end Go.Proofs.YtjaccgkeldabfaaGreat.S

namespace Go.Proofs.YtjaccgkeldabfaaGreat.S
open Go.RowKit

theorem perm_lift {α β : Type} (f : α → β) {l m : List β} (h : l.Perm m) : ∀ z : List α, m = z.map f → ∃ z' : List α, z'.Perm z ∧ z'.map f = l := by
  induction h with
  | nil =>
    intro z hz
    exact ⟨[], by rw [List.map_eq_nil_iff.1 hz.symm], rfl⟩
  | cons x _ ih =>
    intro z hz
    cases z with
    | nil => cases hz
    | cons a z0 =>
      simp only [List.map_cons, List.cons.injEq] at hz
      obtain ⟨rfl, hz⟩ := hz
      obtain ⟨z', h1, h2⟩ := ih z0 hz
      exact ⟨a :: z', h1.cons a, by rw [List.map_cons, h2]⟩
  | swap x y t =>
    intro z hz
    cases z with
    | nil => cases hz
    | cons a z0 =>
      cases z0 with
      | nil => simp at hz
      | cons b z1 =>
        simp only [List.map_cons, List.cons.injEq] at hz
        obtain ⟨rfl, rfl, rfl⟩ := hz
        exact ⟨b :: a :: z1, List.Perm.swap a b z1, rfl⟩
  | trans _ _ ih1 ih2 =>
    intro z hz
    obtain ⟨z2, h1, h2⟩ := ih2 z hz
    obtain ⟨z', h3, h4⟩ := ih1 z2 h2.symm
    exact ⟨z', h3.trans h1, h4⟩
/-- A bind in memory and what it says. -/
def Says (w : World) (d : S) (p : Int × List Int) : Prop := d.1 = p.1 ∧ d.2.2.1 = p.2.length ∧ IntsAt w d.2.1 p.2
def toS (v : Int × Value) : S := match v.2 with
  | .slice a n c => (v.1, a, n, c)
  | _ => (v.1, none, 0, 0)
/-- Binds that were handed in, each with what it says. -/
theorem Matches.pairs {w : World} {vs : List (Int × Value)} {bl : List (Int × List Int)} (h : Matches w vs bl) : ∃ z : List (S × (Int × List Int)), (z.map (·.1)).map toB = vs ∧ z.map (·.2) = bl ∧ ∀ q ∈ z, Says w q.1 q.2 := by
  refine ⟨(vs.map toS).zip bl, ?_, ?_, ?_⟩
  · rw [List.map_fst_zip (by simp [h.1]), List.map_map]
    apply List.ext_getElem?
    intro i
    rw [List.getElem?_map]
    cases hv : vs[i]? with
    | none => rfl
    | some v =>
      have hlt : i < bl.length := by rw [← h.1]; exact (List.getElem?_eq_some_iff.1 hv).1
      obtain ⟨a, c, h1, _⟩ := h.2 i bl[i] (List.getElem?_eq_getElem hlt)
      rw [hv] at h1
      cases h1
      rfl
  · rw [List.map_snd_zip (by simp [h.1])]
  · intro q hq
    obtain ⟨i, hi⟩ := List.getElem?_of_mem hq
    rw [List.getElem?_zip_eq_some, List.getElem?_map] at hi
    obtain ⟨a, c, h1, h2⟩ := h.2 i q.2 hi.2
    rw [h1] at hi
    have e : toS (q.2.1, Value.slice a q.2.2.length c) = q.1 := by simpa using hi.1
    rw [← e]
    exact ⟨rfl, rfl, h2⟩
theorem says_matches {w : World} {z : List (S × (Int × List Int))} (h : ∀ q ∈ z, Says w q.1 q.2) : Matches w ((z.map (·.1)).map toB) (z.map (·.2)) := by
  refine ⟨by simp, fun i p hi => ?_⟩
  rw [List.getElem?_map] at hi
  obtain ⟨q, hq, rfl⟩ := Option.map_eq_some_iff.1 hi
  obtain ⟨h1, h2, h3⟩ := h q (List.mem_of_getElem? hq)
  refine ⟨q.1.2.1, q.1.2.2.2, ?_, h3⟩
  rw [List.map_map, List.getElem?_map, hq]
  show some (toB q.1) = _
  unfold toB
  rw [h1, h2]
theorem Says.under {w w' : World} {d : S} {p : Int × List Int} (h : Says w d p) (hb : Below w.heap.size w w') : Says w' d p := ⟨h.1, h.2.1, h.2.2.under hb⟩
/-- .. also where a row that is none of theirs has turned. -/
theorem strict_of {l : List Int} (h1 : l.Pairwise (· ≤ ·)) (h2 : ∀ (i : Nat) (x y : Int), l[i]? = some x → l[i + 1]? = some y → x ≠ y) : l.Pairwise (· < ·) := by
  rw [List.pairwise_iff_getElem] at h1 ⊢
  intro i j hi hj hij
  have h3 := h1 (j - 1) j (by omega) hj (by omega)
  have h4 := h2 (j - 1) l[j - 1] l[j] (List.getElem?_eq_getElem (by omega)) (by rw [show j - 1 + 1 = j by omega]; exact List.getElem?_eq_getElem hj)
  by_cases e : i = j - 1
  · subst e; omega
  · have h5 := h1 i (j - 1) hi (by omega) (by omega)
    omega
/-- sortByVar of whatever row of one's own. -/
theorem sort_all (w : World) (base n : Nat) (v : Value) (ds : List S) (hl : ds.length = n) (hn : n ≤ 4398046511000) (h : w.ownsRow base 46 2 v n (rowB (ds.map toB))) :
    Calls Tryz.prog 30 #[v] w fun e w' => e = .returned (.tuple #[]) ∧ w.grownBy w' v.ownBlock ∧ ∃ (ds' : List S) (a : Option Addr) (c : Nat), v = .slice a n c ∧ ds'.Perm ds ∧ ds'.Pairwise (fun p q => p.1 ≤ q.1) ∧ RowAt w' a (rowB (ds'.map toB)) := by
  rcases h.2 with ⟨rfl, h0⟩ | ⟨g, cap, cur, rfl, _⟩
  · subst h0
    obtain rfl := List.eq_nil_of_length_eq_zero hl
    have hcon := AnyF.slices_SortFunc_none Tryz.sortS none 0 (.func (.func 52) #[] #[]) w
    change Calls Tryz.prog 51 _ _ _ at hcon
    have HC : Hid _ := hcon
    clear hcon h
    have main : Calls Tryz.prog 30 #[.slice none 0 0] w fun e w' => e = .returned (.tuple #[]) ∧ w' = w := by
      go_enter Tryz.func30, Tryz.ntmps30
      go_wp2_with fail
      refine Calls.mono HC.out ?_
      rintro e wz ⟨rfl, hwz⟩
      subst wz
      go_wp2
      go_end0
      exact ⟨rfl, rfl⟩
    refine main.mono fun e w' ⟨he, hw⟩ => ?_
    subst hw
    exact ⟨he, ⟨rfl, rfl, rfl, Nat.le_refl _, fun _ _ _ => rfl⟩, [], none, 0, rfl, List.Perm.refl _, List.Pairwise.nil, fun i u hi => by simp [rowB] at hi⟩
  · exact (sort_any w base g n cap ds hl hn h).mono fun e w' ⟨he, hg, ds', h1, h2, h3⟩ => ⟨he, hg, ds', _, _, rfl, h1, h2, h3⟩
def NewIs (w w' : World) (e : Ending) (bl : List (Int × List Int)) (n : Nat) : Prop := Below w.heap.size w w' ∧
  ((¬ (bl.map (·.1)).Nodup ∧ e = .returned (.tuple #[.agg #[.slice none 0 0], .int .i64 40])) ∨
   ((bl.map (·.1)).Nodup ∧ ∃ (bl' : List (Int × List Int)) (a : Option Addr) (c : Nat) (vs : List (Int × Value)), bl'.Perm bl ∧ Rises bl' ∧ e = .returned (.tuple #[.agg #[.slice a n c], .int .i64 0]) ∧ w'.ownsRow w.heap.size 46 2 (.slice a n c) n (rowB vs) ∧ Owns w.heap.size w' vs bl'))
theorem adj_at {ds : List S} {n : Nat} {a : Option Addr} {w : World} (hR : RowAt w a (rowB (ds.map toB))) (hl : ds.length = n) {i : Nat} (hi : i < n) : ∃ (b off : Nat) (x : Int), a = some ⟨b, off, none⟩ ∧ (ds.map (·.1))[i]? = some x ∧ w.cell? ⟨b, off + i * 2, none⟩ = some (.int .i64 x) := by
  have hlt : i < ds.length := by omega
  have h := rowB_at (ds.map toB) i (toB ds[i]) (by rw [List.getElem?_map, List.getElem?_eq_getElem hlt]; rfl)
  obtain ⟨b, off, e, hc⟩ := hR _ _ h.1
  exact ⟨b, off, ds[i].1, e, by rw [List.getElem?_map, List.getElem?_eq_getElem hlt]; rfl, hc⟩

set_option maxRecDepth 100000 in
set_option maxHeartbeats 8000000 in
theorem new_any (w : World) (a : Option Addr) (n c : Nat) (vs0 : List (Int × Value)) (bl : List (Int × List Int)) (hl : bl.length = n) (hn : n ≤ 4398046511000) (hbig : ∀ p ∈ bl, p.2.length ≤ 17592186043904) (hR : RowAt w a (rowB vs0)) (hM : Matches w vs0 bl) :
    Calls Tryz.prog 7 #[.slice a n c] w fun e w' => NewIs w w' e bl n := by
  obtain ⟨i0, hi0, hz0, hz1, hz3⟩ := info_parts infoB
  obtain ⟨z, e1, e2, hsay⟩ := hM.pairs
  have hvl : vs0.length = n := by rw [hM.1, hl]
  have hone : ∀ u ∈ rowB vs0, u.oneCell' = true := rowB_one vs0 fun p hp => by
    rw [← e1] at hp
    obtain ⟨d, _, rfl⟩ := List.mem_map.1 hp
    rfl
  have k0 : (w.alloc (.cells #[.slice none 0 0] 27)).cell? ⟨w.heap.size, 0, none⟩ = some (.slice none 0 0) := World.cell?_alloc_new w _ _ 0
  have kf : (w.alloc (.cells #[.slice none 0 0] 27)).frozen? ⟨w.heap.size, 0, none⟩ = false := World.frozen?_alloc_new w _ _ 0
  have hbA := below_alloc w (.cells #[.slice none 0 0] 27)
  have HA : Hid (Below w.heap.size w (w.alloc (.cells #[.slice none 0 0] 27))) := hbA
  have HR : Hid (RowAt (w.alloc (.cells #[.slice none 0 0] 27)) a (rowB vs0)) := hR.under hbA
  have HSay : Hid (∀ q ∈ z, Says w q.1 q.2) := hsay
  have HBig : Hid (∀ p ∈ bl, p.2.length ≤ 17592186043904) := hbig
  have HOne : Hid (∀ u ∈ rowB vs0, u.oneCell' = true) := hone
  have E1 : Hid ((z.map (·.1)).map toB = vs0) := e1
  have E2 : Hid (z.map (·.2) = bl) := e2
  have HVL : Hid ((rowB vs0).length = n * 2) := by show _ = _; rw [rowB_len, hvl]
  have HZL : Hid ((z.map (·.1)).length = n) := by show _ = _; rw [List.length_map, ← hl, ← e2, List.length_map]
  clear hR hM hsay hbig hone e1 e2 hbA hvl hl
  go_enter Tryz.func7, Tryz.ntmps7
  go_wp2_with (at_builtin; refine wpList_append_more (w := w.alloc (.cells #[.slice none 0 0] 27)) rfl _ _ _ rfl (w.alloc (.cells #[.slice none 0 0] 27)).heap.size 46 i0 _ 2 32 Tryz.underlying23 hi0 hz0 hz1 hz3 rfl (by omega) _ 0 [] (by rfl) (by exact World.ownsRow_nil _ _ _ _) a n c (rowB vs0) (by rfl) (by exact HVL.out) (by exact HR.out.news) (by exact HOne.out) (by unfold maxLen; omega) (by omega) (Nat.le_refl _) ?_; intro a1 c1 w1 ho1 hb1; rw [Nat.zero_add, List.nil_append] at ho1; have HO1 : Hid (w1.ownsRow (w.alloc (.cells #[.slice none 0 0] 27)).heap.size 46 2 (.slice a1 n c1) n (rowB vs0)) := ho1; have HB1 : Hid (Below (w.alloc (.cells #[.slice none 0 0] 27)).heap.size (w.alloc (.cells #[.slice none 0 0] 27)) w1) := hb1; clear ho1 hb1)
  generalize hwA : w.alloc (.cells #[.slice none 0 0] 27) = wA at *
  have HB0 : w.heap.size < wA.heap.size := World.block_lt_of_cell? _ _ k0
  generalize hB0 : w.heap.size = B0 at *
  have HB0e : Hid (w.heap.size = B0) := hB0
  have K0 : Hid (wA.cell? ⟨B0, 0, none⟩ = some (.slice none 0 0)) := k0
  have KF : Hid (wA.frozen? ⟨B0, 0, none⟩ = false) := kf
  clear hwA hB0 k0 kf
  have SO : Hid _ := sort_all w1 wA.heap.size n (.slice a1 n c1) (z.map (·.1)) HZL.out hn (by rw [E1.out]; exact HO1.out)
  refine Calls.mono SO.out ?_
  rintro e w2 ⟨rfl, hg2, ds', a2, c2, e2, hperm, hsort, hrow⟩
  cases e2
  obtain ⟨z', hz1', hz2'⟩ := perm_lift (·.1) hperm z rfl
  have HB2 : Hid (Below wA.heap.size wA w2) := HB1.out.grown hg2 HB1.out.size (own_ge HO1.out)
  have HRow : Hid (RowAt w2 a1 (rowB (ds'.map toB))) := hrow
  have HSort : Hid ((ds'.map (·.1)).Pairwise (· ≤ ·)) := by rw [List.pairwise_map]; exact hsort
  have HDL : Hid (ds'.length = n) := by show _ = _; rw [hperm.length_eq]; exact HZL.out
  have HZ : Hid (z'.Perm z) := hz1'
  have HZ2 : Hid (z'.map (·.1) = ds') := hz2'
  clear hg2 hperm hsort hrow hz1' hz2' SO HO1 HB1
  go_wp2_with fail
  go_loopw [5] (fun v wx => ∃ i : Nat, 1 ≤ i ∧ i ≤ n + 1 ∧ v = .int .i64 i ∧ Hid (∀ (t : Nat) (x y : Int), t + 1 < i → (ds'.map (·.1))[t]? = some x → (ds'.map (·.1))[t + 1]? = some y → x ≠ y) ∧ Hid (Below w2.heap.size w2 wx)) (fun v _ => n + 1 - (intOf v).toNat)
  case atStart => exact ⟨1, Nat.le_refl _, by omega, rfl, fun t x y ht => absurd ht (by omega), Below.refl _ _⟩
  case round =>
    obtain ⟨i, hi1, hi2, rfl, hadj, hb⟩ := hrel
    have kc : wr.cell? ⟨B0, 0, none⟩ = some (.slice none 0 0) := ((HB2.out.trans (hb.out.mono HB2.out.size)).cell (p := ⟨B0, 0, none⟩) HB0).trans K0.out
    have kz : wr.frozen? ⟨B0, 0, none⟩ = false := ((HB2.out.trans (hb.out.mono HB2.out.size)).frozen (p := ⟨B0, 0, none⟩) HB0).trans KF.out
    by_cases hlt : i < n
    · have n1 : (i : Int) < (n : Int) := by omega
      have hR2 := HRow.out.under hb.out
      obtain ⟨b1, o1, x, rfl, hx, hc1⟩ := adj_at hR2 HDL.out (i := i - 1) (by omega)
      obtain ⟨_, _, y, ey, hy, hc2⟩ := adj_at hR2 HDL.out (i := i) hlt
      cases ey
      have f1 : IntKind.i64.wrap ((i : Int) - 1) = ((i - 1 : Nat) : Int) := by rw [IntWalk.i64_in _ (by omega)]; omega
      have f2 : ((i - 1 : Nat) : Int) < (n : Int) := by omega
      have Hx : Hid ((ds'.map (·.1))[i - 1]? = some x) := hx
      have Hy : Hid ((ds'.map (·.1))[i]? = some y) := hy
      clear hR2 hx hy
      by_cases hxy : x = y
      · subst hxy
        have hdup : Hid (¬ (bl.map (·.1)).Nodup) := fun hnd => by
          have h1 : (z'.map (·.2)).Perm bl := by rw [← E2.out]; exact HZ.out.map _
          have h2 : ((z'.map (·.2)).map (·.1)).Nodup := ((h1.map (·.1)).nodup_iff).2 hnd
          have h3 : (z'.map (·.2)).map (·.1) = ds'.map (·.1) := by
            rw [← HZ2.out, List.map_map, List.map_map]
            apply List.map_congr_left
            intro q hq
            exact (HSay.out q (HZ.out.mem_iff.1 hq)).1.symm
          rw [h3] at h2
          obtain ⟨g1, e1⟩ := List.getElem?_eq_some_iff.1 Hx.out
          obtain ⟨g2, e2⟩ := List.getElem?_eq_some_iff.1 Hy.out
          have := List.pairwise_iff_getElem.1 h2 (i - 1) i g1 g2 (by omega)
          exact this (by rw [e1, e2])
        have kw : ∀ nq, ((wr.drewN nq).setCell ⟨B0, 0, none⟩ (.slice none 0 0)).cell? ⟨B0, 0, none⟩ = some (.slice none 0 0) := fun nq => World.cell?_setCell_same _ _ _ (u := .slice none 0 0) kc
        have Hend : Hid (∀ nq, Below w.heap.size w ((wr.drewN nq).setCell ⟨B0, 0, none⟩ (.slice none 0 0))) := by
          intro nq
          rw [HB0e.out]
          have h1 : Below B0 w wr := HA.out.trans ((HB2.out.trans (hb.out.mono HB2.out.size)).mono (Nat.le_of_lt HB0))
          have h2 : Below B0 w (wr.drewN nq) := ⟨h1.os, h1.tape, h1.output, h1.size, h1.block⟩
          exact h2.setCell (p := ⟨B0, 0, none⟩) (Nat.le_refl _) _
        go_wp2_with fail
        go_quiet (fail)
        go_wp2
        (try simp only [Exit.inBlock, Exit.then])
        refine bodyPost_ret (by simp [results, Tryz.results7, go_sem, kw]; try rfl) rfl ?_
        exact ⟨Hend.out _, .inl ⟨hdup.out, rfl⟩⟩
      · have hb' : (x == y) = false := by simpa using hxy
        have Hadj : Hid (∀ (t : Nat) (x y : Int), t + 1 < i + 1 → (ds'.map (·.1))[t]? = some x → (ds'.map (·.1))[t + 1]? = some y → x ≠ y) := fun t u v ht h1 h2 => by
          by_cases e : t + 1 = i
          · have et : t = i - 1 := by omega
            subst et
            rw [show i - 1 + 1 = i by omega] at h2
            rw [Hx.out] at h1
            rw [Hy.out] at h2
            cases h1
            cases h2
            exact hxy
          · exact hadj.out t u v (by omega) h1 h2
        go_wp2_with fail
        go_quiet (fail)
        go_wp2
        exact ⟨⟨i + 1, by omega, by omega, by go_num, Hadj.out, hb.out.trans ⟨rfl, rfl, rfl, Nat.le_refl _, fun _ _ => rfl⟩⟩, by simp [intOf]; omega⟩
    · have n1 : ¬ (i : Int) < (n : Int) := by omega
      have HBr : Hid (Below wA.heap.size wA wr) := HB2.out.trans (hb.out.mono HB2.out.size)
      have hbw : Below w.heap.size w wr := by rw [HB0e.out]; exact HA.out.trans (HBr.out.mono (Nat.le_of_lt HB0))
      have hsays : ∀ q ∈ z', Says wr q.1 q.2 := fun q hq => (HSay.out q (HZ.out.mem_iff.1 hq)).under hbw
      have hperm : (z'.map (·.2)).Perm bl := by rw [← E2.out]; exact HZ.out.map _
      have hblen : (z'.map (·.2)).length = n := by rw [List.length_map, ← HDL.out, ← HZ2.out, List.length_map]
      have hmat := says_matches hsays
      rw [HZ2.out] at hmat
      have CO : Hid _ := copies_any wr a1 c1 (ds'.map toB) (z'.map (·.2)) n hblen hn (fun p hp => HBig.out p (hperm.mem_iff.1 hp)) (HRow.out.under hb.out) hmat
      have hvars : (z'.map (·.2)).map (·.1) = ds'.map (·.1) := by
        rw [← HZ2.out, List.map_map, List.map_map]
        apply List.map_congr_left
        intro q hq
        exact (HSay.out q (HZ.out.mem_iff.1 hq)).1.symm
      have hstrict : (ds'.map (·.1)).Pairwise (· < ·) := strict_of HSort.out fun t x y h1 h2 => hadj.out t x y (by
        have := (List.getElem?_eq_some_iff.1 h2).1
        rw [List.length_map, HDL.out] at this
        omega) h1 h2
      have HRise : Hid (Rises (z'.map (·.2))) := by
        have h1 := hstrict
        rw [← hvars, List.pairwise_map] at h1
        exact h1
      have HNd : Hid ((bl.map (·.1)).Nodup) := by
        have h1 : (ds'.map (·.1)).Nodup := hstrict.imp fun h => by omega
        rw [← hvars] at h1
        exact ((hperm.map (·.1)).nodup_iff).1 h1
      have HP : Hid ((z'.map (·.2)).Perm bl) := hperm
      have Hbw : Hid (Below w.heap.size w wr) := hbw
      have HBL : Hid ((z'.map (·.2)).length = n) := hblen
      clear hsays hperm hblen hmat hvars hstrict hbw
      go_wp2_with fail
      refine Calls.mono CO.out ?_
      rintro e w5 ⟨v5, rfl, vs5, ho5, hO5, hb5⟩
      rw [HBL.out] at ho5
      obtain ⟨a5, c5, rfl, _, _, _⟩ := own_row ho5
      have kc5 : w5.cell? ⟨B0, 0, none⟩ = some (.slice none 0 0) := (hb5.cell (p := ⟨B0, 0, none⟩) (World.block_lt_of_cell? _ _ kc)).trans kc
      have kz5 : w5.frozen? ⟨B0, 0, none⟩ = false := (hb5.frozen (p := ⟨B0, 0, none⟩) (World.block_lt_of_cell? _ _ kc)).trans kz
      have kw : (w5.setCell ⟨B0, 0, none⟩ (.slice a5 n c5)).cell? ⟨B0, 0, none⟩ = some (.slice a5 n c5) := World.cell?_setCell_same _ _ _ (u := .slice none 0 0) kc5
      have hsz : B0 < wr.heap.size := World.block_lt_of_cell? _ _ kc
      have Hb6 : Hid (Below w.heap.size w (w5.setCell ⟨B0, 0, none⟩ (.slice a5 n c5))) := (Hbw.out.trans (hb5.mono Hbw.out.size)).setCell (by rw [HB0e.out]; exact Nat.le_refl _) _
      have H5 : Hid ((w5.setCell ⟨B0, 0, none⟩ (.slice a5 n c5)).ownsRow w.heap.size 46 2 (.slice a5 n c5) n (rowB vs5)) := owns_down (ownsRow_setCell_below ho5 (a := ⟨B0, 0, none⟩) hsz _) Hbw.out.size
      have O5 : Hid (Owns w.heap.size (w5.setCell ⟨B0, 0, none⟩ (.slice a5 n c5)) vs5 (z'.map (·.2))) := ⟨hO5.1, fun i p hi => by
        obtain ⟨v, h1, h2⟩ := hO5.2 i p hi
        exact ⟨v, h1, owns_down (ownsRow_setCell_below h2 (a := ⟨B0, 0, none⟩) hsz _) Hbw.out.size⟩⟩
      clear ho5 hO5 hb5 CO
      go_wp2
      (try simp only [Exit.inBlock, Exit.then])
      refine bodyPost_ret (by simp [results, Tryz.results7, go_sem, kw]; try rfl) rfl ?_
      exact ⟨Hb6.out, .inr ⟨HNd.out, z'.map (·.2), a5, c5, vs5, HP.out, HRise.out, rfl, H5.out, O5.out⟩⟩
end Go.Proofs.YtjaccgkeldabfaaGreat.S
