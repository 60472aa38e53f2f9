/- Rows of tokens; the law's pieces and tokens. -/
import Derived.Test.YtlhdkhjajcfdoaaDoorDecode
import Derived.Test.YtlhdkhjajcfdoaaDoorPrint
namespace Go.Proofs.YtlhdkhjajcfdoaaDoor
open Go.RowKit

def rowT (ts : List Tok) : List Value := ts.flatMap tokCells
theorem rowT_append (l m : List Tok) : rowT (l ++ m) = rowT l ++ rowT m := by simp [rowT]
theorem rowT_at : ∀ (ts : List Tok) (i j : Nat) (t : Tok), ts[i]? = some t → j < 4 → (rowT ts)[i * 4 + j]? = (tokCells t)[j]?
  | [], i, j, t, h, _ => by simp at h
  | x :: r, 0, j, t, h, hj => by
    simp at h; subst h
    have e : rowT (x :: r) = tokCells x ++ rowT r := rfl
    rw [e, Nat.zero_mul, Nat.zero_add, List.getElem?_append_left (by simp [tokCells]; omega)]
  | x :: r, i + 1, j, t, h, hj => by
    have e : rowT (x :: r) = tokCells x ++ rowT r := rfl
    have h2 : r[i]? = some t := by simpa using h
    rw [e, List.getElem?_append_right (by simp [tokCells]; omega)]
    have e2 : (i + 1) * 4 + j - (tokCells x).length = i * 4 + j := by simp [tokCells]; omega
    rw [e2]
    exact rowT_at r i j t h2 hj
theorem infoT : (Tryd.prog.info? 30).map (fun i => (i.zero, i.size, i.bytes)) = some (some (.agg #[.string ⟨#[]⟩, .int .i64 0, .int .i64 0, .int .i64 0]), 4, 40) := by kernel_rfl
/-- A row that is owned: its cells. -/
theorem own_cell {W : World} {base e size : Nat} {v : Value} {n : Nat} {xs : List Value} (h : W.ownsRow base e size v n xs) : ∃ a c, v = .slice a n c ∧ n ≤ c ∧ ∀ (i : Nat) (u : Value), xs[i]? = some u → ∃ g, a = some ⟨g, 0, none⟩ ∧ W.cell? ⟨g, i, none⟩ = some u := by
  rcases h.2 with ⟨rfl, rfl⟩ | ⟨g, cap, cur, rfl, hg, hh, hc, hs, hsz, ht⟩
  · refine ⟨_, _, rfl, Nat.le_refl _, fun i u hi => ?_⟩
    have := h.1
    rw [Nat.zero_mul] at this
    rw [List.eq_nil_of_length_eq_zero this] at hi
    simp at hi
  · refine ⟨_, _, rfl, hc, fun i u hi => ⟨g, rfl, ?_⟩⟩
    have hlt : i < n * size := by have := h.1; have := (List.getElem?_eq_some_iff.1 hi).1; omega
    have : cur[i]? = some u := by
      rw [← ht, List.getElem?_take, if_pos hlt] at hi
      simpa using hi
    simp [World.cell?, hh, this]
theorem own_toks {W : World} {base : Nat} {v : Value} {n : Nat} {ts : List Tok} (h : W.ownsRow base 30 4 v n (rowT ts)) : ∃ a c, v = .slice a n c ∧ n ≤ c ∧ ToksAt W a ts := by
  obtain ⟨a, c, rfl, hc, hcell⟩ := own_cell h
  refine ⟨a, c, rfl, hc, fun i t ht => ?_⟩
  have k0 := rowT_at ts i 0 t ht (by omega)
  have k1 := rowT_at ts i 1 t ht (by omega)
  have k2 := rowT_at ts i 2 t ht (by omega)
  have k3 := rowT_at ts i 3 t ht (by omega)
  obtain ⟨g, rfl, h0⟩ := hcell _ _ (k0.trans rfl)
  obtain ⟨_, e1, h1⟩ := hcell _ _ (k1.trans rfl)
  obtain ⟨_, e2, h2⟩ := hcell _ _ (k2.trans rfl)
  obtain ⟨_, e3, h3⟩ := hcell _ _ (k3.trans rfl)
  cases e1; cases e2; cases e3
  simp only [Nat.add_zero] at h0
  exact ⟨g, 0, rfl, by rw [Nat.zero_add]; exact h0, by rw [Nat.zero_add]; exact h1, by rw [Nat.zero_add]; exact h2, by rw [Nat.zero_add]; exact h3⟩

/-- Where a text is cut. -/
def cutN (c : Int) (m : Nat) : Nat := (c % 18446744073709551616 % ((m : Int) + 1)).toNat
theorem cutN_le (c : Int) (m : Nat) : cutN c m ≤ m := by
  unfold cutN
  have h2 : c % 18446744073709551616 % ((m : Int) + 1) < (m : Int) + 1 := Int.emod_lt_of_pos _ (by omega)
  omega
theorem cutN_eq (c : Int) (m : Nat) : (IntKind.u64.wrap c).tmod ((m : Int) + 1) = (cutN c m : Nat) := by
  rw [IntKind.wrap_u64]
  have h0 : 0 ≤ c % 18446744073709551616 := Int.emod_nonneg _ (by omega)
  rw [Int.tmod_eq_emod_of_nonneg h0]
  have h1 : 0 ≤ c % 18446744073709551616 % ((m : Int) + 1) := Int.emod_nonneg _ (by omega)
  unfold cutN
  omega
def piecesT (i : Nat) (l : List UInt8) : List Int → List Tok
  | [] => [⟨strB l, -1, 0, 0⟩]
  | c :: r => if l = [] then [⟨strB l, -1, 0, 0⟩] else ⟨strB (l.take (cutN c l.length)), i, 0, 0⟩ :: piecesT (i + 1) (l.drop (cutN c l.length)) r
theorem pieces_bytes (cs : List Int) : ∀ i l, allBytes (piecesT i l cs) = l := by
  induction cs with
  | nil => intro i l; simp [piecesT, allBytes, Tok.bytes, strB]
  | cons c r ih =>
    intro i l
    unfold piecesT
    split
    · rename_i h; subst h; simp [allBytes, Tok.bytes, strB]
    · have e : ∀ (t : Tok) ts, allBytes (t :: ts) = t.bytes ++ allBytes ts := fun _ _ => rfl
      rw [e, ih]
      show l.take _ ++ l.drop _ = l
      exact List.take_append_drop _ _
theorem pieces_len (cs : List Int) : ∀ i l, (piecesT i l cs).length ≤ cs.length + 1 := by
  induction cs with
  | nil => intro i l; simp [piecesT]
  | cons c r ih =>
    intro i l
    unfold piecesT
    split
    · simp
    · have := ih (i + 1) (l.drop (cutN c l.length))
      simp; omega
theorem ext_head (l : List UInt8) (k : Nat) : (strB l).extract 0 k = strB (l.take k) := by
  have h := Lib.extract_data (strB l) 0 k
  have e : ((strB l).extract 0 k) = strB (((strB l).extract 0 k).data.toList) := rfl
  rw [e, h]; simp [strB]
theorem ext_tail (l : List UInt8) (k : Nat) : (strB l).extract k (strB l).size = strB (l.drop k) := by
  have h := Lib.extract_data (strB l) k (strB l).size
  have e : ((strB l).extract k (strB l).size) = strB (((strB l).extract k (strB l).size).data.toList) := rfl
  rw [e, h, strB_size]
  congr 1
  exact List.take_of_length_le (by rw [List.length_drop]; exact Nat.le_refl _)

set_option maxRecDepth 100000 in
set_option maxHeartbeats 4000000 in
theorem pieces_any (w : World) (l : List UInt8) (a : Option Addr) (n c : Nat) (cs : List Int) (hl : cs.length = n) (hn : n ≤ 4294967296) (hsz : l.length ≤ 4294967296) (h : IntsAt w a cs) :
    Calls Tryd.prog 15 #[.string (strB l), .slice a n c] w fun e w' => ∃ v, e = .returned v ∧ w'.ownsRow w.heap.size 30 4 v (piecesT 0 l cs).length (rowT (piecesT 0 l cs)) ∧ Below w.heap.size w w' := by
  obtain ⟨i0, hi0, hz0, hz1, hz3⟩ := info_parts infoT
  have HI : Hid (IntsAt w a cs) := h
  have HL : Hid (cs.length = n) := hl
  clear h hl
  go_enter Tryd.func15, Tryd.ntmps15
  go_wp2_with fail
  go_loopw [0, 5, 6] (fun s v i wx => ∃ (j q : Nat) (cur : List UInt8) (ts : List Tok) (av : Option Addr) (cap : Nat), j ≤ n ∧ q ≤ j ∧ cur.length ≤ 4294967296 ∧ s = .string (strB cur) ∧ v = .slice av q cap ∧ i = .int .i64 j ∧ Hid (ts.length = q) ∧ Hid (ts ++ piecesT j cur (cs.drop j) = piecesT 0 l cs) ∧ Hid (wx.ownsRow w.heap.size 30 4 (.slice av q cap) q (rowT ts)) ∧ Hid (Below w.heap.size w wx)) (fun _ _ i _ => n - (intOf i).toNat)
  case atStart => exact ⟨0, 0, l, [], none, 0, Nat.zero_le _, Nat.le_refl _, hsz, rfl, rfl, rfl, rfl, rfl, World.ownsRow_nil _ _ _ _, Below.refl _ _⟩
  case round =>
    obtain ⟨j, q, cur, ts, av, cap, hj, hq, hcur, rfl, rfl, rfl, hT, hP, hO, hb⟩ := hrel
    have hsz2 : Hid (w.heap.size ≤ wr.heap.size) := hb.out.size
    have hss : (strB cur).size = cur.length := strB_size cur
    have HSS : Hid ((strB cur).size = cur.length) := hss
    -- the end
    by_cases hgo : 0 < cur.length ∧ j < n
    · obtain ⟨h0, hlt⟩ := hgo
      have n1 : (j : Int) < (n : Int) := by omega
      obtain ⟨x, hx⟩ : ∃ x, cs[j]? = some x := ⟨cs[j]'(by rw [HL.out]; exact hlt), List.getElem?_eq_getElem _⟩
      obtain ⟨g, off, rfl, c0⟩ := HI.out j x hx
      have hgw : g < w.heap.size := World.block_lt_of_cell? _ _ c0
      replace c0 := (hb.out.cell (p := ⟨g, off + j, none⟩) hgw).trans c0
      have hce := cutN_eq x cur.length
      have hkl := cutN_le x cur.length
      obtain ⟨k, hk⟩ : ∃ k, k = cutN x cur.length := ⟨_, rfl⟩
      have HK : Hid (cutN x cur.length = k) := hk.symm
      rw [← hk] at hce hkl
      have eh := ext_head cur k
      have et := ext_tail cur k
      rw [hss] at et
      have hP2 : Hid ((ts ++ [⟨strB (cur.take k), j, 0, 0⟩]) ++ piecesT (j + 1) (cur.drop k) (cs.drop (j + 1)) = piecesT 0 l cs) := by
        show _ = _
        rw [← hP.out, List.append_assoc]
        congr 1
        have e : cs.drop j = x :: cs.drop (j + 1) := by
          rw [List.drop_eq_getElem_cons (by rw [HL.out]; exact hlt)]
          rw [List.getElem?_eq_getElem (by rw [HL.out]; exact hlt)] at hx
          rw [Option.some.inj hx]
        rw [e]
        conv => rhs; unfold piecesT
        rw [if_neg (by intro e0; rw [e0] at h0; simp at h0), HK.out]
        rfl
      have hp : (0 : Int) < (cur.length : Int) := by omega
      clear hk hx
      go_wp2_with (at_builtin; refine wpList_append_more (w := wr.alloc (.cells #[.string (strB (cur.take k)), .int .i64 j, .int .i64 0, .int .i64 0] 30)) rfl _ _ _ rfl w.heap.size 30 i0 _ 4 40 Tryd.underlying31 hi0 hz0 hz1 hz3 rfl (by omega) _ q (rowT ts) (by rfl) (by exact hO.out.alloc _) (some ⟨wr.heap.size, 0, none⟩) 1 1 (rowT [⟨strB (cur.take k), j, 0, 0⟩]) (by rfl) (by rfl) (by intro i u hu; refine ⟨_, rfl, ?_⟩; exact World.news_of_block (cs := #[.string (strB (cur.take k)), .int .i64 j, .int .i64 0, .int .i64 0]) (t := 30) (fr := (0, 0)) (heap_alloc_new wr _) i u hu) (by simp [rowT, tokCells, Value.oneCell']) (by unfold maxLen; omega) (by omega) (by have := hsz2.out; simp; omega) ?_; intro a9 c9 w9 ho9 hb9; have HO9 : Hid (w9.ownsRow w.heap.size 30 4 (.slice a9 (q + 1) c9) (q + 1) (rowT ts ++ rowT [⟨strB (cur.take k), j, 0, 0⟩])) := ho9; have HB9 : Hid (Below w.heap.size w w9) := (hb.out.alloc hsz2.out _).trans hb9; clear ho9 hb9)
      go_wp2
      have hO9 := HO9.out
      rw [← rowT_append] at hO9
      exact ⟨⟨j + 1, q + 1, cur.drop k, ts ++ [(⟨strB (cur.take k), (j : Int), 0, 0⟩ : Tok)], a9, c9, by omega, by omega, by rw [List.length_drop]; omega, rfl, rfl, by go_num, by show _ = _; rw [List.length_append, hT.out]; rfl, hP2.out, hO9, HB9.out⟩, by simp [intOf]; omega⟩
    · have hfin : Hid (ts ++ [⟨strB cur, -1, 0, 0⟩] = piecesT 0 l cs) := by
        show _ = _
        rw [← hP.out]
        congr 1
        rcases Nat.lt_or_ge 0 cur.length with h1 | h1
        · have : cs.drop j = [] := List.drop_eq_nil_of_le (by rw [HL.out]; omega)
          rw [this]; rfl
        · have : cur = [] := List.eq_nil_of_length_eq_zero (by omega)
          subst this
          cases cs.drop j with
          | nil => rfl
          | cons c r => unfold piecesT; rw [if_pos rfl]
      rcases Nat.lt_or_ge 0 cur.length with h1 | h1
      · have n1 : ¬ (j : Int) < (n : Int) := by omega
        have hp : (0 : Int) < (cur.length : Int) := by omega
        go_wp2_with (at_builtin; refine wpList_append_more (w := wr.alloc (.cells #[.string (strB cur), .int .i64 (-1), .int .i64 0, .int .i64 0] 30)) rfl _ _ _ rfl w.heap.size 30 i0 _ 4 40 Tryd.underlying31 hi0 hz0 hz1 hz3 rfl (by omega) _ (q) (rowT ts) (by rfl) (by exact hO.out.alloc _) (some ⟨wr.heap.size, 0, none⟩) 1 1 (rowT [⟨strB cur, -1, 0, 0⟩]) (by rfl) (by rfl) (by intro i u hu; refine ⟨_, rfl, ?_⟩; exact World.news_of_block (cs := #[.string (strB cur), .int .i64 (-1), .int .i64 0, .int .i64 0]) (t := 30) (fr := (0, 0)) (heap_alloc_new wr _) i u hu) (by simp [rowT, tokCells, Value.oneCell']) (by unfold maxLen; omega) (by omega) (by have := hsz2.out; simp; omega) ?_; intro a9 c9 w9 ho9 hb9; have HO9 : Hid (w9.ownsRow w.heap.size 30 4 (.slice a9 (q + 1) c9) (q + 1) (rowT ts ++ rowT [⟨strB cur, -1, 0, 0⟩])) := ho9; have HB9 : Hid (Below w.heap.size w w9) := (hb.out.alloc hsz2.out _).trans hb9; clear ho9 hb9)
        go_wp2
        go_ret
        have hO9 := HO9.out
        rw [← rowT_append] at hO9
        refine ⟨_, rfl, ?_, HB9.out⟩
        rw [← hfin.out, List.length_append, hT.out]
        exact hO9
      · have hp : ¬ (0 : Int) < (cur.length : Int) := by omega
        go_wp2_with (at_builtin; refine wpList_append_more (w := wr.alloc (.cells #[.string (strB cur), .int .i64 (-1), .int .i64 0, .int .i64 0] 30)) rfl _ _ _ rfl w.heap.size 30 i0 _ 4 40 Tryd.underlying31 hi0 hz0 hz1 hz3 rfl (by omega) _ (q) (rowT ts) (by rfl) (by exact hO.out.alloc _) (some ⟨wr.heap.size, 0, none⟩) 1 1 (rowT [⟨strB cur, -1, 0, 0⟩]) (by rfl) (by rfl) (by intro i u hu; refine ⟨_, rfl, ?_⟩; exact World.news_of_block (cs := #[.string (strB cur), .int .i64 (-1), .int .i64 0, .int .i64 0]) (t := 30) (fr := (0, 0)) (heap_alloc_new wr _) i u hu) (by simp [rowT, tokCells, Value.oneCell']) (by unfold maxLen; omega) (by omega) (by have := hsz2.out; simp; omega) ?_; intro a9 c9 w9 ho9 hb9; have HO9 : Hid (w9.ownsRow w.heap.size 30 4 (.slice a9 (q + 1) c9) (q + 1) (rowT ts ++ rowT [⟨strB cur, -1, 0, 0⟩])) := ho9; have HB9 : Hid (Below w.heap.size w w9) := (hb.out.alloc hsz2.out _).trans hb9; clear ho9 hb9)
        go_wp2
        go_ret
        have hO9 := HO9.out
        rw [← rowT_append] at hO9
        refine ⟨_, rfl, ?_, HB9.out⟩
        rw [← hfin.out, List.length_append, hT.out]
        exact hO9

/-- The tokens that the law makes of words. -/
def tokOf (i : Nat) (s : ByteArray) : Tok := ⟨s, 7 * i, i, -(i : Int)⟩
def toksOf (i : Nat) : List ByteArray → List Tok
  | [] => []
  | s :: r => tokOf i s :: toksOf (i + 1) r
theorem toksOf_append (l m : List ByteArray) : ∀ i, toksOf i (l ++ m) = toksOf i l ++ toksOf (i + l.length) m := by
  induction l with
  | nil => intro i; rfl
  | cons s l ih => intro i; simp only [List.cons_append, toksOf, List.length_cons]; rw [ih]; congr 3; omega
theorem toksOf_len (l : List ByteArray) : ∀ i, (toksOf i l).length = l.length := by
  induction l with
  | nil => intro i; rfl
  | cons s l ih => intro i; simp [toksOf, ih]
theorem toksOf_bytes (l : List ByteArray) : ∀ i, allBytes (toksOf i l) = l.flatMap (fun s => s.data.toList) := by
  induction l with
  | nil => intro i; rfl
  | cons s l ih =>
    intro i
    have e : allBytes (toksOf i (s :: l)) = s.data.toList ++ allBytes (toksOf (i + 1) l) := rfl
    rw [e, ih]; rfl
/-- Strings in memory. -/
def StrsAt (w : World) (a : Option Addr) (l : List ByteArray) : Prop := ∀ (i : Nat) (x : ByteArray), l[i]? = some x → ∃ b off, a = some ⟨b, off, none⟩ ∧ w.cell? ⟨b, off + i, none⟩ = some (.string x)
theorem StrsAt.under {w w' : World} {a : Option Addr} {l : List ByteArray} (h : StrsAt w a l) (hb : Below w.heap.size w w') : StrsAt w' a l := fun i x hi => by
  obtain ⟨b, off, e, hc⟩ := h i x hi
  exact ⟨b, off, e, (hb.cell (p := ⟨b, off + i, none⟩) (World.block_lt_of_cell? _ _ hc)).trans hc⟩

set_option maxRecDepth 100000 in
set_option maxHeartbeats 4000000 in
theorem tokens_any (w : World) (a : Option Addr) (n c : Nat) (l : List ByteArray) (hl : l.length = n) (hn : n ≤ 4294967296) (h : StrsAt w a l) :
    Calls Tryd.prog 18 #[.slice a n c] w fun e w' => ∃ v, e = .returned v ∧ w'.ownsRow w.heap.size 30 4 v n (rowT (toksOf 0 l)) ∧ Below w.heap.size w w' := by
  obtain ⟨i0, hi0, hz0, hz1, hz3⟩ := info_parts infoT
  have HI : Hid (StrsAt w a l) := h
  have HL : Hid (l.length = n) := hl
  clear h hl
  go_enter Tryd.func18, Tryd.ntmps18
  go_wp2_with fail
  go_loopw [3, 4] (fun v i wx => ∃ (j : Nat) (av : Option Addr) (cap : Nat), j ≤ n ∧ v = .slice av j cap ∧ i = .int .i64 j ∧ Hid (wx.ownsRow w.heap.size 30 4 (.slice av j cap) j (rowT (toksOf 0 (l.take j)))) ∧ Hid (Below w.heap.size w wx)) (fun _ i _ => n - (intOf i).toNat)
  case atStart => exact ⟨0, none, 0, Nat.zero_le _, rfl, rfl, World.ownsRow_nil _ _ _ _, Below.refl _ _⟩
  case round =>
    obtain ⟨j, av, cap, hj, rfl, rfl, hO, hb⟩ := hrel
    have hsz2 : Hid (w.heap.size ≤ wr.heap.size) := hb.out.size
    by_cases hlt : j < n
    · have n1 : (j : Int) < (n : Int) := by omega
      obtain ⟨x, hx⟩ : ∃ x, l[j]? = some x := ⟨l[j]'(by rw [HL.out]; exact hlt), List.getElem?_eq_getElem _⟩
      obtain ⟨g, off, rfl, c0⟩ := HI.out j x hx
      have hgw : g < w.heap.size := World.block_lt_of_cell? _ _ c0
      replace c0 := (hb.out.cell (p := ⟨g, off + j, none⟩) hgw).trans c0
      have htk : Hid (toksOf 0 (l.take (j + 1)) = toksOf 0 (l.take j) ++ [tokOf j x]) := by
        show _ = _
        rw [List.take_add_one, hx]
        show toksOf 0 (l.take j ++ [x]) = _
        rw [toksOf_append, List.length_take, HL.out, Nat.min_eq_left hj, Nat.zero_add]; rfl
      clear hx
      go_wp2_with (at_builtin; refine wpList_append_more (w := wr.alloc (.cells #[.string x, .int .i64 (7 * (j : Int)), .int .i64 (j : Int), .int .i64 (-(j : Int))] 30)) rfl _ _ _ rfl w.heap.size 30 i0 _ 4 40 Tryd.underlying31 hi0 hz0 hz1 hz3 rfl (by omega) _ (j) (rowT (toksOf 0 (l.take j))) (by rfl) (by exact hO.out.alloc _) (some ⟨wr.heap.size, 0, none⟩) 1 1 (rowT [tokOf j x]) (by rfl) (by rfl) (by intro i u hu; refine ⟨_, rfl, ?_⟩; exact World.news_of_block (cs := #[.string x, .int .i64 (7 * (j : Int)), .int .i64 (j : Int), .int .i64 (-(j : Int))]) (t := 30) (fr := (0, 0)) (heap_alloc_new wr _) i u hu) (by simp [rowT, tokCells, Value.oneCell']) (by unfold maxLen; omega) (by omega) (by have := hsz2.out; simp; omega) ?_; intro a9 c9 w9 ho9 hb9; have HO9 : Hid (w9.ownsRow w.heap.size 30 4 (.slice a9 (j + 1) c9) (j + 1) (rowT (toksOf 0 (l.take j)) ++ rowT [tokOf j x])) := ho9; have HB9 : Hid (Below w.heap.size w w9) := (hb.out.alloc hsz2.out _).trans hb9; clear ho9 hb9)
      go_wp2
      have hO9 := HO9.out
      rw [← rowT_append, ← htk.out] at hO9
      exact ⟨⟨j + 1, a9, c9, by omega, rfl, by go_num, hO9, HB9.out⟩, by simp [intOf]; omega⟩
    · have n1 : ¬ (j : Int) < (n : Int) := by omega
      have htk : Hid (l.take j = l) := by show _ = _; rw [List.take_of_length_le (by rw [HL.out]; omega)]
      go_wp2
      go_ret
      obtain rfl : j = n := by omega
      have h2 := hO.out
      rw [htk.out] at h2
      exact ⟨_, rfl, h2, hb.out⟩
/-- Codes that can be written. -/
def goodN (x : Int) : Int := if x < -2 ∨ (lim : Int) ≤ x then x % 1125899906842624 else x
theorem goodN_ok (x : Int) : wrOk (goodN x) = true := by
  unfold goodN wrOk lim
  simp only [Bool.or_eq_true, beq_iff_eq, Bool.and_eq_true, decide_eq_true_eq]
  split <;> omega

theorem infoN : (Tryd.prog.info? 3).map (fun i => (i.zero, i.size, i.bytes)) = some (some (.int .i64 0), 1, 8) := by kernel_rfl
set_option maxRecDepth 100000 in
set_option maxHeartbeats 4000000 in
theorem good_any (w : World) (a : Option Addr) (n c : Nat) (l : List Int) (hl : l.length = n) (hn : n ≤ 4294967296) (h : IntsAt w a l) :
    Calls Tryd.prog 16 #[.slice a n c] w fun e w' => ∃ v, e = .returned v ∧ w'.ownsRow w.heap.size 3 1 v n ((l.map goodN).map intV) ∧ Below w.heap.size w w' := by
  obtain ⟨i0, hi0, hz0, hz1, hz3⟩ := info_parts infoN
  have HI : Hid (IntsAt w a l) := h
  have HL : Hid (l.length = n) := hl
  clear h hl
  go_enter Tryd.func16, Tryd.ntmps16
  go_wp2_with fail
  go_loopw [3, 4] (fun v i wx => ∃ (j : Nat) (av : Option Addr) (cap : Nat), j ≤ n ∧ v = .slice av j cap ∧ i = .int .i64 j ∧ Hid (wx.ownsRow w.heap.size 3 1 (.slice av j cap) j (((l.take j).map goodN).map intV)) ∧ Hid (Below w.heap.size w wx)) (fun _ i _ => n - (intOf i).toNat)
  case atStart => exact ⟨0, none, 0, Nat.zero_le _, rfl, rfl, World.ownsRow_nil _ _ _ _, Below.refl _ _⟩
  case round =>
    obtain ⟨j, av, cap, hj, rfl, rfl, hO, hb⟩ := hrel
    have hsz2 : Hid (w.heap.size ≤ wr.heap.size) := hb.out.size
    by_cases hlt : j < n
    · have n1 : (j : Int) < (n : Int) := by omega
      obtain ⟨x, hx⟩ : ∃ x, l[j]? = some x := ⟨l[j]'(by rw [HL.out]; exact hlt), List.getElem?_eq_getElem _⟩
      obtain ⟨g, off, rfl, c0⟩ := HI.out j x hx
      have hgw : g < w.heap.size := World.block_lt_of_cell? _ _ c0
      replace c0 := (hb.out.cell (p := ⟨g, off + j, none⟩) hgw).trans c0
      have NU : Hid _ := number_any wr x
      have htk : Hid ((l.take (j + 1)).map goodN = (l.take j).map goodN ++ [goodN x]) := by show _ = _; rw [List.take_add_one, hx]; simp
      by_cases hout : x < -2 ∨ (lim : Int) ≤ x
      · have hg : Hid (goodN x = x % 1125899906842624) := by show _ = _; unfold goodN; rw [if_pos hout]
        have D : decide (x < -2) = true ∨ (decide (x < -2) = false ∧ decide ((1125899906842624 : Int) ≤ x) = true) := by
          unfold lim at hout
          by_cases h1 : x < -2
          · exact .inl (decide_eq_true h1)
          · exact .inr ⟨decide_eq_false h1, decide_eq_true (by omega)⟩
        rw [← hg.out] at NU
        clear hout hx
        rcases D with d1 | ⟨d1, d2⟩
        all_goals
          go_wp2_with fail
          refine Calls.mono NU.out ?_
          rintro e wz ⟨rfl, hwz⟩
          subst wz
          go_wp2_with (at_builtin; refine wpList_append_more (w := wr.alloc (.cells #[.int .i64 (goodN x)] 3)) rfl _ _ _ rfl w.heap.size 3 i0 _ 1 8 Tryd.underlying42 hi0 hz0 hz1 hz3 rfl (by omega) _ (j) (((l.take j).map goodN).map intV) (by rfl) (by exact hO.out.alloc _) (some ⟨wr.heap.size, 0, none⟩) 1 1 ([goodN x].map intV) (by rfl) (by rfl) (by intro i u hu; refine ⟨_, rfl, ?_⟩; exact World.news_of_block (cs := #[.int .i64 (goodN x)]) (t := 3) (fr := (0, 0)) (heap_alloc_new wr _) i u hu) (by simp [intV, Value.oneCell']) (by unfold maxLen; omega) (by omega) (by have := hsz2.out; simp; omega) ?_; intro a9 c9 w9 ho9 hb9; have HO9 : Hid (w9.ownsRow w.heap.size 3 1 (.slice a9 (j + 1) c9) (j + 1) (((l.take j).map goodN).map intV ++ [goodN x].map intV)) := ho9; have HB9 : Hid (Below w.heap.size w w9) := (hb.out.alloc hsz2.out _).trans hb9; clear ho9 hb9)
          go_wp2
          have hO9 := HO9.out
          rw [← List.map_append, ← htk.out] at hO9
          exact ⟨⟨j + 1, a9, c9, by omega, rfl, by go_num, hO9, HB9.out⟩, by simp [intOf]; omega⟩
      · have hg : Hid (goodN x = x) := by show _ = _; unfold goodN; rw [if_neg hout]
        have d1 : decide (x < -2) = false := decide_eq_false (by omega)
        have d2 : decide ((1125899906842624 : Int) ≤ x) = false := decide_eq_false (by unfold lim at hout; omega)
        clear hout hx
        go_wp2_with (at_builtin; refine wpList_append_more (w := wr.alloc (.cells #[.int .i64 x] 3)) rfl _ _ _ rfl w.heap.size 3 i0 _ 1 8 Tryd.underlying42 hi0 hz0 hz1 hz3 rfl (by omega) _ (j) (((l.take j).map goodN).map intV) (by rfl) (by exact hO.out.alloc _) (some ⟨wr.heap.size, 0, none⟩) 1 1 ([x].map intV) (by rfl) (by rfl) (by intro i u hu; refine ⟨_, rfl, ?_⟩; exact World.news_of_block (cs := #[.int .i64 x]) (t := 3) (fr := (0, 0)) (heap_alloc_new wr _) i u hu) (by simp [intV, Value.oneCell']) (by unfold maxLen; omega) (by omega) (by have := hsz2.out; simp; omega) ?_; intro a9 c9 w9 ho9 hb9; have HO9 : Hid (w9.ownsRow w.heap.size 3 1 (.slice a9 (j + 1) c9) (j + 1) (((l.take j).map goodN).map intV ++ [x].map intV)) := ho9; have HB9 : Hid (Below w.heap.size w w9) := (hb.out.alloc hsz2.out _).trans hb9; clear ho9 hb9)
        go_wp2
        have hO9 := HO9.out
        have e9 : [x] = [goodN x] := by rw [hg.out]
        rw [e9, ← List.map_append, ← htk.out] at hO9
        exact ⟨⟨j + 1, a9, c9, by omega, rfl, by go_num, hO9, HB9.out⟩, by simp [intOf]; omega⟩
    · have n1 : ¬ (j : Int) < (n : Int) := by omega
      have htk : Hid (l.take j = l) := by show _ = _; rw [List.take_of_length_le (by rw [HL.out]; omega)]
      go_wp2
      go_ret
      obtain rfl : j = n := by omega
      have h2 := hO.out
      rw [htk.out, List.map_map] at h2
      exact ⟨_, rfl, h2, hb.out⟩
end Go.Proofs.YtlhdkhjajcfdoaaDoor
