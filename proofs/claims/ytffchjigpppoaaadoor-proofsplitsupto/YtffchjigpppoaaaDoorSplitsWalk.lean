/- The law on letters parted into words. -/
import Derived.Test.YtffchjigpppoaaaDoorSplitsPure
namespace Go.Proofs.YtffchjigpppoaaaDoor
open Go.RowKit

/-- A slice of bytes in memory. -/
def BytesAt (w : World) (a : Option Addr) (l : List UInt8) : Prop := (a = none ∨ ∃ g off, a = some ⟨g, off, none⟩) ∧ ∀ (i : Nat) (x : UInt8), l[i]? = some x → ∃ g off, a = some ⟨g, off, none⟩ ∧ w.cell? ⟨g, off + i, none⟩ = some (byteV x)
theorem BytesAt.under {w w' : World} {a : Option Addr} {l : List UInt8} (h : BytesAt w a l) (hb : Below w.heap.size w w') : BytesAt w' a l := ⟨h.1, fun i x hi => by
  obtain ⟨g, off, e, hc⟩ := h.2 i x hi
  exact ⟨g, off, e, (hb.cell (p := ⟨g, off + i, none⟩) (World.block_lt_of_cell? _ _ hc)).trans hc⟩⟩
theorem bytes_own {W : World} {base : Nat} {v : Value} {n : Nat} {l : List UInt8} (h : W.ownsRow base 5 1 v n (l.map byteV)) : ∃ a c, v = .slice a n c ∧ n ≤ c ∧ BytesAt W a l := by
  have ha : ∀ a c, v = .slice a n c → a = none ∨ ∃ g off, a = some ⟨g, off, none⟩ := fun a c e => by
    rcases h.2 with ⟨rfl, _⟩ | ⟨g, cap, cur, rfl, _⟩
    · cases e; exact .inl rfl
    · cases e; exact .inr ⟨_, _, rfl⟩
  obtain ⟨a, c, rfl, hc, hcell⟩ := own_cell h
  refine ⟨a, c, rfl, hc, ha a c rfl, fun i x hx => ?_⟩
  obtain ⟨g, rfl, h0⟩ := hcell i (byteV x) (by rw [List.getElem?_map, hx]; rfl)
  exact ⟨g, 0, rfl, by rw [Nat.zero_add]; exact h0⟩
theorem conv_at {W : World} {a : Option Addr} {n c : Nat} {l : List UInt8} (h : BytesAt W a l) (hl : l.length = n) : (convert 54 9 (.slice a n c)).run Tryd.prog W = .ok (.string (strB l)) W := by
  rcases h.1 with rfl | ⟨g, off, rfl⟩
  · have hl0 : l = [] := by
      cases l with
      | nil => rfl
      | cons x r =>
        obtain ⟨_, _, e, _⟩ := h.2 0 x rfl
        cases e
    subst hl0
    have := run_convert_bytes_nil (P := Tryd.prog) W 54 5 Tryd.underlying54 Tryd.underlying5 n c 9 Tryd.underlying9
    exact this
  · have h1 := run_convert_bytes_arg (P := Tryd.prog) W 54 5 Tryd.underlying54 Tryd.underlying5 g off n c (l.map fun c => (c.toNat : Int)) (by rw [List.length_map]; exact hl) (fun i hi => by
      have hx : l[i]? = some (l[i]'(by omega)) := List.getElem?_eq_getElem _
      obtain ⟨_, _, e, hc⟩ := h.2 i _ hx
      cases e
      rw [hc]
      simp only [List.getD, List.getElem?_map, hx]
      rfl) 9 Tryd.underlying9
    rw [strOf_bytes] at h1
    exact h1
theorem BytesAt.take {w : World} {a : Option Addr} {l : List UInt8} (h : BytesAt w a l) (r : Nat) : BytesAt w a (l.take r) := ⟨h.1, fun i x hi => by
  rw [List.getElem?_take] at hi
  split at hi
  · exact h.2 i x hi
  · cases hi⟩
theorem BytesAt.drop {w : World} {g off : Nat} {l : List UInt8} (h : BytesAt w (some ⟨g, off, none⟩) l) (r : Nat) : BytesAt w (some ⟨g, off + r, none⟩) (l.drop r) := ⟨.inr ⟨_, _, rfl⟩, fun i x hi => by
  rw [List.getElem?_drop] at hi
  obtain ⟨g', off', e, hc⟩ := h.2 (r + i) x hi
  cases e
  exact ⟨_, _, rfl, by rw [Nat.add_assoc]; exact hc⟩⟩
theorem BytesAt.none {w : World} {g off : Nat} : BytesAt w (some ⟨g, off, none⟩) [] := ⟨.inr ⟨_, _, rfl⟩, fun i x hi => by cases hi⟩
theorem own_two (W : World) : (W.alloc (.cells #[.string ⟨#[40]⟩, .int .i64 0, .int .i64 0, .int .i64 0, .string ⟨#[41]⟩, .int .i64 0, .int .i64 0, .int .i64 0] 41)).ownsRow W.heap.size 41 4 (.slice (some ⟨W.heap.size, 0, none⟩) 2 2) 2 (rowT [lpT, rpT]) :=
  ⟨rfl, .inr ⟨W.heap.size, 2, _, rfl, Nat.le_refl _, heap_alloc_new W _, Nat.le_refl _, by unfold maxLen; omega, rfl, rfl⟩⟩

set_option maxRecDepth 100000 in
set_option maxHeartbeats 32000000 in
theorem splits_walk (w : World) (a : Option Addr) (n c : Nat) (l : List Int) (hl : l.length = n) (hn : n ≤ 9223372036854775807) (h : IntsAt w a l) (hr : ∀ x ∈ l, -9223372036854775808 ≤ x ∧ x ≤ 9223372036854775807) (hK : KBs w) (hT : Tabs w)
    (b : Option Addr) (m d : Nat) (z : List Int) (hz : z.length = m) (hm : m ≤ 1048576) (hI : IntsAt w b z) (hrz : ∀ x ∈ z, -9223372036854775808 ≤ x ∧ x ≤ 9223372036854775807) (dg : Bool) :
    Calls Tryd.prog 7 #[.slice a n c, .slice b m d, .bool dg] w fun e w' => e = .returned (.bool true) ∧ Below w.heap.size w w' := by
  obtain ⟨y0, hy0, yz0, yz1, yz3⟩ := info_parts infoY
  obtain ⟨t0, ht0, tz0, tz1, tz3⟩ := info_parts infoT
  obtain ⟨Z, hZ⟩ : ∃ Z, (l.take 2000).map numF = Z := ⟨_, rfl⟩
  obtain ⟨q, hq⟩ : ∃ q, min n 2000 = q := ⟨_, rfl⟩
  have hq2 : q ≤ 2000 := by omega
  have hZq : Z.length = q := by rw [← hZ, List.length_map, List.length_take]; omega
  have hok : prOk Z = true := by rw [← hZ]; exact nums_ok _
  obtain ⟨Y, hY⟩ : ∃ Y, brk 0 (prB Z) = Y := ⟨_, rfl⟩
  have hPl := prB_len Z hok
  obtain ⟨ny, hny⟩ : ∃ ny, Y.length = ny := ⟨_, rfl⟩
  have hYl : ny ≤ 100000 := by
    have h1 := brk_len (prB Z) 0
    rw [hY] at h1
    omega
  have HFl : Hid (Y.filter (· != 10) = prB Z) := by show _ = _; rw [← hY]; exact brk_bare _ (prB_range _) 0
  have NU : Hid _ := numbers_any w a n c l hl hn h hr
  rw [hZ, hq] at NU
  have eU : packT [] Z = strB ([40, 32, 41] ++ Y) := by unfold packT; rw [hY, hok]; rfl
  have eG : packE [] Z = 0 := by unfold packE prE; rw [hok]; rfl
  have PU : Hid (∀ wx b' d', Below w.heap.size w wx → q ≤ d' → IntsAt wx b' Z → Calls Tryd.prog 12 #[.slice none 0 0, .slice b' q d'] wx fun e w' => e = .returned (.tuple #[.string (strB ([40, 32, 41] ++ Y)), .int .i64 0]) ∧ Below wx.heap.size wx w') := fun wx b' d' hx hdx hi => by
    have h1 := packed_any wx none 0 0 [] rfl (Nat.le_refl _) (by simp [lenTo]) (fun i x hi => by cases hi) (hK.under hx) b' q d' Z hZq hdx (by omega) hi
    rw [eU, eG] at h1
    exact h1
  have PA : Hid (∀ wx a' c' (ts : List Tok) (k : Nat), Below w.heap.size w wx → ts.length = k → k ≤ 4294967296 → k ≤ c' → ToksAt wx a' ts → (allBytes ts).length ≤ 4294967296 → Calls Tryd.prog 18 #[.slice a' k c', .agg #[.string ⟨#[]⟩, .int .i64 0, .int .i64 0, .int .i64 0]] wx fun e w' => ProofIs wx w' e (parseT ts) ⟨⟨#[]⟩, 0, 0, 0⟩) := fun wx a' c' ts k hx h1 h2 h3 h4 h5 => parse_any wx a' k c' ts ⟨⟨#[]⟩, 0, 0, 0⟩ h1 h2 h3 h4 (hT.under hT.size hx) h5
  have HUs : (strB ([40, 32, 41] ++ Y)).size = ny + 3 := by rw [strB_size, List.length_append, hny]; simp only [List.length_cons, List.length_nil]; omega
  have HUa : Hid (∀ k y (hk : k + 3 < (strB ([40, 32, 41] ++ Y)).size), Y[k]? = some y → (strB ([40, 32, 41] ++ Y))[k + 3]'hk = y) := fun k y hk hy => by
    have e : ([40, 32, 41] ++ Y)[k + 3]? = some y := hy
    exact (List.getElem?_eq_some_iff.1 e).2
  have HNy : Hid (Y.length = ny) := hny
  have HOk : Hid (prOk Z = true) := hok
  have HZl : Hid (Z.length = q) := hZq
  have HIz : Hid (IntsAt w b z) := hI
  have HZz : Hid (z.length = m) := hz
  have HRz : Hid (∀ x ∈ z, -9223372036854775808 ≤ x ∧ x ≤ 9223372036854775807) := hrz
  obtain ⟨U, hU⟩ : ∃ U, strB ([40, 32, 41] ++ Y) = U := ⟨_, rfl⟩
  rw [hU] at PU HUs HUa
  clear hZ hq hZq hok hY hPl hny eU eG h hr hK hT hz hI hrz hl hU
  go_enter Tryd.func7, Tryd.ntmps7
  go_wp2_with fail
  refine Calls.mono NU.out ?_
  rintro e w1 ⟨a1, c1, rfl, ho1, hb1⟩
  have B1 : Hid (Below w.heap.size w w1) := hb1
  obtain ⟨_, _, e1, hc1, hs1⟩ := own_ints ho1
  cases e1
  have I1 : Hid (IntsAt w1 a1 Z) := hs1
  clear hb1 NU ho1 hs1
  go_wp2_with fail
  refine Calls.mono (PU.out w1 a1 c1 B1.out hc1 I1.out) ?_
  rintro e w2 ⟨rfl, hb2⟩
  have B2 : Hid (Below w.heap.size w w2) := B1.out.trans (hb2.mono B1.out.size)
  have I2 : Hid (IntsAt w2 a1 Z) := I1.out.up hb2
  clear hb2 PU B1 I1
  have n3 : ¬ (ny : Int) + 3 < 3 := by omega
  go_wp2_with fail
  go_loopw [10, 11] (fun v i wx => ∃ (k p : Nat) (av : Option Addr) (cap : Nat), k ≤ ny ∧ p ≤ k ∧ v = .slice av p cap ∧ i = .int .i64 ((k + 3 : Nat) : Int) ∧ Hid (wx.ownsRow w2.heap.size 5 1 (.slice av p cap) p (((Y.take k).filter (· != 10)).map byteV)) ∧ Hid (Below w2.heap.size w2 wx)) (fun _ i _ => ny + 3 - (intOf i).toNat)
  case atStart => exact ⟨0, 0, none, 0, Nat.zero_le _, Nat.le_refl _, rfl, rfl, World.ownsRow_nil _ _ _ _, Below.refl _ _⟩
  case round =>
    obtain ⟨k, p, av, cap, hk, hp, rfl, rfl, hO, hB⟩ := hrel
    by_cases hlt : k < ny
    · have n4 : ((k + 3 : Nat) : Int) < (ny : Int) + 3 := by omega
      have hk2 : k + 3 < U.size := by omega
      obtain ⟨y, hy⟩ : ∃ y, Y[k]? = some y := ⟨Y[k]'(by rw [HNy.out]; exact hlt), List.getElem?_eq_getElem _⟩
      have hUy : U[k + 3]'hk2 = y := HUa.out k y hk2 hy
      have htk : Hid (Y.take (k + 1) = Y.take k ++ [y]) := by show _ = _; rw [List.take_add_one, hy]; rfl
      clear hy
      by_cases h10 : y = 10
      · subst h10
        have z1 : ((10 : UInt8).toNat : Int) = 10 := rfl
        go_wp2
        exact ⟨⟨k + 1, p, av, cap, by omega, by omega, rfl, by go_num, (by rw [htk.out, List.filter_append]; have h := hO.out; simpa using h : wr.ownsRow w2.heap.size 5 1 (.slice av p cap) p (((Y.take (k + 1)).filter (· != 10)).map byteV)), hB.out⟩, by simp [intOf]; omega⟩
      · have e10 : ¬ (y.toNat : Int) = 10 := u8_ne y 10 (by omega) h10
        have hyb : Hid ((y != 10) = true) := bne_iff_ne.2 h10
        clear h10
        go_wp2_with (at_builtin; (refine wpList_append_more (w := wr.alloc (.cells #[.int .u8 (y.toNat : Int)] 5)) rfl _ _ _ rfl w2.heap.size 5 y0 _ 1 1 Tryd.underlying54 hy0 yz0 yz1 yz3 rfl (by omega) _ p (((Y.take k).filter (· != 10)).map byteV) (by rfl) (by exact owns_alloc hO.out _) (some ⟨wr.heap.size, 0, none⟩) 1 1 [.int .u8 (y.toNat : Int)] (by rfl) (by rfl) (fun j' u hu => ⟨_, rfl, World.news_of_block (cs := #[.int .u8 (y.toNat : Int)]) (t := 5) (fr := (0, 0)) (heap_alloc_new wr _) j' u hu⟩) (by simp [Value.oneCell']) (by unfold maxLen; omega) (by omega) (by exact Nat.le_trans hB.out.size (below_alloc _ _).size) ?_; intro a9 c9 w9 ho9 hb9; have HO9 : Hid (w9.ownsRow w2.heap.size 5 1 (.slice a9 (p + 1) c9) (p + 1) (((Y.take k).filter (· != 10)).map byteV ++ [.int .u8 (y.toNat : Int)])) := ho9; have HB9 : Hid (Below w2.heap.size w2 w9) := (hB.out.alloc hB.out.size _).trans hb9; clear ho9 hb9))
        go_wp2
        exact ⟨⟨k + 1, p + 1, a9, c9, by omega, by omega, rfl, by go_num, (by rw [htk.out, List.filter_append, List.map_append, List.filter_cons, if_pos hyb.out]; have h := HO9.out; exact h : w9.ownsRow w2.heap.size 5 1 (.slice a9 (p + 1) c9) (p + 1) (((Y.take (k + 1)).filter (· != 10)).map byteV)), HB9.out⟩, by simp [intOf]; omega⟩
    · have n4 : ¬ ((k + 3 : Nat) : Int) < (ny : Int) + 3 := by omega
      have hO2 : Hid (wr.ownsRow w2.heap.size 5 1 (.slice av p cap) p ((prB Z).map byteV)) := by
        show World.ownsRow _ _ _ _ _ _ _
        have h := hO.out
        rw [List.take_of_length_le (by rw [HNy.out]; omega), HFl.out] at h
        exact h
      have hpb : p ≤ 100000 := by omega
      clear hO HFl HUa HNy
      cases dg
      · have HO5 : Hid (wr.ownsRow w2.heap.size 5 1 (.slice av p cap) p ((lettP Z false).map byteV)) := by
          show World.ownsRow _ _ _ _ _ _ _
          have h := hO2.out
          rw [show lettP Z false = prB Z by simp [lettP]]
          exact h
        have HB5 : Hid (Below w2.heap.size w2 wr) := hB.out
        clear hO2 hB
        obtain ⟨a5, ha5⟩ : ∃ a5, a5 = av := ⟨_, rfl⟩
        obtain ⟨c5, hc5⟩ : ∃ c5, c5 = cap := ⟨_, rfl⟩
        obtain ⟨w5, hw5⟩ : ∃ w5, w5 = wr := ⟨_, rfl⟩
        subst ha5 hc5 hw5
        obtain ⟨pp, hpp⟩ : ∃ pp, pp = p := ⟨_, rfl⟩
        subst hpp
        have hpb2 : pp ≤ 100001 := by omega
        have NA : Hid True := trivial
        go_wp2_with fail
        have HP0 : Hid _ := HO5
        obtain ⟨P, hP⟩ : ∃ P, lettP Z false = P := ⟨_, rfl⟩
        have HP : Hid (lettP Z false = P) := hP
        obtain ⟨ab, cb, eb, hcb, hby⟩ := bytes_own HO5.out
        cases eb
        rw [hP] at hby
        have hPl : P.length = pp := by rw [← hP]; have h := HO5.out.1; rw [List.length_map] at h; omega
        have HPl : Hid (P.length = pp) := hPl
        have HBy : Hid (BytesAt w5 a5 P) := hby
        have BW5 : Hid (Below w.heap.size w w5) := B2.out.trans (HB5.out.mono B2.out.size)
        have I5 : Hid (IntsAt w5 a1 Z) := I2.out.up HB5.out
        have HTw : Hid _ := own_two w5
        have HBw : Hid _ := below_alloc w5 (.cells #[.string ⟨#[40]⟩, .int .i64 0, .int .i64 0, .int .i64 0, .string ⟨#[41]⟩, .int .i64 0, .int .i64 0, .int .i64 0] 41)
        clear HO5 HB5 hby hP hPl HP0 B2 I2
        go_loopw [10, 12, 13, 14] (fun lv tv i _ wx => ∃ (j k len cp tc : Nat) (ad ta : Option Addr) (ps : List Tok), j ≤ m ∧ len ≤ cp ∧ len ≤ pp ∧ lv = .slice ad len cp ∧ tv = .slice ta (j + 2) tc ∧ i = .int .i64 j ∧ Hid (BytesAt w5 ad (P.drop k)) ∧ Hid ((P.drop k).length = len) ∧ Hid (Pieces ps j) ∧ Hid (allBytes ps = P.take k) ∧ Hid (wx.ownsRow w5.heap.size 41 4 (.slice ta (j + 2) tc) (j + 2) (rowT ([lpT, rpT] ++ ps))) ∧ Hid (Below w5.heap.size w5 wx)) (fun _ _ i _ _ => m - (intOf i).toNat)
        case atStart => exact ⟨0, 0, pp, c5, 2, a5, some ⟨w5.heap.size, 0, none⟩, [], Nat.zero_le _, hcb, Nat.le_refl _, rfl, rfl, rfl, HBy.out, HPl.out, Pieces.nil, rfl, HTw.out, HBw.out⟩
        case round =>
          clear HTw HBw HBy
          obtain ⟨j, k, len, cp, tc, ad, ta, ps, hj, hlc, hlp, rfl, rfl, rfl, hBy, hDl, hPs, hAB, hO, hB⟩ := hrel
          by_cases hjm : j < m
          · have j1 : (j : Int) < (m : Int) := by omega
            by_cases hl0 : 0 < len
            · have j2 : (0 : Int) < (len : Int) := by omega
              obtain ⟨x, hx⟩ : ∃ x, z[j]? = some x := ⟨z[j]'(by rw [HZz.out]; exact hjm), List.getElem?_eq_getElem _⟩
              have BWr : Hid (Below w.heap.size w wr) := BW5.out.trans (hB.out.mono BW5.out.size)
              obtain ⟨gx, ox, rfl, cx⟩ := (HIz.out.up BWr.out) j x hx
              obtain ⟨hx1, hx2⟩ := HRz.out x (List.mem_of_getElem? hx)
              have MD : Calls Tryd.prog 22 #[.int .i64 x, .int .i64 ((len : Int) + 1)] wr fun e w' => e = .returned (.int .i64 (x % ((len + 1 : Nat) : Int))) ∧ w' = wr := mod_any wr x (len + 1) (by omega) (by omega) hx1 hx2
              obtain ⟨r, hr⟩ : ∃ r : Nat, x % ((len + 1 : Nat) : Int) = (r : Int) := ⟨(x % ((len + 1 : Nat) : Int)).toNat, by have := Int.emod_nonneg x (show ((len + 1 : Nat) : Int) ≠ 0 by omega); omega⟩
              have hr2 : r ≤ len := by have := Int.emod_lt_of_pos x (show (0 : Int) < ((len + 1 : Nat) : Int) by omega); omega
              rw [hr] at MD
              have HMD : Hid _ := MD
              clear MD hr hx
              obtain ⟨gb, ob, eb⟩ : ∃ gb ob, ad = some ⟨gb, ob, none⟩ := by
                obtain ⟨g, o, e, _⟩ := hBy.out.2 0 _ (List.getElem?_eq_getElem (by rw [hDl.out]; exact hl0))
                exact ⟨g, o, e⟩
              subst eb
              have CV0 := conv_at (c := cp) ((hBy.out.under hB.out).take r) (show ((P.drop k).take r).length = r by rw [List.length_take, hDl.out]; omega)
              obtain ⟨s, hs⟩ : ∃ s, strB ((P.drop k).take r) = s := ⟨_, rfl⟩
              rw [hs] at CV0
              have CV : (convert 54 9 (.slice (some ⟨gb, ob, none⟩) r cp)).run Tryd.prog wr = .ok (.string s) wr := CV0
              have HS : Hid (strB ((P.drop k).take r) = s) := hs
              clear CV0 hs
              have r1 : (r : Int) ≤ (cp : Int) := by omega
              have r2 : (r : Int) ≤ (len : Int) := by omega
              have r3 : (len : Int) ≤ (cp : Int) := by omega
              have hDr : Hid ((P.drop k).drop r = P.drop (k + r)) := List.drop_drop
              go_wp2_with fail
              refine Calls.mono HMD.out ?_
              rintro e wz ⟨rfl, hwz⟩
              subst wz
              clear HMD
              have NPs : Hid (Pieces (ps ++ [(⟨s, (j : Int) + 1, 0, 0⟩ : Tok)]) (j + 1)) := hPs.out.snoc _ rfl
              have NAb : Hid (allBytes (ps ++ [(⟨s, (j : Int) + 1, 0, 0⟩ : Tok)]) = P.take (k + r)) := by
                show _ = _
                rw [allBytes_append, hAB.out, List.take_add, show allBytes [(⟨s, (j : Int) + 1, 0, 0⟩ : Tok)] = (P.drop k).take r by rw [← HS.out]; simp [allBytes, Tok.bytes, strB]]
              have NRw : Hid (rowT ([lpT, rpT] ++ (ps ++ [(⟨s, (j : Int) + 1, 0, 0⟩ : Tok)])) = rowT ([lpT, rpT] ++ ps) ++ [.string s, .int .i64 ((j : Int) + 1), .int .i64 0, .int .i64 0]) := by show _ = _; rw [← List.append_assoc, rowT_append]; rfl
              have NDl : Hid ((P.drop (k + r)).length = len - r) := by show _ = _; rw [← hDr.out, List.length_drop, hDl.out]
              by_cases hrc : r = cp
              · subst hrc
                obtain rfl : r = len := by omega
                go_wp2_with (at_builtin; (refine wpList_append_more (w := wr.alloc (.cells #[.string s, .int .i64 ((j : Int) + 1), .int .i64 0, .int .i64 0] 41)) rfl _ _ _ rfl w5.heap.size 41 t0 _ 4 40 Tryd.underlying35 ht0 tz0 tz1 tz3 rfl (by omega) _ (j + 2) (rowT ([lpT, rpT] ++ ps)) (by rfl) (by exact owns_alloc hO.out _) (some ⟨wr.heap.size, 0, none⟩) 1 1 [.string s, .int .i64 ((j : Int) + 1), .int .i64 0, .int .i64 0] (by rfl) (by rfl) (fun j' u hu => ⟨_, rfl, World.news_of_block (cs := #[.string s, .int .i64 ((j : Int) + 1), .int .i64 0, .int .i64 0]) (t := 41) (fr := (0, 0)) (heap_alloc_new wr _) j' u hu⟩) (by simp [Value.oneCell']) (by unfold maxLen; omega) (by omega) (by exact Nat.le_trans hB.out.size (below_alloc _ _).size) ?_; intro a7 c7 w7 ho7 hb7; have HO7 : Hid (w7.ownsRow w5.heap.size 41 4 (.slice a7 (j + 2 + 1) c7) (j + 2 + 1) (rowT ([lpT, rpT] ++ ps) ++ [.string s, .int .i64 ((j : Int) + 1), .int .i64 0, .int .i64 0])) := ho7; have HB7 : Hid (Below w5.heap.size w5 w7) := (hB.out.alloc hB.out.size _).trans hb7; clear ho7 hb7))
                exact ⟨⟨j + 1, k + r, 0, 0, c7, some ⟨gb, ob, none⟩, a7, ps ++ [(⟨s, (j : Int) + 1, 0, 0⟩ : Tok)], by omega, Nat.le_refl _, Nat.zero_le _, rfl, rfl, by go_num, (by rw [List.length_eq_zero_iff.1 (NDl.out.trans (Nat.sub_self _))]; exact BytesAt.none : BytesAt w5 (some ⟨gb, ob, none⟩) (P.drop (k + r))), NDl.out.trans (Nat.sub_self _), NPs.out, NAb.out, (by rw [NRw.out]; exact HO7.out : w7.ownsRow w5.heap.size 41 4 (.slice a7 (j + 1 + 2) c7) (j + 1 + 2) (rowT ([lpT, rpT] ++ (ps ++ [(⟨s, (j : Int) + 1, 0, 0⟩ : Tok)])))), HB7.out⟩, by simp [intOf]; omega⟩
              · have r4 : ¬ (r : Int) = (cp : Int) := by omega
                go_wp2_with (at_builtin; (refine wpList_append_more (w := wr.alloc (.cells #[.string s, .int .i64 ((j : Int) + 1), .int .i64 0, .int .i64 0] 41)) rfl _ _ _ rfl w5.heap.size 41 t0 _ 4 40 Tryd.underlying35 ht0 tz0 tz1 tz3 rfl (by omega) _ (j + 2) (rowT ([lpT, rpT] ++ ps)) (by rfl) (by exact owns_alloc hO.out _) (some ⟨wr.heap.size, 0, none⟩) 1 1 [.string s, .int .i64 ((j : Int) + 1), .int .i64 0, .int .i64 0] (by rfl) (by rfl) (fun j' u hu => ⟨_, rfl, World.news_of_block (cs := #[.string s, .int .i64 ((j : Int) + 1), .int .i64 0, .int .i64 0]) (t := 41) (fr := (0, 0)) (heap_alloc_new wr _) j' u hu⟩) (by simp [Value.oneCell']) (by unfold maxLen; omega) (by omega) (by exact Nat.le_trans hB.out.size (below_alloc _ _).size) ?_; intro a7 c7 w7 ho7 hb7; have HO7 : Hid (w7.ownsRow w5.heap.size 41 4 (.slice a7 (j + 2 + 1) c7) (j + 2 + 1) (rowT ([lpT, rpT] ++ ps) ++ [.string s, .int .i64 ((j : Int) + 1), .int .i64 0, .int .i64 0])) := ho7; have HB7 : Hid (Below w5.heap.size w5 w7) := (hB.out.alloc hB.out.size _).trans hb7; clear ho7 hb7))
                exact ⟨⟨j + 1, k + r, len - r, cp - r, c7, some ⟨gb, ob + r, none⟩, a7, ps ++ [(⟨s, (j : Int) + 1, 0, 0⟩ : Tok)], by omega, by omega, by omega, rfl, rfl, by go_num, (by rw [← hDr.out]; exact hBy.out.drop r : BytesAt w5 (some ⟨gb, ob + r, none⟩) (P.drop (k + r))), NDl.out, NPs.out, NAb.out, (by rw [NRw.out]; exact HO7.out : w7.ownsRow w5.heap.size 41 4 (.slice a7 (j + 1 + 2) c7) (j + 1 + 2) (rowT ([lpT, rpT] ++ (ps ++ [(⟨s, (j : Int) + 1, 0, 0⟩ : Tok)])))), HB7.out⟩, by simp [intOf]; omega⟩
            · have j2 : ¬ (0 : Int) < (len : Int) := by omega
              obtain ⟨s2, hs2⟩ : ∃ s2, strB (P.drop k) = s2 := ⟨_, rfl⟩
              have CV : (convert 54 9 (.slice ad len cp)).run Tryd.prog wr = .ok (.string s2) wr := by rw [← hs2]; exact conv_at (hBy.out.under hB.out) hDl.out
              have HS2 : Hid (strB (P.drop k) = s2) := hs2
              clear hs2
              go_wp2_with (at_builtin; (refine wpList_append_more (w := wr.alloc (.cells #[.string s2, .int .i64 ((m : Int) + 1), .int .i64 0, .int .i64 0] 41)) rfl _ _ _ rfl w5.heap.size 41 t0 _ 4 40 Tryd.underlying35 ht0 tz0 tz1 tz3 rfl (by omega) _ (j + 2) (rowT ([lpT, rpT] ++ ps)) (by rfl) (by exact owns_alloc hO.out _) (some ⟨wr.heap.size, 0, none⟩) 1 1 [.string s2, .int .i64 ((m : Int) + 1), .int .i64 0, .int .i64 0] (by rfl) (by rfl) (fun j' u hu => ⟨_, rfl, World.news_of_block (cs := #[.string s2, .int .i64 ((m : Int) + 1), .int .i64 0, .int .i64 0]) (t := 41) (fr := (0, 0)) (heap_alloc_new wr _) j' u hu⟩) (by simp [Value.oneCell']) (by unfold maxLen; omega) (by omega) (by exact Nat.le_trans hB.out.size (below_alloc _ _).size) ?_; intro a7 c7 w7 ho7 hb7; have HO7 : Hid (w7.ownsRow w5.heap.size 41 4 (.slice a7 (j + 2 + 1) c7) (j + 2 + 1) (rowT ([lpT, rpT] ++ ps) ++ [.string s2, .int .i64 ((m : Int) + 1), .int .i64 0, .int .i64 0])) := ho7; have HB7 : Hid (Below w5.heap.size w5 w7) := (hB.out.alloc hB.out.size _).trans hb7; clear ho7 hb7))
              have HO8 : w7.ownsRow w5.heap.size 41 4 (.slice a7 (j + 2 + 1) c7) (j + 2 + 1) (rowT ([lpT, rpT] ++ (ps ++ [(⟨s2, (m : Int) + 1, 0, 0⟩ : Tok)]))) := by
                have h := HO7.out
                rw [show rowT ([lpT, rpT] ++ (ps ++ [(⟨s2, (m : Int) + 1, 0, 0⟩ : Tok)])) = rowT ([lpT, rpT] ++ ps) ++ [.string s2, .int .i64 ((m : Int) + 1), .int .i64 0, .int .i64 0] by rw [← List.append_assoc, rowT_append]; rfl]
                exact h
              have BW7 : Hid (Below w.heap.size w w7) := BW5.out.trans (HB7.out.mono BW5.out.size)
              have I7 : Hid (IntsAt w7 a1 Z) := I5.out.up HB7.out
              obtain ⟨_, _, e7, hc7, hk7⟩ := own_toks HO8
              cases e7
              have hAll : allBytes (ps ++ [(⟨s2, (m : Int) + 1, 0, 0⟩ : Tok)]) = lettP Z false := by
                rw [allBytes_append, hAB.out, HP.out, show allBytes [(⟨s2, (m : Int) + 1, 0, 0⟩ : Tok)] = P.drop k by rw [← HS2.out]; simp [allBytes, Tok.bytes, strB], List.take_append_drop]
              obtain ⟨q1, q2, q3, q4⟩ := parted_all (k := m) hPs.out rfl hj HOk.out hAll
              have PC : Hid _ := PA.out w7 a7 c7 ([lpT, rpT] ++ (ps ++ [(⟨s2, (m : Int) + 1, 0, 0⟩ : Tok)])) (j + 2 + 1) BW7.out (by rw [List.length_append, List.length_append, hPs.out.len]; simp only [List.length_cons, List.length_nil]; omega) (by omega) hc7 hk7 (by rw [allBytes_append, hAll, List.length_append, HP.out, HPl.out]; simp only [allBytes, lpT, rpT, Tok.bytes, List.flatMap_cons, List.flatMap_nil, List.length_append, List.length_cons, List.length_nil]; omega)
              rw [show [lpT, rpT] ++ (ps ++ [(⟨s2, (m : Int) + 1, 0, 0⟩ : Tok)]) = lpT :: rpT :: (ps ++ [(⟨s2, (m : Int) + 1, 0, 0⟩ : Tok)]) from rfl, parse_parted, q2] at PC
              obtain ⟨C, hC⟩ : ∃ C, codesOf 0 (ps ++ [(⟨s2, (m : Int) + 1, 0, 0⟩ : Tok)]) = C := ⟨_, rfl⟩
              rw [hC] at PC q1 q3 q4
              have hCl : C.length = q := by rw [← HZl.out, ← q1, List.length_map]
              have HCl : Hid (C.length = q) := hCl
              have Q1 : Hid (C.map (·.1) = Z) := q1
              have Q3 : Hid (C.Pairwise (fun x y => x.2.off ≤ y.2.off)) := q3
              have Q4 : Hid (∀ x ∈ C, 0 ≤ x.2.off ∧ x.2.text.size ≠ 0) := q4
              unfold ProofIs proofV at PC
              dsimp only at PC
              rw [hCl] at PC
              clear HO7 HO8 hk7 hAll q1 q2 q3 q4 hC hCl CV HS2 hO hB hAB hPs hBy hDl
              refine Calls.mono PC.out ?_
              rintro e w8 ⟨u8, v8, rfl, hu8, hv8, _, hb8⟩
              obtain ⟨b8, d8, rfl, hd8, _⟩ := own_cell hv8
              obtain ⟨_, _, e8, _, hcod⟩ := own_codes hv8
              cases e8
              obtain ⟨b9, d9, rfl, _, _⟩ := own_cell hu8
              simp only [List.length_nil] at *
              obtain ⟨w9, hw9⟩ : ∃ w9, w9 = w8.alloc (.cells #[.int .i64 2, .slice b9 0 d9, .slice b8 q d8, .bool false, .bool false, .string ⟨#[]⟩, .int .i64 0, .int .i64 0, .int .i64 0] 43) := ⟨_, rfl⟩
              have hb9 : Below w7.heap.size w7 w9 := by rw [hw9]; exact hb8.alloc hb8.size _
              have BW9 : Hid (Below w.heap.size w w9) := BW7.out.trans (hb9.mono BW7.out.size)
              have I9 : Hid (IntsAt w9 a1 Z) := I7.out.up hb9
              have C9 : Hid (CodesAt w9 b8 C) := by rw [hw9]; exact hcod.under (below_alloc _ _)
              have K9 : Hid (w9.heap[w8.heap.size]? = some (.cells #[.int .i64 2, .slice b9 0 d9, .slice b8 q d8, .bool false, .bool false, .string ⟨#[]⟩, .int .i64 0, .int .i64 0, .int .i64 0] 43 (0, 0))) := by rw [hw9]; exact heap_alloc_new w8 _
              clear hb8 hu8 hv8 PC hcod hb9 BW7 I7 HB7
              go_wp2_with fail
              try rw [← hw9]
              clear hw9
              obtain ⟨B, hBB⟩ : ∃ B, w8.heap.size = B := ⟨_, rfl⟩
              try rw [hBB]
              rw [hBB] at K9
              clear hBB
              go_loopw [16, 17] (fun lv i wx => ∃ (jj : Nat) (lo : Int), jj ≤ q ∧ lv = .int .i64 lo ∧ i = .int .i64 jj ∧ Hid (∀ (i' : Nat) (x : Int × Tok), jj ≤ i' → C[i']? = some x → lo ≤ x.2.off) ∧ Hid (Below w9.heap.size w9 wx)) (fun _ i _ => q - (intOf i).toNat)
              case atStart => exact ⟨0, 0, Nat.zero_le _, rfl, rfl, fun i' x _ hx => (Q4.out x (List.mem_of_getElem? hx)).1, Below.refl _ _⟩
              case round =>
                obtain ⟨jj, lo, hjj, rfl, rfl, hlo, hb⟩ := hrel
                have hk9 := (hb.out.block B (Array.getElem?_eq_some_iff.1 K9.out).1).trans K9.out
                have x0 : wr.cell? ⟨B, 0, none⟩ = some (.int .i64 2) := cell_whole hk9 0
                have x1 : wr.cell? ⟨B, 1, none⟩ = some (.slice b9 0 d9) := cell_whole hk9 1
                have x2 : wr.cell? ⟨B, 2, none⟩ = some (.slice b8 q d8) := cell_whole hk9 2
                have x3 : wr.cell? ⟨B, 3, none⟩ = some (.bool false) := cell_whole hk9 3
                have x4 : wr.cell? ⟨B, 4, none⟩ = some (.bool false) := cell_whole hk9 4
                clear hk9
                by_cases hjq : jj < q
                · have m1 : (jj : Int) < (q : Int) := by omega
                  obtain ⟨cd, hcd⟩ : ∃ cd, C[jj]? = some cd := ⟨C[jj]'(by rw [HCl.out]; exact hjq), List.getElem?_eq_getElem _⟩
                  obtain ⟨g1, o1, rfl, y0', y1', y2', y3', y4'⟩ := (C9.out.under hb.out) jj cd hcd
                  have m2 : ¬ cd.2.off < lo := by have := hlo.out jj cd (Nat.le_refl _) hcd; omega
                  have m3 : ¬ (cd.2.text.size : Int) = 0 := by have := (Q4.out cd (List.mem_of_getElem? hcd)).2; omega
                  have m4 : ((cd.2.text.size : Int) == 0) = false := beq_eq_false_iff_ne.2 m3
                  have HLO : Hid (∀ (i' : Nat) (x : Int × Tok), jj + 1 ≤ i' → C[i']? = some x → cd.2.off ≤ x.2.off) := fun i' x hi' hx => by
                    have hp := List.pairwise_iff_getElem.1 Q3.out
                    obtain ⟨h1, h2⟩ := List.getElem?_eq_some_iff.1 hcd
                    obtain ⟨h3, h4⟩ := List.getElem?_eq_some_iff.1 hx
                    have := hp jj i' h1 h3 (by omega)
                    rw [h2, h4] at this
                    exact this
                  clear hcd y0' y3' y4' hlo x0 x1 x3 x4
                  go_wp2
                  exact ⟨⟨jj + 1, cd.2.off, by omega, rfl, by go_num, HLO.out, hb.out⟩, by simp [intOf]; omega⟩
                · have m1 : ¬ (jj : Int) < (q : Int) := by omega
                  have BWr : Hid (Below w.heap.size w wr) := BW9.out.trans (hb.out.mono BW9.out.size)
                  have SA : Hid _ := says_any wr b8 q d8 C HCl.out (by omega) (C9.out.under hb.out) a1 c1 (by rw [Q1.out]; exact I9.out.up hb.out)
                  go_wp2_with fail
                  refine Calls.mono SA.out ?_
                  rintro e wz ⟨rfl, hbz⟩
                  have BE : Hid (Below w.heap.size w wz) := BWr.out.trans (hbz.mono BWr.out.size)
                  clear SA hbz
                  go_wp2
                  go_ret
                  exact ⟨by first | rfl | simp, BE.out⟩
          · have j1 : ¬ (j : Int) < (m : Int) := by omega
            obtain ⟨s2, hs2⟩ : ∃ s2, strB (P.drop k) = s2 := ⟨_, rfl⟩
            have CV : (convert 54 9 (.slice ad len cp)).run Tryd.prog wr = .ok (.string s2) wr := by rw [← hs2]; exact conv_at (hBy.out.under hB.out) hDl.out
            have HS2 : Hid (strB (P.drop k) = s2) := hs2
            clear hs2
            have JUST : Hid True := trivial
            go_wp2_with (at_builtin; (refine wpList_append_more (w := wr.alloc (.cells #[.string s2, .int .i64 ((m : Int) + 1), .int .i64 0, .int .i64 0] 41)) rfl _ _ _ rfl w5.heap.size 41 t0 _ 4 40 Tryd.underlying35 ht0 tz0 tz1 tz3 rfl (by omega) _ (j + 2) (rowT ([lpT, rpT] ++ ps)) (by rfl) (by exact owns_alloc hO.out _) (some ⟨wr.heap.size, 0, none⟩) 1 1 [.string s2, .int .i64 ((m : Int) + 1), .int .i64 0, .int .i64 0] (by rfl) (by rfl) (fun j' u hu => ⟨_, rfl, World.news_of_block (cs := #[.string s2, .int .i64 ((m : Int) + 1), .int .i64 0, .int .i64 0]) (t := 41) (fr := (0, 0)) (heap_alloc_new wr _) j' u hu⟩) (by simp [Value.oneCell']) (by unfold maxLen; omega) (by omega) (by exact Nat.le_trans hB.out.size (below_alloc _ _).size) ?_; intro a7 c7 w7 ho7 hb7; have HO7 : Hid (w7.ownsRow w5.heap.size 41 4 (.slice a7 (j + 2 + 1) c7) (j + 2 + 1) (rowT ([lpT, rpT] ++ ps) ++ [.string s2, .int .i64 ((m : Int) + 1), .int .i64 0, .int .i64 0])) := ho7; have HB7 : Hid (Below w5.heap.size w5 w7) := (hB.out.alloc hB.out.size _).trans hb7; clear ho7 hb7))
            have HO8 : w7.ownsRow w5.heap.size 41 4 (.slice a7 (j + 2 + 1) c7) (j + 2 + 1) (rowT ([lpT, rpT] ++ (ps ++ [(⟨s2, (m : Int) + 1, 0, 0⟩ : Tok)]))) := by
              have h := HO7.out
              rw [show rowT ([lpT, rpT] ++ (ps ++ [(⟨s2, (m : Int) + 1, 0, 0⟩ : Tok)])) = rowT ([lpT, rpT] ++ ps) ++ [.string s2, .int .i64 ((m : Int) + 1), .int .i64 0, .int .i64 0] by rw [← List.append_assoc, rowT_append]; rfl]
              exact h
            have BW7 : Hid (Below w.heap.size w w7) := BW5.out.trans (HB7.out.mono BW5.out.size)
            have I7 : Hid (IntsAt w7 a1 Z) := I5.out.up HB7.out
            obtain ⟨_, _, e7, hc7, hk7⟩ := own_toks HO8
            cases e7
            have hAll : allBytes (ps ++ [(⟨s2, (m : Int) + 1, 0, 0⟩ : Tok)]) = lettP Z false := by
              rw [allBytes_append, hAB.out, HP.out, show allBytes [(⟨s2, (m : Int) + 1, 0, 0⟩ : Tok)] = P.drop k by rw [← HS2.out]; simp [allBytes, Tok.bytes, strB], List.take_append_drop]
            obtain ⟨q1, q2, q3, q4⟩ := parted_all (k := m) hPs.out rfl hj HOk.out hAll
            have PC : Hid _ := PA.out w7 a7 c7 ([lpT, rpT] ++ (ps ++ [(⟨s2, (m : Int) + 1, 0, 0⟩ : Tok)])) (j + 2 + 1) BW7.out (by rw [List.length_append, List.length_append, hPs.out.len]; simp only [List.length_cons, List.length_nil]; omega) (by omega) hc7 hk7 (by rw [allBytes_append, hAll, List.length_append, HP.out, HPl.out]; simp only [allBytes, lpT, rpT, Tok.bytes, List.flatMap_cons, List.flatMap_nil, List.length_append, List.length_cons, List.length_nil]; omega)
            rw [show [lpT, rpT] ++ (ps ++ [(⟨s2, (m : Int) + 1, 0, 0⟩ : Tok)]) = lpT :: rpT :: (ps ++ [(⟨s2, (m : Int) + 1, 0, 0⟩ : Tok)]) from rfl, parse_parted, q2] at PC
            obtain ⟨C, hC⟩ : ∃ C, codesOf 0 (ps ++ [(⟨s2, (m : Int) + 1, 0, 0⟩ : Tok)]) = C := ⟨_, rfl⟩
            rw [hC] at PC q1 q3 q4
            have hCl : C.length = q := by rw [← HZl.out, ← q1, List.length_map]
            have HCl : Hid (C.length = q) := hCl
            have Q1 : Hid (C.map (·.1) = Z) := q1
            have Q3 : Hid (C.Pairwise (fun x y => x.2.off ≤ y.2.off)) := q3
            have Q4 : Hid (∀ x ∈ C, 0 ≤ x.2.off ∧ x.2.text.size ≠ 0) := q4
            unfold ProofIs proofV at PC
            dsimp only at PC
            rw [hCl] at PC
            clear HO7 HO8 hk7 hAll q1 q2 q3 q4 hC hCl CV HS2 hO hB hAB hPs hBy hDl
            refine Calls.mono PC.out ?_
            rintro e w8 ⟨u8, v8, rfl, hu8, hv8, _, hb8⟩
            obtain ⟨b8, d8, rfl, hd8, _⟩ := own_cell hv8
            obtain ⟨_, _, e8, _, hcod⟩ := own_codes hv8
            cases e8
            obtain ⟨b9, d9, rfl, _, _⟩ := own_cell hu8
            simp only [List.length_nil] at *
            obtain ⟨w9, hw9⟩ : ∃ w9, w9 = w8.alloc (.cells #[.int .i64 2, .slice b9 0 d9, .slice b8 q d8, .bool false, .bool false, .string ⟨#[]⟩, .int .i64 0, .int .i64 0, .int .i64 0] 43) := ⟨_, rfl⟩
            have hb9 : Below w7.heap.size w7 w9 := by rw [hw9]; exact hb8.alloc hb8.size _
            have BW9 : Hid (Below w.heap.size w w9) := BW7.out.trans (hb9.mono BW7.out.size)
            have I9 : Hid (IntsAt w9 a1 Z) := I7.out.up hb9
            have C9 : Hid (CodesAt w9 b8 C) := by rw [hw9]; exact hcod.under (below_alloc _ _)
            have K9 : Hid (w9.heap[w8.heap.size]? = some (.cells #[.int .i64 2, .slice b9 0 d9, .slice b8 q d8, .bool false, .bool false, .string ⟨#[]⟩, .int .i64 0, .int .i64 0, .int .i64 0] 43 (0, 0))) := by rw [hw9]; exact heap_alloc_new w8 _
            clear hb8 hu8 hv8 PC hcod hb9 BW7 I7 HB7
            go_wp2_with fail
            try rw [← hw9]
            clear hw9
            obtain ⟨B, hBB⟩ : ∃ B, w8.heap.size = B := ⟨_, rfl⟩
            try rw [hBB]
            rw [hBB] at K9
            clear hBB
            go_loopw [16, 17] (fun lv i wx => ∃ (jj : Nat) (lo : Int), jj ≤ q ∧ lv = .int .i64 lo ∧ i = .int .i64 jj ∧ Hid (∀ (i' : Nat) (x : Int × Tok), jj ≤ i' → C[i']? = some x → lo ≤ x.2.off) ∧ Hid (Below w9.heap.size w9 wx)) (fun _ i _ => q - (intOf i).toNat)
            case atStart => exact ⟨0, 0, Nat.zero_le _, rfl, rfl, fun i' x _ hx => (Q4.out x (List.mem_of_getElem? hx)).1, Below.refl _ _⟩
            case round =>
              obtain ⟨jj, lo, hjj, rfl, rfl, hlo, hb⟩ := hrel
              have hk9 := (hb.out.block B (Array.getElem?_eq_some_iff.1 K9.out).1).trans K9.out
              have x0 : wr.cell? ⟨B, 0, none⟩ = some (.int .i64 2) := cell_whole hk9 0
              have x1 : wr.cell? ⟨B, 1, none⟩ = some (.slice b9 0 d9) := cell_whole hk9 1
              have x2 : wr.cell? ⟨B, 2, none⟩ = some (.slice b8 q d8) := cell_whole hk9 2
              have x3 : wr.cell? ⟨B, 3, none⟩ = some (.bool false) := cell_whole hk9 3
              have x4 : wr.cell? ⟨B, 4, none⟩ = some (.bool false) := cell_whole hk9 4
              clear hk9
              by_cases hjq : jj < q
              · have m1 : (jj : Int) < (q : Int) := by omega
                obtain ⟨cd, hcd⟩ : ∃ cd, C[jj]? = some cd := ⟨C[jj]'(by rw [HCl.out]; exact hjq), List.getElem?_eq_getElem _⟩
                obtain ⟨g1, o1, rfl, y0', y1', y2', y3', y4'⟩ := (C9.out.under hb.out) jj cd hcd
                have m2 : ¬ cd.2.off < lo := by have := hlo.out jj cd (Nat.le_refl _) hcd; omega
                have m3 : ¬ (cd.2.text.size : Int) = 0 := by have := (Q4.out cd (List.mem_of_getElem? hcd)).2; omega
                have m4 : ((cd.2.text.size : Int) == 0) = false := beq_eq_false_iff_ne.2 m3
                have HLO : Hid (∀ (i' : Nat) (x : Int × Tok), jj + 1 ≤ i' → C[i']? = some x → cd.2.off ≤ x.2.off) := fun i' x hi' hx => by
                  have hp := List.pairwise_iff_getElem.1 Q3.out
                  obtain ⟨h1, h2⟩ := List.getElem?_eq_some_iff.1 hcd
                  obtain ⟨h3, h4⟩ := List.getElem?_eq_some_iff.1 hx
                  have := hp jj i' h1 h3 (by omega)
                  rw [h2, h4] at this
                  exact this
                clear hcd y0' y3' y4' hlo x0 x1 x3 x4
                go_wp2
                exact ⟨⟨jj + 1, cd.2.off, by omega, rfl, by go_num, HLO.out, hb.out⟩, by simp [intOf]; omega⟩
              · have m1 : ¬ (jj : Int) < (q : Int) := by omega
                have BWr : Hid (Below w.heap.size w wr) := BW9.out.trans (hb.out.mono BW9.out.size)
                have SA : Hid _ := says_any wr b8 q d8 C HCl.out (by omega) (C9.out.under hb.out) a1 c1 (by rw [Q1.out]; exact I9.out.up hb.out)
                go_wp2_with fail
                refine Calls.mono SA.out ?_
                rintro e wz ⟨rfl, hbz⟩
                have BE : Hid (Below w.heap.size w wz) := BWr.out.trans (hbz.mono BWr.out.size)
                clear SA hbz
                go_wp2
                go_ret
                exact ⟨by first | rfl | simp, BE.out⟩
      · go_wp2_with (at_builtin; (refine wpList_append_more (w := wr.alloc (.cells #[.int .u8 86] 5)) rfl _ _ _ rfl w2.heap.size 5 y0 _ 1 1 Tryd.underlying54 hy0 yz0 yz1 yz3 rfl (by omega) _ p ((prB Z).map byteV) (by rfl) (by exact owns_alloc hO2.out _) (some ⟨wr.heap.size, 0, none⟩) 1 1 [.int .u8 86] (by rfl) (by rfl) (fun j' u hu => ⟨_, rfl, World.news_of_block (cs := #[.int .u8 86]) (t := 5) (fr := (0, 0)) (heap_alloc_new wr _) j' u hu⟩) (by simp [Value.oneCell']) (by unfold maxLen; omega) (by omega) (by exact Nat.le_trans hB.out.size (below_alloc _ _).size) ?_; intro a5 c5 w5 ho9 hb9; have HO9 : Hid (w5.ownsRow w2.heap.size 5 1 (.slice a5 (p + 1) c5) (p + 1) ((prB Z).map byteV ++ [.int .u8 86])) := ho9; have HB5 : Hid (Below w2.heap.size w2 w5) := (hB.out.alloc hB.out.size _).trans hb9; clear ho9 hb9; obtain ⟨pp, hpp⟩ : ∃ pp, pp = p + 1 := ⟨_, rfl⟩; rw [← hpp] at HO9 ⊢; have hpb2 : pp ≤ 100001 := (by omega); clear hpp))
        have HO5 : Hid (w5.ownsRow w2.heap.size 5 1 (.slice a5 pp c5) pp ((lettP Z true).map byteV)) := by
          show World.ownsRow _ _ _ _ _ _ _
          have h := HO9.out
          rw [show (lettP Z true).map byteV = (prB Z).map byteV ++ [.int .u8 86] by simp [lettP, byteV]]
          exact h
        clear HO9 hO2 hB
        have HP0 : Hid _ := HO5
        obtain ⟨P, hP⟩ : ∃ P, lettP Z true = P := ⟨_, rfl⟩
        have HP : Hid (lettP Z true = P) := hP
        obtain ⟨ab, cb, eb, hcb, hby⟩ := bytes_own HO5.out
        cases eb
        rw [hP] at hby
        have hPl : P.length = pp := by rw [← hP]; have h := HO5.out.1; rw [List.length_map] at h; omega
        have HPl : Hid (P.length = pp) := hPl
        have HBy : Hid (BytesAt w5 a5 P) := hby
        have BW5 : Hid (Below w.heap.size w w5) := B2.out.trans (HB5.out.mono B2.out.size)
        have I5 : Hid (IntsAt w5 a1 Z) := I2.out.up HB5.out
        have HTw : Hid _ := own_two w5
        have HBw : Hid _ := below_alloc w5 (.cells #[.string ⟨#[40]⟩, .int .i64 0, .int .i64 0, .int .i64 0, .string ⟨#[41]⟩, .int .i64 0, .int .i64 0, .int .i64 0] 41)
        clear HO5 HB5 hby hP hPl HP0 B2 I2
        go_loopw [10, 12, 13, 14] (fun lv tv i _ wx => ∃ (j k len cp tc : Nat) (ad ta : Option Addr) (ps : List Tok), j ≤ m ∧ len ≤ cp ∧ len ≤ pp ∧ lv = .slice ad len cp ∧ tv = .slice ta (j + 2) tc ∧ i = .int .i64 j ∧ Hid (BytesAt w5 ad (P.drop k)) ∧ Hid ((P.drop k).length = len) ∧ Hid (Pieces ps j) ∧ Hid (allBytes ps = P.take k) ∧ Hid (wx.ownsRow w5.heap.size 41 4 (.slice ta (j + 2) tc) (j + 2) (rowT ([lpT, rpT] ++ ps))) ∧ Hid (Below w5.heap.size w5 wx)) (fun _ _ i _ _ => m - (intOf i).toNat)
        case atStart => exact ⟨0, 0, pp, c5, 2, a5, some ⟨w5.heap.size, 0, none⟩, [], Nat.zero_le _, hcb, Nat.le_refl _, rfl, rfl, rfl, HBy.out, HPl.out, Pieces.nil, rfl, HTw.out, HBw.out⟩
        case round =>
          clear HTw HBw HBy
          obtain ⟨j, k, len, cp, tc, ad, ta, ps, hj, hlc, hlp, rfl, rfl, rfl, hBy, hDl, hPs, hAB, hO, hB⟩ := hrel
          by_cases hjm : j < m
          · have j1 : (j : Int) < (m : Int) := by omega
            by_cases hl0 : 0 < len
            · have j2 : (0 : Int) < (len : Int) := by omega
              obtain ⟨x, hx⟩ : ∃ x, z[j]? = some x := ⟨z[j]'(by rw [HZz.out]; exact hjm), List.getElem?_eq_getElem _⟩
              have BWr : Hid (Below w.heap.size w wr) := BW5.out.trans (hB.out.mono BW5.out.size)
              obtain ⟨gx, ox, rfl, cx⟩ := (HIz.out.up BWr.out) j x hx
              obtain ⟨hx1, hx2⟩ := HRz.out x (List.mem_of_getElem? hx)
              have MD : Calls Tryd.prog 22 #[.int .i64 x, .int .i64 ((len : Int) + 1)] wr fun e w' => e = .returned (.int .i64 (x % ((len + 1 : Nat) : Int))) ∧ w' = wr := mod_any wr x (len + 1) (by omega) (by omega) hx1 hx2
              obtain ⟨r, hr⟩ : ∃ r : Nat, x % ((len + 1 : Nat) : Int) = (r : Int) := ⟨(x % ((len + 1 : Nat) : Int)).toNat, by have := Int.emod_nonneg x (show ((len + 1 : Nat) : Int) ≠ 0 by omega); omega⟩
              have hr2 : r ≤ len := by have := Int.emod_lt_of_pos x (show (0 : Int) < ((len + 1 : Nat) : Int) by omega); omega
              rw [hr] at MD
              have HMD : Hid _ := MD
              clear MD hr hx
              obtain ⟨gb, ob, eb⟩ : ∃ gb ob, ad = some ⟨gb, ob, none⟩ := by
                obtain ⟨g, o, e, _⟩ := hBy.out.2 0 _ (List.getElem?_eq_getElem (by rw [hDl.out]; exact hl0))
                exact ⟨g, o, e⟩
              subst eb
              have CV0 := conv_at (c := cp) ((hBy.out.under hB.out).take r) (show ((P.drop k).take r).length = r by rw [List.length_take, hDl.out]; omega)
              obtain ⟨s, hs⟩ : ∃ s, strB ((P.drop k).take r) = s := ⟨_, rfl⟩
              rw [hs] at CV0
              have CV : (convert 54 9 (.slice (some ⟨gb, ob, none⟩) r cp)).run Tryd.prog wr = .ok (.string s) wr := CV0
              have HS : Hid (strB ((P.drop k).take r) = s) := hs
              clear CV0 hs
              have r1 : (r : Int) ≤ (cp : Int) := by omega
              have r2 : (r : Int) ≤ (len : Int) := by omega
              have r3 : (len : Int) ≤ (cp : Int) := by omega
              have hDr : Hid ((P.drop k).drop r = P.drop (k + r)) := List.drop_drop
              go_wp2_with fail
              refine Calls.mono HMD.out ?_
              rintro e wz ⟨rfl, hwz⟩
              subst wz
              clear HMD
              have NPs : Hid (Pieces (ps ++ [(⟨s, (j : Int) + 1, 0, 0⟩ : Tok)]) (j + 1)) := hPs.out.snoc _ rfl
              have NAb : Hid (allBytes (ps ++ [(⟨s, (j : Int) + 1, 0, 0⟩ : Tok)]) = P.take (k + r)) := by
                show _ = _
                rw [allBytes_append, hAB.out, List.take_add, show allBytes [(⟨s, (j : Int) + 1, 0, 0⟩ : Tok)] = (P.drop k).take r by rw [← HS.out]; simp [allBytes, Tok.bytes, strB]]
              have NRw : Hid (rowT ([lpT, rpT] ++ (ps ++ [(⟨s, (j : Int) + 1, 0, 0⟩ : Tok)])) = rowT ([lpT, rpT] ++ ps) ++ [.string s, .int .i64 ((j : Int) + 1), .int .i64 0, .int .i64 0]) := by show _ = _; rw [← List.append_assoc, rowT_append]; rfl
              have NDl : Hid ((P.drop (k + r)).length = len - r) := by show _ = _; rw [← hDr.out, List.length_drop, hDl.out]
              by_cases hrc : r = cp
              · subst hrc
                obtain rfl : r = len := by omega
                go_wp2_with (at_builtin; (refine wpList_append_more (w := wr.alloc (.cells #[.string s, .int .i64 ((j : Int) + 1), .int .i64 0, .int .i64 0] 41)) rfl _ _ _ rfl w5.heap.size 41 t0 _ 4 40 Tryd.underlying35 ht0 tz0 tz1 tz3 rfl (by omega) _ (j + 2) (rowT ([lpT, rpT] ++ ps)) (by rfl) (by exact owns_alloc hO.out _) (some ⟨wr.heap.size, 0, none⟩) 1 1 [.string s, .int .i64 ((j : Int) + 1), .int .i64 0, .int .i64 0] (by rfl) (by rfl) (fun j' u hu => ⟨_, rfl, World.news_of_block (cs := #[.string s, .int .i64 ((j : Int) + 1), .int .i64 0, .int .i64 0]) (t := 41) (fr := (0, 0)) (heap_alloc_new wr _) j' u hu⟩) (by simp [Value.oneCell']) (by unfold maxLen; omega) (by omega) (by exact Nat.le_trans hB.out.size (below_alloc _ _).size) ?_; intro a7 c7 w7 ho7 hb7; have HO7 : Hid (w7.ownsRow w5.heap.size 41 4 (.slice a7 (j + 2 + 1) c7) (j + 2 + 1) (rowT ([lpT, rpT] ++ ps) ++ [.string s, .int .i64 ((j : Int) + 1), .int .i64 0, .int .i64 0])) := ho7; have HB7 : Hid (Below w5.heap.size w5 w7) := (hB.out.alloc hB.out.size _).trans hb7; clear ho7 hb7))
                exact ⟨⟨j + 1, k + r, 0, 0, c7, some ⟨gb, ob, none⟩, a7, ps ++ [(⟨s, (j : Int) + 1, 0, 0⟩ : Tok)], by omega, Nat.le_refl _, Nat.zero_le _, rfl, rfl, by go_num, (by rw [List.length_eq_zero_iff.1 (NDl.out.trans (Nat.sub_self _))]; exact BytesAt.none : BytesAt w5 (some ⟨gb, ob, none⟩) (P.drop (k + r))), NDl.out.trans (Nat.sub_self _), NPs.out, NAb.out, (by rw [NRw.out]; exact HO7.out : w7.ownsRow w5.heap.size 41 4 (.slice a7 (j + 1 + 2) c7) (j + 1 + 2) (rowT ([lpT, rpT] ++ (ps ++ [(⟨s, (j : Int) + 1, 0, 0⟩ : Tok)])))), HB7.out⟩, by simp [intOf]; omega⟩
              · have r4 : ¬ (r : Int) = (cp : Int) := by omega
                go_wp2_with (at_builtin; (refine wpList_append_more (w := wr.alloc (.cells #[.string s, .int .i64 ((j : Int) + 1), .int .i64 0, .int .i64 0] 41)) rfl _ _ _ rfl w5.heap.size 41 t0 _ 4 40 Tryd.underlying35 ht0 tz0 tz1 tz3 rfl (by omega) _ (j + 2) (rowT ([lpT, rpT] ++ ps)) (by rfl) (by exact owns_alloc hO.out _) (some ⟨wr.heap.size, 0, none⟩) 1 1 [.string s, .int .i64 ((j : Int) + 1), .int .i64 0, .int .i64 0] (by rfl) (by rfl) (fun j' u hu => ⟨_, rfl, World.news_of_block (cs := #[.string s, .int .i64 ((j : Int) + 1), .int .i64 0, .int .i64 0]) (t := 41) (fr := (0, 0)) (heap_alloc_new wr _) j' u hu⟩) (by simp [Value.oneCell']) (by unfold maxLen; omega) (by omega) (by exact Nat.le_trans hB.out.size (below_alloc _ _).size) ?_; intro a7 c7 w7 ho7 hb7; have HO7 : Hid (w7.ownsRow w5.heap.size 41 4 (.slice a7 (j + 2 + 1) c7) (j + 2 + 1) (rowT ([lpT, rpT] ++ ps) ++ [.string s, .int .i64 ((j : Int) + 1), .int .i64 0, .int .i64 0])) := ho7; have HB7 : Hid (Below w5.heap.size w5 w7) := (hB.out.alloc hB.out.size _).trans hb7; clear ho7 hb7))
                exact ⟨⟨j + 1, k + r, len - r, cp - r, c7, some ⟨gb, ob + r, none⟩, a7, ps ++ [(⟨s, (j : Int) + 1, 0, 0⟩ : Tok)], by omega, by omega, by omega, rfl, rfl, by go_num, (by rw [← hDr.out]; exact hBy.out.drop r : BytesAt w5 (some ⟨gb, ob + r, none⟩) (P.drop (k + r))), NDl.out, NPs.out, NAb.out, (by rw [NRw.out]; exact HO7.out : w7.ownsRow w5.heap.size 41 4 (.slice a7 (j + 1 + 2) c7) (j + 1 + 2) (rowT ([lpT, rpT] ++ (ps ++ [(⟨s, (j : Int) + 1, 0, 0⟩ : Tok)])))), HB7.out⟩, by simp [intOf]; omega⟩
            · have j2 : ¬ (0 : Int) < (len : Int) := by omega
              obtain ⟨s2, hs2⟩ : ∃ s2, strB (P.drop k) = s2 := ⟨_, rfl⟩
              have CV : (convert 54 9 (.slice ad len cp)).run Tryd.prog wr = .ok (.string s2) wr := by rw [← hs2]; exact conv_at (hBy.out.under hB.out) hDl.out
              have HS2 : Hid (strB (P.drop k) = s2) := hs2
              clear hs2
              go_wp2_with (at_builtin; (refine wpList_append_more (w := wr.alloc (.cells #[.string s2, .int .i64 ((m : Int) + 1), .int .i64 0, .int .i64 0] 41)) rfl _ _ _ rfl w5.heap.size 41 t0 _ 4 40 Tryd.underlying35 ht0 tz0 tz1 tz3 rfl (by omega) _ (j + 2) (rowT ([lpT, rpT] ++ ps)) (by rfl) (by exact owns_alloc hO.out _) (some ⟨wr.heap.size, 0, none⟩) 1 1 [.string s2, .int .i64 ((m : Int) + 1), .int .i64 0, .int .i64 0] (by rfl) (by rfl) (fun j' u hu => ⟨_, rfl, World.news_of_block (cs := #[.string s2, .int .i64 ((m : Int) + 1), .int .i64 0, .int .i64 0]) (t := 41) (fr := (0, 0)) (heap_alloc_new wr _) j' u hu⟩) (by simp [Value.oneCell']) (by unfold maxLen; omega) (by omega) (by exact Nat.le_trans hB.out.size (below_alloc _ _).size) ?_; intro a7 c7 w7 ho7 hb7; have HO7 : Hid (w7.ownsRow w5.heap.size 41 4 (.slice a7 (j + 2 + 1) c7) (j + 2 + 1) (rowT ([lpT, rpT] ++ ps) ++ [.string s2, .int .i64 ((m : Int) + 1), .int .i64 0, .int .i64 0])) := ho7; have HB7 : Hid (Below w5.heap.size w5 w7) := (hB.out.alloc hB.out.size _).trans hb7; clear ho7 hb7))
              have HO8 : w7.ownsRow w5.heap.size 41 4 (.slice a7 (j + 2 + 1) c7) (j + 2 + 1) (rowT ([lpT, rpT] ++ (ps ++ [(⟨s2, (m : Int) + 1, 0, 0⟩ : Tok)]))) := by
                have h := HO7.out
                rw [show rowT ([lpT, rpT] ++ (ps ++ [(⟨s2, (m : Int) + 1, 0, 0⟩ : Tok)])) = rowT ([lpT, rpT] ++ ps) ++ [.string s2, .int .i64 ((m : Int) + 1), .int .i64 0, .int .i64 0] by rw [← List.append_assoc, rowT_append]; rfl]
                exact h
              have BW7 : Hid (Below w.heap.size w w7) := BW5.out.trans (HB7.out.mono BW5.out.size)
              have I7 : Hid (IntsAt w7 a1 Z) := I5.out.up HB7.out
              obtain ⟨_, _, e7, hc7, hk7⟩ := own_toks HO8
              cases e7
              have hAll : allBytes (ps ++ [(⟨s2, (m : Int) + 1, 0, 0⟩ : Tok)]) = lettP Z true := by
                rw [allBytes_append, hAB.out, HP.out, show allBytes [(⟨s2, (m : Int) + 1, 0, 0⟩ : Tok)] = P.drop k by rw [← HS2.out]; simp [allBytes, Tok.bytes, strB], List.take_append_drop]
              obtain ⟨q1, q2, q3, q4⟩ := parted_all (k := m) hPs.out rfl hj HOk.out hAll
              have PC : Hid _ := PA.out w7 a7 c7 ([lpT, rpT] ++ (ps ++ [(⟨s2, (m : Int) + 1, 0, 0⟩ : Tok)])) (j + 2 + 1) BW7.out (by rw [List.length_append, List.length_append, hPs.out.len]; simp only [List.length_cons, List.length_nil]; omega) (by omega) hc7 hk7 (by rw [allBytes_append, hAll, List.length_append, HP.out, HPl.out]; simp only [allBytes, lpT, rpT, Tok.bytes, List.flatMap_cons, List.flatMap_nil, List.length_append, List.length_cons, List.length_nil]; omega)
              rw [show [lpT, rpT] ++ (ps ++ [(⟨s2, (m : Int) + 1, 0, 0⟩ : Tok)]) = lpT :: rpT :: (ps ++ [(⟨s2, (m : Int) + 1, 0, 0⟩ : Tok)]) from rfl, parse_parted, q2] at PC
              obtain ⟨C, hC⟩ : ∃ C, codesOf 0 (ps ++ [(⟨s2, (m : Int) + 1, 0, 0⟩ : Tok)]) = C := ⟨_, rfl⟩
              rw [hC] at PC q1 q3 q4
              have hCl : C.length = q := by rw [← HZl.out, ← q1, List.length_map]
              have HCl : Hid (C.length = q) := hCl
              have Q1 : Hid (C.map (·.1) = Z) := q1
              have Q3 : Hid (C.Pairwise (fun x y => x.2.off ≤ y.2.off)) := q3
              have Q4 : Hid (∀ x ∈ C, 0 ≤ x.2.off ∧ x.2.text.size ≠ 0) := q4
              unfold ProofIs proofV at PC
              dsimp only at PC
              rw [hCl] at PC
              clear HO7 HO8 hk7 hAll q1 q2 q3 q4 hC hCl CV HS2 hO hB hAB hPs hBy hDl
              refine Calls.mono PC.out ?_
              rintro e w8 ⟨u8, v8, rfl, hu8, hv8, _, hb8⟩
              obtain ⟨b8, d8, rfl, hd8, _⟩ := own_cell hv8
              obtain ⟨_, _, e8, _, hcod⟩ := own_codes hv8
              cases e8
              obtain ⟨b9, d9, rfl, _, _⟩ := own_cell hu8
              simp only [List.length_nil] at *
              obtain ⟨w9, hw9⟩ : ∃ w9, w9 = w8.alloc (.cells #[.int .i64 2, .slice b9 0 d9, .slice b8 q d8, .bool false, .bool true, .string ⟨#[]⟩, .int .i64 0, .int .i64 0, .int .i64 0] 43) := ⟨_, rfl⟩
              have hb9 : Below w7.heap.size w7 w9 := by rw [hw9]; exact hb8.alloc hb8.size _
              have BW9 : Hid (Below w.heap.size w w9) := BW7.out.trans (hb9.mono BW7.out.size)
              have I9 : Hid (IntsAt w9 a1 Z) := I7.out.up hb9
              have C9 : Hid (CodesAt w9 b8 C) := by rw [hw9]; exact hcod.under (below_alloc _ _)
              have K9 : Hid (w9.heap[w8.heap.size]? = some (.cells #[.int .i64 2, .slice b9 0 d9, .slice b8 q d8, .bool false, .bool true, .string ⟨#[]⟩, .int .i64 0, .int .i64 0, .int .i64 0] 43 (0, 0))) := by rw [hw9]; exact heap_alloc_new w8 _
              clear hb8 hu8 hv8 PC hcod hb9 BW7 I7 HB7
              go_wp2_with fail
              try rw [← hw9]
              clear hw9
              obtain ⟨B, hBB⟩ : ∃ B, w8.heap.size = B := ⟨_, rfl⟩
              try rw [hBB]
              rw [hBB] at K9
              clear hBB
              go_loopw [16, 17] (fun lv i wx => ∃ (jj : Nat) (lo : Int), jj ≤ q ∧ lv = .int .i64 lo ∧ i = .int .i64 jj ∧ Hid (∀ (i' : Nat) (x : Int × Tok), jj ≤ i' → C[i']? = some x → lo ≤ x.2.off) ∧ Hid (Below w9.heap.size w9 wx)) (fun _ i _ => q - (intOf i).toNat)
              case atStart => exact ⟨0, 0, Nat.zero_le _, rfl, rfl, fun i' x _ hx => (Q4.out x (List.mem_of_getElem? hx)).1, Below.refl _ _⟩
              case round =>
                obtain ⟨jj, lo, hjj, rfl, rfl, hlo, hb⟩ := hrel
                have hk9 := (hb.out.block B (Array.getElem?_eq_some_iff.1 K9.out).1).trans K9.out
                have x0 : wr.cell? ⟨B, 0, none⟩ = some (.int .i64 2) := cell_whole hk9 0
                have x1 : wr.cell? ⟨B, 1, none⟩ = some (.slice b9 0 d9) := cell_whole hk9 1
                have x2 : wr.cell? ⟨B, 2, none⟩ = some (.slice b8 q d8) := cell_whole hk9 2
                have x3 : wr.cell? ⟨B, 3, none⟩ = some (.bool false) := cell_whole hk9 3
                have x4 : wr.cell? ⟨B, 4, none⟩ = some (.bool true) := cell_whole hk9 4
                clear hk9
                by_cases hjq : jj < q
                · have m1 : (jj : Int) < (q : Int) := by omega
                  obtain ⟨cd, hcd⟩ : ∃ cd, C[jj]? = some cd := ⟨C[jj]'(by rw [HCl.out]; exact hjq), List.getElem?_eq_getElem _⟩
                  obtain ⟨g1, o1, rfl, y0', y1', y2', y3', y4'⟩ := (C9.out.under hb.out) jj cd hcd
                  have m2 : ¬ cd.2.off < lo := by have := hlo.out jj cd (Nat.le_refl _) hcd; omega
                  have m3 : ¬ (cd.2.text.size : Int) = 0 := by have := (Q4.out cd (List.mem_of_getElem? hcd)).2; omega
                  have m4 : ((cd.2.text.size : Int) == 0) = false := beq_eq_false_iff_ne.2 m3
                  have HLO : Hid (∀ (i' : Nat) (x : Int × Tok), jj + 1 ≤ i' → C[i']? = some x → cd.2.off ≤ x.2.off) := fun i' x hi' hx => by
                    have hp := List.pairwise_iff_getElem.1 Q3.out
                    obtain ⟨h1, h2⟩ := List.getElem?_eq_some_iff.1 hcd
                    obtain ⟨h3, h4⟩ := List.getElem?_eq_some_iff.1 hx
                    have := hp jj i' h1 h3 (by omega)
                    rw [h2, h4] at this
                    exact this
                  clear hcd y0' y3' y4' hlo x0 x1 x3 x4
                  go_wp2
                  exact ⟨⟨jj + 1, cd.2.off, by omega, rfl, by go_num, HLO.out, hb.out⟩, by simp [intOf]; omega⟩
                · have m1 : ¬ (jj : Int) < (q : Int) := by omega
                  have BWr : Hid (Below w.heap.size w wr) := BW9.out.trans (hb.out.mono BW9.out.size)
                  have SA : Hid _ := says_any wr b8 q d8 C HCl.out (by omega) (C9.out.under hb.out) a1 c1 (by rw [Q1.out]; exact I9.out.up hb.out)
                  go_wp2_with fail
                  refine Calls.mono SA.out ?_
                  rintro e wz ⟨rfl, hbz⟩
                  have BE : Hid (Below w.heap.size w wz) := BWr.out.trans (hbz.mono BWr.out.size)
                  clear SA hbz
                  go_wp2
                  go_ret
                  exact ⟨by first | rfl | simp, BE.out⟩
          · have j1 : ¬ (j : Int) < (m : Int) := by omega
            obtain ⟨s2, hs2⟩ : ∃ s2, strB (P.drop k) = s2 := ⟨_, rfl⟩
            have CV : (convert 54 9 (.slice ad len cp)).run Tryd.prog wr = .ok (.string s2) wr := by rw [← hs2]; exact conv_at (hBy.out.under hB.out) hDl.out
            have HS2 : Hid (strB (P.drop k) = s2) := hs2
            clear hs2
            have JUST : Hid True := trivial
            go_wp2_with (at_builtin; (refine wpList_append_more (w := wr.alloc (.cells #[.string s2, .int .i64 ((m : Int) + 1), .int .i64 0, .int .i64 0] 41)) rfl _ _ _ rfl w5.heap.size 41 t0 _ 4 40 Tryd.underlying35 ht0 tz0 tz1 tz3 rfl (by omega) _ (j + 2) (rowT ([lpT, rpT] ++ ps)) (by rfl) (by exact owns_alloc hO.out _) (some ⟨wr.heap.size, 0, none⟩) 1 1 [.string s2, .int .i64 ((m : Int) + 1), .int .i64 0, .int .i64 0] (by rfl) (by rfl) (fun j' u hu => ⟨_, rfl, World.news_of_block (cs := #[.string s2, .int .i64 ((m : Int) + 1), .int .i64 0, .int .i64 0]) (t := 41) (fr := (0, 0)) (heap_alloc_new wr _) j' u hu⟩) (by simp [Value.oneCell']) (by unfold maxLen; omega) (by omega) (by exact Nat.le_trans hB.out.size (below_alloc _ _).size) ?_; intro a7 c7 w7 ho7 hb7; have HO7 : Hid (w7.ownsRow w5.heap.size 41 4 (.slice a7 (j + 2 + 1) c7) (j + 2 + 1) (rowT ([lpT, rpT] ++ ps) ++ [.string s2, .int .i64 ((m : Int) + 1), .int .i64 0, .int .i64 0])) := ho7; have HB7 : Hid (Below w5.heap.size w5 w7) := (hB.out.alloc hB.out.size _).trans hb7; clear ho7 hb7))
            have HO8 : w7.ownsRow w5.heap.size 41 4 (.slice a7 (j + 2 + 1) c7) (j + 2 + 1) (rowT ([lpT, rpT] ++ (ps ++ [(⟨s2, (m : Int) + 1, 0, 0⟩ : Tok)]))) := by
              have h := HO7.out
              rw [show rowT ([lpT, rpT] ++ (ps ++ [(⟨s2, (m : Int) + 1, 0, 0⟩ : Tok)])) = rowT ([lpT, rpT] ++ ps) ++ [.string s2, .int .i64 ((m : Int) + 1), .int .i64 0, .int .i64 0] by rw [← List.append_assoc, rowT_append]; rfl]
              exact h
            have BW7 : Hid (Below w.heap.size w w7) := BW5.out.trans (HB7.out.mono BW5.out.size)
            have I7 : Hid (IntsAt w7 a1 Z) := I5.out.up HB7.out
            obtain ⟨_, _, e7, hc7, hk7⟩ := own_toks HO8
            cases e7
            have hAll : allBytes (ps ++ [(⟨s2, (m : Int) + 1, 0, 0⟩ : Tok)]) = lettP Z true := by
              rw [allBytes_append, hAB.out, HP.out, show allBytes [(⟨s2, (m : Int) + 1, 0, 0⟩ : Tok)] = P.drop k by rw [← HS2.out]; simp [allBytes, Tok.bytes, strB], List.take_append_drop]
            obtain ⟨q1, q2, q3, q4⟩ := parted_all (k := m) hPs.out rfl hj HOk.out hAll
            have PC : Hid _ := PA.out w7 a7 c7 ([lpT, rpT] ++ (ps ++ [(⟨s2, (m : Int) + 1, 0, 0⟩ : Tok)])) (j + 2 + 1) BW7.out (by rw [List.length_append, List.length_append, hPs.out.len]; simp only [List.length_cons, List.length_nil]; omega) (by omega) hc7 hk7 (by rw [allBytes_append, hAll, List.length_append, HP.out, HPl.out]; simp only [allBytes, lpT, rpT, Tok.bytes, List.flatMap_cons, List.flatMap_nil, List.length_append, List.length_cons, List.length_nil]; omega)
            rw [show [lpT, rpT] ++ (ps ++ [(⟨s2, (m : Int) + 1, 0, 0⟩ : Tok)]) = lpT :: rpT :: (ps ++ [(⟨s2, (m : Int) + 1, 0, 0⟩ : Tok)]) from rfl, parse_parted, q2] at PC
            obtain ⟨C, hC⟩ : ∃ C, codesOf 0 (ps ++ [(⟨s2, (m : Int) + 1, 0, 0⟩ : Tok)]) = C := ⟨_, rfl⟩
            rw [hC] at PC q1 q3 q4
            have hCl : C.length = q := by rw [← HZl.out, ← q1, List.length_map]
            have HCl : Hid (C.length = q) := hCl
            have Q1 : Hid (C.map (·.1) = Z) := q1
            have Q3 : Hid (C.Pairwise (fun x y => x.2.off ≤ y.2.off)) := q3
            have Q4 : Hid (∀ x ∈ C, 0 ≤ x.2.off ∧ x.2.text.size ≠ 0) := q4
            unfold ProofIs proofV at PC
            dsimp only at PC
            rw [hCl] at PC
            clear HO7 HO8 hk7 hAll q1 q2 q3 q4 hC hCl CV HS2 hO hB hAB hPs hBy hDl
            refine Calls.mono PC.out ?_
            rintro e w8 ⟨u8, v8, rfl, hu8, hv8, _, hb8⟩
            obtain ⟨b8, d8, rfl, hd8, _⟩ := own_cell hv8
            obtain ⟨_, _, e8, _, hcod⟩ := own_codes hv8
            cases e8
            obtain ⟨b9, d9, rfl, _, _⟩ := own_cell hu8
            simp only [List.length_nil] at *
            obtain ⟨w9, hw9⟩ : ∃ w9, w9 = w8.alloc (.cells #[.int .i64 2, .slice b9 0 d9, .slice b8 q d8, .bool false, .bool true, .string ⟨#[]⟩, .int .i64 0, .int .i64 0, .int .i64 0] 43) := ⟨_, rfl⟩
            have hb9 : Below w7.heap.size w7 w9 := by rw [hw9]; exact hb8.alloc hb8.size _
            have BW9 : Hid (Below w.heap.size w w9) := BW7.out.trans (hb9.mono BW7.out.size)
            have I9 : Hid (IntsAt w9 a1 Z) := I7.out.up hb9
            have C9 : Hid (CodesAt w9 b8 C) := by rw [hw9]; exact hcod.under (below_alloc _ _)
            have K9 : Hid (w9.heap[w8.heap.size]? = some (.cells #[.int .i64 2, .slice b9 0 d9, .slice b8 q d8, .bool false, .bool true, .string ⟨#[]⟩, .int .i64 0, .int .i64 0, .int .i64 0] 43 (0, 0))) := by rw [hw9]; exact heap_alloc_new w8 _
            clear hb8 hu8 hv8 PC hcod hb9 BW7 I7 HB7
            go_wp2_with fail
            try rw [← hw9]
            clear hw9
            obtain ⟨B, hBB⟩ : ∃ B, w8.heap.size = B := ⟨_, rfl⟩
            try rw [hBB]
            rw [hBB] at K9
            clear hBB
            go_loopw [16, 17] (fun lv i wx => ∃ (jj : Nat) (lo : Int), jj ≤ q ∧ lv = .int .i64 lo ∧ i = .int .i64 jj ∧ Hid (∀ (i' : Nat) (x : Int × Tok), jj ≤ i' → C[i']? = some x → lo ≤ x.2.off) ∧ Hid (Below w9.heap.size w9 wx)) (fun _ i _ => q - (intOf i).toNat)
            case atStart => exact ⟨0, 0, Nat.zero_le _, rfl, rfl, fun i' x _ hx => (Q4.out x (List.mem_of_getElem? hx)).1, Below.refl _ _⟩
            case round =>
              obtain ⟨jj, lo, hjj, rfl, rfl, hlo, hb⟩ := hrel
              have hk9 := (hb.out.block B (Array.getElem?_eq_some_iff.1 K9.out).1).trans K9.out
              have x0 : wr.cell? ⟨B, 0, none⟩ = some (.int .i64 2) := cell_whole hk9 0
              have x1 : wr.cell? ⟨B, 1, none⟩ = some (.slice b9 0 d9) := cell_whole hk9 1
              have x2 : wr.cell? ⟨B, 2, none⟩ = some (.slice b8 q d8) := cell_whole hk9 2
              have x3 : wr.cell? ⟨B, 3, none⟩ = some (.bool false) := cell_whole hk9 3
              have x4 : wr.cell? ⟨B, 4, none⟩ = some (.bool true) := cell_whole hk9 4
              clear hk9
              by_cases hjq : jj < q
              · have m1 : (jj : Int) < (q : Int) := by omega
                obtain ⟨cd, hcd⟩ : ∃ cd, C[jj]? = some cd := ⟨C[jj]'(by rw [HCl.out]; exact hjq), List.getElem?_eq_getElem _⟩
                obtain ⟨g1, o1, rfl, y0', y1', y2', y3', y4'⟩ := (C9.out.under hb.out) jj cd hcd
                have m2 : ¬ cd.2.off < lo := by have := hlo.out jj cd (Nat.le_refl _) hcd; omega
                have m3 : ¬ (cd.2.text.size : Int) = 0 := by have := (Q4.out cd (List.mem_of_getElem? hcd)).2; omega
                have m4 : ((cd.2.text.size : Int) == 0) = false := beq_eq_false_iff_ne.2 m3
                have HLO : Hid (∀ (i' : Nat) (x : Int × Tok), jj + 1 ≤ i' → C[i']? = some x → cd.2.off ≤ x.2.off) := fun i' x hi' hx => by
                  have hp := List.pairwise_iff_getElem.1 Q3.out
                  obtain ⟨h1, h2⟩ := List.getElem?_eq_some_iff.1 hcd
                  obtain ⟨h3, h4⟩ := List.getElem?_eq_some_iff.1 hx
                  have := hp jj i' h1 h3 (by omega)
                  rw [h2, h4] at this
                  exact this
                clear hcd y0' y3' y4' hlo x0 x1 x3 x4
                go_wp2
                exact ⟨⟨jj + 1, cd.2.off, by omega, rfl, by go_num, HLO.out, hb.out⟩, by simp [intOf]; omega⟩
              · have m1 : ¬ (jj : Int) < (q : Int) := by omega
                have BWr : Hid (Below w.heap.size w wr) := BW9.out.trans (hb.out.mono BW9.out.size)
                have SA : Hid _ := says_any wr b8 q d8 C HCl.out (by omega) (C9.out.under hb.out) a1 c1 (by rw [Q1.out]; exact I9.out.up hb.out)
                go_wp2_with fail
                refine Calls.mono SA.out ?_
                rintro e wz ⟨rfl, hbz⟩
                have BE : Hid (Below w.heap.size w wz) := BWr.out.trans (hbz.mono BWr.out.size)
                clear SA hbz
                go_wp2
                go_ret
                exact ⟨by first | rfl | simp, BE.out⟩
end Go.Proofs.YtffchjigpppoaaaDoor
