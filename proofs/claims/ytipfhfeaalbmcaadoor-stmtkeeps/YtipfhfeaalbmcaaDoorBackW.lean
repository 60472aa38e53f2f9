/- Laid together: BkFit, BackWalk. -/
import Derived.Test.YtipfhfeaalbmcaaDoorBkMd
import Derived.Test.YtipfhfeaalbmcaaDoorBkSame
import Derived.Test.YtipfhfeaalbmcaaDoorBkAl
import Derived.Test.YtipfhfeaalbmcaaDoorRRead
namespace Go.Proofs.YtipfhfeaalbmcaaDoor
open Go.RowKit

theorem wds_plain (l : List Int) : allPl (l.map wdT) = true := by
  unfold allPl
  rw [List.all_map]
  exact List.all_eq_true.2 fun x _ => wd_plain x
theorem allPl_app {a b : List Tok} (h : allPl a = true) (k : allPl b = true) : allPl (a ++ b) = true := by
  unfold allPl at h k ⊢
  rw [List.all_append, h, k]; rfl
theorem plW_plain (p : Pln) : allPl (plW p) = true := by
  unfold plW
  split
  · rfl
  · refine allPl_app (wds_plain [w64 (p.lb + 1), w64 (p.lb + 2)]) ?_
    split
    · rfl
    · exact wds_plain _
theorem plW_len (p : Pln) : (brkB (plK p) = true → (plW p).length = 0) ∧ (brkB (plK p) = false → 2 ≤ (plW p).length ∧ (plW p).length ≤ 32 ∧ (plK p = 3 → (plW p).length = 2)) := by
  unfold plW
  constructor
  · intro h; rw [if_pos h]; rfl
  · intro h
    rw [if_neg (by rw [h]; exact Bool.false_ne_true), List.length_append]
    by_cases h3 : plK p = 3
    · rw [if_pos h3]; exact ⟨by simp, by simp, fun _ => rfl⟩
    · rw [if_neg h3, List.length_map, List.length_take]
      refine ⟨by simp, by simp; omega, fun e => absurd e h3⟩
theorem pl_may (p : Pln) : mayS (plS p) = true := by
  obtain ⟨k0, k10⟩ := plK_range p
  obtain ⟨l1, l2⟩ := plW_len p
  refine parts_may (k := plK p) rfl ⟨k0, k10, ?_, ?_, ?_, plW_plain p, ?_⟩
  · show labOk (labB (plK p)) (plLab p).text = true
    unfold plLab
    cases labB (plK p) with
    | true => exact wd_plain p.lb
    | false => rw [if_neg Bool.false_ne_true]; unfold labOk zTok; rw [ByteArray.toList_eq]; rfl
  · show lstI (plK p) ≤ ((plW p).length : Int)
    generalize (plW p).length = n at *
    generalize plK p = k at *
    rcases ten k10 with rfl | rfl | rfl | rfl | rfl | rfl | rfl | rfl | rfl | rfl
    all_goals first
      | (have h := (l2 rfl).1; have e : lstI 1 = 1 := rfl; have e2 : lstI 2 = 1 := rfl; have e3 : lstI 3 = 2 := rfl; have e4 : lstI 4 = 1 := rfl; have e5 : lstI 5 = 2 := rfl; have e6 : lstI 6 = 1 := rfl; have e7 : lstI 7 = 1 := rfl; omega)
      | (have h := l1 rfl; have e8 : lstI 8 = 0 := rfl; have e9 : lstI 9 = 0 := rfl; omega)
      | omega
  · show ((plW p).length : Int) ≤ mstI (plK p)
    generalize (plW p).length = n at *
    generalize plK p = k at *
    rcases ten k10 with rfl | rfl | rfl | rfl | rfl | rfl | rfl | rfl | rfl | rfl
    all_goals first
      | (have h := l2 rfl; have e : mstI 1 = 9223372036854775807 := rfl; have e2 : mstI 2 = 9223372036854775807 := rfl; have e3 : mstI 3 = 2 := rfl; have e4 : mstI 4 = 9223372036854775807 := rfl; have e5 : mstI 5 = 32 := rfl; have e6 : mstI 6 = 9223372036854775807 := rfl; have e7 : mstI 7 = 9223372036854775807 := rfl; have h3 := h.2.2; omega)
      | (have h := l1 rfl; have e8 : mstI 8 = 0 := rfl; have e9 : mstI 9 = 0 := rfl; omega)
      | omega
  · by_cases h7 : plK p = 7
    · exact .inl ⟨h7, by show allPl (plP p) = true; unfold plP; rw [if_pos h7]; exact wds_plain _⟩
    · exact .inr ⟨h7, by show plP p = []; unfold plP; rw [if_neg h7]⟩
theorem wd_mem {x : ByteArray} {ts : List Tok} (h : ∀ t ∈ ts, t.text.size ≤ 5) (hx : x ∈ textsL ts) : x.size ≤ 5 := by
  obtain ⟨t, ht, rfl⟩ := List.mem_map.1 hx
  exact h t ht
theorem plW_size (p : Pln) : ∀ t ∈ plW p, t.text.size ≤ 5 := by
  have m : ∀ (l : List Int), ∀ t ∈ l.map wdT, t.text.size ≤ 5 := fun l t ht => by
    obtain ⟨x, _, rfl⟩ := List.mem_map.1 ht
    exact wd_size x
  unfold plW
  split
  · intro t ht; cases ht
  · intro t ht
    rcases List.mem_append.1 ht with ht | ht
    · exact m [w64 (p.lb + 1), w64 (p.lb + 2)] t ht
    · split at ht
      · cases ht
      · exact m _ t ht
theorem plP_size (p : Pln) : ∀ t ∈ plP p, t.text.size ≤ 5 := by
  unfold plP
  split
  · intro t ht
    obtain ⟨x, _, rfl⟩ := List.mem_map.1 ht
    exact wd_size x
  · intro t ht; cases ht
theorem kw_sz : ∀ k, k < 10 → (kwB k).size ≤ 5 := by decide
theorem pl_line (p : Pln) : (∀ x ∈ lineWS (plS p), x.size ≤ 5) ∧ (lineWS (plS p)).length ≤ (plW p).length + (plP p).length + 4 := by
  obtain ⟨k0, k10⟩ := plK_range p
  have ek : (plS p).kind.toNat = plK p := Int.toNat_natCast _
  have hl : (plLab p).text.size ≤ 5 := by
    unfold plLab
    split
    · exact wd_size _
    · exact Nat.zero_le _
  unfold lineWS lineW
  rw [ek]
  constructor
  · intro x hx
    rcases List.mem_append.1 hx with hx | hx
    · rcases List.mem_append.1 hx with hx | hx
      · rcases List.mem_append.1 hx with hx | hx
        · rcases List.mem_append.1 hx with hx | hx
          · split at hx
            · rw [List.mem_singleton.1 hx]; exact hl
            · cases hx
          · rw [List.mem_singleton.1 hx]; exact kw_sz _ k10
        · exact wd_mem (plW_size p) hx
      · split at hx
        · rcases List.mem_cons.1 hx with rfl | hx
          · decide
          · exact wd_mem (plP_size p) hx
        · cases hx
    · split at hx
      · cases hx
      · rw [List.mem_singleton.1 hx]; decide
  · simp only [List.length_append, textsL_len]
    have e1 : (plS p).words.length = (plW p).length := rfl
    have e2 : (plS p).proof.length = (plP p).length := rfl
    rw [e1]
    have h1 : (if labB (plK p) = true then [(plS p).label.text] else []).length ≤ 1 := by split <;> simp
    have h2 : (if plK p = 7 then proofS :: textsL (plS p).proof else []).length ≤ (plP p).length + 1 := by
      split
      · rw [List.length_cons, textsL_len, e2]; exact Nat.le_refl _
      · exact Nat.zero_le _
    have h3 : (if brkB (plK p) = true then ([] : List ByteArray) else [endS]).length ≤ 1 := by split <;> simp
    simp only [List.length_singleton]
    omega
theorem jn_sz : ∀ (l : List ByteArray), (∀ x ∈ l, x.size ≤ 5) → (jn l).length ≤ 6 * l.length := fun l h => by
  have h1 : (jn l).length ≤ (l.flatMap fun y => 32 :: y.data.toList).length := by
    cases l with
    | nil => exact Nat.zero_le _
    | cons x r => unfold jn; rw [List.flatMap_cons]; simp
  have h2 : ∀ (m : List ByteArray), (∀ x ∈ m, x.size ≤ 5) → (m.flatMap fun y => 32 :: y.data.toList).length ≤ 6 * m.length := fun m => by
    induction m with
    | nil => exact fun _ => Nat.le_refl _
    | cons y m ih =>
      intro hm
      have i := ih fun x hx => hm x (List.mem_cons_of_mem _ hx)
      have j := hm y List.mem_cons_self
      have e : y.data.toList.length = y.size := rfl
      rw [List.flatMap_cons, List.length_append, List.length_cons, List.length_cons, e]
      omega
  exact Nat.le_trans h1 (h2 l h)
theorem made_fit : ∀ (l : List Pln) (n : Nat), n ≤ 5000 → (madeF n l).all mayS = true ∧ (rbytes (madeF n l)).length + 7 * n ≤ 35000 ∧ rcount (madeF n l) + n ≤ 5000 ∧ (madeF n l).length + n ≤ 5000 ∧ ∀ s ∈ madeF n l, StmSm s
  | [], n, h => ⟨rfl, by show 0 + 7 * n ≤ 35000; omega, by show 0 + n ≤ 5000; omega, by show 0 + n ≤ 5000; omega, fun s h => by cases h⟩
  | p :: r, n, h => by
    rw [madeF]
    split
    · exact ⟨rfl, by show 0 + 7 * n ≤ 35000; omega, by show 0 + n ≤ 5000; omega, by show 0 + n ≤ 5000; omega, fun s h => by cases h⟩
    · rename_i hb
      obtain ⟨i1, i2, i3, i4, i5⟩ := made_fit r (n + (plW p).length + (plP p).length + 5) (by omega)
      obtain ⟨j1, j2⟩ := pl_line p
      have j3 := jn_sz _ j1
      refine ⟨by rw [List.all_cons, pl_may p, i1]; rfl, ?_, ?_, ?_, fun s hs => ?_⟩
      · have e : rbytes (plS p :: madeF (n + (plW p).length + (plP p).length + 5) r) = (jn (lineWS (plS p)) ++ [10]) ++ rbytes (madeF (n + (plW p).length + (plP p).length + 5) r) := by unfold rbytes; rw [List.flatMap_cons]
        rw [e, List.length_append, List.length_append, List.length_singleton]
        omega
      · have e : rcount (plS p :: madeF (n + (plW p).length + (plP p).length + 5) r) = (lineWS (plS p)).length + rcount (madeF (n + (plW p).length + (plP p).length + 5) r) := by unfold rcount; rw [List.map_cons, List.sum_cons]
        rw [e]
        omega
      · rw [List.length_cons]; omega
      · rcases List.mem_cons.1 hs with rfl | hs
        · refine ⟨by show (plW p).length ≤ _; omega, by show (plP p).length ≤ _; omega, fun t ht => by have := plW_size p t ht; omega, fun t ht => by have := plP_size p t ht; omega, ?_⟩
          show (plLab p).text.size ≤ 1048576
          unfold plLab
          split
          · have := wd_size p.lb; show (wdB p.lb).size ≤ 1048576; omega
          · exact Nat.zero_le _
        · exact i5 s hs
theorem made_prints (l : List Pln) : printE (madeF 0 l) = 0 := by
  obtain ⟨h1, h2, h3, _⟩ := made_fit l 0 (by omega)
  rw [(print_same _).2]
  unfold rprintE
  rw [if_pos h1, if_neg (by omega)]
def TkSm (t : Tok) : Prop := t.text.size ≤ 1048576
theorem tksm_z : TkSm zTok := Nat.zero_le _
structure SmS (s : Stm) : Prop where
  l : TkSm s.label
  w : ∀ t ∈ s.words, TkSm t
  p : ∀ t ∈ s.proof, TkSm t
structure SmP (P : PS) : Prop where
  wt : TkSm P.wt
  l : ∀ s ∈ P.l, SmS s
theorem within_sm {s : Stm} {t : Tok} (h : SmS s) (ht : TkSm t) : SmS (withinF s t).2.1 := by
  unfold withinF
  split
  · dsimp only; unfold addF
    split
    · exact ⟨h.l, h.w, mem_snoc h.p ht⟩
    · split
      · exact h
      · exact ⟨h.l, mem_snoc h.w ht, h.p⟩
  · split
    · dsimp only; unfold begF
      split
      · split
        · exact h
        · split
          · exact h
          · exact ⟨h.l, h.w, h.p⟩
      · exact h
    · split
      · dsimp only; unfold endF
        split
        · exact h
        · split
          · exact h
          · exact ⟨h.l, h.w, h.p⟩
      · exact h
theorem take_sm {P : PS} {t : Tok} (h : SmP P) (ht : TkSm t) : SmP (takeF P t).2 := by
  unfold takeF
  split
  · cases hl : P.l.getLast? with
    | none => exact h
    | some s => exact ⟨h.wt, mem_snoc (fun x hx => h.l x (List.dropLast_subset _ hx)) (within_sm (h.l s (List.mem_of_getLast? hl)) ht)⟩
  · unfold betweenF
    split
    · split
      · exact h
      · exact ⟨ht, h.l⟩
    · split
      · exact h
      · split
        · exact h
        · refine ⟨tksm_z, mem_snoc h.l ?_⟩
          unfold newS
          split
          · exact ⟨tksm_z, (fun t h => by cases h), (fun t h => by cases h)⟩
          · exact ⟨h.wt, (fun t h => by cases h), (fun t h => by cases h)⟩
theorem run_sm : ∀ (ts : List Tok) (P : PS), SmP P → (∀ t ∈ ts, TkSm t) → SmP (runT P ts).1
  | [], _, h, _ => h
  | t :: ts, P, h, ht => by
    unfold runT
    have h2 := take_sm h (ht t List.mem_cons_self)
    split
    · exact run_sm ts _ h2 fun u hu => ht u (List.mem_cons_of_mem _ hu)
    · exact h2
theorem SmallP.up2 {P : PS} {j k : Nat} (h : SmallP P j) (hk : j ≤ k) : SmallP P k := ⟨Nat.le_trans h.1 hk, fun s hs => ⟨Nat.le_trans (h.2 s hs).1 hk, Nat.le_trans (h.2 s hs).2 hk⟩⟩
theorem runT_sml : ∀ (ts : List Tok) (P : PS) (j : Nat), SmallP P j → SmallP (runT P ts).1 (j + ts.length)
  | [], _, _, h => h
  | t :: ts, P, j, h => by
    unfold runT
    rw [List.length_cons]
    split
    · exact (runT_sml ts _ (j + 1) (takeF_small h)).up2 (by omega)
    · exact (takeF_small h).up2 (by omega)
theorem read_stm (s : ByteArray) : (readF s).1.l.length ≤ 16384 ∧ ∀ x ∈ (readF s).1.l, StmSm x := by
  have h1 := (runT_sml (wordsF s) ps0 0 ⟨Nat.le_refl _, fun s hs => by cases hs⟩).up2 (k := 16384) (by have := words_few s; omega)
  have h2 := run_sm (wordsF s) ps0 ⟨tksm_z, fun s hs => by cases hs⟩ (fun t ht => by have := words_size s t ht; show t.text.size ≤ 1048576; omega)
  have e : (readF s).1 = (runT ps0 (wordsF s)).1 := by
    unfold readF
    obtain ⟨P, f, hP⟩ : ∃ P f, runT ps0 (wordsF s) = (P, f) := ⟨_, _, rfl⟩
    rw [hP]
    cases f with
    | some f => rfl
    | none =>
      dsimp only
      cases (K.scanF s).2 with
      | some f => rfl
      | none =>
        dsimp only
        split <;> rfl
  rw [e]
  exact ⟨h1.1, fun x hx => ⟨by have := (h1.2 x hx).1; omega, by have := (h1.2 x hx).2; omega, (h2.l x hx).w, (h2.l x hx).p, (h2.l x hx).l⟩⟩
theorem ReadIs.stmts {w w' : World} {v fv : Value} {its : List Itm} {P : PS} {f : Option (Tok × Int)} (h : ReadIs w w' v fv its P f) : ∃ a c, v = .slice a P.l.length c ∧ StmtsAt w' a P.l := by
  obtain ⟨a, c, e, hs⟩ := stmts_own (H := fun _ => True) h.own fun x hx => ⟨M.RowIn.own (h.all x hx).ow fun _ _ => trivial, M.RowIn.own (h.all x hx).op fun _ _ => trivial⟩
  rw [h.l] at hs
  exact ⟨a, c, by rw [e, ← h.l, List.length_map], hs⟩
theorem sm2_of {a b : List Stm} (h : AlkL a b) (ha : ∀ x ∈ a, Whole x) (hb : ∀ x ∈ b, Whole x) : Sm2L a b := ⟨h.1, fun i x y hx hy => by
  have k := h.2 i x y hx hy
  have wx := ha x (List.mem_of_getElem? hx)
  have wy := hb y (List.mem_of_getElem? hy)
  exact ⟨k, by rw [wx.pr, wy.pr, k.k], by rw [wx.ky, wy.ky, k.k], by rw [wx.fn, wy.fn, k.k]⟩⟩
end Go.Proofs.YtipfhfeaalbmcaaDoor

namespace Go.Proofs.YtipfhfeaalbmcaaDoor
open Go.RowKit

theorem alkL_mem {a b : List Stm} (h : AlkL a b) : a.length = b.length := h.1
set_option maxRecDepth 100000 in
set_option maxHeartbeats 16000000 in
theorem back_walk (w : World) (a : Option Addr) (n c : Nat) (l : List Pln) (s : ByteArray) (hl : l.length = n) (hn : n ≤ 1099511627776) (hA : PlansAt w a l) (hok : ∀ p ∈ l, PlnOk p) (hs : s.size ≤ 140737488355328) (hT : RdW w) :
    Calls Tryd.prog 8 #[.slice a n c, .string s] w fun e w' => e = .returned (.bool true) ∧ Below w.heap.size w w' := by
  have HT : Hid (RdW w) := hT
  have MD : Hid _ := made_pl w a n c l hl hn hA hok
  obtain ⟨m1, m2, m3, m4, m5⟩ := made_fit l 0 (by omega)
  have mp := made_prints l
  obtain ⟨L, hL⟩ : ∃ L, madeF 0 l = L := ⟨_, rfl⟩
  rw [hL] at MD m1 m2 m3 m4 m5 mp
  obtain ⟨L', hr1, hr2, hr3⟩ := read_print mp
  obtain ⟨u1, hu1⟩ : ∃ u, printB L = u := ⟨_, rfl⟩
  rw [hu1] at hr1
  have hus : u1.size ≤ 65536 := by
    have h := (print_fit mp).2
    have h6 := h.2.b6
    rw [← hu1, h.1]
    show (K.bytesL (L.flatMap lineS)).toArray.size ≤ 65536
    rw [List.size_toArray]
    exact h6
  have HF : Hid (printE L = 0 ∧ printB L = u1 ∧ L.length ≤ 5000 ∧ (∀ x ∈ L, StmSm x)) := ⟨mp, hu1, by omega, m5⟩
  have HR : Hid (readF u1 = (⟨L', false, zTok⟩, none) ∧ AlkL L' L) := ⟨hr1, hr2⟩
  obtain ⟨nl, hnl⟩ : ∃ nl, L.length = nl := ⟨_, rfl⟩
  have HNL : Hid (L.length = nl) := hnl
  have hnlb : nl ≤ 5000 := by rw [← hnl]; omega
  have HS : Hid (s.size ≤ 140737488355328) := hs
  have RD : Hid (∀ (t : ByteArray), t.size ≤ 140737488355328 → ∀ wx, Below w.heap.size w wx → Calls Tryd.prog 9 #[.string t] wx (ReadPost wx t)) := fun t ht wx hb => read_any wx t ht (HT.out.under hb)
  clear hT hA hok hs hL m1 m2 m3 m4 m5 mp hr1 hr2 hr3 hu1 hnl hl hn
  go_enter Tryd.func8, Tryd.ntmps8
  go_wp2_with fail
  refine Calls.mono MD.out ?_
  rintro e w1 ⟨a1, c1, rfl, hs1, hb1⟩
  rw [HNL.out]
  have B1 : Hid (Below w.heap.size w w1) := hb1
  have S1 : Hid (StmtsAt w1 a1 L) := hs1
  have PR : Hid _ := print_any w1 a1 nl c1 L HNL.out (by omega) HF.out.2.2.2 hs1 (HT.out.sh.under hb1)
  rw [HF.out.1, HF.out.2.1] at PR
  clear hs1 hb1 MD
  go_wp2_with fail
  refine Calls.mono PR.out ?_
  rintro e w2 ⟨rfl, hb2⟩
  have B2 : Hid (Below w.heap.size w w2) := B1.out.trans (hb2.mono B1.out.size)
  have S2 : Hid (StmtsAt w2 a1 L) := S1.out.under hb2
  have R1 : Hid _ := RD.out u1 (by omega) w2 B2.out
  clear hb2 PR S1 B1
  go_wp2_with fail
  refine Calls.mono R1.out ?_
  rintro e w3 ⟨v3, f3, its3, rfl, hr3⟩
  obtain ⟨a3, c3, ev, hst⟩ := hr3.stmts
  have hft := hr3.ft
  rw [HR.out.1] at ev hst hft
  dsimp only at ev hst hft
  have hf3 : f3 = .pointer none := hft
  rw [HR.out.2.1, HNL.out] at ev
  subst ev hf3
  have B3 : Hid (Below w.heap.size w w3) := B2.out.trans (hr3.bel.mono B2.out.size)
  have S3 : Hid (StmtsAt w3 a1 L) := S2.out.under hr3.bel
  have AK : Hid _ := alike_eq w3 a3 a1 nl c3 c1 L' L (by rw [HR.out.2.1]; exact HNL.out) (by omega) (fun x hx => by
    obtain ⟨i, hi⟩ := List.getElem?_of_mem hx
    obtain ⟨y, hy⟩ : ∃ y, L[i]? = some y := ⟨_, List.getElem?_eq_getElem (by rw [← HR.out.2.1]; exact (List.getElem?_eq_some_iff.1 hi).1)⟩
    have k := HR.out.2.2 i x y hi hy
    have z := HF.out.2.2.2 y (List.mem_of_getElem? hy)
    rw [texts_len k.w, texts_len k.p]
    exact ⟨z.nw, z.np⟩) HR.out.2 hst S3.out
  clear hr3 hst hft R1 S2 B2
  go_wp2_with fail
  refine Calls.mono AK.out ?_
  rintro e w4 ⟨rfl, hb4⟩
  have B4 : Hid (Below w.heap.size w w4) := B3.out.trans (hb4.mono B3.out.size)
  have R2 : Hid _ := RD.out s HS.out w4 B4.out
  clear hb4 AK S3 B3
  go_wp2_with fail
  refine Calls.mono R2.out ?_
  rintro e w5 ⟨v5, f5, its5, rfl, hr5⟩
  obtain ⟨a5, c5, ev, hst⟩ := hr5.stmts
  subst ev
  obtain ⟨hk1, hk2⟩ := read_stm s
  have B5 : Hid (Below w.heap.size w w5) := B4.out.trans (hr5.bel.mono B4.out.size)
  have S5 : Hid (StmtsAt w5 a5 (readF s).1.l) := hst
  cases hf : (readF s).2 with
  | some f =>
    have hft := hr5.ft
    rw [hf] at hft
    obtain ⟨Bf, rfl, _, _⟩ := hft
    clear hr5 hst R2 RD hf hk1 hk2 B4 S5
    generalize (readF s).1.l.length = nk
    go_wp2
    go_ret
    exact ⟨rfl, B5.out⟩
  | none =>
    have hft := hr5.ft
    rw [hf] at hft
    have hf5 : f5 = .pointer none := hft
    subst hf5
    obtain ⟨_, hwh⟩ := read_whole hf
    obtain ⟨K', hK⟩ : ∃ K', (readF s).1.l = K' := ⟨_, rfl⟩
    rw [hK] at S5 hk1 hk2 hwh
    rw [hK]
    obtain ⟨nk, hnk⟩ : ∃ nk, K'.length = nk := ⟨_, rfl⟩
    rw [hnk] at hk1
    rw [hnk]
    have HK : Hid (K'.length = nk ∧ (∀ x ∈ K', StmSm x) ∧ ∀ x ∈ K', Whole x) := ⟨hnk, hk2, hwh⟩
    have PR : Hid _ := print_any w5 a5 nk c5 K' hnk (by omega) hk2 S5.out (HT.out.sh.under B5.out)
    have hall := whole_all hwh
    obtain ⟨pe, hpe⟩ : ∃ pe, printE K' = pe := ⟨_, rfl⟩
    obtain ⟨u, hu⟩ : ∃ u, printB K' = u := ⟨_, rfl⟩
    rw [hpe, hu] at PR
    by_cases h0 : pe = 0
    · subst h0
      obtain ⟨L2, hr1, hr2, hr3⟩ := read_print hpe
      rw [hu] at hr1
      have hus2 : u.size ≤ 65536 := by
        have h := (print_fit hpe).2
        have h6 := h.2.b6
        rw [← hu, h.1]
        show (K.bytesL (K'.flatMap lineS)).toArray.size ≤ 65536
        rw [List.size_toArray]
        exact h6
      obtain ⟨p1, p2⟩ := print_alk hr2
      rw [hu] at p1
      rw [hpe] at p2
      have HR2 : Hid (readF u = (⟨L2, false, zTok⟩, none) ∧ AlkL L2 K' ∧ (∀ x ∈ L2, Whole x) ∧ printB L2 = u ∧ printE L2 = 0) := ⟨hr1, hr2, hr3, p1, p2⟩
      clear hr5 hst R2 hf hft hk2 hwh hK hnk hall hpe hu hr1 hr2 hr3 p1 p2 B4
      go_wp2_with fail
      refine Calls.mono PR.out ?_
      rintro e w6 ⟨rfl, hb6⟩
      have B6 : Hid (Below w.heap.size w w6) := B5.out.trans (hb6.mono B5.out.size)
      have S6 : Hid (StmtsAt w6 a5 K') := S5.out.under hb6
      have R3 : Hid _ := RD.out u (by omega) w6 B6.out
      clear hb6 PR S5 B5
      go_wp2_with fail
      refine Calls.mono R3.out ?_
      rintro e w7 ⟨v7, f7, its7, rfl, hr7⟩
      obtain ⟨a7, c7, ev, hst⟩ := hr7.stmts
      have hft := hr7.ft
      have hsm := (read_stm u).2
      rw [HR2.out.1] at ev hst hft hsm
      dsimp only at ev hst hft hsm
      have hf7 : f7 = .pointer none := hft
      rw [HR2.out.2.1.1, HK.out.1] at ev
      subst ev hf7
      have B7 : Hid (Below w.heap.size w w7) := B6.out.trans (hr7.bel.mono B6.out.size)
      have S7 : Hid (StmtsAt w7 a5 K') := S6.out.under hr7.bel
      have T7 : Hid (StmtsAt w7 a7 L2) := hst
      have HSM : Hid (∀ x ∈ L2, StmSm x) := hsm
      have PR2 : Hid _ := print_any w7 a7 nk c7 L2 (by rw [HR2.out.2.1.1]; exact HK.out.1) (by omega) hsm hst (HT.out.sh.under B7.out)
      rw [HR2.out.2.2.2.1, HR2.out.2.2.2.2] at PR2
      clear hr7 hst hft hsm R3 S6 B6
      go_wp2_with fail
      refine Calls.mono PR2.out ?_
      rintro e w8 ⟨rfl, hb8⟩
      have B8 : Hid (Below w.heap.size w w8) := B7.out.trans (hb8.mono B7.out.size)
      have SE : Hid _ := sameF_eq w8 a7 a5 nk c7 c5 L2 K' (by rw [HR2.out.2.1.1]; exact HK.out.1) (by omega) HSM.out (sm2_of HR2.out.2.1 HR2.out.2.2.1 HK.out.2.2) (T7.out.under hb8) (S7.out.under hb8)
      clear hb8 PR2 S7 T7 B7
      go_wp2_with fail
      refine Calls.mono SE.out ?_
      rintro e w9 ⟨rfl, hb9⟩
      have B9 : Hid (Below w.heap.size w w9) := B8.out.trans (hb9.mono B8.out.size)
      clear hb9 SE
      go_wp2
      go_ret
      exact ⟨rfl, B9.out⟩
    · have h13 : pe = 13 := by
        rw [← hpe]
        unfold printE
        rw [if_pos hall]
        split
        · rename_i hh
          exact absurd (by rw [← hpe]; unfold printE; rw [if_pos hall, if_pos hh]) h0
        · rfl
      have hu0 : u = ⟨#[]⟩ := by
        rw [← hu]
        unfold printB
        rw [if_neg]
        rintro ⟨_, hh⟩
        exact h0 (by rw [← hpe]; unfold printE; rw [if_pos hall, if_pos hh])
      subst h13 hu0
      clear hr5 hst R2 hf hft hk2 hwh hK hnk hall hpe hu h0 B4
      go_wp2_with fail
      refine Calls.mono PR.out ?_
      rintro e w6 ⟨rfl, hb6⟩
      have B6 : Hid (Below w.heap.size w w6) := B5.out.trans (hb6.mono B5.out.size)
      clear hb6 PR S5 B5
      go_wp2
      go_ret
      exact ⟨rfl, B6.out⟩
end Go.Proofs.YtipfhfeaalbmcaaDoor
