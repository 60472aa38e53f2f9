/- Words of any numbers: the program's Print and the document's. -/
import Derived.Test.YtmgpnaehniohgaaDoorRefD
import Derived.Test.YtmgpnaehniohgaaDoorShelfT
import Derived.Lib.SmallJoins
namespace Go.Proofs.YtmgpnaehniohgaaDoor.R
open Go.RowKit Go.Deep
open Go.Proofs.YtmgpnaehniohgaaDoor.E

/-- The word of a number: a symbol's name, else its digits behind a mark. -/
def wordW (T : Tab) (n : Int) : ByteArray := match symAt T n with | some p => p.1 | none => ⟨(36 :: Lib.itoa n).toArray⟩
def Rng (n : Int) : Prop := -9223372036854775808 ≤ n ∧ n ≤ 9223372036854775807
theorem itoa_le (n : Int) (h : Rng n) : (Lib.itoa n).length ≤ 21 := by
  obtain ⟨h0, h1⟩ := h
  unfold Lib.itoa
  split
  · have := digs_le n.natAbs (by omega)
    simp only [List.length_cons]; omega
  · have := digs_le n.toNat (by omega)
    omega
theorem symAt_mem {T : Tab} {n : Int} {p : ByteArray × Bool} (h : symAt T n = some p) : p ∈ T.syms := by
  unfold symAt at h
  split at h
  · exact List.mem_of_getElem? h
  · cases h
theorem made_ne {s : ByteArray} {k : Int} (h : madeB s k = true) : s ≠ ⟨#[]⟩ := fun e => by
  subst e
  unfold madeB at h
  simp at h
  exact absurd h.1 (by decide)
theorem word_le {T : Tab} {k : Nat} (hT : T.Ok k) (n : Int) (h : Rng n) : (wordW T n).size ≤ 32 := by
  unfold wordW
  cases hp : symAt T n with
  | some p => exact made_size (hT.names p (symAt_mem hp))
  | none =>
    have := itoa_le n h
    show (List.toArray (36 :: Lib.itoa n)).size ≤ 32
    simp; omega
theorem grow_under {w : World} {k : Nat} {os : Array Obj} : Below w.heap.size w (Sort.grow (w.drewN k) os) := by
  refine ⟨rfl, rfl, rfl, ?_, fun i hi => ?_⟩
  · unfold Sort.grow World.drewN; simp
  · unfold Sort.grow World.drewN
    simp only [Array.getElem?_append, hi, if_true]
abbrev Pow (w : World) : Prop := Lib.TabIs Tryd.prog w "internal/strconv.uint64pow10" .u64 Lib.pow10Tab
theorem pow_named : ∃ g, Tryd.prog.globalNamed "internal/strconv.uint64pow10" = some g := by
  cases h : Tryd.prog.globalNamed "internal/strconv.uint64pow10" with
  | some g => exact ⟨g, rfl⟩
  | none => exact absurd h (by
      have : (Tryd.prog.globalNamed "internal/strconv.uint64pow10").isSome = true := by kernel_rfl
      intro e; rw [e] at this; cases this)
theorem Pow.under {w w' : World} (h : Pow w) (hb : Below w.heap.size w w') : Pow w' := by
  obtain ⟨g, hg⟩ := pow_named
  exact Go.Joins.tab_stays hg h hb (Nat.le_refl _)

set_option maxRecDepth 100000 in
set_option maxHeartbeats 1000000 in
theorem wordw_any (w : World) (bs : List Nat) (B k : Nat) (T : Tab) (n : Int) (hT : T.Ok k) (hn : Rng n) (h : TabAt w bs B k T) (hp : Pow w) :
    Calls Tryd.prog 41 #[.pointer (some ⟨B, 0, none⟩), .int .i64 n] w fun e w' => e = .returned (.string (wordW T n)) ∧ Below w.heap.size w w' := by
  have h5 := hT.syms
  cases hs : symAt T n with
  | some p =>
    have e : wordW T n = p.1 := by unfold wordW; rw [hs]
    rw [e]
    exact word_any w bs B k T n p (by omega) h hs (made_ne (hT.names p (symAt_mem hs)))
  | none =>
    have HW : Hid (wordW T n = ⟨(36 :: Lib.itoa n).toArray⟩) := by show _ = _; unfold wordW; rw [hs]
    have A := name_of w bs B k T n (by omega) h
    rw [hs] at A
    replace A : Calls Tryd.prog 59 #[.pointer (some ⟨B, 0, none⟩), .int .i64 n] w fun e w' => e = .returned (.string ⟨#[]⟩) ∧ Below w.heap.size w w' := A
    replace A := show Hid _ from A
    have hne : ((ByteArray.mk #[]).toList == (ByteArray.mk #[]).toList) = true := by rw [same_bytes, decide_eq_true rfl]
    have I : Hid (∀ w1, Below w.heap.size w w1 → Calls Tryd.prog 60 #[.int .i64 n] w1 fun e w' => e = .returned (.string ⟨(Lib.itoa n).toArray⟩) ∧ Below w1.heap.size w1 w') := fun w1 h1 =>
      (Tryd.strconv_Itoa n hn.1 hn.2 w1 (hp.under h1)).mono (by
        rintro e w' ⟨rfl, k, os, rfl⟩
        exact ⟨rfl, grow_under⟩)
    have hl := itoa_le n hn
    generalize Lib.itoa n = D at *
    clear h hs hp hn hT
    go_enter Tryd.func41, Tryd.ntmps41
    go_wp2_with fail
    refine Calls.mono A.out ?_
    rintro e w1 ⟨rfl, hb⟩
    have C : Hid _ := I.out w1 hb
    have Hb : Hid (Below w.heap.size w w1) := hb
    clear A I hb
    go_wp2_with fail
    refine Calls.mono C.out ?_
    rintro e w2 ⟨rfl, hb2⟩
    have Hb2 : Hid (Below w.heap.size w w2) := Hb.out.trans (hb2.mono Hb.out.size)
    clear C hb2
    go_wp2
    go_ret
    refine ⟨?_, Hb2.out⟩
    rw [HW.out]
    exact congrArg (fun x => Ending.returned (.string x)) (ByteArray.ext (by simp))

/-- What is printed. -/
def textW (T : Tab) (l : List Int) : List UInt8 := glue (l.map (wordW T))
theorem text_len {T : Tab} {k : Nat} (hT : T.Ok k) (l : List Int) (h : ∀ x ∈ l, Rng x) : (textW T l).length ≤ 33 * l.length := by
  have key : ∀ m : List Int, (∀ x ∈ m, Rng x) → ((m.map (wordW T)).flatMap (fun t => 32 :: t.data.toList)).length ≤ 33 * m.length := by
    intro m hm
    induction m with
    | nil => simp
    | cons a m ih =>
      have h1 := ih fun x hx => hm x (by simp [hx])
      have h2 : (wordW T a).data.size ≤ 32 := word_le hT a (hm a (by simp))
      simp only [List.map_cons, List.flatMap_cons, List.length_append, List.length_cons, Array.length_toList] at h1 ⊢
      omega
  cases l with
  | nil => simp [textW, glue]
  | cons a m =>
    have h1 := key m fun x hx => h x (by simp [hx])
    have h2 : (wordW T a).data.size ≤ 32 := word_le hT a (h a (by simp))
    simp only [textW, glue, List.map_cons, List.length_append, List.length_cons, Array.length_toList] at h1 ⊢
    omega
theorem text_snoc (T : Tab) {l : List Int} (x : Int) (h : l ≠ []) : textW T (l ++ [x]) = textW T l ++ 32 :: (wordW T x).data.toList := by
  unfold textW
  rw [List.map_append]
  exact glue_snoc _ (by simpa using h)
theorem text_one (T : Tab) (x : Int) : textW T [x] = (wordW T x).data.toList := by simp [textW, glue]

set_option maxRecDepth 100000 in
set_option maxHeartbeats 4000000 in
theorem printw_any (w : World) (bs : List Nat) (B k : Nat) (T : Tab) (a : Option Addr) (n ca : Nat) (l : List Int) (hl : l.length = n) (hn : n ≤ 1048576) (hT : T.Ok k) (h : TabAt w bs B k T) (hA : IntsAt w a l) (hR : ∀ x ∈ l, Rng x) (hp : Pow w) :
    Calls Tryd.prog 25 #[.pointer (some ⟨B, 0, none⟩), .slice a n ca] w fun e w' => e = .returned (.string ⟨(textW T l).toArray⟩) ∧ Below w.heap.size w w' := by
  have HA : Hid (IntsAt w a l) := hA
  have HT : Hid (TabAt w bs B k T) := h
  have HL : Hid (l.length = n) := hl
  have HR : Hid (∀ x ∈ l, Rng x) := hR
  have HK : Hid (T.Ok k) := hT
  have HP : Hid (Pow w) := hp
  have H0 : Hid (Lib.IsBuilder 81 5 w.heap.size w.heap.size (Lib.byteCells []) (w.alloc (.cells #[.pointer none, .slice none 0 0] 81))) :=
    .inl ⟨Nat.le_refl _, .slice none 0 0, by show (w.heap.push _)[w.heap.size]? = _; exact Array.getElem?_push_size, World.ownsRow_nil _ _ _ _, by simp [Value.ownBlock]⟩
  have Hb0 : Hid (Below w.heap.size w (w.alloc (.cells #[.pointer none, .slice none 0 0] 81))) := (Below.refl _ _).alloc (Nat.le_refl _) _
  clear hA h hl hR hT hp
  obtain ⟨b, hb⟩ : ∃ b, b = w.heap.size := ⟨_, rfl⟩
  go_enter Tryd.func25, Tryd.ntmps25
  go_wp2_with fail
  rw [← hb] at H0 Hb0 ⊢
  go_loopw [6, 7, 10] (fun _ _ i wx => ∃ j : Nat, j ≤ n ∧ i = .int .i64 j ∧ Hid (Lib.IsBuilder 81 5 b b (Lib.byteCells (textW T (l.take j))) wx) ∧ Hid (Below b w wx)) (fun _ _ i _ => n - (intOf i).toNat)
  case atStart => exact ⟨0, Nat.zero_le _, rfl, H0.out, Hb0.out⟩
  case round =>
    clear H0 Hb0
    obtain ⟨j, hj, rfl, HB, hbel⟩ := hrel
    have HE : Hid (b = w.heap.size) := hb
    clear hb
    have HBel : Hid (Below w.heap.size w wr) := by show Below _ _ _; rw [← HE.out]; exact hbel.out
    have hs1 : b ≤ wr.heap.size := by rw [HE.out]; exact HBel.out.size
    by_cases hlt : j < n
    · have n1 : (j : Int) < (n : Int) := by omega
      obtain ⟨x, hx⟩ : ∃ x, l[j]? = some x := ⟨l[j]'(by rw [HL.out]; exact hlt), List.getElem?_eq_getElem _⟩
      obtain ⟨b1, o1, rfl, c1⟩ := (HA.out.under HBel.out) j x hx
      have hxm := List.mem_of_getElem? hx
      have Htk : Hid (l.take (j + 1) = l.take j ++ [x]) := by
        show _ = _
        rw [List.take_add_one, hx]
        rfl
      have hp32 := word_le HK.out x (HR.out x hxm)
      have hl33 : (textW T (l.take j)).length ≤ 33 * j := by
        have h1 := text_len HK.out (l.take j) fun y hy => HR.out y (List.mem_of_mem_take hy)
        rw [List.length_take] at h1
        omega
      have Hlen : Hid ((l.take j).length = j) := by
        have := HL.out
        show _ = _
        rw [List.length_take]; omega
      have HX : Hid (∀ w2, Below b w w2 → Calls Tryd.prog 41 #[.pointer (some ⟨B, 0, none⟩), .int .i64 x] w2 fun e w' => e = .returned (.string (wordW T x)) ∧ Below w2.heap.size w2 w') := fun w2 h2 =>
        wordw_any w2 bs B k T x HK.out (HR.out x hxm) (HT.out.below (by rw [← HE.out]; exact h2)) (HP.out.under (by rw [← HE.out]; exact h2))
      have HS : Hid (l.take j ≠ [] → textW T (l.take j ++ [x]) = textW T (l.take j) ++ 32 :: (wordW T x).data.toList) := fun h => text_snoc T x h
      have HS0 : Hid (textW T [x] = (wordW T x).data.toList) := text_one T x
      clear hx hxm
      generalize l.take j = ns at *
      generalize wordW T x = s at *
      by_cases hj0 : j = 0
      · have f1 : ¬ (0 : Int) < (j : Int) := by omega
        have hns : ns = [] := List.eq_nil_of_length_eq_zero (by rw [Hlen.out, hj0])
        subst hns
        have W1 : Hid _ := HX.out wr hbel.out
        clear HX hj0
        go_wp2_with fail
        refine Calls.mono W1.out ?_
        rintro e w1 ⟨rfl, hb1⟩
        have hs2 : b ≤ w1.heap.size := Nat.le_trans hs1 hb1.size
        have W2 : Hid _ := Tryd.Builder_WriteString b b (Lib.byteCells (textW T [])) s w1 (builder_under HB.out hb1) (by rw [Lib.byteCells_length]; simp [textW, glue]; omega) hs2
        have Hb1 : Hid (Below b w w1) := hbel.out.trans (hb1.mono hs1)
        clear W1 hb1
        go_wp2_with fail
        refine Calls.mono W2.out ?_
        rintro e w2 ⟨rfl, h2, hb2⟩
        have HB2 : Hid (Lib.IsBuilder 81 5 b b (Lib.byteCells (textW T ([] ++ [x]))) w2) := .inr (by rw [List.nil_append, HS0.out]; simpa [textW, glue, Lib.byteCells, Lib.strCells] using h2)
        have Hb2 : Hid (Below b w w2) := Hb1.out.trans hb2
        clear h2 hb2 W2
        go_wp2
        exact ⟨⟨j + 1, by omega, by go_num, by rw [Htk.out]; exact HB2.out, Hb2.out⟩, by simp [intOf]; omega⟩
      · have f1 : (0 : Int) < (j : Int) := by omega
        have hns : Hid (ns ≠ []) := fun e => by rw [e] at Hlen; exact hj0 Hlen.out.symm
        have W0 : Hid _ := Tryd.Builder_WriteByte b b (Lib.byteCells (textW T ns)) 32 wr HB.out (by rw [Lib.byteCells_length]; omega) hs1
        go_wp2_with fail
        refine Calls.mono W0.out ?_
        rintro e w0 ⟨rfl, h0, hb0⟩
        have Hb0 : Hid (Below b w w0) := hbel.out.trans hb0
        have H0 : Hid (Lib.IsBuilder 81 5 b b (Lib.byteCells (textW T ns) ++ [.int .u8 32]) w0) := .inr h0
        have hs0 : b ≤ w0.heap.size := Nat.le_trans hs1 hb0.size
        have W1 : Hid _ := HX.out w0 Hb0.out
        clear HX hj0 W0 h0 hb0
        go_wp2_with fail
        refine Calls.mono W1.out ?_
        rintro e w1 ⟨rfl, hb1⟩
        have hs2 : b ≤ w1.heap.size := Nat.le_trans hs0 hb1.size
        have W2 : Hid _ := Tryd.Builder_WriteString b b (Lib.byteCells (textW T ns) ++ [.int .u8 32]) s w1 (builder_under H0.out hb1) (by rw [List.length_append, Lib.byteCells_length]; simp; omega) hs2
        have Hb1 : Hid (Below b w w1) := Hb0.out.trans (hb1.mono hs0)
        clear W1 hb1
        go_wp2_with fail
        refine Calls.mono W2.out ?_
        rintro e w2 ⟨rfl, h2, hb2⟩
        have HB2 : Hid (Lib.IsBuilder 81 5 b b (Lib.byteCells (textW T (ns ++ [x]))) w2) := .inr (by rw [HS.out hns.out]; simpa [Lib.byteCells, Lib.strCells] using h2)
        have Hb2 : Hid (Below b w w2) := Hb1.out.trans hb2
        clear h2 hb2 W2
        go_wp2
        exact ⟨⟨j + 1, by omega, by go_num, by rw [Htk.out]; exact HB2.out, Hb2.out⟩, by simp [intOf]; omega⟩
    · have n1 : ¬ (j : Int) < (n : Int) := by omega
      have hjn : l.take j = l := List.take_of_length_le (by rw [HL.out]; omega)
      rw [hjn] at HB
      have W0 : Hid _ := Tryd.Builder_String_any b b (textW T l) wr HB.out hs1
      clear HB hjn
      go_wp2_with fail
      refine Calls.mono W0.out ?_
      rintro e w0 ⟨rfl, hb0⟩
      have Hb0 : Hid (Below b w w0) := hbel.out.trans hb0
      clear hb0 W0
      go_wp2
      go_ret
      exact ⟨rfl, by rw [← HE.out]; exact Hb0.out⟩
end Go.Proofs.YtmgpnaehniohgaaDoor.R
