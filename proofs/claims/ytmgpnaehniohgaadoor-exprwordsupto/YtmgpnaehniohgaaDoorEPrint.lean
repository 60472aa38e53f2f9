/- Print: names parted by one blank. -/
import Derived.Test.YtmgpnaehniohgaaDoorEReadT
import Derived.Test.YtmgpnaehniohgaaDoorShelfB
import Derived.Test.YtmgpnaehniohgaaDoorSymOk
import Derived.Outline
import Derived.Deep.Light
namespace Go.Proofs.YtmgpnaehniohgaaDoor.E
open Go.RowKit Go.Deep

theorem same_bytes (a b : ByteArray) : (a.toList == b.toList) = decide (a = b) := by
  rw [Lib.toList_data, Lib.toList_data]
  by_cases h : a = b
  · subst h; simp
  · rw [decide_eq_false h]
    rw [beq_eq_false_iff_ne]
    intro e
    apply h
    obtain ⟨⟨a⟩⟩ := a
    obtain ⟨⟨b⟩⟩ := b
    have : a = b := e
    rw [this]

set_option maxRecDepth 100000 in
set_option maxHeartbeats 1000000 in
theorem word_any (w : World) (bs : List Nat) (B k : Nat) (T : Tab) (n : Int) (p : ByteArray × Bool) (hT : T.syms.length ≤ 4611686018427387904) (h : TabAt w bs B k T) (hp : symAt T n = some p) (h0 : p.1 ≠ ⟨#[]⟩) :
    Calls Tryd.prog 41 #[.pointer (some ⟨B, 0, none⟩), .int .i64 n] w fun e w' => e = .returned (.string p.1) ∧ Below w.heap.size w w' := by
  have A := name_of w bs B k T n hT h
  rw [hp] at A
  obtain ⟨s, v⟩ := p
  replace A : Calls Tryd.prog 59 #[.pointer (some ⟨B, 0, none⟩), .int .i64 n] w fun e w' => e = .returned (.string s) ∧ Below w.heap.size w w' := A
  replace A := show Hid _ from A
  have hne : (s.toList == (ByteArray.mk #[]).toList) = false := by rw [same_bytes, decide_eq_false h0]
  have hne2 : (s.toList == []) = false := by rw [← hne, Lib.toList_data (ByteArray.mk #[])]
  have hne3 : s.toList.isEmpty = false := by cases h : s.toList with | nil => rw [h] at hne2; cases hne2 | cons a l => rfl
  have hne4 : s.toList ≠ [] := fun h => by rw [h] at hne2; cases hne2
  clear h hp h0
  go_enter Tryd.func41, Tryd.ntmps41
  go_wp2_with fail
  refine Calls.mono A.out ?_
  rintro e w1 ⟨rfl, hb⟩
  clear A
  go_wp2
  go_ret
  exact ⟨rfl, hb⟩

/-- Names parted by one blank. -/
def glue : List ByteArray → List UInt8
  | [] => []
  | s :: r => s.data.toList ++ r.flatMap (fun t => 32 :: t.data.toList)
theorem glue_snoc {l : List ByteArray} (s : ByteArray) (h : l ≠ []) : glue (l ++ [s]) = glue l ++ 32 :: s.data.toList := by
  cases l with
  | nil => exact absurd rfl h
  | cons a r => simp [glue, List.append_assoc]
def namesOf (T : Tab) (l : List Int) : List ByteArray := l.map fun n => nameOf (symAt T n)
theorem builder_under {B b : Nat} {bs : List Value} {w w' : World} (h : Lib.IsBuilder 81 5 B b bs w) (hb : Below w.heap.size w w') : Lib.IsBuilder 81 5 B b bs w' := by
  have one : ∀ p, Lib.BuilderAt 81 5 B b p bs w → Lib.BuilderAt 81 5 B b p bs w' := by
    rintro p ⟨h1, v, h2, h3, h4⟩
    exact ⟨h1, v, (hb.block b (Array.getElem?_eq_some_iff.1 h2).1).trans h2, owns_under h3 hb, h4⟩
  exact h.imp (one _) (one _)

set_option maxRecDepth 100000 in
set_option maxHeartbeats 4000000 in
theorem print_any (w : World) (bs : List Nat) (B k : Nat) (T : Tab) (a : Option Addr) (n ca : Nat) (l : List Int) (hl : l.length = n) (hn : n ≤ 1000) (hT : T.syms.length ≤ 4611686018427387904) (h : TabAt w bs B k T) (hA : IntsAt w a l)
    (hne : ∀ x ∈ l, ∃ p, symAt T x = some p ∧ p.1 ≠ ⟨#[]⟩ ∧ p.1.size ≤ 32) :
    Calls Tryd.prog 25 #[.pointer (some ⟨B, 0, none⟩), .slice a n ca] w fun e w' => e = .returned (.string ⟨(glue (namesOf T l)).toArray⟩) ∧ Below w.heap.size w w' := by
  have HA : Hid (IntsAt w a l) := hA
  have HT : Hid (TabAt w bs B k T) := h
  have HL : Hid (l.length = n) := hl
  have HN : Hid (∀ x ∈ l, ∃ p, symAt T x = some p ∧ p.1 ≠ ⟨#[]⟩ ∧ p.1.size ≤ 32) := hne
  have H0 : Hid (Lib.IsBuilder 81 5 w.heap.size w.heap.size (Lib.byteCells []) (w.alloc (.cells #[.pointer none, .slice none 0 0] 81))) :=
    .inl ⟨Nat.le_refl _, .slice none 0 0, by show (w.heap.push _)[w.heap.size]? = _; exact Array.getElem?_push_size, World.ownsRow_nil _ _ _ _, by simp [Value.ownBlock]⟩
  have Hb0 : Hid (Below w.heap.size w (w.alloc (.cells #[.pointer none, .slice none 0 0] 81))) := (Below.refl _ _).alloc (Nat.le_refl _) _
  clear hA h hl hne
  obtain ⟨b, hb⟩ : ∃ b, b = w.heap.size := ⟨_, rfl⟩
  go_enter Tryd.func25, Tryd.ntmps25
  go_wp2_with fail
  rw [← hb] at H0 Hb0 ⊢
  go_loopw [6, 7, 10] (fun _ _ i wx => ∃ j : Nat, j ≤ n ∧ i = .int .i64 j ∧ Hid (Lib.IsBuilder 81 5 b b (Lib.byteCells (glue (namesOf T (l.take j)))) wx) ∧ Hid (Below b w wx) ∧ Hid ((glue (namesOf T (l.take j))).length ≤ 33 * j)) (fun _ _ i _ => n - (intOf i).toNat)
  case atStart => exact ⟨0, Nat.zero_le _, rfl, H0.out, Hb0.out, Nat.zero_le _⟩
  case round =>
    clear H0 Hb0
    obtain ⟨j, hj, rfl, HB, hbel, HLn⟩ := hrel
    have HE : Hid (b = w.heap.size) := hb
    clear hb
    have HBel : Hid (Below w.heap.size w wr) := by show Below _ _ _; rw [← HE.out]; exact hbel.out
    have hs1 : b ≤ wr.heap.size := by rw [HE.out]; exact HBel.out.size
    by_cases hlt : j < n
    · have n1 : (j : Int) < (n : Int) := by omega
      obtain ⟨x, hx⟩ : ∃ x, l[j]? = some x := ⟨l[j]'(by rw [HL.out]; exact hlt), List.getElem?_eq_getElem _⟩
      obtain ⟨b1, o1, rfl, c1⟩ := (HA.out.under HBel.out) j x hx
      obtain ⟨p, hp, hp0, hp32⟩ := HN.out x (List.mem_of_getElem? hx)
      have Htk : Hid (namesOf T (l.take (j + 1)) = namesOf T (l.take j) ++ [p.1]) := by
        show _ = _
        rw [List.take_add_one, hx]
        simp [namesOf, hp, nameOf]
      have Hlen : Hid ((namesOf T (l.take j)).length = j) := by
        have := HL.out
        show _ = _
        simp [namesOf]; omega
      have HP : Hid (symAt T x = some p ∧ p.1 ≠ ⟨#[]⟩) := ⟨hp, hp0⟩
      have HX : Hid (∀ w2, Below b w w2 → Calls Tryd.prog 41 #[.pointer (some ⟨B, 0, none⟩), .int .i64 x] w2 fun e w' => e = .returned (.string p.1) ∧ Below w2.heap.size w2 w') := fun w2 h2 =>
        word_any w2 bs B k T x p hT (HT.out.below (by rw [← HE.out]; exact h2)) HP.out.1 HP.out.2
      clear hx hp hp0
      generalize namesOf T (l.take j) = ns at *
      generalize p.1 = s at *
      by_cases hj0 : j = 0
      · have f1 : ¬ (0 : Int) < (j : Int) := by omega
        have hns : ns = [] := List.eq_nil_of_length_eq_zero (by rw [Hlen.out, hj0])
        subst hns
        have W1 : Hid _ := HX.out wr hbel.out
        clear HX hj0
        go_wp2_with fail
        refine Calls.mono W1.out ?_
        rintro e w1 ⟨rfl, hb1⟩
        have hs2 : b ≤ w1.heap.size := Nat.le_trans hs1 hb1.size
        have W2 : Hid _ := Tryd.Builder_WriteString b b (Lib.byteCells (glue [])) s w1 (builder_under HB.out hb1) (by rw [Lib.byteCells_length]; simp [glue]; omega) hs2
        have Hb1 : Hid (Below b w w1) := hbel.out.trans (hb1.mono hs1)
        clear W1 hb1
        go_wp2_with fail
        refine Calls.mono W2.out ?_
        rintro e w2 ⟨rfl, h2, hb2⟩
        have HB2 : Hid (Lib.IsBuilder 81 5 b b (Lib.byteCells (glue ([] ++ [s]))) w2) := .inr (by simpa [glue, Lib.byteCells, Lib.strCells] using h2)
        have Hb2 : Hid (Below b w w2) := Hb1.out.trans hb2
        clear h2 hb2 W2
        go_wp2
        refine ⟨⟨j + 1, by omega, by go_num, by rw [Htk.out]; exact HB2.out, Hb2.out, ?_⟩, by simp [intOf]; omega⟩
        show _ ≤ _
        rw [Htk.out]
        have : s.data.size ≤ 32 := hp32
        simp [glue]
        omega
      · have f1 : (0 : Int) < (j : Int) := by omega
        have hns : Hid (ns ≠ []) := fun e => by rw [e] at Hlen; exact hj0 Hlen.out.symm
        have hl33 : (glue ns).length ≤ 33 * j := HLn.out
        have W0 : Hid _ := Tryd.Builder_WriteByte b b (Lib.byteCells (glue ns)) 32 wr HB.out (by rw [Lib.byteCells_length]; omega) hs1
        go_wp2_with fail
        refine Calls.mono W0.out ?_
        rintro e w0 ⟨rfl, h0, hb0⟩
        have Hb0 : Hid (Below b w w0) := hbel.out.trans hb0
        have H0 : Hid (Lib.IsBuilder 81 5 b b (Lib.byteCells (glue ns) ++ [.int .u8 32]) w0) := .inr h0
        have hs0 : b ≤ w0.heap.size := Nat.le_trans hs1 hb0.size
        have W1 : Hid _ := HX.out w0 Hb0.out
        clear HX hj0 W0 h0 hb0
        go_wp2_with fail
        refine Calls.mono W1.out ?_
        rintro e w1 ⟨rfl, hb1⟩
        have hs2 : b ≤ w1.heap.size := Nat.le_trans hs0 hb1.size
        have W2 : Hid _ := Tryd.Builder_WriteString b b (Lib.byteCells (glue ns) ++ [.int .u8 32]) s w1 (builder_under H0.out hb1) (by rw [List.length_append, Lib.byteCells_length]; simp; omega) hs2
        have Hb1 : Hid (Below b w w1) := Hb0.out.trans (hb1.mono hs0)
        clear W1 hb1
        go_wp2_with fail
        refine Calls.mono W2.out ?_
        rintro e w2 ⟨rfl, h2, hb2⟩
        have HB2 : Hid (Lib.IsBuilder 81 5 b b (Lib.byteCells (glue (ns ++ [s]))) w2) := .inr (by rw [glue_snoc s hns.out]; simpa [glue, Lib.byteCells, Lib.strCells] using h2)
        have Hb2 : Hid (Below b w w2) := Hb1.out.trans hb2
        clear h2 hb2 W2
        go_wp2
        refine ⟨⟨j + 1, by omega, by go_num, by rw [Htk.out]; exact HB2.out, Hb2.out, ?_⟩, by simp [intOf]; omega⟩
        show _ ≤ _
        rw [Htk.out, glue_snoc s hns.out]
        have : s.data.size ≤ 32 := hp32
        simp
        omega
    · have n1 : ¬ (j : Int) < (n : Int) := by omega
      have hjn : l.take j = l := List.take_of_length_le (by rw [HL.out]; omega)
      rw [hjn] at HB
      have W0 : Hid _ := Tryd.Builder_String_any b b (glue (namesOf T l)) wr HB.out hs1
      clear HB HLn hjn
      go_wp2_with fail
      refine Calls.mono W0.out ?_
      rintro e w0 ⟨rfl, hb0⟩
      have Hb0 : Hid (Below b w w0) := hbel.out.trans hb0
      clear hb0 W0
      go_wp2
      go_ret
      exact ⟨rfl, by rw [← HE.out]; exact Hb0.out⟩
end Go.Proofs.YtmgpnaehniohgaaDoor.E
