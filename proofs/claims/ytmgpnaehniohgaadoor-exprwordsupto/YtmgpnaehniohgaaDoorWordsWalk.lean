/- The law on words read and printed (ExprWords), walked. -/
import Derived.Test.YtmgpnaehniohgaaDoorRefX
namespace Go.Proofs.YtmgpnaehniohgaaDoor.R
open Go.RowKit Go.Deep
open Go.Proofs.YtmgpnaehniohgaaDoor.E

theorem infoStr : (Tryd.prog.info? 9).map (fun i => (i.zero, i.size, i.bytes)) = some (some (.string ⟨#[]⟩), 1, 16) := by kernel_rfl
/-- What is read of words, by the numbers that they have. -/
def RIs (f : ByteArray → Option Int) (ws : List ByteArray) (ns : List Int) (p q : Nat) : Prop :=
  (ws.length ≤ 200 ∧ ns.length = ws.length ∧ (∀ (i : Nat) (s : ByteArray), ws[i]? = some s → ∃ m, f s = some m ∧ ns[i]? = some m) ∧ p = 0 ∧ q = 0) ∨
  ∃ (i : Nat) (s : ByteArray), ws[i]? = some s ∧ (∀ (j : Nat) (s' : ByteArray), j < i → ws[j]? = some s' → (f s').isSome = true) ∧ ns = [] ∧ ((i = 200 ∧ p = 200 ∧ q = 31) ∨ (i < 200 ∧ f s = none ∧ p = i ∧ q = 30))
theorem ris_left {f : ByteArray → Option Int} {ws : List ByteArray} {i : Nat} {s : ByteArray} (hl : ws.length ≤ 200) (h : ∀ (i : Nat) (s : ByteArray), ws[i]? = some s → (f s).isSome = true) (hi : ws[i]? = some s) (hc : (i = 200) ∨ (i < 200 ∧ f s = none)) : False := by
  have hlt := (List.getElem?_eq_some_iff.1 hi).1
  rcases hc with h1 | ⟨_, h1⟩
  · omega
  · have := h i s hi
    rw [h1] at this
    cases this
theorem ris_one {f : ByteArray → Option Int} {ws : List ByteArray} {ns ns' : List Int} {p p' q q' : Nat} (h : RIs f ws ns p q) (h' : RIs f ws ns' p' q') : ns = ns' ∧ p = p' ∧ q = q' := by
  rcases h with ⟨hl, hn, hm, rfl, rfl⟩ | ⟨i, s, hi, ha, rfl, hc⟩ <;> rcases h' with ⟨hl', hn', hm', rfl, rfl⟩ | ⟨i', s', hi', ha', rfl, hc'⟩
  · refine ⟨?_, rfl, rfl⟩
    apply List.ext_getElem?
    intro k
    by_cases hk : k < ws.length
    · obtain ⟨m, h1, h2⟩ := hm k _ (List.getElem?_eq_getElem hk)
      obtain ⟨m', h1', h2'⟩ := hm' k _ (List.getElem?_eq_getElem hk)
      rw [h1] at h1'
      cases h1'
      rw [h2, h2']
    · rw [List.getElem?_eq_none (by omega), List.getElem?_eq_none (by omega)]
  · exact (ris_left hl (fun k t hk => by obtain ⟨m, h1, _⟩ := hm k t hk; rw [h1]; rfl) hi' (hc'.imp (·.1) fun h => ⟨h.1, h.2.1⟩)).elim
  · exact (ris_left hl' (fun k t hk => by obtain ⟨m, h1, _⟩ := hm' k t hk; rw [h1]; rfl) hi (hc.imp (·.1) fun h => ⟨h.1, h.2.1⟩)).elim
  · have key : ∀ {a b : Nat} {u v : ByteArray}, ws[a]? = some u → (∀ (j : Nat) (t : ByteArray), j < b → ws[j]? = some t → (f t).isSome = true) → (a = 200 ∨ (a < 200 ∧ f u = none)) → (b = 200 ∨ (b < 200 ∧ f v = none)) → b ≤ a := by
      intro a b u v h1 h2 h3 h4
      by_cases hlt : a < b
      · have := h2 a u hlt h1
        rcases h3 with e | ⟨_, e⟩
        · rcases h4 with e' | ⟨e', _⟩ <;> omega
        · rw [e] at this; cases this
      · omega
    have g1 := hc.imp (·.1) (fun (h : i < 200 ∧ f s = none ∧ p = i ∧ q = 30) => (⟨h.1, h.2.1⟩ : i < 200 ∧ f s = none))
    have g2 := hc'.imp (·.1) (fun (h : i' < 200 ∧ f s' = none ∧ p' = i' ∧ q' = 30) => (⟨h.1, h.2.1⟩ : i' < 200 ∧ f s' = none))
    have e : i = i' := Nat.le_antisymm (key hi' ha g2 g1) (key hi ha' g1 g2)
    subst e
    refine ⟨rfl, ?_⟩
    rcases hc with ⟨h1, h2, h3⟩ | ⟨h1, _, h2, h3⟩ <;> rcases hc' with ⟨h1', h2', h3'⟩ | ⟨h1', _, h2', h3'⟩ <;> omega
def numF (T : Tab) (s : ByteArray) : Option Int := (actOf T s).map fun m : Nat => (m : Int)
theorem read_form {w w' : World} {e : Ending} {T : Tab} {ws : List ByteArray} (h : ReadIs w w' e T ws) : ∃ ns a c p q, e = .returned (.tuple #[.slice a ns.length c, .int .i64 (p : Nat), .int .i64 (q : Nat)]) ∧ IntsAt w' a ns ∧ RIs (numF T) ws ns p q ∧ ns.length ≤ 200 ∧ Below w.heap.size w w' := by
  obtain ⟨hb, ⟨hl, ns, v, hn, hm, rfl, ho⟩ | ⟨i, s, hi, ha, hc⟩⟩ := h
  · obtain ⟨a, c, rfl, hr⟩ := own_row ho
    rw [← hn]
    refine ⟨ns, a, c, 0, 0, rfl, hr.ints, .inl ⟨hl, hn, fun i s hi => ?_, rfl, rfl⟩, by omega, hb⟩
    obtain ⟨m, h1, h2⟩ := hm i s hi
    exact ⟨m, by unfold numF; rw [h1]; rfl, h2⟩
  · have ha' : ∀ (j : Nat) (s' : ByteArray), j < i → ws[j]? = some s' → (numF T s').isSome = true := fun j s' hj hs => by
      have := ha j s' hj hs
      unfold numF
      rwa [Option.isSome_map]
    rcases hc with ⟨h1, rfl⟩ | ⟨h1, h2, rfl⟩
    · exact ⟨[], none, 0, 200, 31, rfl, fun i x hi => by simp at hi, .inr ⟨i, s, hi, ha', rfl, .inl ⟨h1, rfl, rfl⟩⟩, by simp, hb⟩
    · exact ⟨[], none, 0, i, 30, rfl, fun i x hi => by simp at hi, .inr ⟨i, s, hi, ha', rfl, .inr ⟨h1, by unfold numF; rw [h2]; rfl, rfl, rfl⟩⟩, by simp, hb⟩
theorem rread_form {w w' : World} {e : Ending} {T : Tab} {A : List Int} {ws : List ByteArray} (hi : Inv T A) (hg : T.Good) (hnd : (T.syms.map (·.1)).Nodup) (h : RReadIs w w' e T.syms A ws) : ∃ ns a c p q, e = .returned (.tuple #[.slice a ns.length c, .int .i64 (p : Nat), .int .i64 (q : Nat)]) ∧ IntsAt w' a ns ∧ RIs (numF T) ws ns p q ∧ ns.length ≤ 200 ∧ Below w.heap.size w w' := by
  have hF : ∀ s, (rFind T.syms A s).2 = (numF T s).isSome ∧ (∀ m, numF T s = some m → (rFind T.syms A s).1 = m) := fun s => by
    rw [find_same hi hg hnd]
    unfold numF
    refine ⟨by rw [Option.isSome_map], fun m hm => ?_⟩
    cases ha : actOf T s with
    | none => rw [ha] at hm; cases hm
    | some k => rw [ha] at hm; cases hm; rfl
  obtain ⟨hb, ⟨hl, ns, v, hn, hm, rfl, ho⟩ | ⟨i, s, hi', ha, hc⟩⟩ := h
  · obtain ⟨a, c, rfl, hr⟩ := own_row ho
    rw [← hn]
    refine ⟨ns, a, c, 0, 0, rfl, hr.ints, .inl ⟨hl, hn, fun i s hi' => ?_, rfl, rfl⟩, by omega, hb⟩
    obtain ⟨h1, h2⟩ := hm i s hi'
    rw [(hF s).1] at h1
    obtain ⟨m, h3⟩ := Option.isSome_iff_exists.1 h1
    exact ⟨m, h3, by rw [h2, (hF s).2 m h3]⟩
  · have ha' : ∀ (j : Nat) (s' : ByteArray), j < i → ws[j]? = some s' → (numF T s').isSome = true := fun j s' hj hs => by
      rw [← (hF s').1]; exact ha j s' hj hs
    rcases hc with ⟨h1, rfl⟩ | ⟨h1, h2, rfl⟩
    · exact ⟨[], none, 0, 200, 31, rfl, fun i x hi => by simp at hi, .inr ⟨i, s, hi', ha', rfl, .inl ⟨h1, rfl, rfl⟩⟩, by simp, hb⟩
    · refine ⟨[], none, 0, i, 30, rfl, fun i x hi => by simp at hi, .inr ⟨i, s, hi', ha', rfl, .inr ⟨h1, ?_, rfl, rfl⟩⟩, by simp, hb⟩
      rw [(hF s).1] at h2
      simpa using h2
theorem words_row {w : World} {a : Option Addr} {ws : List ByteArray} (h : WordsAt w a ws) : RowAt w a (ws.map Value.string) := fun i u hi => by
  rw [List.getElem?_map] at hi
  obtain ⟨s, hs, rfl⟩ := Option.map_eq_some_iff.1 hi
  exact h i s hs
theorem row_words {w : World} {a : Option Addr} {ws : List ByteArray} (h : RowAt w a (ws.map Value.string)) : WordsAt w a ws := fun i s hi => h i (.string s) (by rw [List.getElem?_map, hi]; rfl)
theorem one_strings (l : List ByteArray) : ∀ u ∈ l.map Value.string, u.oneCell' = true := fun u hu => by
  obtain ⟨t, _, rfl⟩ := List.mem_map.1 hu
  rfl
def room : ByteArray := ⟨#[114, 111, 111, 109]⟩

set_option maxRecDepth 100000 in
set_option maxHeartbeats 16000000 in
theorem words_walk (w : World) (a0 : Option Addr) (len c0 : Nat) (K : Nat → Int) (S : Nat → ByteArray) (aw : Option Addr) (nw cw : Nat) (ws : List ByteArray) (ae : Option Addr) (ne ce : Nat) (le : List Int)
    (hlen : len ≤ 1048576) (hD : DeclsAt w a0 len K S) (hws : ws.length = nw) (hnw : nw ≤ 1048576) (hsz : ∀ s ∈ ws, s.size ≤ maxLen) (hW : WordsAt w aw ws) (hle : le.length = ne) (hne : ne ≤ 1048576) (hE : IntsAt w ae le) (hR : ∀ x ∈ le, Rng x) (hKB : KB w) (hP : Pow w) :
    Calls Tryd.prog 5 #[.slice a0 len c0, .slice aw nw cw, .slice ae ne ce] w fun e w' => e = .returned (.bool true) ∧ Below w.heap.size w w' := by
  obtain ⟨i9, hi9, hy0, hy1, hy3⟩ := info_parts infoStr
  have TB : Hid _ := tables_any w a0 len c0 K S hlen hD hKB
  have HWS : Hid (ws.length = nw) := hws
  have HSZ : Hid (∀ s ∈ ws, s.size ≤ maxLen) := hsz
  have HW : Hid (WordsAt w aw ws) := hW
  have HLE : Hid (le.length = ne) := hle
  have HE : Hid (IntsAt w ae le) := hE
  have HR : Hid (∀ x ∈ le, Rng x) := hR
  have HP : Hid (Pow w) := hP
  clear hD hKB hws hsz hW hle hE hR hP
  go_enter Tryd.func5, Tryd.ntmps5
  go_wp2_with fail
  refine Calls.mono TB.out ?_
  rintro e w1 ⟨B, C, T, A, bs, rs, rfl, hDu⟩
  have HDu : Hid (Duo w w1 B C (4 * len) T T A bs rs) := hDu
  have HB1 : Hid (Below w.heap.size w w1) := hDu.below
  have h5 := hDu.ok.syms
  have h6 := hDu.len
  obtain ⟨vs, va, vt, hRT, _⟩ := hDu.ref
  have HRT : Hid (RT w1 C T.syms A vs va vt) := hRT
  have R1 : Hid _ := rread_any w1 C T.syms A vs va vt aw nw cw ws h5 (by omega) HWS.out (by omega) hRT (HW.out.under hDu.below)
  clear TB hDu hRT h6
  go_wp2_with fail
  refine Calls.mono R1.out ?_
  rintro e w2 hR2
  obtain ⟨ns, an, cn, p, q, rfl, hI2, hRI2, hn200, hb2⟩ := rread_form HDu.out.inv HDu.out.good HDu.out.ok.nodup hR2
  have HI2 : Hid (IntsAt w2 an ns) := hI2
  have HRI2 : Hid (RIs (numF T) ws ns p q) := hRI2
  have HB2 : Hid (Below w.heap.size w w2) := HB1.out.trans (hb2.mono HB1.out.size)
  have HDu2 : Hid (Duo w w2 B C (4 * len) T T A bs rs) := HDu.out.under hb2
  have HRT2 : Hid (RT w2 C T.syms A vs va vt) := HRT.out.under hb2
  have P1 : Hid _ := rprint_any w2 C (4 * len) T A vs va vt ae ne ce le HLE.out hne HDu2.out.ok HRT2.out (HE.out.under HB2.out) HR.out
  clear R1 hR2 hI2 hRI2 hb2 HDu HRT HB1
  obtain ⟨tx, htx⟩ : ∃ tx : ByteArray, (ByteArray.mk (textW T le).toArray) = tx := ⟨_, rfl⟩
  have HTX : Hid ((ByteArray.mk (textW T le).toArray) = tx) := htx
  rw [htx] at P1
  clear htx
  go_wp2_with fail
  refine Calls.mono P1.out ?_
  rintro e w3 ⟨rfl, hb3⟩
  have HB3 : Hid (Below w2.heap.size w2 w3) := hb3
  have HBB3 : Hid (Below w.heap.size w w3) := HB2.out.trans (hb3.mono HB2.out.size)
  have HWR3 : Hid (RowAt w3 aw (ws.map Value.string)) := words_row (HW.out.under HBB3.out)
  have hs3 : w2.heap.size ≤ w3.heap.size := hb3.size
  clear P1 hb3
  go_wp2_with (at_builtin; first
    | (refine wpList_append_more (w := w3) rfl _ _ _ rfl w3.heap.size 9 i9 _ 1 16 Tryd.underlying43 hi9 hy0 hy1 hy3 rfl (by omega) _ 0 [] (by rfl) (by exact World.ownsRow_nil _ _ _ _) aw nw cw (ws.map Value.string) (by rfl) (by rw [List.length_map, HWS.out, Nat.mul_one]) (by exact HWR3.out.news) (one_strings ws) (by unfold maxLen; omega) (by omega) (Nat.le_refl _) ?_; intro a4 c4 w4 ho hb; rw [Nat.zero_add, List.nil_append] at ho; have HO4 : Hid (w4.ownsRow w3.heap.size 9 1 (.slice a4 nw c4) nw (ws.map Value.string)) := ho; have HB4 : Hid (Below w3.heap.size w3 w4) := hb; have hs4 : w3.heap.size ≤ w4.heap.size := hb.size; clear ho hb)
    | (refine wpList_append_more (w := w4.alloc (.cells #[.string ⟨#[114, 111, 111, 109]⟩, .string ⟨#[114, 111, 111, 109]⟩] 9)) rfl _ _ _ rfl w3.heap.size 9 i9 _ 1 16 Tryd.underlying43 hi9 hy0 hy1 hy3 rfl (by omega) _ nw (ws.map Value.string) (by rfl) (by exact HO4.out.alloc _) (some ⟨w4.heap.size, 0, none⟩) 2 2 [.string ⟨#[114, 111, 111, 109]⟩, .string ⟨#[114, 111, 111, 109]⟩] (by rfl) (by rfl) (by exact (row_new w4 [.string ⟨#[114, 111, 111, 109]⟩, .string ⟨#[114, 111, 111, 109]⟩] 9 _ rfl).news) (by simp [Value.oneCell']) (by unfold maxLen; omega) (by omega) (by simp; omega) ?_; intro a5 c5 w5 ho hb; have HO5 : Hid (w5.ownsRow w3.heap.size 9 1 (.slice a5 (nw + 2) c5) (nw + 2) (ws.map Value.string ++ [.string room, .string room])) := ho; have HB5 : Hid (Below w3.heap.size w3 w5) := HB4.out.trans (((Below.refl _ _).alloc hs4 _).trans hb); clear ho hb))
  obtain ⟨g5, cap5, e5, _, _⟩ := HO5.out.form (by omega)
  cases e5
  obtain ⟨_, _, e6, hcap5⟩ := own_shape HO5.out
  cases e6
  have HWR5 : Hid (RowAt w5 (some ⟨g5, 0, none⟩) (ws.map Value.string ++ [.string room, .string room])) := by
    obtain ⟨_, _, e7, hr⟩ := own_row HO5.out
    cases e7
    exact hr
  have HBB5 : Hid (Below w.heap.size w w5) := HBB3.out.trans (HB5.out.mono HBB3.out.size)
  have HB25 : Hid (Below w2.heap.size w2 w5) := HB3.out.trans (HB5.out.mono hs3)
  have RM : Hid _ := roomy_any w5 ae ce le ne HLE.out (by omega) (HE.out.under HBB5.out)
  clear HO5 HO4 HB4 HB5 HB3 HWR3 HBB3
  refine Calls.mono RM.out ?_
  rintro e w6 ⟨hb6, gx, cx, rfl, hcx, hI6⟩
  have HB6 : Hid (Below w2.heap.size w2 w6) := HB25.out.trans (hb6.mono HB25.out.size)
  have HBB6 : Hid (Below w.heap.size w w6) := HBB5.out.trans (hb6.mono HBB5.out.size)
  have HI6 : Hid (IntsAt w6 (some ⟨gx, 0, none⟩) (spare le)) := hI6
  have HWR6 : Hid (RowAt w6 (some ⟨g5, 0, none⟩) (ws.map Value.string ++ [.string room, .string room])) := HWR5.out.under hb6 (Nat.le_refl _)
  have HDu6 : Hid (Duo w w6 B C (4 * len) T T A bs rs) := HDu2.out.under HB6.out
  have HRT6 : Hid (RT w6 C T.syms A vs va vt) := HRT2.out.under HB6.out
  have HWf6 : Hid (WordsAt w6 (some ⟨g5, 0, none⟩) ws) := row_words fun i u hi => HWR6.out i u (by rw [List.getElem?_append_left (List.getElem?_eq_some_iff.1 hi).1]; exact hi)
  have RD : Hid _ := readT_any w6 bs B (4 * len) T (some ⟨g5, 0, none⟩) nw c5 ws HWS.out (by omega) HSZ.out HDu6.out.tab HWf6.out
  clear RM hI6 HWR5 HBB5 HB25 HDu2 HRT2 hb6
  go_wp2_with fail
  refine Calls.mono RD.out ?_
  rintro e w7 hR7
  obtain ⟨ns', an', cn', p', q', rfl, hI7, hRI7, hn7, hb7⟩ := read_form hR7
  obtain ⟨hx1, hx2, hx3⟩ := ris_one hRI7 HRI2.out
  subst ns' p' q'
  have HB7 : Hid (Below w6.heap.size w6 w7) := hb7
  have HBB7 : Hid (Below w.heap.size w w7) := HBB6.out.trans (hb7.mono HBB6.out.size)
  have SM : Hid _ := same_eq w7 an' an cn' cn ns ns.length rfl (by omega) hI7 (HI2.out.under (HB6.out.trans (hb7.mono HB6.out.size)))
  clear RD hR7 hRI7 hn7 HRI2 hI7 HWf6 hb7
  go_wp2_with fail
  refine Calls.mono SM.out ?_
  rintro e w8 ⟨rfl, k8, hw8⟩
  have HB8 : Hid (Below w6.heap.size w6 w8) := by
    subst hw8
    exact ⟨HB7.out.os, HB7.out.tape, HB7.out.output, HB7.out.size, HB7.out.block⟩
  have HBB8 : Hid (Below w.heap.size w w8) := HBB6.out.trans (HB8.out.mono HBB6.out.size)
  clear SM hw8 HB7 HBB7
  have HDu8 : Hid (Duo w w8 B C (4 * len) T T A bs rs) := HDu6.out.under HB8.out
  have HI8 : Hid (IntsAt w8 (some ⟨gx, 0, none⟩) (spare le)) := HI6.out.under HB8.out
  have PR := printw_any w8 bs B (4 * len) T (some ⟨gx, 0, none⟩) ne cx le HLE.out hne HDu8.out.ok HDu8.out.tab (IntsAt.front (m := [-71, -72, -73]) HI8.out) HR.out (HP.out.under HBB8.out)
  rw [HTX.out] at PR
  replace PR := show Hid _ from PR
  have hnt : (tx.toList != tx.toList) = false := by simp
  go_wp2_with fail
  refine Calls.mono PR.out ?_
  rintro e w9 ⟨rfl, hb9⟩
  have HB9 : Hid (Below w6.heap.size w6 w9) := HB8.out.trans (hb9.mono HB8.out.size)
  have HBB9 : Hid (Below w.heap.size w w9) := HBB6.out.trans (HB9.out.mono HBB6.out.size)
  have UT : Hid _ := untouched_any w9 gx cx ae ce le ne HLE.out (by omega) (by omega) (HI8.out.under hb9) (HE.out.under HBB9.out)
  clear PR hb9 HDu8 HI8 HB8 HBB8
  go_wp2_with fail
  refine Calls.mono UT.out ?_
  rintro e w10 ⟨rfl, k10, hw10⟩
  have HB10 : Hid (Below w6.heap.size w6 w10) := by
    subst hw10
    exact ⟨HB9.out.os, HB9.out.tape, HB9.out.output, HB9.out.size, HB9.out.block⟩
  have HBB10 : Hid (Below w.heap.size w w10) := HBB6.out.trans (HB10.out.mono HBB6.out.size)
  have HWR10 : Hid (RowAt w10 (some ⟨g5, 0, none⟩) (ws.map Value.string ++ [.string room, .string room])) := HWR6.out.under HB10.out (Nat.le_refl _)
  have HW10 : Hid (WordsAt w10 aw ws) := HW.out.under HBB10.out
  have HDu10 : Hid (Duo w w10 B C (4 * len) T T A bs rs) := HDu6.out.under HB10.out
  have HRT10 : Hid (RT w10 C T.syms A vs va vt) := HRT6.out.under HB10.out
  clear UT hw10 HB9 HBB9 hnt
  go_wp2_with fail
  go_loopw [19] (fun i wx => ∃ j : Nat, j ≤ nw ∧ i = .int .i64 j ∧ Hid (∃ k, wx = w10.drewN k)) (fun i _ => nw - (intOf i).toNat)
  case atStart => exact ⟨0, Nat.zero_le _, rfl, ⟨0, rfl⟩⟩
  case round =>
    obtain ⟨j, hj, rfl, HK⟩ := hrel
    obtain ⟨kk, hk⟩ := HK.out
    have HKK : Hid (wr = w10.drewN kk) := hk
    have HBr : Hid (Below w.heap.size w wr) := by
      show Below _ _ _
      rw [hk]
      exact ⟨HBB10.out.os, HBB10.out.tape, HBB10.out.output, HBB10.out.size, HBB10.out.block⟩
    have kc : ∀ ad, wr.cell? ad = w10.cell? ad := fun ad => by rw [hk]; rfl
    by_cases hlt : j < nw
    · have n1 : (j : Int) < (nw : Int) := by omega
      obtain ⟨s, hs⟩ : ∃ s, ws[j]? = some s := ⟨ws[j]'(by rw [HWS.out]; exact hlt), List.getElem?_eq_getElem _⟩
      obtain ⟨b1, o1, rfl, c1⟩ := HW10.out j s hs
      obtain ⟨b2, o2, e2, c2⟩ := HWR10.out j (.string s) (by rw [List.getElem?_append_left (by rw [List.length_map, HWS.out]; exact hlt), List.getElem?_map, hs]; rfl)
      cases e2
      rw [← kc] at c1 c2
      rw [Nat.zero_add] at c2
      have hst : (s.toList != s.toList) = false := by simp
      have n2 : (j : Int) < ((nw + 2 : Nat) : Int) := by omega
      clear hs kc hk HK
      go_wp2_with fail
      go_quiet (fail)
      go_wp2
      go_roundw
      case rel => exact ⟨j + 1, by omega, by go_num, ⟨kk + _, by rw [HKK.out, drewN2]⟩⟩
      case measure => simp [intOf]; omega
    · have n1 : ¬ (j : Int) < (nw : Int) := by omega
      have hjn : j = nw := by omega
      obtain ⟨b2, o2, e2, c2⟩ := HWR10.out nw (.string room) (by rw [List.getElem?_append_right (by rw [List.length_map, HWS.out]; exact Nat.le_refl _), List.length_map, HWS.out, Nat.sub_self]; rfl)
      cases e2
      rw [← kc] at c2
      rw [Nat.zero_add] at c2
      have CT : Hid _ := count_any wr bs B (4 * len) T (HDu10.out.tab.kept fun b _ => by rw [hk]; rfl)
      have CR : Hid _ := rcount_any wr C T.syms A vs va vt (by rw [hk]; exact ⟨HRT10.out.block, HRT10.out.syms, HRT10.out.acts⟩)
      have hroom : room.toList = [114, 111, 111, 109] := by rw [Lib.toList_data]; rfl
      clear kc hk HK hjn
      go_wp2_with fail
      refine Calls.mono CT.out ?_
      rintro e w11 ⟨rfl, hw11⟩
      subst w11
      go_wp2_with fail
      refine Calls.mono CR.out ?_
      rintro e w12 ⟨rfl, hw12⟩
      subst w12
      clear CT CR
      go_wp2
      go_ret
      exact ⟨rfl, HBr.out⟩
end Go.Proofs.YtmgpnaehniohgaaDoor.R
