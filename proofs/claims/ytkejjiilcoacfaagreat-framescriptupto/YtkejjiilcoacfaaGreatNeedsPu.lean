/- Scripts of steps, said without memory; what a goal needs. -/
import Derived.Test.YtkejjiilcoacfaaGreatFrZ
namespace Go.Proofs.YtkejjiilcoacfaaGreat
open Go.Maps Go.RowKit Go.WideMaps

/-- A step. -/
structure OpA where
  k : Int
  lab : ByteArray
  a : Int
  b : Int
  e : List Int
def sayE (l : List Sa) (o : OpA) : Int := if o.k = 1 then openE l else if o.k = 2 then closeE l else if o.k = 3 then floatE l o.a o.b else if o.k = 4 then judgeE l o.e else if o.k = 5 then distE l o.e else 0
def sayL (l : List Sa) (o : OpA) : List Sa := if o.k = 1 then openL l else if o.k = 2 then closeL l else if o.k = 3 then floatL l o.lab o.a o.b else if o.k = 4 then essL l o.lab o.e else if o.k = 5 then distL l o.e else l
theorem tyOf_app (a b : List Hy) (v : Int) : tyOf (a ++ b) v = (tyOf a v).or (tyOf b v) := by
  unfold tyOf
  rw [List.find?_append, Option.map_or]
theorem tyA_flat (l : List Sa) (v : Int) : tyA l v = tyOf (hypsA l) v := by
  induction l with
  | nil => rfl
  | cons a l ih =>
    have e : hypsA (a :: l) = a.hs ++ hypsA l := rfl
    rw [e, tyOf_app, ← ih]
    unfold tyA
    rw [List.findSome?_cons]
    cases tyOf a.hs v <;> rfl
def floats (hs : List Hy) (v : Int) : Bool := hs.any fun h => h.fl && decide (h.var = v)
theorem ty_some (hs : List Hy) (v : Int) : (tyOf hs v).isSome = floats hs v := by
  unfold tyOf floats
  rw [Option.isSome_map]
  induction hs with
  | nil => rfl
  | cons a l ih =>
    rw [List.find?_cons, List.any_cons]
    cases h : (a.fl && decide (a.var = v)) with
    | true => rfl
    | false => rw [Bool.false_or]; exact ih
/-- What is declared, along n steps whose lists are at most B long. -/
structure Good (n B : Nat) (l : List Sa) : Prop where
  n0 : 0 < l.length
  n1 : l.length ≤ 17
  hn : (hypsA l).length ≤ n
  fl : ∀ h ∈ hypsA l, h.fl = true → ∃ t, h.ex = [t, h.var] ∧ isV h.var = true ∧ isV t = false
  wf : ∀ h ∈ hypsA l, wfN h.var ∧ (∀ x ∈ h.ex, wfN x) ∧ h.ex.length ≤ B + 2
  es : ∀ h ∈ hypsA l, h.fl = false → h.var = -1
  un : (hypsA l).Pairwise fun x y => x.fl = true → y.fl = true → x.var ≠ y.var
  ps : ∀ p ∈ apsA l, isV p.1 = true ∧ isV p.2 = true ∧ p.1 < p.2 ∧ wfP p
  pn : (apsA l).length ≤ 256
structure OpOk (B : Nat) (o : OpA) : Prop where
  a : wfN o.a
  b : wfN o.b
  e : ∀ x ∈ o.e, wfN x
  n : o.e.length ≤ B
theorem hyps_last {l : List Sa} (h : 0 < l.length) (f : Hy) : hypsA (inLast (fun a => ⟨a.hs ++ [f], a.ps⟩) l) = hypsA l ++ [f] ∧ apsA (inLast (fun a => ⟨a.hs ++ [f], a.ps⟩) l) = apsA l ∧ (inLast (fun a => ⟨a.hs ++ [f], a.ps⟩) l).length = l.length := by
  rcases List.eq_nil_or_concat l with rfl | ⟨r, z, rfl⟩
  · simp at h
  · rw [List.concat_eq_append, inLast_snoc]
    simp [hypsA, apsA]
theorem aps_last {l : List Sa} (h : 0 < l.length) (f : List Pp) : hypsA (inLast (fun a => ⟨a.hs, a.ps ++ f⟩) l) = hypsA l ∧ apsA (inLast (fun a => ⟨a.hs, a.ps ++ f⟩) l) = apsA l ++ f ∧ (inLast (fun a => ⟨a.hs, a.ps ++ f⟩) l).length = l.length := by
  rcases List.eq_nil_or_concat l with rfl | ⟨r, z, rfl⟩
  · simp at h
  · rw [List.concat_eq_append, inLast_snoc]
    simp [hypsA, apsA]
theorem Good.up {n B : Nat} {l : List Sa} (h : Good n B l) : Good (n + 1) B l := ⟨h.n0, h.n1, by have := h.hn; omega, h.fl, h.wf, h.es, h.un, h.ps, h.pn⟩
theorem Good.same {n B : Nat} {l l' : List Sa} (h : Good n B l) (h0 : 0 < l'.length) (h1 : l'.length ≤ 17) (e1 : hypsA l' = hypsA l) (e2 : apsA l' = apsA l) : Good n B l' :=
  ⟨h0, h1, by rw [e1]; exact h.hn, by rw [e1]; exact h.fl, by rw [e1]; exact h.wf, by rw [e1]; exact h.es, by rw [e1]; exact h.un, by rw [e2]; exact h.ps, by rw [e2]; exact h.pn⟩
theorem Good.part {n B : Nat} {l l' : List Sa} (h : Good n B l) (h0 : 0 < l'.length) (h1 : l'.length ≤ 17) (e1 : (hypsA l').Sublist (hypsA l)) (e2 : (apsA l').Sublist (apsA l)) : Good n B l' :=
  ⟨h0, h1, Nat.le_trans e1.length_le h.hn, fun x hx => h.fl x (e1.mem hx), fun x hx => h.wf x (e1.mem hx), fun x hx => h.es x (e1.mem hx), h.un.sublist e1, fun p hp => h.ps p (e2.mem hp), Nat.le_trans e2.length_le h.pn⟩
theorem Good.snoc {n B : Nat} {l : List Sa} (h : Good n B l) (f : Hy) (h1 : f.fl = true → ∃ t, f.ex = [t, f.var] ∧ isV f.var = true ∧ isV t = false) (h2 : wfN f.var ∧ (∀ x ∈ f.ex, wfN x) ∧ f.ex.length ≤ B + 2) (h3 : f.fl = false → f.var = -1) (h4 : f.fl = true → floats (hypsA l) f.var = false) : Good (n + 1) B (inLast (fun a => ⟨a.hs ++ [f], a.ps⟩) l) := by
  obtain ⟨e1, e2, e3⟩ := hyps_last h.n0 f
  have key : ∀ x, x ∈ hypsA l ++ [f] → x ∈ hypsA l ∨ x = f := fun x hx => by simpa using hx
  refine ⟨by rw [e3]; exact h.n0, by rw [e3]; exact h.n1, by rw [e1]; have := h.hn; simp; omega, ?_, ?_, ?_, ?_, by rw [e2]; exact h.ps, by rw [e2]; exact h.pn⟩
  · rw [e1]
    intro x hx
    rcases key x hx with hx | rfl
    · exact h.fl x hx
    · exact h1
  · rw [e1]
    intro x hx
    rcases key x hx with hx | rfl
    · exact h.wf x hx
    · exact h2
  · rw [e1]
    intro x hx
    rcases key x hx with hx | rfl
    · exact h.es x hx
    · exact h3
  · rw [e1]
    refine List.pairwise_append.2 ⟨h.un, by simp, fun x hx y hy => ?_⟩
    simp at hy
    subst hy
    intro fx fy e
    have h5 := h4 fy
    unfold floats at h5
    rw [List.any_eq_false] at h5
    exact h5 x hx (by simp [fx, e])
theorem wf_isV {v : Int} (h : wfN v) : wfI v := wfN_wf h
theorem flat_take {α β : Type} (f : α → List β) (l : List α) (k : Nat) : ((l.take k).flatMap f).Sublist (l.flatMap f) := by
  conv => rhs; rw [← List.take_append_drop k l, List.flatMap_append]
  exact List.sublist_append_left _ _
theorem Good.step {n B : Nat} {l : List Sa} (h : Good n B l) (o : OpA) (ho : OpOk B o) : Good (n + 1) B (sayL l o) := by
  unfold sayL
  split
  · unfold openL
    split
    · exact h.up
    · have := h.n0
      exact h.up.same (by simp) (by simp; omega) (by simp [hypsA]) (by simp [apsA])
  split
  · unfold closeL
    split
    · exact h.up
    · have h0 := h.n0
      have h1 := h.n1
      refine h.up.part (by rw [List.length_take]; omega) (by rw [List.length_take]; omega) ?_ ?_
      · unfold hypsA
        exact flat_take _ _ _
      · unfold apsA
        exact flat_take _ _ _
  split
  · unfold floatL
    split
    · rename_i h0
      unfold floatE at h0
      split at h0
      · omega
      rename_i v1
      split at h0
      · omega
      rename_i v2
      split at h0
      · omega
      rename_i v3
      rw [tyA_flat, ty_some] at v3
      refine h.snoc ⟨o.lab, true, o.b, [o.a, o.b]⟩ (fun _ => ⟨o.a, rfl, by simpa using v1, by simpa using v2⟩) ⟨ho.b, ?_, by simp⟩ (by simp) (fun _ => by simpa using v3)
      intro x hx
      simp at hx
      rcases hx with rfl | rfl
      · exact ho.a
      · exact ho.b
    · exact h.up
  split
  · unfold essL
    split
    · exact h.snoc ⟨o.lab, false, -1, o.e⟩ (by simp) ⟨by unfold wfN; show (-9223372036854775808 : Int) ≤ -1 ∧ (-1 : Int) ≤ 9223372036854775807; omega, ho.e, by show o.e.length ≤ _; have := ho.n; omega⟩ (by simp) (by simp)
    · exact h.up
  split
  · unfold distL
    split
    · rename_i h0
      obtain ⟨e1, e2, e3⟩ := aps_last h.n0 (freshA l o.e)
      have h5 : (apsA l).length + (freshA l o.e).length ≤ 256 := by
        unfold distE at h0
        split at h0
        · omega
        split at h0
        · omega
        split at h0
        · omega
        split at h0
        · omega
        · omega
      refine ⟨by rw [e3]; exact h.n0, by rw [e3]; exact h.n1, by rw [e1]; have := h.hn; omega, by rw [e1]; exact h.fl, by rw [e1]; exact h.wf, by rw [e1]; exact h.es, by rw [e1]; exact h.un, ?_, by rw [e2, List.length_append]; exact h5⟩
      rw [e2]
      intro p hp
      rcases List.mem_append.1 hp with hp | hp
      · exact h.ps p hp
      · have h6 := (allP_mem (varsOf_is o.e).up p).1 (List.mem_filter.1 hp).1
        have v1 := ((varsOf_is o.e).mem p.1).1 h6.1
        have v2 := ((varsOf_is o.e).mem p.2).1 h6.2.1
        exact ⟨v1.2, v2.2, h6.2.2, wf_isV (ho.e _ v1.1), wf_isV (ho.e _ v2.1)⟩
    · exact h.up
  · exact h.up
theorem Good.new (B : Nat) : Good 0 B [⟨[], []⟩] := by
  have e1 : hypsA [⟨[], []⟩] = [] := rfl
  have e2 : apsA [⟨[], []⟩] = [] := rfl
  exact ⟨by simp, by simp, by simp [e1], by simp [e1], by simp [e1], by simp [e1], by rw [e1]; exact List.Pairwise.nil, by simp [e2], by simp [e2]⟩
theorem ess_len {B : Nat} (hs : List Hy) (h : ∀ x ∈ hs, x.ex.length ≤ B) : (essA hs).length ≤ hs.length * B := by
  induction hs with
  | nil => simp [essA]
  | cons x r ih =>
    have e : essA (x :: r) = (if x.fl = true then [] else x.ex) ++ essA r := rfl
    have h1 := ih fun y hy => h y (by simp [hy])
    have h2 := h x (by simp)
    rw [e, List.length_append, List.length_cons, Nat.succ_mul]
    have h3 : (if x.fl = true then [] else x.ex).length ≤ B := by
      split
      · exact Nat.zero_le _
      · exact h2
    omega
theorem Good.ok {n B : Nat} {l : List Sa} (h : Good n B l) (hn : n ≤ 1000000) (hB : B ≤ 1048576) : SaOk l :=
  ⟨h.n0, by have := h.n1; omega, by have := h.hn; omega, fun y hy => by have := (h.wf y hy).2.2; omega, by have := h.pn; omega, fun p hp => (h.ps p hp).2.2.2⟩
theorem Good.ess {n B : Nat} {l : List Sa} (h : Good n B l) (hn : n ≤ 1000000) (hB : B ≤ 1048576) : (essA (hypsA l)).length ≤ 1048578000000 := by
  have h1 := ess_len (hypsA l) fun x hx => (h.wf x hx).2.2
  have h2 : (hypsA l).length * (B + 2) ≤ 1000000 * 1048578 := Nat.mul_le_mul (by have := h.hn; omega) (by omega)
  omega
/-- Why an expression may not stand here, by what is active. -/
def mayF (hs : List Hy) (e : List Int) : Int := match e with
  | [] => 72
  | x :: r => if isV x = true then 72 else if ((x :: r).any fun v => isV v && !floats hs v) = true then 70 else 0
theorem judge_may (l : List Sa) (e : List Int) : judgeE l e = mayF (hypsA l) e := by
  cases e with
  | nil => rfl
  | cons x r =>
    unfold judgeE mayF
    have : ∀ v, (isV v && (tyA l v).isNone) = (isV v && !floats (hypsA l) v) := fun v => by rw [← ty_some, ← tyA_flat]; cases tyA l v <;> rfl
    simp only [this]
def wantedF (hs : List Hy) (goal : List Int) (v : Int) : Bool := (hs.any fun h => !h.fl && h.ex.contains v) || goal.contains v
def needH (hs : List Hy) (goal : List Int) : List Hy := hs.filter fun h => !h.fl || wantedF hs goal h.var
def needQ (hs : List Hy) (goal : List Int) (m : List Pp) : List Pp := m.filter fun p => wantedF hs goal p.1 && wantedF hs goal p.2
theorem wanted_iff (hs : List Hy) (goal : List Int) (v : Int) : wantedF hs goal v = true ↔ v ∈ goal ++ essA hs := by
  unfold wantedF essA
  rw [Bool.or_eq_true, List.any_eq_true, List.mem_append, List.mem_flatMap, List.contains_iff_mem]
  constructor
  · rintro (⟨h, h1, h2⟩ | h)
    · rw [Bool.and_eq_true] at h2
      refine .inr ⟨h, h1, ?_⟩
      have h3 : h.fl = false := by simpa using h2.1
      rw [h3]
      simpa using h2.2
    · exact .inl h
  · rintro (h | ⟨h, h1, h2⟩)
    · exact .inr h
    · refine .inl ⟨h, h1, ?_⟩
      cases e : h.fl with
      | true => rw [e] at h2; simp at h2
      | false => rw [e] at h2; simpa using h2
theorem mv_wanted {hs : List Hy} {goal mv : List Int} (h : IsVars (goal ++ essA hs) mv) {v : Int} (hv : isV v = true) : mv.contains v = wantedF hs goal v := by
  rw [Bool.eq_iff_iff, List.contains_iff_mem, wanted_iff, h.mem]
  exact ⟨fun h => h.1, fun h => ⟨h, hv⟩⟩
theorem need_hyps {n B : Nat} {l : List Sa} (hg : Good n B l) {goal mv : List Int} (h : IsVars (goal ++ essA (hypsA l)) mv) : wantA (fun fl var => mv.contains var || !fl) (hypsA l) = needH (hypsA l) goal := by
  unfold wantA needH
  refine List.filter_congr fun x hx => ?_
  cases e : x.fl with
  | false => simp
  | true =>
    obtain ⟨t, _, h2, _⟩ := hg.fl x hx e
    show (mv.contains x.var || !true) = _
    rw [mv_wanted h h2]
    simp
theorem need_pairs {n B : Nat} {l : List Sa} (hg : Good n B l) {goal mv : List Int} (h : IsVars (goal ++ essA (hypsA l)) mv) {m m' : List Pp} (h1 : IsNorm (apsA l) m) (h2 : IsNorm (onlyP (apsA l) mv) m') : m' = needQ (hypsA l) goal m := by
  refine norm_one h2 ⟨?_, fun p => ?_⟩
  · exact h1.up.sublist List.filter_sublist
  · unfold needQ
    rw [List.mem_filter, h1.mem]
    constructor
    · rintro ⟨⟨hlt, q, hq, e⟩, hw⟩
      obtain ⟨q1, q2, q3, _⟩ := hg.ps q hq
      have e2 : turnP q = q := turn_id (by omega)
      rw [e2] at e
      subst e
      rw [Bool.and_eq_true] at hw
      refine ⟨hlt, q, List.mem_filter.2 ⟨hq, ?_⟩, e2⟩
      rw [mv_wanted h q1, mv_wanted h q2, hw.1, hw.2]
      rfl
    · rintro ⟨hlt, q, hq, e⟩
      obtain ⟨hq, hc⟩ := List.mem_filter.1 hq
      obtain ⟨q1, q2, q3, _⟩ := hg.ps q hq
      have e2 : turnP q = q := turn_id (by omega)
      rw [e2] at e
      subst e
      rw [mv_wanted h q1, mv_wanted h q2] at hc
      exact ⟨⟨hlt, q, hq, e2⟩, hc⟩
theorem norm_vars {n B : Nat} {l : List Sa} (hg : Good n B l) {m : List Pp} (h : IsNorm (apsA l) m) : ∀ p ∈ m, isV p.1 = true ∧ isV p.2 = true ∧ p.1 < p.2 := fun p hp => by
  obtain ⟨_, q, hq, e⟩ := (h.mem p).1 hp
  obtain ⟨q1, q2, q3, _⟩ := hg.ps q hq
  rw [turn_id (by omega)] at e
  subst e
  exact ⟨q1, q2, q3⟩
theorem norm_few {n B : Nat} {l : List Sa} (hg : Good n B l) {m : List Pp} (h : IsNorm (apsA l) m) : m.length ≤ 256 := Nat.le_trans (norm_len h) hg.pn
theorem ty_good {n B : Nat} {l : List Sa} (hg : Good n B l) {h : Hy} (hh : h ∈ hypsA l) (hf : h.fl = true) : tyA l h.var = h.ex.head? := by
  rw [tyA_flat]
  unfold tyOf
  cases e : (hypsA l).find? (fun x => x.fl && decide (x.var = h.var)) with
  | none =>
    have := List.find?_eq_none.1 e h hh
    simp [hf] at this
  | some x =>
    have h1 := List.find?_some e
    have h2 := List.mem_of_find?_eq_some e
    simp at h1
    have e3 : x = h := by
      obtain ⟨i, hi, rfl⟩ := List.getElem_of_mem h2
      obtain ⟨j, hj, rfl⟩ := List.getElem_of_mem hh
      have hp := List.pairwise_iff_getElem.1 hg.un
      rcases Nat.lt_trichotomy i j with hij | rfl | hij
      · exact absurd h1.2 (hp i j hi hj hij h1.1 hf)
      · rfl
      · exact absurd h1.2.symm (hp j i hj hi hij hf h1.1)
    subst e3
    obtain ⟨t, h4, _⟩ := hg.fl x hh hf
    simp [h4]
end Go.Proofs.YtkejjiilcoacfaaGreat
