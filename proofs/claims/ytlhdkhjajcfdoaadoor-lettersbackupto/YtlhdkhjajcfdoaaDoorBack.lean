/- Codes that are written are read back, each with its word. -/
import Derived.Test.YtlhdkhjajcfdoaaDoorTexts
namespace Go.Proofs.YtlhdkhjajcfdoaaDoor
open Go.RowKit

/-- What is told, with the place of the byte. -/
def toldP (m a : Nat) : List UInt8 → List (Nat × Int)
  | [] => []
  | c :: l => (stepN a c).map (fun n => (m, n)) ++ toldP (m + 1) (stepA a c) l
theorem toldP_append (l r : List UInt8) : ∀ m a, toldP m a (l ++ r) = toldP m a l ++ toldP (m + l.length) (endA a l) r := by
  induction l with
  | nil => intro m a; rfl
  | cons c l ih =>
    intro m a
    simp only [List.cons_append, toldP, List.length_cons]
    rw [ih, List.append_assoc]
    have e : m + 1 + l.length = m + (l.length + 1) := by omega
    rw [e]; rfl
theorem toldP_shift (l : List UInt8) : ∀ m k a, toldP (m + k) a l = (toldP m a l).map fun p => (p.1 + k, p.2) := by
  induction l with
  | nil => intro m k a; rfl
  | cons c l ih =>
    intro m k a
    simp only [toldP, List.map_append, List.map_map]
    have e : m + k + 1 = m + 1 + k := by omega
    rw [e, ih]; rfl
theorem toldP_nums (l : List UInt8) : ∀ m a, (toldP m a l).map (·.2) = numsOf a l ∧ ∀ p ∈ toldP m a l, p.1 < m + l.length := by
  induction l with
  | nil => intro m a; exact ⟨rfl, by simp [toldP]⟩
  | cons c l ih =>
    intro m a
    obtain ⟨h1, h2⟩ := ih (m + 1) (stepA a c)
    constructor
    · simp only [toldP, List.map_append, List.map_map, h1, numsOf]
      congr 1
      exact List.map_id _
    · intro p hp
      simp only [toldP, List.mem_append, List.mem_map] at hp
      rcases hp with ⟨n, _, rfl⟩ | hp
      · simp
      · have := h2 p hp; simp; omega
/-- The word in which a byte stands. -/
def holdsT : List Tok → Nat → Tok
  | [], _ => ⟨⟨#[]⟩, 0, 0, 0⟩
  | t :: r, p => if p < t.bytes.length then t else holdsT r (p - t.bytes.length)
theorem codes_told (ts : List Tok) : ∀ a, codesOf a ts = (toldP 0 a (allBytes ts)).map fun p => (p.2, holdsT ts p.1) := by
  induction ts with
  | nil => intro a; rfl
  | cons t r ih =>
    intro a
    have e : allBytes (t :: r) = t.bytes ++ allBytes r := rfl
    rw [e, toldP_append, List.map_append]
    show toldBy t (numsOf a t.bytes) ++ codesOf (endA a t.bytes) r = _
    obtain ⟨h1, h2⟩ := toldP_nums t.bytes 0 a
    congr 1
    · rw [← h1]
      unfold toldBy
      rw [List.map_map]
      apply List.map_congr_left
      intro p hp
      have := h2 p hp
      simp only [Function.comp, holdsT]
      rw [if_pos (by omega)]
    · rw [ih, toldP_shift, List.map_map]
      apply List.map_congr_left
      intro p _
      simp only [Function.comp, holdsT]
      rw [if_neg (by omega), Nat.add_sub_cancel]
theorem toldP_digits (b : List UInt8) (h : AllD b) : ∀ m a, toldP m a b = [] := by
  induction b with
  | nil => intro m a; rfl
  | cons c b ih =>
    intro m a
    simp only [toldP, stepN, if_pos (h c (by simp)), List.map_nil, List.nil_append]
    exact ih (fun x hx => h x (by simp [hx])) _ _
theorem told_wr (x : Int) (hx : wrOk x = true) (m : Nat) : toldP m 0 (wrT x) = [(m + (wrT x).length - 1, x)] ∧ endA 0 (wrT x) = 0 ∧ 0 < (wrT x).length := by
  by_cases h1 : x = -1
  · subst h1; exact ⟨rfl, rfl, by decide⟩
  · by_cases h2 : x = -2
    · subst h2; exact ⟨rfl, rfl, by decide⟩
    · have hr : 0 ≤ x ∧ x < (lim : Int) := by
        simp only [wrOk, Bool.or_eq_true, beq_iff_eq, Bool.and_eq_true, decide_eq_true_eq] at hx
        omega
      obtain ⟨n, rfl⟩ : ∃ n : Nat, x = n := ⟨x.toNat, by omega⟩
      rw [wrT_nat]
      obtain ⟨e1, e2⟩ := nums_enc n (by omega)
      refine ⟨?_, e2, by unfold enc; simp⟩
      have e3 := (toldP_nums (enc n) m 0).1
      have e4 : toldP m 0 (enc n) = toldP (m + (ahead (n / 20)).length) (endA 0 (ahead (n / 20))) [UInt8.ofNat (65 + n % 20)] := by
        unfold enc
        rw [toldP_append, toldP_digits _ (ahead_all _)]; rfl
      have e5 : toldP m 0 (enc n) = (stepN (endA 0 (ahead (n / 20))) (UInt8.ofNat (65 + n % 20))).map fun k => (m + (ahead (n / 20)).length, k) := by
        rw [e4]; simp [toldP]
      have e6 : stepN (endA 0 (ahead (n / 20))) (UInt8.ofNat (65 + n % 20)) = [(n : Int)] := by
        rw [e5, List.map_map] at e3
        have e7 : List.map ((fun x => x.2) ∘ fun k => (m + (ahead (n / 20)).length, k)) (stepN (endA 0 (ahead (n / 20))) (UInt8.ofNat (65 + n % 20))) = stepN (endA 0 (ahead (n / 20))) (UInt8.ofNat (65 + n % 20)) := List.map_id _
        rw [e7, e1] at e3
        exact e3
      rw [e5, e6]
      simp [enc]
/-- The places at which codes end. -/
def endsP (m : Nat) : List Int → List (Nat × Int)
  | [] => []
  | x :: r => (m + (wrT x).length - 1, x) :: endsP (m + (wrT x).length) r
theorem told_print (L : List Int) : ∀ m, prOk L = true → toldP m 0 (prB L) = endsP m L ∧ endA 0 (prB L) = 0 := by
  induction L with
  | nil => intro m _; exact ⟨rfl, rfl⟩
  | cons x L ih =>
    intro m h
    simp only [prOk, List.all_cons, Bool.and_eq_true] at h
    obtain ⟨t1, t2, _⟩ := told_wr x h.1 m
    have e : prB (x :: L) = wrT x ++ prB L := rfl
    rw [e, toldP_append, endA_append, t1, t2]
    obtain ⟨i1, i2⟩ := ih (m + (wrT x).length) h.2
    rw [i1, i2]
    exact ⟨rfl, rfl⟩
theorem endsP_at (L : List Int) : ∀ m i x, L[i]? = some x → (endsP m L)[i]? = some (m + (prB (L.take (i + 1))).length - 1, x) := by
  induction L with
  | nil => intro m i x h; simp at h
  | cons y L ih =>
    intro m i x h
    cases i with
    | zero =>
      simp at h; subst h
      have e : prB ((y :: L).take (0 + 1)) = wrT y := by simp [prB]
      rw [e]; rfl
    | succ i =>
      have h2 : L[i]? = some x := by simpa using h
      have e : prB ((y :: L).take (i + 1 + 1)) = wrT y ++ prB (L.take (i + 1)) := rfl
      show (endsP (m + (wrT y).length) L)[i]? = _
      rw [ih _ i x h2, e, List.length_append, Nat.add_assoc]
theorem endsP_nums (L : List Int) : ∀ m, (endsP m L).map (·.2) = L := by
  induction L with
  | nil => intro m; rfl
  | cons y L ih => intro m; simp [endsP, ih]
/-- What is read of letters that were written, cut into words. -/
theorem codes_print (L : List Int) (h : prOk L = true) (ts : List Tok) (hb : allBytes ts = prB L) :
    (codesOf 0 ts).length = L.length ∧ endOf 0 ts = 0 ∧ ∀ i x, L[i]? = some x → (codesOf 0 ts)[i]? = some (x, holdsT ts ((prB (L.take (i + 1))).length - 1)) := by
  have h1 := codes_told ts 0
  obtain ⟨t1, t2⟩ := told_print L 0 h
  rw [hb, t1] at h1
  refine ⟨?_, ?_, fun i x hx => ?_⟩
  · rw [h1, List.length_map, ← List.length_map (f := fun p : Nat × Int => p.2), endsP_nums]
  · rw [(nums_of_codes ts 0).2, hb]; exact t2
  · rw [h1, List.getElem?_map, endsP_at L 0 i x hx, Nat.zero_add]; rfl
theorem good_ok (l : List Int) : prOk (l.map goodN) = true := by
  unfold prOk
  rw [List.all_eq_true]
  intro x hx
  obtain ⟨y, _, rfl⟩ := List.mem_map.1 hx
  exact goodN_ok y
theorem prB_pos (L : List Int) (h : prOk L = true) (i : Nat) (x : Int) (hx : L[i]? = some x) : (prB (L.take i)).length + (wrT x).length = (prB (L.take (i + 1))).length ∧ 0 < (wrT x).length := by
  have e : L.take (i + 1) = L.take i ++ [x] := by rw [List.take_add_one, hx]; rfl
  have hw : wrOk x = true := List.all_eq_true.1 h x (List.mem_of_getElem? hx)
  refine ⟨?_, (told_wr x hw 0).2.2⟩
  rw [e, prB_append, List.length_append]
  have : prB [x] = wrT x := by simp [prB]
  rw [this]

set_option maxRecDepth 100000 in
set_option maxHeartbeats 4000000 in
theorem holds_any (w : World) (a : Option Addr) (n c : Nat) (ts : List Tok) (p : Nat) (hl : ts.length = n) (hn : n ≤ 4294967297) (hp : p ≤ 4294967296) (_ : (allBytes ts).length ≤ 4294967296) (h : ToksAt w a ts) :
    Calls Tryd.prog 17 #[.slice a n c, .int .i64 p] w fun e w' => e = .returned (tokV (holdsT ts p)) ∧ Below w.heap.size w w' := by
  have HI : Hid (ToksAt w a ts) := h
  have HL : Hid (ts.length = n) := hl
  have K0 : (w.alloc (.cells #[.string ⟨#[]⟩, .int .i64 0, .int .i64 0, .int .i64 0] 30)).heap[w.heap.size]? = some (.cells #[.string ⟨#[]⟩, .int .i64 0, .int .i64 0, .int .i64 0] 30 (0, 0)) := heap_alloc_new w _
  have HB0 : Hid (Below w.heap.size w (w.alloc (.cells #[.string ⟨#[]⟩, .int .i64 0, .int .i64 0, .int .i64 0] 30))) := below_alloc _ _
  clear h hl
  go_enter Tryd.func17, Tryd.ntmps17
  go_wp2_with fail
  obtain ⟨W0, hW0⟩ : ∃ W0, W0 = w.alloc (.cells #[.string ⟨#[]⟩, .int .i64 0, .int .i64 0, .int .i64 0] 30) := ⟨_, rfl⟩
  have HI0 : Hid (ToksAt W0 a ts) := by show ToksAt _ _ _; rw [hW0]; exact HI.out.under (below_alloc _ _)
  rw [← hW0] at K0 HB0 ⊢
  obtain ⟨b, hbb⟩ : ∃ b, b = w.heap.size := ⟨_, rfl⟩
  have HBb : Hid (w.heap.size = b) := hbb.symm
  rw [← hbb] at K0 HB0 ⊢
  have x0 : W0.cell? ⟨b, 0, none⟩ = some (.string ⟨#[]⟩) := by simp [World.cell?, K0]
  have x1 : W0.cell? ⟨b, 1, none⟩ = some (.int .i64 0) := by simp [World.cell?, K0]
  have x2 : W0.cell? ⟨b, 2, none⟩ = some (.int .i64 0) := by simp [World.cell?, K0]
  have x3 : W0.cell? ⟨b, 3, none⟩ = some (.int .i64 0) := by simp [World.cell?, K0]
  have xf : ∀ i, W0.frozen? ⟨b, i, none⟩ = false := fun i => by simp [World.frozen?, K0]
  have HK0 : Hid (W0.heap[b]? = some (.cells #[.string ⟨#[]⟩, .int .i64 0, .int .i64 0, .int .i64 0] 30 (0, 0))) := K0
  clear hW0 hbb K0
  go_loop [1, 5] (fun v i => ∃ j q : Nat, j ≤ n ∧ q ≤ 4294967296 ∧ v = .int .i64 q ∧ i = .int .i64 j ∧ Hid (holdsT (ts.drop j) q = holdsT ts p)) (fun _ i => n - (intOf i).toNat)
  case atStart => exact ⟨0, p, Nat.zero_le _, hp, rfl, rfl, rfl⟩
  case round =>
    obtain ⟨j, q, hj, hq, rfl, rfl, hH⟩ := hrel
    by_cases hlt : j < n
    · have n1 : (j : Int) < (n : Int) := by omega
      obtain ⟨t, ht⟩ : ∃ t, ts[j]? = some t := ⟨ts[j]'(by rw [HL.out]; exact hlt), List.getElem?_eq_getElem _⟩
      obtain ⟨g, off, rfl, c0, c1, c2, c3⟩ := HI0.out j t ht
      have hd : Hid (holdsT (ts.drop j) q = if q < t.text.size then t else holdsT (ts.drop (j + 1)) (q - t.text.size)) := by
        show _ = _
        have e : ts.drop j = t :: ts.drop (j + 1) := by
          rw [List.drop_eq_getElem_cons (by rw [HL.out]; exact hlt)]
          rw [List.getElem?_eq_getElem (by rw [HL.out]; exact hlt)] at ht
          rw [Option.some.inj ht]
        rw [e, holdsT, Tok.size]
      clear ht
      by_cases hin : q < t.text.size
      · have n2 : (q : Int) < (t.text.size : Int) := by omega
        have hfin : Hid (holdsT ts p = t) := by show _ = _; rw [← hH.out, hd.out, if_pos hin]
        rw [hfin.out]
        go_wp2
        refine bodyPost_ret (v := tokV t) (by simp [results, Tryd.results17, go_sem, tokV, x0, x1, x2, x3]) rfl ⟨by rw [hfin.out], ?_⟩
        rw [HBb.out]
        exact (((HB0.out.setCell (Nat.le_refl _) _).setCell (Nat.le_refl _) _).setCell (Nat.le_refl _) _).setCell (Nat.le_refl _) _
      · have n2 : ¬ (q : Int) < (t.text.size : Int) := by omega
        have hH2 : Hid (holdsT (ts.drop (j + 1)) (q - t.text.size) = holdsT ts p) := by show _ = _; rw [← hH.out, hd.out, if_neg hin]
        have e9 : (q : Int) - (t.text.size : Int) = ((q - t.text.size : Nat) : Int) := by omega
        have E9 : Hid ((q : Int) - (t.text.size : Int) = ((q - t.text.size : Nat) : Int)) := e9
        have htz : t.text.size ≤ q := by omega
        clear e9
        go_wp2
        exact ⟨⟨j + 1, q - t.text.size, by omega, by omega, by rw [E9.out], by go_num, hH2.out⟩, by simp [intOf]; omega⟩
    · have n1 : ¬ (j : Int) < (n : Int) := by omega
      have hfin : Hid (holdsT ts p = ⟨⟨#[]⟩, 0, 0, 0⟩) := by
        show _ = _
        rw [← hH.out, List.drop_eq_nil_of_le (by rw [HL.out]; omega)]; rfl
      go_wp2
      refine bodyPost_ret (v := tokV ⟨⟨#[]⟩, 0, 0, 0⟩) (by simp [results, Tryd.results17, go_sem, tokV, x0, x1, x2, x3]) rfl ⟨by rw [hfin.out], ?_⟩
      rw [HBb.out]
      exact (((HB0.out.setCell (Nat.le_refl _) _).setCell (Nat.le_refl _) _).setCell (Nat.le_refl _) _).setCell (Nat.le_refl _) _
end Go.Proofs.YtlhdkhjajcfdoaaDoor
