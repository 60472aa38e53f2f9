/- DistCarries: what the calls answer, each in one form. -/
import Derived.Test.YtjaccgkeldabfaaGreatRBreach
import Derived.Test.YtjaccgkeldabfaaGreatBreaksBase
import Derived.Test.YtjaccgkeldabfaaGreatSRefNew
namespace Go.Proofs.YtjaccgkeldabfaaGreat
open Go.RowKit

/-- The binds of which a substitution can be made: all, or none. -/
def goodB (b0 : List (Int × List Int)) : List (Int × List Int) := if (b0.map (·.1)).Nodup then b0 else []
def errB (b0 : List (Int × List Int)) : Int := if (b0.map (·.1)).Nodup then 0 else 40
theorem goodB_nodup (b0 : List (Int × List Int)) : ((goodB b0).map (·.1)).Nodup := by
  unfold goodB
  by_cases h : (b0.map (·.1)).Nodup
  · rw [if_pos h]; exact h
  · rw [if_neg h]; simp
theorem goodB_mem {b0 : List (Int × List Int)} {q : Int × List Int} (h : q ∈ goodB b0) : q ∈ b0 := by
  unfold goodB at h
  by_cases hn : (b0.map (·.1)).Nodup
  · rwa [if_pos hn] at h
  · rw [if_neg hn] at h; simp at h
theorem goodB_len (b0 : List (Int × List Int)) : (goodB b0).length ≤ b0.length := by
  unfold goodB
  by_cases hn : (b0.map (·.1)).Nodup
  · rw [if_pos hn]; exact Nat.le_refl _
  · rw [if_neg hn]; exact Nat.zero_le _
theorem newU3 (w : World) (a : Option Addr) (n c : Nat) (vs0 : List (Int × Value)) (bl : List (Int × List Int)) (hl : bl.length = n) (hn : n ≤ 4398046511000) (hbig : ∀ p ∈ bl, p.2.length ≤ 17592186043904) (hR : S.RowAt w a (S.rowB vs0)) (hM : S.Matches w vs0 bl) :
    Calls Tryz.prog 7 #[.slice a n c] w fun e w' => Below w.heap.size w w' ∧ ∃ (sl : List (Int × List Int)) (a1 : Option Addr) (c1 : Nat), e = .returned (.tuple #[.agg #[.slice a1 sl.length c1], .int .i64 (errB bl)]) ∧ S.BindsAt w' a1 sl.length sl ∧ sl.Perm (goodB bl) := by
  refine (S.new_any w a n c vs0 bl hl hn hbig hR hM).mono ?_
  rintro e w' ⟨hb, ⟨hd, he⟩ | ⟨hd, bl', a1, c1, vs, hp, hr, he, ho, hO⟩⟩
  · exact ⟨hb, [], none, 0, by unfold errB; rw [if_neg hd]; exact he, (bindsC_none _ _).binds, by unfold goodB; rw [if_neg hd]⟩
  · have hl' : bl'.length = n := by rw [hp.length_eq, hl]
    refine ⟨hb, bl', a1, c1, by unfold errB; rw [if_pos hd, hl']; exact he, ?_, by unfold goodB; rw [if_pos hd]; exact hp⟩
    rw [hl']
    exact (hO.bindsC ho hr hl').binds
theorem rnewU3 (w : World) (a : Option Addr) (n c : Nat) (vs0 : List (Int × Value)) (bl : List (Int × List Int)) (hl : bl.length = n) (hn : n ≤ 4398046511000) (hbig : ∀ p ∈ bl, p.2.length ≤ 17592186043904) (hR : S.RowAt w a (S.rowB vs0)) (hM : S.Matches w vs0 bl) :
    Calls Tryz.prog 26 #[.slice a n c] w fun e w' => Below w.heap.size w w' ∧ ∃ (a1 : Option Addr) (c1 : Nat), e = .returned (.tuple #[.agg #[.slice a1 (goodB bl).length c1], .int .i64 (errB bl)]) ∧ S.RefAt w' a1 (goodB bl).length (goodB bl) := by
  refine (S.rnew_any w a n c vs0 bl hl hn hbig hR hM).mono ?_
  rintro e w' ⟨hb, ⟨hd, he⟩ | ⟨hd, a1, c1, he, hr⟩⟩
  · refine ⟨hb, none, 0, by unfold errB goodB; rw [if_neg hd, if_neg hd]; exact he, ?_⟩
    unfold goodB
    rw [if_neg hd]
    exact ⟨⟨[], fun i u hi => by simp [S.rowB] at hi, rfl, fun i p hi => by simp at hi⟩, rfl, by simp⟩
  · refine ⟨hb, a1, c1, by unfold errB goodB; rw [if_pos hd, if_pos hd, hl]; exact he, ?_⟩
    unfold goodB
    rw [if_pos hd, hl]
    exact hr
theorem str_perm {sl bl : List (Int × List Int)} (h : sl.Perm bl) (hn : (bl.map (·.1)).Nodup) : strOf sl = strOf bl := by
  funext v
  unfold strOf
  rw [S.look_perm h hn]
theorem onc_small {p : Int → Bool} {bl : List (Int × List Int)} (h : ∀ q ∈ bl, q.2.length ≤ 1048576) (v : Int) : (onc p (strOf bl v)).length ≤ 1048576 := by
  refine Nat.le_trans (onc_len _ _) ?_
  unfold strOf
  cases hl : S.look bl v with
  | none => simp
  | some l => exact h _ (S.look_in hl)
theorem askZ_small {xs : Int → List Int} (h : ∀ v, (xs v).length ≤ 1048576) (q : Pr) : (askZ xs q).length ≤ 1099511627776 := by
  unfold askZ
  by_cases hb : badR xs q = true
  · rw [if_pos hb]; simp
  · rw [if_neg hb, askL_len]
    have := Nat.mul_le_mul (h q.1) (h q.2)
    omega
/-- What the document's asked answers, in every world below. -/
theorem asks_any (w : World) (a : Option Addr) (n c : Nat) (rl : List (Int × List Int)) (m r : Int) (l : List Pr) (hr : S.RefAt w a n rl) (hn : n ≤ 4398046511000) (hm : wfI m) (hwl : ∀ q ∈ l, wfP q) (hwb : ∀ q ∈ rl, ∀ x ∈ q.2, wfI x) (hg : ∀ q ∈ rl, q.2.length ≤ 1048576) :
    ∀ wx, Below w.heap.size w wx → ∀ q ∈ l, Calls Tryz.prog 48 #[.agg #[.int .i64 q.1, .int .i64 q.2], .agg #[.slice a n c], kindsV m r] wx fun e w' => Below wx.heap.size wx w' ∧ ∃ (u : Value), e = .returned (.tuple #[u, .bool (!badR (fun v => onc (isV m r) (strOf rl v)) q)]) ∧ w'.ownsRow wx.heap.size 33 2 u (askZ (fun v => onc (isV m r) (strOf rl v)) q).length (rowP (askZ (fun v => onc (isV m r) (strOf rl v)) q)) := by
  intro wx hx q hq
  have hbig : ∀ q ∈ rl, q.2.length ≤ 17592186043904 := fun q hq => by have := hg q hq; omega
  have ST : ∀ v, wfI v → ∀ wy, Below wx.heap.size wx wy → Calls Tryz.prog 71 #[.int .i64 v, .agg #[.slice a n c], kindsV m r] wy fun e w' => ∃ u, e = .returned u ∧ w'.ownsRow wy.heap.size 3 1 u (onc (isV m r) (strOf rl v)).length ((onc (isV m r) (strOf rl v)).map intV) ∧ Below wy.heap.size wy w' := fun v hv wy hy =>
    rstands_any wy v m r a n c rl hv hm hwb hbig fun wz hz => S.rof_any wz a n c rl v hn hbig (hr.under (hx.trans ((hy.trans (hz.mono hy.size)).mono hx.size)))
  have h1 := onc_small (p := isV m r) hg q.1
  have h2 := onc_small (p := isV m r) hg q.2
  refine (rasked_any wx q.1 q.2 m r a n c _ _ (by have := Nat.mul_le_mul h1 h2; omega) (by omega) (by omega) (ST q.1 (hwl q hq).1) (ST q.2 (hwl q hq).2)).mono ?_
  intro e w' h
  exact asked_uni (xs := fun v => onc (isV m r) (strOf rl v)) (q := q) h
/-- What the document's Carry answers beside the program's. -/
theorem carries_uni {w w' : World} {e : Ending} {bl : List (Int × List Int)} {p : Int → Bool} {l mm : List Pr} {z : Pr} {fine : Bool} (hwb : ∀ q ∈ bl, ∀ x ∈ q.2, wfI x) (hwl : ∀ q ∈ l, wfP q) (h : RCarryIs w w' e (fun v => onc p (strOf bl v)) l) (ha : AskIs bl p l mm z fine) :
    Below w.heap.size w w' ∧ ∃ (a : Option Addr) (c : Nat), e = .returned (.tuple #[.slice a mm.length c, encP z, .bool fine]) ∧ w'.ownsRow w.heap.size 33 2 (.slice a mm.length c) mm.length (rowP mm) := by
  unfold RCarryIs at h
  rw [bad_same] at h
  obtain ⟨hb, ⟨q, hq, he⟩ | ⟨hn, v, out, he, ho, hr⟩⟩ := h
  · rcases ha with ⟨rfl, rfl, hf⟩ | ⟨_, _, hf, _⟩
    · rw [hf] at hq
      cases hq
      exact ⟨hb, none, 0, he, World.ownsRow_nil _ _ _ _⟩
    · rw [hf] at hq; cases hq
  · rcases ha with ⟨_, _, hf⟩ | ⟨rfl, rfl, hf, mn, hN, ht⟩
    · rw [hf] at hn; cases hn
    · have e1 := carry_same hwb hwl hN ht hf ho
      subst e1
      obtain ⟨a, c, rfl, _⟩ := own_shape hr
      exact ⟨hb, a, c, he, hr⟩
end Go.Proofs.YtjaccgkeldabfaaGreat
