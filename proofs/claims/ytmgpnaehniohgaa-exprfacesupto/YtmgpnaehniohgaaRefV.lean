/- The document's Vars. -/
import Derived.Test.YtmgpnaehniohgaaRefB
import Derived.Deep.RegionHeld3
namespace Go.Proofs.Ytmgpnaehniohgaa
open Go.RowKit Go.Deep

theorem below_dn (w : World) (B n : Nat) : Below B w (w.drewN n) := ⟨rfl, rfl, rfl, Nat.le_refl _, fun _ _ => rfl⟩
theorem owns_same {W W' : World} {base e size : Nat} {v : Value} {n : Nat} {xs : List Value} (h : W.ownsRow base e size v n xs) (hk : ∀ g, v.ownBlock = some g → W'.heap[g]? = W.heap[g]?) : W'.ownsRow base e size v n xs := by
  refine ⟨h.1, ?_⟩
  rcases h.2 with h0 | ⟨g, cap, cur, hv, hg, hh, hr⟩
  · exact .inl h0
  · exact .inr ⟨g, cap, cur, hv, hg, (hk g (by rw [hv]; rfl)).trans hh, hr⟩
def lenV : Value → Nat
  | .slice _ n _ => n
  | _ => 0
theorem rising_len : ∀ (out l : List Int), out.Pairwise (· < ·) → (∀ x ∈ out, x ∈ l) → out.length ≤ l.length
  | [], _, _, _ => Nat.zero_le _
  | x :: t, l, h, hm => by
    obtain ⟨h1, h2⟩ := List.pairwise_cons.1 h
    have hx : x ∈ l := hm x (by simp)
    have := rising_len t (l.erase x) h2 fun y hy => (List.mem_erase_of_ne (by have := h1 y hy; omega)).2 (hm y (List.mem_cons_of_mem _ hy))
    rw [List.length_erase_of_mem hx] at this
    have : 0 < l.length := List.length_pos_of_mem hx
    simp only [List.length_cons]
    omega
/-- What may come next. -/
def Cand (vs out : List Int) (x : Int) : Prop := x ∈ vs ∧ ∀ z ∈ out, z < x
/-- The least of what may come next, among the first t. -/
def BestIs (l vs out : List Int) (t : Nat) (bb : Int) : Prop := (bb = -1 ∧ ∀ x ∈ l.take t, ¬ Cand vs out x) ∨ ∃ (bi : Nat) (y : Int), bb = bi ∧ bi < t ∧ l[bi]? = some y ∧ Cand vs out y ∧ ∀ x ∈ l.take t, Cand vs out x → y ≤ x
theorem BestIs.skip {l vs out : List Int} {t : Nat} {bb x : Int} (h : BestIs l vs out t bb) (hx : l[t]? = some x) (hn : ¬ Cand vs out x) : BestIs l vs out (t + 1) bb := by
  have key : ∀ y ∈ l.take (t + 1), Cand vs out y → y ∈ l.take t := fun y hy hc => by
    rw [List.take_add_one, hx] at hy
    rcases List.mem_append.1 hy with h1 | h1
    · exact h1
    · simp at h1
      subst h1
      exact absurd hc hn
  rcases h with ⟨e, h1⟩ | ⟨bi, y, e, h1, h2, h3, h4⟩
  · exact .inl ⟨e, fun y hy hc => h1 y (key y hy hc) hc⟩
  · exact .inr ⟨bi, y, e, by omega, h2, h3, fun z hz hc => h4 z (key z hz hc) hc⟩
theorem BestIs.keep {l vs out : List Int} {t : Nat} {x y : Int} {bi : Nat} (hb : bi < t) (hy : l[bi]? = some y) (hc : Cand vs out y) (h4 : ∀ x ∈ l.take t, Cand vs out x → y ≤ x) (hx : l[t]? = some x) (hn : ¬ x < y) : BestIs l vs out (t + 1) bi := .inr ⟨bi, y, rfl, by omega, hy, hc, fun z hz hc => by
  rw [List.take_add_one, hx] at hz
  rcases List.mem_append.1 hz with h1 | h1
  · exact h4 z h1 hc
  · simp at h1
    subst h1
    omega⟩
theorem BestIs.take {l vs out : List Int} {t : Nat} {x : Int} (hx : l[t]? = some x) (hc : Cand vs out x) (h4 : ∀ z ∈ l.take t, Cand vs out z → x ≤ z) : BestIs l vs out (t + 1) t := .inr ⟨t, x, rfl, by omega, hx, hc, fun z hz hc => by
  rw [List.take_add_one, hx] at hz
  rcases List.mem_append.1 hz with h1 | h1
  · exact h4 z h1 hc
  · simp at h1
    subst h1
    omega⟩
structure OutIs (l vs out : List Int) : Prop where
  rise : out.Pairwise (· < ·)
  mem : ∀ x ∈ out, x ∈ l ∧ x ∈ vs
  all : ∀ x ∈ l, x ∈ vs → x ∈ out ∨ ∀ z ∈ out, z < x
theorem OutIs.more {l vs out : List Int} {y : Int} {n : Nat} (h : OutIs l vs out) (hn : l.length = n) (hy : y ∈ l) (hc : Cand vs out y) (h4 : ∀ x ∈ l.take n, Cand vs out x → y ≤ x) : OutIs l vs (out ++ [y]) := by
  rw [List.take_of_length_le (by omega)] at h4
  refine ⟨List.pairwise_append.2 ⟨h.rise, List.pairwise_singleton _ _, fun a ha b hb => by rw [List.mem_singleton.1 hb]; exact hc.2 a ha⟩, fun x hx => ?_, fun x hx hv => ?_⟩
  · rcases List.mem_append.1 hx with h1 | h1
    · exact h.mem x h1
    · rw [List.mem_singleton.1 h1]
      exact ⟨hy, hc.1⟩
  · rcases h.all x hx hv with h1 | h1
    · exact .inl (List.mem_append_left _ h1)
    · have := h4 x hx ⟨hv, h1⟩
      by_cases e : x = y
      · subst e
        exact .inl (by simp)
      · right
        intro z hz
        rcases List.mem_append.1 hz with h2 | h2
        · exact h1 z h2
        · rw [List.mem_singleton.1 h2]
          omega
theorem OutIs.done {l vs out : List Int} {n : Nat} (h : OutIs l vs out) (hn : l.length = n) (h4 : ∀ x ∈ l.take n, ¬ Cand vs out x) : ∀ x, x ∈ out ↔ x ∈ l ∧ x ∈ vs := fun x => by
  rw [List.take_of_length_le (by omega)] at h4
  refine ⟨h.mem x, fun ⟨h1, h2⟩ => ?_⟩
  rcases h.all x h1 h2 with h3 | h3
  · exact h3
  · exact absurd ⟨h2, h3⟩ (h4 x h1)
theorem last_all {out : List Int} {la x : Int} {k : Nat} (h : out.Pairwise (· < ·)) (hk : out.length = k) (hl : out[k - 1]? = some la) : (∀ z ∈ out, z < x) ↔ la < x := by
  have hlm := List.mem_of_getElem? hl
  refine ⟨fun h1 => h1 la hlm, fun h1 z hz => ?_⟩
  obtain ⟨i, hi⟩ := List.getElem?_of_mem hz
  obtain ⟨hi1, hi2⟩ := List.getElem?_eq_some_iff.1 hi
  obtain ⟨hl1, hl2⟩ := List.getElem?_eq_some_iff.1 hl
  by_cases e : i = k - 1
  · subst e
    rw [hi] at hl
    cases hl
    exact h1
  · have := List.pairwise_iff_getElem.1 h i (k - 1) hi1 hl1 (by omega)
    rw [hi2, hl2] at this
    omega

set_option maxRecDepth 100000 in
set_option maxHeartbeats 16000000 in
theorem rvars_any (w : World) (a : Option Addr) (ca : Nat) (l vs : List Int) (n nv cv : Nat) (av : Option Addr) (hl : l.length = n) (hn : n ≤ 17592186043900) (hA : IntsAt w a l) (hv : vs.length = nv) (hnv : nv ≤ 17592186043900) (hV : IntsAt w av vs) :
    Calls Try.prog 16 #[.slice a n ca, .agg #[.bool false, .slice none 0 0, .int .i64 0, .bool false, .int .i64 0, .int .i64 0, .slice av nv cv]] w fun e w' => Below w.heap.size w w' ∧ ∃ ao cap out, e = .returned (.slice ao out.length cap) ∧ IntsAt w' ao out ∧ out.length ≤ n ∧ out.Pairwise (· < ·) ∧ ∀ x, x ∈ out ↔ x ∈ l ∧ x ∈ vs := by
  obtain ⟨i0, hi0, hz0, hz1, hz3⟩ := info_parts infoI
  obtain ⟨wA, hwA⟩ : ∃ wA, wA = w.alloc (.cells #[.bool false, .slice none 0 0, .int .i64 0, .bool false, .int .i64 0, .int .i64 0, .slice av nv cv] 37) := ⟨_, rfl⟩
  have hbA : Below w.heap.size w wA := by rw [hwA]; exact (Below.refl _ _).alloc (Nat.le_refl _) _
  have HBX : Hid (∀ (i : Nat) (u : Value), (#[.bool false, .slice none 0 0, .int .i64 0, .bool false, .int .i64 0, .int .i64 0, .slice av nv cv] : Array Value)[i]? = some u → wA.cell? ⟨w.heap.size, i, none⟩ = some u) := fun i u hu => by
    rw [hwA]
    exact (World.cell?_alloc_new w _ _ i).trans hu
  have HSZ : Hid (wA.heap.size = w.heap.size + 1) := by show _ = _; rw [hwA]; simp
  have HA : Hid (IntsAt wA a l) := hA.under hbA
  have HV : Hid (IntsAt wA av vs) := hV.under hbA
  have HBA : Hid (Below w.heap.size w wA) := hbA
  have HL : Hid (l.length = n) := hl
  have HVl : Hid (vs.length = nv) := hv
  have HwA : Hid (wA = w.alloc (.cells #[.bool false, .slice none 0 0, .int .i64 0, .bool false, .int .i64 0, .int .i64 0, .slice av nv cv] 37)) := hwA
  clear hA hV hl hv hbA hwA
  go_enter Try.func16, Try.ntmps16
  go_wp2_with fail
  rw [← HwA.out]
  generalize hB0 : w.heap.size = B0 at *
  have HB0 : Hid (w.heap.size = B0) := hB0
  clear hB0 HwA
  go_loopw [5, 6, 7] (fun v _ _ wx => ∃ (k : Nat) (ao : Option Addr) (cap : Nat) (out : List Int), k ≤ n ∧ v = .slice ao k cap ∧ Hid (out.length = k) ∧ Hid (wx.ownsRow wA.heap.size 3 1 (.slice ao k cap) k (out.map intV)) ∧ Hid (OutIs l vs out) ∧ Hid (Below wA.heap.size wA wx)) (fun v _ _ _ => n + 1 - lenV v)
  case atStart => exact ⟨0, none, 0, [], Nat.zero_le _, rfl, rfl, World.ownsRow_nil _ _ _ _, ⟨List.Pairwise.nil, fun x hx => by simp at hx, fun x _ _ => .inr fun z hz => by simp at hz⟩, Below.refl _ _⟩
  case round =>
    obtain ⟨k, ao, cap, out, hk, rfl, HO, HW, HI, hb⟩ := hrel
    go_wp2_with fail
    go_loopw [6, 7] (fun b i wx => ∃ (t : Nat) (bb : Int), t ≤ n ∧ i = .int .i64 t ∧ b = .int .i64 bb ∧ Hid (BestIs l vs out t bb) ∧ Hid (wx.ownsRow wA.heap.size 3 1 (.slice ao k cap) k (out.map intV)) ∧ Hid (Below wA.heap.size wA wx)) (fun _ i _ => n - (intOf i).toNat)
    case atStart => exact ⟨0, -1, Nat.zero_le _, rfl, rfl, .inl ⟨rfl, fun x hx => by simp at hx⟩, HW.out, hb.out⟩
    case round =>
      clear HW hb
      obtain ⟨t, bb, ht, rfl, rfl, HBs, HW, hb⟩ := hrel
      by_cases hlt : t < n
      · have n1 : (t : Int) < (n : Int) := by omega
        obtain ⟨x, hx⟩ : ∃ x, l[t]? = some x := ⟨l[t]'(by rw [HL.out]; exact hlt), List.getElem?_eq_getElem _⟩
        obtain ⟨b1, o1, rfl, c1⟩ := HA.out t x hx
        have HX : Hid (l[t]? = some x) := hx
        have tb1 : b1 < wA.heap.size := World.block_lt_of_cell? _ _ c1
        have tb0 : B0 < wA.heap.size := by rw [HSZ.out]; omega
        have far : ∀ b i, b < wA.heap.size → wr.drew.cell? ⟨b, i, none⟩ = wA.cell? ⟨b, i, none⟩ := fun b i hb1 => hb.out.cell (p := ⟨b, i, none⟩) hb1
        have d1 : wr.drew.cell? ⟨b1, o1 + t, none⟩ = some (.int .i64 x) := (far _ _ tb1).trans c1
        have k0 : wr.drew.cell? ⟨B0, 0, none⟩ = some (.bool false) := (far _ _ tb0).trans (HBX.out 0 _ rfl)
        have k1 : wr.drew.cell? ⟨B0, 1, none⟩ = some (.slice none 0 0) := (far _ _ tb0).trans (HBX.out 1 _ rfl)
        have k2 : wr.drew.cell? ⟨B0, 2, none⟩ = some (.int .i64 0) := (far _ _ tb0).trans (HBX.out 2 _ rfl)
        have k3 : wr.drew.cell? ⟨B0, 3, none⟩ = some (.bool false) := (far _ _ tb0).trans (HBX.out 3 _ rfl)
        have k4 : wr.drew.cell? ⟨B0, 4, none⟩ = some (.int .i64 0) := (far _ _ tb0).trans (HBX.out 4 _ rfl)
        have k5 : wr.drew.cell? ⟨B0, 5, none⟩ = some (.int .i64 0) := (far _ _ tb0).trans (HBX.out 5 _ rfl)
        have k6 : wr.drew.cell? ⟨B0, 6, none⟩ = some (.slice av nv cv) := (far _ _ tb0).trans (HBX.out 6 _ rfl)
        have hbd : Below wA.heap.size wA wr.drew := hb.out.trans ⟨rfl, rfl, rfl, Nat.le_refl _, fun _ _ => rfl⟩
        have HI3 : Hid (IntsAt wr.drew av vs) := HV.out.under hbd
        clear hbd
        have HW3 : Hid (wr.drew.ownsRow wA.heap.size 3 1 (.slice ao k cap) k (out.map intV)) := HW.out
        have Hb3 : Hid (Below wA.heap.size wA wr.drew) := hb.out.trans ⟨rfl, rfl, rfl, Nat.le_refl _, fun _ _ => rfl⟩
        have s0 : B0 < wr.drew.heap.size := Nat.lt_of_lt_of_le tb0 hb.out.size
        have s1 : b1 < wr.drew.heap.size := Nat.lt_of_lt_of_le tb1 hb.out.size
        clear hx c1 far tb1 tb0
        by_cases hin : x ∈ vs
        · have hin2 : decide (x ∈ vs) = true := decide_eq_true hin
          rcases Nat.eq_zero_or_pos k with hk0 | hk0
          · have hout : out = [] := List.eq_nil_of_length_eq_zero (HO.out.trans hk0)
            have HC : Hid (Cand vs out x) := ⟨hin, fun z hz => by rw [hout] at hz; simp at hz⟩
            have g1 : decide ((0 : Int) < (k : Int)) = false := decide_eq_false (by omega)
            have g2 : (0 < k) = False := eq_false (by omega)
            have HK0 : Hid (k = 0) := hk0
            clear hout hin hk0
            go_wp2_with fail
            refine wp_region_held_drew (S := fun w' => w'.cell? ⟨B0, 0, none⟩ = some (.bool false) ∧ w'.cell? ⟨B0, 1, none⟩ = some (.slice none 0 0) ∧ w'.cell? ⟨B0, 2, none⟩ = some (.int .i64 0) ∧ w'.cell? ⟨B0, 3, none⟩ = some (.bool false) ∧ w'.cell? ⟨B0, 4, none⟩ = some (.int .i64 0) ∧ w'.cell? ⟨B0, 5, none⟩ = some (.int .i64 0) ∧ w'.cell? ⟨B0, 6, none⟩ = some (.slice av nv cv) ∧ w'.cell? ⟨b1, o1 + t, none⟩ = some (.int .i64 x)) (by kernel_rfl) ?_ (fun hHeld => ?_)
            · exact ⟨k0, k1, k2, k3, k4, k5, k6, d1⟩
            generalize wr.drew = w3 at *
            refine wpAnyH_take (i := 0) (oi := { dst := some 14, op := Op.load 37 (Operand.tmp 3), type := 37, pos := "ref.go:93", after := #[], guard := none }) (v := ?_) rfl (by kernel_rfl) (by kernel_rfl) (by kernel_rfl) (fun _ _ _ h => h) (Or.inl ⟨by rfl, ?_⟩) hHeld ?_
            rotate_left
            · (intro w hSw; (try dsimp only at hSw); go_simp; try with_reducible rfl)
            try simp only [Act.put, List.setIfInBounds_toArray, List.set_cons_zero, List.set_cons_succ]
            refine wpAnyH_take (i := 1) (oi := { dst := some 15, op := Op.move (Operand.tmp 0), type := 22, pos := "ref.go:93", after := #[], guard := none }) (v := ?_) rfl (by kernel_rfl) (by kernel_rfl) (by kernel_rfl) (fun _ _ _ h => h) (Or.inl ⟨by rfl, ?_⟩) hHeld ?_
            rotate_left
            · (intro w hSw; (try dsimp only at hSw); go_simp; try with_reducible rfl)
            try simp only [Act.put, List.setIfInBounds_toArray, List.set_cons_zero, List.set_cons_succ]
            refine wpAnyH_take (i := 2) (oi := { dst := some 16, op := Op.move (Operand.tmp 7), type := 3, pos := "ref.go:93", after := #[], guard := none }) (v := ?_) rfl (by kernel_rfl) (by kernel_rfl) (by kernel_rfl) (fun _ _ _ h => h) (Or.inl ⟨by rfl, ?_⟩) hHeld ?_
            rotate_left
            · (intro w hSw; (try dsimp only at hSw); go_simp; try with_reducible rfl)
            try simp only [Act.put, List.setIfInBounds_toArray, List.set_cons_zero, List.set_cons_succ]
            refine wpAnyH_take (i := 3) (oi := { dst := some 17, op := Op.indexAddr 22 (Operand.tmp 15) (Operand.tmp 16), type := 0, pos := "ref.go:93", after := #[{ on := 1, ground := Ground.data }, { on := 2, ground := Ground.data }], guard := none }) (v := ?_) rfl (by kernel_rfl) (by kernel_rfl) (by kernel_rfl) (fun _ _ _ h => h) (Or.inl ⟨by rfl, ?_⟩) hHeld ?_
            rotate_left
            · (intro w hSw; (try dsimp only at hSw); go_simp; try with_reducible rfl)
            try simp only [Act.put, List.setIfInBounds_toArray, List.set_cons_zero, List.set_cons_succ]
            refine wpAnyH_take (i := 4) (oi := { dst := some 18, op := Op.load 3 (Operand.tmp 17), type := 3, pos := "ref.go:93", after := #[{ on := 3, ground := Ground.data }], guard := none }) (v := ?_) rfl (by kernel_rfl) (by kernel_rfl) (by kernel_rfl) (fun _ _ _ h => h) (Or.inl ⟨by rfl, ?_⟩) hHeld ?_
            rotate_left
            · (intro w hSw; (try dsimp only at hSw); go_simp; try with_reducible rfl)
            try simp only [Act.put, List.setIfInBounds_toArray, List.set_cons_zero, List.set_cons_succ]
            refine wpAnyH_ready (rs := [5]) (by kernel_rfl) (by simp) ?_
            refine AllReadyH.cons (o := { dst := some 19, op := Op.call { callee := Callee.value (Operand.func 27), args := #[Operand.tmp 14, Operand.tmp 18], argTypes := #[37, 3] }, type := 4, pos := "ref.go:93", after := #[{ on := 0, ground := Ground.data }, { on := 4, ground := Ground.data }], guard := none }) rfl (fun K hK => ?_) AllReadyH.nil
            go_simp
            go_at_call 27
            refine (is_any w3 vs x nv cv av HVl.out hnv HI3.out).mono ?_
            rintro e w6 ⟨rfl, hb6⟩
            rw [hin2]
            have m0 : w6.cell? ⟨B0, 0, none⟩ = some (.bool false) := (hb6.cell (p := ⟨B0, 0, none⟩) s0).trans k0
            have m1 : w6.cell? ⟨B0, 1, none⟩ = some (.slice none 0 0) := (hb6.cell (p := ⟨B0, 1, none⟩) s0).trans k1
            have m2 : w6.cell? ⟨B0, 2, none⟩ = some (.int .i64 0) := (hb6.cell (p := ⟨B0, 2, none⟩) s0).trans k2
            have m3 : w6.cell? ⟨B0, 3, none⟩ = some (.bool false) := (hb6.cell (p := ⟨B0, 3, none⟩) s0).trans k3
            have m4 : w6.cell? ⟨B0, 4, none⟩ = some (.int .i64 0) := (hb6.cell (p := ⟨B0, 4, none⟩) s0).trans k4
            have m5 : w6.cell? ⟨B0, 5, none⟩ = some (.int .i64 0) := (hb6.cell (p := ⟨B0, 5, none⟩) s0).trans k5
            have m6 : w6.cell? ⟨B0, 6, none⟩ = some (.slice av nv cv) := (hb6.cell (p := ⟨B0, 6, none⟩) s0).trans k6
            have m7 : w6.cell? ⟨b1, o1 + t, none⟩ = some (.int .i64 x) := (hb6.cell (p := ⟨b1, o1 + t, none⟩) s1).trans d1
            have HW6 : Hid (w6.ownsRow wA.heap.size 3 1 (.slice ao k cap) k (out.map intV)) := owns_same HW3.out fun g e => hb6.block g (own_low HW3.out g e)
            have Hb6 : Hid (Below wA.heap.size wA w6) := Hb3.out.trans (hb6.mono Hb3.out.size)
            clear hb6 HW3 Hb3 HI3 k0 k1 k2 k3 k4 k5 k6 d1
            try go_wp2_with fail
            refine hK.out _ _ ?_ (fun hHeld_5 => ?_)
            · exact ⟨m0, m1, m2, m3, m4, m5, m6, m7⟩
            clear hK K
            try simp only [Act.put, List.setIfInBounds_toArray, List.set_cons_zero, List.set_cons_succ]
            refine wpAnyH_take (i := 6) (oi := { dst := some 20, op := Op.unOp UnOp.not 4 (Operand.tmp 19), type := 4, pos := "ref.go:93", after := #[{ on := 5, ground := Ground.data }], guard := none }) (v := ?_) rfl (by kernel_rfl) (by kernel_rfl) (by kernel_rfl) (fun _ _ _ h => h) (Or.inl ⟨by rfl, ?_⟩) hHeld_5 ?_
            rotate_left
            · (intro w hSw; (try dsimp only at hSw); go_simp; try with_reducible rfl)
            try simp only [Act.put, List.setIfInBounds_toArray, List.set_cons_zero, List.set_cons_succ]
            refine wpAnyH_take (i := 7) (oi := { dst := some 21, op := Op.move (Operand.tmp 20), type := 4, pos := "ref.go:93", after := #[{ on := 6, ground := Ground.data }, { on := 5, ground := Ground.chain }], guard := none }) (v := ?_) rfl (by kernel_rfl) (by kernel_rfl) (by kernel_rfl) (fun _ _ _ h => h) (Or.inl ⟨by rfl, ?_⟩) hHeld_5 ?_
            rotate_left
            · (intro w hSw; (try dsimp only at hSw); go_simp; try with_reducible rfl)
            try simp only [Act.put, List.setIfInBounds_toArray, List.set_cons_zero, List.set_cons_succ]
            refine wpAnyH_take (i := 8) (oi := { dst := some 22, op := Op.move (Operand.tmp 5), type := 22, pos := "ref.go:93", after := #[{ on := 7, ground := Ground.guard }], guard := some (7, false) }) (v := ?_) rfl (by kernel_rfl) (by kernel_rfl) (by kernel_rfl) (fun _ _ _ h => h) (Or.inl ⟨by rfl, ?_⟩) hHeld_5 ?_
            rotate_left
            · (intro w hSw; (try dsimp only at hSw); go_simp; try with_reducible rfl)
            try simp only [Act.put, List.setIfInBounds_toArray, List.set_cons_zero, List.set_cons_succ]
            refine wpAnyH_take (i := 9) (oi := { dst := some 23, op := Op.call { callee := Callee.builtin Builtin.len, args := #[Operand.tmp 22], argTypes := #[22] }, type := 3, pos := "ref.go:93", after := #[{ on := 8, ground := Ground.data }, { on := 7, ground := Ground.guard }], guard := some (7, false) }) (v := ?_) rfl (by kernel_rfl) (by kernel_rfl) (by kernel_rfl) (fun _ _ _ h => h) (Or.inl ⟨by rfl, ?_⟩) hHeld_5 ?_
            rotate_left
            · (intro w hSw; (try dsimp only at hSw); go_simp; try with_reducible rfl)
            try simp only [Act.put, List.setIfInBounds_toArray, List.set_cons_zero, List.set_cons_succ]
            refine wpAnyH_take (i := 10) (oi := { dst := some 24, op := Op.binOp BinOp.gtr 3 (Operand.tmp 23) (Operand.const (Value.int IntKind.i64 0)) 3, type := 4, pos := "ref.go:93", after := #[{ on := 9, ground := Ground.data }, { on := 7, ground := Ground.guard }], guard := some (7, false) }) (v := ?_) rfl (by kernel_rfl) (by kernel_rfl) (by kernel_rfl) (fun _ _ _ h => h) (Or.inl ⟨by rfl, ?_⟩) hHeld_5 ?_
            rotate_left
            · (intro w hSw; (try dsimp only at hSw); go_simp; try with_reducible rfl)
            try simp only [Act.put, List.setIfInBounds_toArray, List.set_cons_zero, List.set_cons_succ]
            refine wpAnyH_take (i := 11) (oi := { dst := some 25, op := Op.move (Operand.tmp 24), type := 4, pos := "ref.go:93", after := #[{ on := 10, ground := Ground.data }, { on := 7, ground := Ground.chain }, { on := 7, ground := Ground.guard }], guard := some (7, false) }) (v := ?_) rfl (by kernel_rfl) (by kernel_rfl) (by kernel_rfl) (fun _ _ _ h => h) (Or.inl ⟨by rfl, ?_⟩) hHeld_5 ?_
            rotate_left
            · (intro w hSw; (try dsimp only at hSw); go_simp; try with_reducible rfl)
            try simp only [Act.put, List.setIfInBounds_toArray, List.set_cons_zero, List.set_cons_succ]
            refine wpAnyH_take (i := 12) (oi := { dst := some 26, op := Op.move (Operand.tmp 0), type := 22, pos := "ref.go:93", after := #[{ on := 11, ground := Ground.guard }], guard := some (11, true) }) (v := undef) rfl (by kernel_rfl) (by kernel_rfl) (by kernel_rfl) (fun _ _ _ h => h) (Or.inr ⟨by rfl, rfl⟩) hHeld_5 ?_
            try simp only [Act.put, List.setIfInBounds_toArray, List.set_cons_zero, List.set_cons_succ]
            refine wpAnyH_take (i := 13) (oi := { dst := some 27, op := Op.move (Operand.tmp 7), type := 3, pos := "ref.go:93", after := #[{ on := 11, ground := Ground.guard }], guard := some (11, true) }) (v := undef) rfl (by kernel_rfl) (by kernel_rfl) (by kernel_rfl) (fun _ _ _ h => h) (Or.inr ⟨by rfl, rfl⟩) hHeld_5 ?_
            try simp only [Act.put, List.setIfInBounds_toArray, List.set_cons_zero, List.set_cons_succ]
            refine wpAnyH_take (i := 14) (oi := { dst := some 28, op := Op.indexAddr 22 (Operand.tmp 26) (Operand.tmp 27), type := 0, pos := "ref.go:93", after := #[{ on := 12, ground := Ground.data }, { on := 13, ground := Ground.data }, { on := 11, ground := Ground.guard }], guard := some (11, true) }) (v := undef) rfl (by kernel_rfl) (by kernel_rfl) (by kernel_rfl) (fun _ _ _ h => h) (Or.inr ⟨by rfl, rfl⟩) hHeld_5 ?_
            try simp only [Act.put, List.setIfInBounds_toArray, List.set_cons_zero, List.set_cons_succ]
            refine wpAnyH_take (i := 15) (oi := { dst := some 29, op := Op.load 3 (Operand.tmp 28), type := 3, pos := "ref.go:93", after := #[{ on := 14, ground := Ground.data }, { on := 11, ground := Ground.guard }], guard := some (11, true) }) (v := undef) rfl (by kernel_rfl) (by kernel_rfl) (by kernel_rfl) (fun _ _ _ h => h) (Or.inr ⟨by rfl, rfl⟩) hHeld_5 ?_
            try simp only [Act.put, List.setIfInBounds_toArray, List.set_cons_zero, List.set_cons_succ]
            refine wpAnyH_take (i := 16) (oi := { dst := some 30, op := Op.move (Operand.tmp 5), type := 22, pos := "ref.go:93", after := #[{ on := 11, ground := Ground.guard }], guard := some (11, true) }) (v := undef) rfl (by kernel_rfl) (by kernel_rfl) (by kernel_rfl) (fun _ _ _ h => h) (Or.inr ⟨by rfl, rfl⟩) hHeld_5 ?_
            try simp only [Act.put, List.setIfInBounds_toArray, List.set_cons_zero, List.set_cons_succ]
            refine wpAnyH_take (i := 17) (oi := { dst := some 31, op := Op.move (Operand.tmp 5), type := 22, pos := "ref.go:93", after := #[{ on := 11, ground := Ground.guard }], guard := some (11, true) }) (v := undef) rfl (by kernel_rfl) (by kernel_rfl) (by kernel_rfl) (fun _ _ _ h => h) (Or.inr ⟨by rfl, rfl⟩) hHeld_5 ?_
            try simp only [Act.put, List.setIfInBounds_toArray, List.set_cons_zero, List.set_cons_succ]
            refine wpAnyH_take (i := 18) (oi := { dst := some 32, op := Op.call { callee := Callee.builtin Builtin.len, args := #[Operand.tmp 31], argTypes := #[22] }, type := 3, pos := "ref.go:93", after := #[{ on := 17, ground := Ground.data }, { on := 11, ground := Ground.guard }], guard := some (11, true) }) (v := undef) rfl (by kernel_rfl) (by kernel_rfl) (by kernel_rfl) (fun _ _ _ h => h) (Or.inr ⟨by rfl, rfl⟩) hHeld_5 ?_
            try simp only [Act.put, List.setIfInBounds_toArray, List.set_cons_zero, List.set_cons_succ]
            refine wpAnyH_take (i := 19) (oi := { dst := some 33, op := Op.binOp BinOp.sub 3 (Operand.tmp 32) (Operand.const (Value.int IntKind.i64 1)) 3, type := 3, pos := "ref.go:93", after := #[{ on := 18, ground := Ground.data }, { on := 11, ground := Ground.guard }], guard := some (11, true) }) (v := undef) rfl (by kernel_rfl) (by kernel_rfl) (by kernel_rfl) (fun _ _ _ h => h) (Or.inr ⟨by rfl, rfl⟩) hHeld_5 ?_
            try simp only [Act.put, List.setIfInBounds_toArray, List.set_cons_zero, List.set_cons_succ]
            refine wpAnyH_take (i := 20) (oi := { dst := some 34, op := Op.indexAddr 22 (Operand.tmp 30) (Operand.tmp 33), type := 0, pos := "ref.go:93", after := #[{ on := 16, ground := Ground.data }, { on := 19, ground := Ground.data }, { on := 11, ground := Ground.guard }], guard := some (11, true) }) (v := undef) rfl (by kernel_rfl) (by kernel_rfl) (by kernel_rfl) (fun _ _ _ h => h) (Or.inr ⟨by rfl, rfl⟩) hHeld_5 ?_
            try simp only [Act.put, List.setIfInBounds_toArray, List.set_cons_zero, List.set_cons_succ]
            refine wpAnyH_take (i := 21) (oi := { dst := some 35, op := Op.load 3 (Operand.tmp 34), type := 3, pos := "ref.go:93", after := #[{ on := 20, ground := Ground.data }, { on := 11, ground := Ground.guard }], guard := some (11, true) }) (v := undef) rfl (by kernel_rfl) (by kernel_rfl) (by kernel_rfl) (fun _ _ _ h => h) (Or.inr ⟨by rfl, rfl⟩) hHeld_5 ?_
            try simp only [Act.put, List.setIfInBounds_toArray, List.set_cons_zero, List.set_cons_succ]
            refine wpAnyH_take (i := 22) (oi := { dst := some 36, op := Op.binOp BinOp.leq 3 (Operand.tmp 29) (Operand.tmp 35) 3, type := 4, pos := "ref.go:93", after := #[{ on := 15, ground := Ground.data }, { on := 21, ground := Ground.data }, { on := 11, ground := Ground.guard }], guard := some (11, true) }) (v := undef) rfl (by kernel_rfl) (by kernel_rfl) (by kernel_rfl) (fun _ _ _ h => h) (Or.inr ⟨by rfl, rfl⟩) hHeld_5 ?_
            try simp only [Act.put, List.setIfInBounds_toArray, List.set_cons_zero, List.set_cons_succ]
            refine wpAnyH_take (i := 23) (oi := { dst := some 37, op := Op.pick (Operand.tmp 25) (Operand.tmp 36) (Operand.const (Value.bool false)), type := 4, pos := "ref.go:93", after := #[{ on := 11, ground := Ground.data }, { on := 22, ground := Ground.data }, { on := 7, ground := Ground.guard }], guard := some (7, false) }) (v := ?_) rfl (by kernel_rfl) (by kernel_rfl) (by kernel_rfl) (fun _ _ _ h => h) (Or.inl ⟨by rfl, ?_⟩) hHeld_5 ?_
            rotate_left
            · (intro w hSw; (try dsimp only at hSw); go_simp; try with_reducible rfl)
            try simp only [Act.put, List.setIfInBounds_toArray, List.set_cons_zero, List.set_cons_succ]
            refine wpAnyH_take (i := 24) (oi := { dst := some 38, op := Op.pick (Operand.tmp 21) (Operand.const (Value.bool true)) (Operand.tmp 37), type := 4, pos := "ref.go:93", after := #[{ on := 7, ground := Ground.data }, { on := 23, ground := Ground.data }], guard := none }) (v := ?_) rfl (by kernel_rfl) (by kernel_rfl) (by kernel_rfl) (fun _ _ _ h => h) (Or.inl ⟨by rfl, ?_⟩) hHeld_5 ?_
            rotate_left
            · (intro w hSw; (try dsimp only at hSw); go_simp; try with_reducible rfl)
            try simp only [Act.put, List.setIfInBounds_toArray, List.set_cons_zero, List.set_cons_succ]
            refine wpAnyH_done (by kernel_rfl) ?_ _
            go_wp2_with fail
            clear m0 m1 m2 m3 m4 m5 m6
            rcases HBs.out with ⟨hbb, h4⟩ | ⟨bi, y, hbb, hbt, hy, hcy, h4⟩
            · have HN : Hid (BestIs l vs out (t + 1) t) := BestIs.take HX.out HC.out fun z hz hc => absurd hc (h4 z hz)
              subst hbb
              clear h4 HBs
              go_wp2_with fail
              go_quiet (fail)
              go_wp2
              exact ⟨⟨t + 1, t, by omega, by go_num, rfl, HN.out, HW6.out, Hb6.out.trans (below_dn _ _ _)⟩, by simp [intOf]; omega⟩
            · obtain ⟨_, _, e9, c9⟩ := HA.out bi y hy
              cases e9
              have m9 : w6.cell? ⟨b1, o1 + bi, none⟩ = some (.int .i64 y) := (Hb6.out.cell (p := ⟨b1, o1 + bi, none⟩) (World.block_lt_of_cell? _ _ c9)).trans c9
              have f1 : decide ((bi : Int) < 0) = false := decide_eq_false (by omega)
              have f2 : (bi : Int) < (n : Int) := by omega
              have HBi : Hid (bb = (bi : Int)) := hbb
              by_cases hxy : x < y
              · have HN : Hid (BestIs l vs out (t + 1) t) := BestIs.take HX.out HC.out fun z hz hc => by have := h4 z hz hc; omega
                subst hbb
                clear h4 hy hcy c9 HBs HBi
                go_wp2_with fail
                go_quiet (fail)
                go_wp2
                exact ⟨⟨t + 1, t, by omega, by go_num, rfl, HN.out, HW6.out, Hb6.out.trans (below_dn _ _ _)⟩, by simp [intOf]; omega⟩
              · have HN : Hid (BestIs l vs out (t + 1) bi) := BestIs.keep hbt hy hcy h4 HX.out hxy
                have f3 : decide (x < y) = false := decide_eq_false hxy
                subst hbb
                clear h4 hy hcy c9 HBs HBi hxy
                go_wp2_with fail
                go_quiet (fail)
                go_wp2
                exact ⟨⟨t + 1, bi, by omega, by go_num, rfl, HN.out, HW6.out, Hb6.out.trans (below_dn _ _ _)⟩, by simp [intOf]; omega⟩
          · obtain ⟨go, cap', ego, hgo, hgl⟩ := HW.out.form hk0
            cases ego
            obtain ⟨la, hla⟩ : ∃ la, out[k - 1]? = some la := ⟨out[k - 1]'(by rw [HO.out]; omega), List.getElem?_eq_getElem _⟩
            obtain ⟨_, _, e8, hrow8⟩ := own_row HW.out
            cases e8
            obtain ⟨_, _, e8, c8⟩ := hrow8.ints (k - 1) la hla
            cases e8
            rw [Nat.zero_add] at c8
            have d2 : wr.drew.cell? ⟨go, k - 1, none⟩ = some (.int .i64 la) := c8
            have s2 : go < wr.drew.heap.size := hgl
            have g1 : (0 : Int) < (k : Int) := by omega
            have g2 : IntKind.i64.wrap ((k : Int) - 1) = ((k - 1 : Nat) : Int) := by rw [IntWalk.i64_in _ (by omega)]; omega
            have g3 : ((k - 1 : Nat) : Int) < (k : Int) := by omega
            have hlast := last_all (x := x) HI.out.rise HO.out hla
            clear c8 hrow8 hla hgl
            by_cases hxl : la < x
            · have HC : Hid (Cand vs out x) := ⟨hin, hlast.2 hxl⟩
              have g4 : decide (x ≤ la) = false := decide_eq_false (by omega)
              clear hlast hin hxl
              go_wp2_with fail
              refine wp_region_held_drew (S := fun w' => w'.cell? ⟨B0, 0, none⟩ = some (.bool false) ∧ w'.cell? ⟨B0, 1, none⟩ = some (.slice none 0 0) ∧ w'.cell? ⟨B0, 2, none⟩ = some (.int .i64 0) ∧ w'.cell? ⟨B0, 3, none⟩ = some (.bool false) ∧ w'.cell? ⟨B0, 4, none⟩ = some (.int .i64 0) ∧ w'.cell? ⟨B0, 5, none⟩ = some (.int .i64 0) ∧ w'.cell? ⟨B0, 6, none⟩ = some (.slice av nv cv) ∧ w'.cell? ⟨b1, o1 + t, none⟩ = some (.int .i64 x) ∧ w'.cell? ⟨go, k - 1, none⟩ = some (.int .i64 la)) (by kernel_rfl) ?_ (fun hHeld => ?_)
              · exact ⟨k0, k1, k2, k3, k4, k5, k6, d1, d2⟩
              generalize wr.drew = w3 at *
              refine wpAnyH_take (i := 0) (oi := { dst := some 14, op := Op.load 37 (Operand.tmp 3), type := 37, pos := "ref.go:93", after := #[], guard := none }) (v := ?_) rfl (by kernel_rfl) (by kernel_rfl) (by kernel_rfl) (fun _ _ _ h => h) (Or.inl ⟨by rfl, ?_⟩) hHeld ?_
              rotate_left
              · (intro w hSw; (try dsimp only at hSw); go_simp; try with_reducible rfl)
              try simp only [Act.put, List.setIfInBounds_toArray, List.set_cons_zero, List.set_cons_succ]
              refine wpAnyH_take (i := 1) (oi := { dst := some 15, op := Op.move (Operand.tmp 0), type := 22, pos := "ref.go:93", after := #[], guard := none }) (v := ?_) rfl (by kernel_rfl) (by kernel_rfl) (by kernel_rfl) (fun _ _ _ h => h) (Or.inl ⟨by rfl, ?_⟩) hHeld ?_
              rotate_left
              · (intro w hSw; (try dsimp only at hSw); go_simp; try with_reducible rfl)
              try simp only [Act.put, List.setIfInBounds_toArray, List.set_cons_zero, List.set_cons_succ]
              refine wpAnyH_take (i := 2) (oi := { dst := some 16, op := Op.move (Operand.tmp 7), type := 3, pos := "ref.go:93", after := #[], guard := none }) (v := ?_) rfl (by kernel_rfl) (by kernel_rfl) (by kernel_rfl) (fun _ _ _ h => h) (Or.inl ⟨by rfl, ?_⟩) hHeld ?_
              rotate_left
              · (intro w hSw; (try dsimp only at hSw); go_simp; try with_reducible rfl)
              try simp only [Act.put, List.setIfInBounds_toArray, List.set_cons_zero, List.set_cons_succ]
              refine wpAnyH_take (i := 3) (oi := { dst := some 17, op := Op.indexAddr 22 (Operand.tmp 15) (Operand.tmp 16), type := 0, pos := "ref.go:93", after := #[{ on := 1, ground := Ground.data }, { on := 2, ground := Ground.data }], guard := none }) (v := ?_) rfl (by kernel_rfl) (by kernel_rfl) (by kernel_rfl) (fun _ _ _ h => h) (Or.inl ⟨by rfl, ?_⟩) hHeld ?_
              rotate_left
              · (intro w hSw; (try dsimp only at hSw); go_simp; try with_reducible rfl)
              try simp only [Act.put, List.setIfInBounds_toArray, List.set_cons_zero, List.set_cons_succ]
              refine wpAnyH_take (i := 4) (oi := { dst := some 18, op := Op.load 3 (Operand.tmp 17), type := 3, pos := "ref.go:93", after := #[{ on := 3, ground := Ground.data }], guard := none }) (v := ?_) rfl (by kernel_rfl) (by kernel_rfl) (by kernel_rfl) (fun _ _ _ h => h) (Or.inl ⟨by rfl, ?_⟩) hHeld ?_
              rotate_left
              · (intro w hSw; (try dsimp only at hSw); go_simp; try with_reducible rfl)
              try simp only [Act.put, List.setIfInBounds_toArray, List.set_cons_zero, List.set_cons_succ]
              refine wpAnyH_ready (rs := [5]) (by kernel_rfl) (by simp) ?_
              refine AllReadyH.cons (o := { dst := some 19, op := Op.call { callee := Callee.value (Operand.func 27), args := #[Operand.tmp 14, Operand.tmp 18], argTypes := #[37, 3] }, type := 4, pos := "ref.go:93", after := #[{ on := 0, ground := Ground.data }, { on := 4, ground := Ground.data }], guard := none }) rfl (fun K hK => ?_) AllReadyH.nil
              go_simp
              go_at_call 27
              refine (is_any w3 vs x nv cv av HVl.out hnv HI3.out).mono ?_
              rintro e w6 ⟨rfl, hb6⟩
              rw [hin2]
              have m0 : w6.cell? ⟨B0, 0, none⟩ = some (.bool false) := (hb6.cell (p := ⟨B0, 0, none⟩) s0).trans k0
              have m1 : w6.cell? ⟨B0, 1, none⟩ = some (.slice none 0 0) := (hb6.cell (p := ⟨B0, 1, none⟩) s0).trans k1
              have m2 : w6.cell? ⟨B0, 2, none⟩ = some (.int .i64 0) := (hb6.cell (p := ⟨B0, 2, none⟩) s0).trans k2
              have m3 : w6.cell? ⟨B0, 3, none⟩ = some (.bool false) := (hb6.cell (p := ⟨B0, 3, none⟩) s0).trans k3
              have m4 : w6.cell? ⟨B0, 4, none⟩ = some (.int .i64 0) := (hb6.cell (p := ⟨B0, 4, none⟩) s0).trans k4
              have m5 : w6.cell? ⟨B0, 5, none⟩ = some (.int .i64 0) := (hb6.cell (p := ⟨B0, 5, none⟩) s0).trans k5
              have m6 : w6.cell? ⟨B0, 6, none⟩ = some (.slice av nv cv) := (hb6.cell (p := ⟨B0, 6, none⟩) s0).trans k6
              have m7 : w6.cell? ⟨b1, o1 + t, none⟩ = some (.int .i64 x) := (hb6.cell (p := ⟨b1, o1 + t, none⟩) s1).trans d1
              have m8 : w6.cell? ⟨go, k - 1, none⟩ = some (.int .i64 la) := (hb6.cell (p := ⟨go, k - 1, none⟩) s2).trans d2
              have HW6 : Hid (w6.ownsRow wA.heap.size 3 1 (.slice (some ⟨go, 0, none⟩) k cap) k (out.map intV)) := owns_same HW3.out fun g e => hb6.block g (own_low HW3.out g e)
              have Hb6 : Hid (Below wA.heap.size wA w6) := Hb3.out.trans (hb6.mono Hb3.out.size)
              clear hb6 HW3 Hb3 HI3 k0 k1 k2 k3 k4 k5 k6 d1
              try go_wp2_with fail
              refine hK.out _ _ ?_ (fun hHeld_5 => ?_)
              · exact ⟨m0, m1, m2, m3, m4, m5, m6, m7, m8⟩
              clear hK K
              try simp only [Act.put, List.setIfInBounds_toArray, List.set_cons_zero, List.set_cons_succ]
              refine wpAnyH_take (i := 6) (oi := { dst := some 20, op := Op.unOp UnOp.not 4 (Operand.tmp 19), type := 4, pos := "ref.go:93", after := #[{ on := 5, ground := Ground.data }], guard := none }) (v := ?_) rfl (by kernel_rfl) (by kernel_rfl) (by kernel_rfl) (fun _ _ _ h => h) (Or.inl ⟨by rfl, ?_⟩) hHeld_5 ?_
              rotate_left
              · (intro w hSw; (try dsimp only at hSw); go_simp; try with_reducible rfl)
              try simp only [Act.put, List.setIfInBounds_toArray, List.set_cons_zero, List.set_cons_succ]
              refine wpAnyH_take (i := 7) (oi := { dst := some 21, op := Op.move (Operand.tmp 20), type := 4, pos := "ref.go:93", after := #[{ on := 6, ground := Ground.data }, { on := 5, ground := Ground.chain }], guard := none }) (v := ?_) rfl (by kernel_rfl) (by kernel_rfl) (by kernel_rfl) (fun _ _ _ h => h) (Or.inl ⟨by rfl, ?_⟩) hHeld_5 ?_
              rotate_left
              · (intro w hSw; (try dsimp only at hSw); go_simp; try with_reducible rfl)
              try simp only [Act.put, List.setIfInBounds_toArray, List.set_cons_zero, List.set_cons_succ]
              refine wpAnyH_take (i := 8) (oi := { dst := some 22, op := Op.move (Operand.tmp 5), type := 22, pos := "ref.go:93", after := #[{ on := 7, ground := Ground.guard }], guard := some (7, false) }) (v := ?_) rfl (by kernel_rfl) (by kernel_rfl) (by kernel_rfl) (fun _ _ _ h => h) (Or.inl ⟨by rfl, ?_⟩) hHeld_5 ?_
              rotate_left
              · (intro w hSw; (try dsimp only at hSw); go_simp; try with_reducible rfl)
              try simp only [Act.put, List.setIfInBounds_toArray, List.set_cons_zero, List.set_cons_succ]
              refine wpAnyH_take (i := 9) (oi := { dst := some 23, op := Op.call { callee := Callee.builtin Builtin.len, args := #[Operand.tmp 22], argTypes := #[22] }, type := 3, pos := "ref.go:93", after := #[{ on := 8, ground := Ground.data }, { on := 7, ground := Ground.guard }], guard := some (7, false) }) (v := ?_) rfl (by kernel_rfl) (by kernel_rfl) (by kernel_rfl) (fun _ _ _ h => h) (Or.inl ⟨by rfl, ?_⟩) hHeld_5 ?_
              rotate_left
              · (intro w hSw; (try dsimp only at hSw); go_simp; try with_reducible rfl)
              try simp only [Act.put, List.setIfInBounds_toArray, List.set_cons_zero, List.set_cons_succ]
              refine wpAnyH_take (i := 10) (oi := { dst := some 24, op := Op.binOp BinOp.gtr 3 (Operand.tmp 23) (Operand.const (Value.int IntKind.i64 0)) 3, type := 4, pos := "ref.go:93", after := #[{ on := 9, ground := Ground.data }, { on := 7, ground := Ground.guard }], guard := some (7, false) }) (v := ?_) rfl (by kernel_rfl) (by kernel_rfl) (by kernel_rfl) (fun _ _ _ h => h) (Or.inl ⟨by rfl, ?_⟩) hHeld_5 ?_
              rotate_left
              · (intro w hSw; (try dsimp only at hSw); go_simp; try with_reducible rfl)
              try simp only [Act.put, List.setIfInBounds_toArray, List.set_cons_zero, List.set_cons_succ]
              refine wpAnyH_take (i := 11) (oi := { dst := some 25, op := Op.move (Operand.tmp 24), type := 4, pos := "ref.go:93", after := #[{ on := 10, ground := Ground.data }, { on := 7, ground := Ground.chain }, { on := 7, ground := Ground.guard }], guard := some (7, false) }) (v := ?_) rfl (by kernel_rfl) (by kernel_rfl) (by kernel_rfl) (fun _ _ _ h => h) (Or.inl ⟨by rfl, ?_⟩) hHeld_5 ?_
              rotate_left
              · (intro w hSw; (try dsimp only at hSw); go_simp; try with_reducible rfl)
              try simp only [Act.put, List.setIfInBounds_toArray, List.set_cons_zero, List.set_cons_succ]
              refine wpAnyH_take (i := 12) (oi := { dst := some 26, op := Op.move (Operand.tmp 0), type := 22, pos := "ref.go:93", after := #[{ on := 11, ground := Ground.guard }], guard := some (11, true) }) (v := ?_) rfl (by kernel_rfl) (by kernel_rfl) (by kernel_rfl) (fun _ _ _ h => h) (Or.inl ⟨by rfl, ?_⟩) hHeld_5 ?_
              rotate_left
              · (intro w hSw; (try dsimp only at hSw); go_simp; try with_reducible rfl)
              try simp only [Act.put, List.setIfInBounds_toArray, List.set_cons_zero, List.set_cons_succ]
              refine wpAnyH_take (i := 13) (oi := { dst := some 27, op := Op.move (Operand.tmp 7), type := 3, pos := "ref.go:93", after := #[{ on := 11, ground := Ground.guard }], guard := some (11, true) }) (v := ?_) rfl (by kernel_rfl) (by kernel_rfl) (by kernel_rfl) (fun _ _ _ h => h) (Or.inl ⟨by rfl, ?_⟩) hHeld_5 ?_
              rotate_left
              · (intro w hSw; (try dsimp only at hSw); go_simp; try with_reducible rfl)
              try simp only [Act.put, List.setIfInBounds_toArray, List.set_cons_zero, List.set_cons_succ]
              refine wpAnyH_take (i := 14) (oi := { dst := some 28, op := Op.indexAddr 22 (Operand.tmp 26) (Operand.tmp 27), type := 0, pos := "ref.go:93", after := #[{ on := 12, ground := Ground.data }, { on := 13, ground := Ground.data }, { on := 11, ground := Ground.guard }], guard := some (11, true) }) (v := ?_) rfl (by kernel_rfl) (by kernel_rfl) (by kernel_rfl) (fun _ _ _ h => h) (Or.inl ⟨by rfl, ?_⟩) hHeld_5 ?_
              rotate_left
              · (intro w hSw; (try dsimp only at hSw); go_simp; try with_reducible rfl)
              try simp only [Act.put, List.setIfInBounds_toArray, List.set_cons_zero, List.set_cons_succ]
              refine wpAnyH_take (i := 15) (oi := { dst := some 29, op := Op.load 3 (Operand.tmp 28), type := 3, pos := "ref.go:93", after := #[{ on := 14, ground := Ground.data }, { on := 11, ground := Ground.guard }], guard := some (11, true) }) (v := ?_) rfl (by kernel_rfl) (by kernel_rfl) (by kernel_rfl) (fun _ _ _ h => h) (Or.inl ⟨by rfl, ?_⟩) hHeld_5 ?_
              rotate_left
              · (intro w hSw; (try dsimp only at hSw); go_simp; try with_reducible rfl)
              try simp only [Act.put, List.setIfInBounds_toArray, List.set_cons_zero, List.set_cons_succ]
              refine wpAnyH_take (i := 16) (oi := { dst := some 30, op := Op.move (Operand.tmp 5), type := 22, pos := "ref.go:93", after := #[{ on := 11, ground := Ground.guard }], guard := some (11, true) }) (v := ?_) rfl (by kernel_rfl) (by kernel_rfl) (by kernel_rfl) (fun _ _ _ h => h) (Or.inl ⟨by rfl, ?_⟩) hHeld_5 ?_
              rotate_left
              · (intro w hSw; (try dsimp only at hSw); go_simp; try with_reducible rfl)
              try simp only [Act.put, List.setIfInBounds_toArray, List.set_cons_zero, List.set_cons_succ]
              refine wpAnyH_take (i := 17) (oi := { dst := some 31, op := Op.move (Operand.tmp 5), type := 22, pos := "ref.go:93", after := #[{ on := 11, ground := Ground.guard }], guard := some (11, true) }) (v := ?_) rfl (by kernel_rfl) (by kernel_rfl) (by kernel_rfl) (fun _ _ _ h => h) (Or.inl ⟨by rfl, ?_⟩) hHeld_5 ?_
              rotate_left
              · (intro w hSw; (try dsimp only at hSw); go_simp; try with_reducible rfl)
              try simp only [Act.put, List.setIfInBounds_toArray, List.set_cons_zero, List.set_cons_succ]
              refine wpAnyH_take (i := 18) (oi := { dst := some 32, op := Op.call { callee := Callee.builtin Builtin.len, args := #[Operand.tmp 31], argTypes := #[22] }, type := 3, pos := "ref.go:93", after := #[{ on := 17, ground := Ground.data }, { on := 11, ground := Ground.guard }], guard := some (11, true) }) (v := ?_) rfl (by kernel_rfl) (by kernel_rfl) (by kernel_rfl) (fun _ _ _ h => h) (Or.inl ⟨by rfl, ?_⟩) hHeld_5 ?_
              rotate_left
              · (intro w hSw; (try dsimp only at hSw); go_simp; try with_reducible rfl)
              try simp only [Act.put, List.setIfInBounds_toArray, List.set_cons_zero, List.set_cons_succ]
              refine wpAnyH_take (i := 19) (oi := { dst := some 33, op := Op.binOp BinOp.sub 3 (Operand.tmp 32) (Operand.const (Value.int IntKind.i64 1)) 3, type := 3, pos := "ref.go:93", after := #[{ on := 18, ground := Ground.data }, { on := 11, ground := Ground.guard }], guard := some (11, true) }) (v := ?_) rfl (by kernel_rfl) (by kernel_rfl) (by kernel_rfl) (fun _ _ _ h => h) (Or.inl ⟨by rfl, ?_⟩) hHeld_5 ?_
              rotate_left
              · (intro w hSw; (try dsimp only at hSw); go_simp; try with_reducible rfl)
              try simp only [Act.put, List.setIfInBounds_toArray, List.set_cons_zero, List.set_cons_succ]
              refine wpAnyH_take (i := 20) (oi := { dst := some 34, op := Op.indexAddr 22 (Operand.tmp 30) (Operand.tmp 33), type := 0, pos := "ref.go:93", after := #[{ on := 16, ground := Ground.data }, { on := 19, ground := Ground.data }, { on := 11, ground := Ground.guard }], guard := some (11, true) }) (v := ?_) rfl (by kernel_rfl) (by kernel_rfl) (by kernel_rfl) (fun _ _ _ h => h) (Or.inl ⟨by rfl, ?_⟩) hHeld_5 ?_
              rotate_left
              · (intro w hSw; (try dsimp only at hSw); go_simp; try with_reducible rfl)
              try simp only [Act.put, List.setIfInBounds_toArray, List.set_cons_zero, List.set_cons_succ]
              refine wpAnyH_take (i := 21) (oi := { dst := some 35, op := Op.load 3 (Operand.tmp 34), type := 3, pos := "ref.go:93", after := #[{ on := 20, ground := Ground.data }, { on := 11, ground := Ground.guard }], guard := some (11, true) }) (v := ?_) rfl (by kernel_rfl) (by kernel_rfl) (by kernel_rfl) (fun _ _ _ h => h) (Or.inl ⟨by rfl, ?_⟩) hHeld_5 ?_
              rotate_left
              · (intro w hSw; (try dsimp only at hSw); go_simp; try with_reducible rfl)
              try simp only [Act.put, List.setIfInBounds_toArray, List.set_cons_zero, List.set_cons_succ]
              refine wpAnyH_take (i := 22) (oi := { dst := some 36, op := Op.binOp BinOp.leq 3 (Operand.tmp 29) (Operand.tmp 35) 3, type := 4, pos := "ref.go:93", after := #[{ on := 15, ground := Ground.data }, { on := 21, ground := Ground.data }, { on := 11, ground := Ground.guard }], guard := some (11, true) }) (v := ?_) rfl (by kernel_rfl) (by kernel_rfl) (by kernel_rfl) (fun _ _ _ h => h) (Or.inl ⟨by rfl, ?_⟩) hHeld_5 ?_
              rotate_left
              · (intro w hSw; (try dsimp only at hSw); go_simp; try with_reducible rfl)
              try simp only [Act.put, List.setIfInBounds_toArray, List.set_cons_zero, List.set_cons_succ]
              refine wpAnyH_take (i := 23) (oi := { dst := some 37, op := Op.pick (Operand.tmp 25) (Operand.tmp 36) (Operand.const (Value.bool false)), type := 4, pos := "ref.go:93", after := #[{ on := 11, ground := Ground.data }, { on := 22, ground := Ground.data }, { on := 7, ground := Ground.guard }], guard := some (7, false) }) (v := ?_) rfl (by kernel_rfl) (by kernel_rfl) (by kernel_rfl) (fun _ _ _ h => h) (Or.inl ⟨by rfl, ?_⟩) hHeld_5 ?_
              rotate_left
              · (intro w hSw; (try dsimp only at hSw); go_simp; try with_reducible rfl)
              try simp only [Act.put, List.setIfInBounds_toArray, List.set_cons_zero, List.set_cons_succ]
              refine wpAnyH_take (i := 24) (oi := { dst := some 38, op := Op.pick (Operand.tmp 21) (Operand.const (Value.bool true)) (Operand.tmp 37), type := 4, pos := "ref.go:93", after := #[{ on := 7, ground := Ground.data }, { on := 23, ground := Ground.data }], guard := none }) (v := ?_) rfl (by kernel_rfl) (by kernel_rfl) (by kernel_rfl) (fun _ _ _ h => h) (Or.inl ⟨by rfl, ?_⟩) hHeld_5 ?_
              rotate_left
              · (intro w hSw; (try dsimp only at hSw); go_simp; try with_reducible rfl)
              try simp only [Act.put, List.setIfInBounds_toArray, List.set_cons_zero, List.set_cons_succ]
              refine wpAnyH_done (by kernel_rfl) ?_ _
              go_wp2_with fail
              clear m8
              clear m0 m1 m2 m3 m4 m5 m6
              rcases HBs.out with ⟨hbb, h4⟩ | ⟨bi, y, hbb, hbt, hy, hcy, h4⟩
              · have HN : Hid (BestIs l vs out (t + 1) t) := BestIs.take HX.out HC.out fun z hz hc => absurd hc (h4 z hz)
                subst hbb
                clear h4 HBs
                go_wp2_with fail
                go_quiet (fail)
                go_wp2
                exact ⟨⟨t + 1, t, by omega, by go_num, rfl, HN.out, HW6.out, Hb6.out.trans (below_dn _ _ _)⟩, by simp [intOf]; omega⟩
              · obtain ⟨_, _, e9, c9⟩ := HA.out bi y hy
                cases e9
                have m9 : w6.cell? ⟨b1, o1 + bi, none⟩ = some (.int .i64 y) := (Hb6.out.cell (p := ⟨b1, o1 + bi, none⟩) (World.block_lt_of_cell? _ _ c9)).trans c9
                have f1 : decide ((bi : Int) < 0) = false := decide_eq_false (by omega)
                have f2 : (bi : Int) < (n : Int) := by omega
                have HBi : Hid (bb = (bi : Int)) := hbb
                by_cases hxy : x < y
                · have HN : Hid (BestIs l vs out (t + 1) t) := BestIs.take HX.out HC.out fun z hz hc => by have := h4 z hz hc; omega
                  subst hbb
                  clear h4 hy hcy c9 HBs HBi
                  go_wp2_with fail
                  go_quiet (fail)
                  go_wp2
                  exact ⟨⟨t + 1, t, by omega, by go_num, rfl, HN.out, HW6.out, Hb6.out.trans (below_dn _ _ _)⟩, by simp [intOf]; omega⟩
                · have HN : Hid (BestIs l vs out (t + 1) bi) := BestIs.keep hbt hy hcy h4 HX.out hxy
                  have f3 : decide (x < y) = false := decide_eq_false hxy
                  subst hbb
                  clear h4 hy hcy c9 HBs HBi hxy
                  go_wp2_with fail
                  go_quiet (fail)
                  go_wp2
                  exact ⟨⟨t + 1, bi, by omega, by go_num, rfl, HN.out, HW6.out, Hb6.out.trans (below_dn _ _ _)⟩, by simp [intOf]; omega⟩
            · have HNC : Hid (¬ Cand vs out x) := fun hc => hxl (hlast.1 hc.2)
              have g4 : x ≤ la := by omega
              have HN : Hid (BestIs l vs out (t + 1) bb) := HBs.out.skip HX.out HNC.out
              clear hlast hin hxl HNC HBs
              go_wp2_with fail
              refine wp_region_held_drew (S := fun w' => w'.cell? ⟨B0, 0, none⟩ = some (.bool false) ∧ w'.cell? ⟨B0, 1, none⟩ = some (.slice none 0 0) ∧ w'.cell? ⟨B0, 2, none⟩ = some (.int .i64 0) ∧ w'.cell? ⟨B0, 3, none⟩ = some (.bool false) ∧ w'.cell? ⟨B0, 4, none⟩ = some (.int .i64 0) ∧ w'.cell? ⟨B0, 5, none⟩ = some (.int .i64 0) ∧ w'.cell? ⟨B0, 6, none⟩ = some (.slice av nv cv) ∧ w'.cell? ⟨b1, o1 + t, none⟩ = some (.int .i64 x) ∧ w'.cell? ⟨go, k - 1, none⟩ = some (.int .i64 la)) (by kernel_rfl) ?_ (fun hHeld => ?_)
              · exact ⟨k0, k1, k2, k3, k4, k5, k6, d1, d2⟩
              generalize wr.drew = w3 at *
              refine wpAnyH_take (i := 0) (oi := { dst := some 14, op := Op.load 37 (Operand.tmp 3), type := 37, pos := "ref.go:93", after := #[], guard := none }) (v := ?_) rfl (by kernel_rfl) (by kernel_rfl) (by kernel_rfl) (fun _ _ _ h => h) (Or.inl ⟨by rfl, ?_⟩) hHeld ?_
              rotate_left
              · (intro w hSw; (try dsimp only at hSw); go_simp; try with_reducible rfl)
              try simp only [Act.put, List.setIfInBounds_toArray, List.set_cons_zero, List.set_cons_succ]
              refine wpAnyH_take (i := 1) (oi := { dst := some 15, op := Op.move (Operand.tmp 0), type := 22, pos := "ref.go:93", after := #[], guard := none }) (v := ?_) rfl (by kernel_rfl) (by kernel_rfl) (by kernel_rfl) (fun _ _ _ h => h) (Or.inl ⟨by rfl, ?_⟩) hHeld ?_
              rotate_left
              · (intro w hSw; (try dsimp only at hSw); go_simp; try with_reducible rfl)
              try simp only [Act.put, List.setIfInBounds_toArray, List.set_cons_zero, List.set_cons_succ]
              refine wpAnyH_take (i := 2) (oi := { dst := some 16, op := Op.move (Operand.tmp 7), type := 3, pos := "ref.go:93", after := #[], guard := none }) (v := ?_) rfl (by kernel_rfl) (by kernel_rfl) (by kernel_rfl) (fun _ _ _ h => h) (Or.inl ⟨by rfl, ?_⟩) hHeld ?_
              rotate_left
              · (intro w hSw; (try dsimp only at hSw); go_simp; try with_reducible rfl)
              try simp only [Act.put, List.setIfInBounds_toArray, List.set_cons_zero, List.set_cons_succ]
              refine wpAnyH_take (i := 3) (oi := { dst := some 17, op := Op.indexAddr 22 (Operand.tmp 15) (Operand.tmp 16), type := 0, pos := "ref.go:93", after := #[{ on := 1, ground := Ground.data }, { on := 2, ground := Ground.data }], guard := none }) (v := ?_) rfl (by kernel_rfl) (by kernel_rfl) (by kernel_rfl) (fun _ _ _ h => h) (Or.inl ⟨by rfl, ?_⟩) hHeld ?_
              rotate_left
              · (intro w hSw; (try dsimp only at hSw); go_simp; try with_reducible rfl)
              try simp only [Act.put, List.setIfInBounds_toArray, List.set_cons_zero, List.set_cons_succ]
              refine wpAnyH_take (i := 4) (oi := { dst := some 18, op := Op.load 3 (Operand.tmp 17), type := 3, pos := "ref.go:93", after := #[{ on := 3, ground := Ground.data }], guard := none }) (v := ?_) rfl (by kernel_rfl) (by kernel_rfl) (by kernel_rfl) (fun _ _ _ h => h) (Or.inl ⟨by rfl, ?_⟩) hHeld ?_
              rotate_left
              · (intro w hSw; (try dsimp only at hSw); go_simp; try with_reducible rfl)
              try simp only [Act.put, List.setIfInBounds_toArray, List.set_cons_zero, List.set_cons_succ]
              refine wpAnyH_ready (rs := [5]) (by kernel_rfl) (by simp) ?_
              refine AllReadyH.cons (o := { dst := some 19, op := Op.call { callee := Callee.value (Operand.func 27), args := #[Operand.tmp 14, Operand.tmp 18], argTypes := #[37, 3] }, type := 4, pos := "ref.go:93", after := #[{ on := 0, ground := Ground.data }, { on := 4, ground := Ground.data }], guard := none }) rfl (fun K hK => ?_) AllReadyH.nil
              go_simp
              go_at_call 27
              refine (is_any w3 vs x nv cv av HVl.out hnv HI3.out).mono ?_
              rintro e w6 ⟨rfl, hb6⟩
              rw [hin2]
              have m0 : w6.cell? ⟨B0, 0, none⟩ = some (.bool false) := (hb6.cell (p := ⟨B0, 0, none⟩) s0).trans k0
              have m1 : w6.cell? ⟨B0, 1, none⟩ = some (.slice none 0 0) := (hb6.cell (p := ⟨B0, 1, none⟩) s0).trans k1
              have m2 : w6.cell? ⟨B0, 2, none⟩ = some (.int .i64 0) := (hb6.cell (p := ⟨B0, 2, none⟩) s0).trans k2
              have m3 : w6.cell? ⟨B0, 3, none⟩ = some (.bool false) := (hb6.cell (p := ⟨B0, 3, none⟩) s0).trans k3
              have m4 : w6.cell? ⟨B0, 4, none⟩ = some (.int .i64 0) := (hb6.cell (p := ⟨B0, 4, none⟩) s0).trans k4
              have m5 : w6.cell? ⟨B0, 5, none⟩ = some (.int .i64 0) := (hb6.cell (p := ⟨B0, 5, none⟩) s0).trans k5
              have m6 : w6.cell? ⟨B0, 6, none⟩ = some (.slice av nv cv) := (hb6.cell (p := ⟨B0, 6, none⟩) s0).trans k6
              have m7 : w6.cell? ⟨b1, o1 + t, none⟩ = some (.int .i64 x) := (hb6.cell (p := ⟨b1, o1 + t, none⟩) s1).trans d1
              have m8 : w6.cell? ⟨go, k - 1, none⟩ = some (.int .i64 la) := (hb6.cell (p := ⟨go, k - 1, none⟩) s2).trans d2
              have HW6 : Hid (w6.ownsRow wA.heap.size 3 1 (.slice (some ⟨go, 0, none⟩) k cap) k (out.map intV)) := owns_same HW3.out fun g e => hb6.block g (own_low HW3.out g e)
              have Hb6 : Hid (Below wA.heap.size wA w6) := Hb3.out.trans (hb6.mono Hb3.out.size)
              clear hb6 HW3 Hb3 HI3 k0 k1 k2 k3 k4 k5 k6 d1
              try go_wp2_with fail
              refine hK.out _ _ ?_ (fun hHeld_5 => ?_)
              · exact ⟨m0, m1, m2, m3, m4, m5, m6, m7, m8⟩
              clear hK K
              try simp only [Act.put, List.setIfInBounds_toArray, List.set_cons_zero, List.set_cons_succ]
              refine wpAnyH_take (i := 6) (oi := { dst := some 20, op := Op.unOp UnOp.not 4 (Operand.tmp 19), type := 4, pos := "ref.go:93", after := #[{ on := 5, ground := Ground.data }], guard := none }) (v := ?_) rfl (by kernel_rfl) (by kernel_rfl) (by kernel_rfl) (fun _ _ _ h => h) (Or.inl ⟨by rfl, ?_⟩) hHeld_5 ?_
              rotate_left
              · (intro w hSw; (try dsimp only at hSw); go_simp; try with_reducible rfl)
              try simp only [Act.put, List.setIfInBounds_toArray, List.set_cons_zero, List.set_cons_succ]
              refine wpAnyH_take (i := 7) (oi := { dst := some 21, op := Op.move (Operand.tmp 20), type := 4, pos := "ref.go:93", after := #[{ on := 6, ground := Ground.data }, { on := 5, ground := Ground.chain }], guard := none }) (v := ?_) rfl (by kernel_rfl) (by kernel_rfl) (by kernel_rfl) (fun _ _ _ h => h) (Or.inl ⟨by rfl, ?_⟩) hHeld_5 ?_
              rotate_left
              · (intro w hSw; (try dsimp only at hSw); go_simp; try with_reducible rfl)
              try simp only [Act.put, List.setIfInBounds_toArray, List.set_cons_zero, List.set_cons_succ]
              refine wpAnyH_take (i := 8) (oi := { dst := some 22, op := Op.move (Operand.tmp 5), type := 22, pos := "ref.go:93", after := #[{ on := 7, ground := Ground.guard }], guard := some (7, false) }) (v := ?_) rfl (by kernel_rfl) (by kernel_rfl) (by kernel_rfl) (fun _ _ _ h => h) (Or.inl ⟨by rfl, ?_⟩) hHeld_5 ?_
              rotate_left
              · (intro w hSw; (try dsimp only at hSw); go_simp; try with_reducible rfl)
              try simp only [Act.put, List.setIfInBounds_toArray, List.set_cons_zero, List.set_cons_succ]
              refine wpAnyH_take (i := 9) (oi := { dst := some 23, op := Op.call { callee := Callee.builtin Builtin.len, args := #[Operand.tmp 22], argTypes := #[22] }, type := 3, pos := "ref.go:93", after := #[{ on := 8, ground := Ground.data }, { on := 7, ground := Ground.guard }], guard := some (7, false) }) (v := ?_) rfl (by kernel_rfl) (by kernel_rfl) (by kernel_rfl) (fun _ _ _ h => h) (Or.inl ⟨by rfl, ?_⟩) hHeld_5 ?_
              rotate_left
              · (intro w hSw; (try dsimp only at hSw); go_simp; try with_reducible rfl)
              try simp only [Act.put, List.setIfInBounds_toArray, List.set_cons_zero, List.set_cons_succ]
              refine wpAnyH_take (i := 10) (oi := { dst := some 24, op := Op.binOp BinOp.gtr 3 (Operand.tmp 23) (Operand.const (Value.int IntKind.i64 0)) 3, type := 4, pos := "ref.go:93", after := #[{ on := 9, ground := Ground.data }, { on := 7, ground := Ground.guard }], guard := some (7, false) }) (v := ?_) rfl (by kernel_rfl) (by kernel_rfl) (by kernel_rfl) (fun _ _ _ h => h) (Or.inl ⟨by rfl, ?_⟩) hHeld_5 ?_
              rotate_left
              · (intro w hSw; (try dsimp only at hSw); go_simp; try with_reducible rfl)
              try simp only [Act.put, List.setIfInBounds_toArray, List.set_cons_zero, List.set_cons_succ]
              refine wpAnyH_take (i := 11) (oi := { dst := some 25, op := Op.move (Operand.tmp 24), type := 4, pos := "ref.go:93", after := #[{ on := 10, ground := Ground.data }, { on := 7, ground := Ground.chain }, { on := 7, ground := Ground.guard }], guard := some (7, false) }) (v := ?_) rfl (by kernel_rfl) (by kernel_rfl) (by kernel_rfl) (fun _ _ _ h => h) (Or.inl ⟨by rfl, ?_⟩) hHeld_5 ?_
              rotate_left
              · (intro w hSw; (try dsimp only at hSw); go_simp; try with_reducible rfl)
              try simp only [Act.put, List.setIfInBounds_toArray, List.set_cons_zero, List.set_cons_succ]
              refine wpAnyH_take (i := 12) (oi := { dst := some 26, op := Op.move (Operand.tmp 0), type := 22, pos := "ref.go:93", after := #[{ on := 11, ground := Ground.guard }], guard := some (11, true) }) (v := ?_) rfl (by kernel_rfl) (by kernel_rfl) (by kernel_rfl) (fun _ _ _ h => h) (Or.inl ⟨by rfl, ?_⟩) hHeld_5 ?_
              rotate_left
              · (intro w hSw; (try dsimp only at hSw); go_simp; try with_reducible rfl)
              try simp only [Act.put, List.setIfInBounds_toArray, List.set_cons_zero, List.set_cons_succ]
              refine wpAnyH_take (i := 13) (oi := { dst := some 27, op := Op.move (Operand.tmp 7), type := 3, pos := "ref.go:93", after := #[{ on := 11, ground := Ground.guard }], guard := some (11, true) }) (v := ?_) rfl (by kernel_rfl) (by kernel_rfl) (by kernel_rfl) (fun _ _ _ h => h) (Or.inl ⟨by rfl, ?_⟩) hHeld_5 ?_
              rotate_left
              · (intro w hSw; (try dsimp only at hSw); go_simp; try with_reducible rfl)
              try simp only [Act.put, List.setIfInBounds_toArray, List.set_cons_zero, List.set_cons_succ]
              refine wpAnyH_take (i := 14) (oi := { dst := some 28, op := Op.indexAddr 22 (Operand.tmp 26) (Operand.tmp 27), type := 0, pos := "ref.go:93", after := #[{ on := 12, ground := Ground.data }, { on := 13, ground := Ground.data }, { on := 11, ground := Ground.guard }], guard := some (11, true) }) (v := ?_) rfl (by kernel_rfl) (by kernel_rfl) (by kernel_rfl) (fun _ _ _ h => h) (Or.inl ⟨by rfl, ?_⟩) hHeld_5 ?_
              rotate_left
              · (intro w hSw; (try dsimp only at hSw); go_simp; try with_reducible rfl)
              try simp only [Act.put, List.setIfInBounds_toArray, List.set_cons_zero, List.set_cons_succ]
              refine wpAnyH_take (i := 15) (oi := { dst := some 29, op := Op.load 3 (Operand.tmp 28), type := 3, pos := "ref.go:93", after := #[{ on := 14, ground := Ground.data }, { on := 11, ground := Ground.guard }], guard := some (11, true) }) (v := ?_) rfl (by kernel_rfl) (by kernel_rfl) (by kernel_rfl) (fun _ _ _ h => h) (Or.inl ⟨by rfl, ?_⟩) hHeld_5 ?_
              rotate_left
              · (intro w hSw; (try dsimp only at hSw); go_simp; try with_reducible rfl)
              try simp only [Act.put, List.setIfInBounds_toArray, List.set_cons_zero, List.set_cons_succ]
              refine wpAnyH_take (i := 16) (oi := { dst := some 30, op := Op.move (Operand.tmp 5), type := 22, pos := "ref.go:93", after := #[{ on := 11, ground := Ground.guard }], guard := some (11, true) }) (v := ?_) rfl (by kernel_rfl) (by kernel_rfl) (by kernel_rfl) (fun _ _ _ h => h) (Or.inl ⟨by rfl, ?_⟩) hHeld_5 ?_
              rotate_left
              · (intro w hSw; (try dsimp only at hSw); go_simp; try with_reducible rfl)
              try simp only [Act.put, List.setIfInBounds_toArray, List.set_cons_zero, List.set_cons_succ]
              refine wpAnyH_take (i := 17) (oi := { dst := some 31, op := Op.move (Operand.tmp 5), type := 22, pos := "ref.go:93", after := #[{ on := 11, ground := Ground.guard }], guard := some (11, true) }) (v := ?_) rfl (by kernel_rfl) (by kernel_rfl) (by kernel_rfl) (fun _ _ _ h => h) (Or.inl ⟨by rfl, ?_⟩) hHeld_5 ?_
              rotate_left
              · (intro w hSw; (try dsimp only at hSw); go_simp; try with_reducible rfl)
              try simp only [Act.put, List.setIfInBounds_toArray, List.set_cons_zero, List.set_cons_succ]
              refine wpAnyH_take (i := 18) (oi := { dst := some 32, op := Op.call { callee := Callee.builtin Builtin.len, args := #[Operand.tmp 31], argTypes := #[22] }, type := 3, pos := "ref.go:93", after := #[{ on := 17, ground := Ground.data }, { on := 11, ground := Ground.guard }], guard := some (11, true) }) (v := ?_) rfl (by kernel_rfl) (by kernel_rfl) (by kernel_rfl) (fun _ _ _ h => h) (Or.inl ⟨by rfl, ?_⟩) hHeld_5 ?_
              rotate_left
              · (intro w hSw; (try dsimp only at hSw); go_simp; try with_reducible rfl)
              try simp only [Act.put, List.setIfInBounds_toArray, List.set_cons_zero, List.set_cons_succ]
              refine wpAnyH_take (i := 19) (oi := { dst := some 33, op := Op.binOp BinOp.sub 3 (Operand.tmp 32) (Operand.const (Value.int IntKind.i64 1)) 3, type := 3, pos := "ref.go:93", after := #[{ on := 18, ground := Ground.data }, { on := 11, ground := Ground.guard }], guard := some (11, true) }) (v := ?_) rfl (by kernel_rfl) (by kernel_rfl) (by kernel_rfl) (fun _ _ _ h => h) (Or.inl ⟨by rfl, ?_⟩) hHeld_5 ?_
              rotate_left
              · (intro w hSw; (try dsimp only at hSw); go_simp; try with_reducible rfl)
              try simp only [Act.put, List.setIfInBounds_toArray, List.set_cons_zero, List.set_cons_succ]
              refine wpAnyH_take (i := 20) (oi := { dst := some 34, op := Op.indexAddr 22 (Operand.tmp 30) (Operand.tmp 33), type := 0, pos := "ref.go:93", after := #[{ on := 16, ground := Ground.data }, { on := 19, ground := Ground.data }, { on := 11, ground := Ground.guard }], guard := some (11, true) }) (v := ?_) rfl (by kernel_rfl) (by kernel_rfl) (by kernel_rfl) (fun _ _ _ h => h) (Or.inl ⟨by rfl, ?_⟩) hHeld_5 ?_
              rotate_left
              · (intro w hSw; (try dsimp only at hSw); go_simp; try with_reducible rfl)
              try simp only [Act.put, List.setIfInBounds_toArray, List.set_cons_zero, List.set_cons_succ]
              refine wpAnyH_take (i := 21) (oi := { dst := some 35, op := Op.load 3 (Operand.tmp 34), type := 3, pos := "ref.go:93", after := #[{ on := 20, ground := Ground.data }, { on := 11, ground := Ground.guard }], guard := some (11, true) }) (v := ?_) rfl (by kernel_rfl) (by kernel_rfl) (by kernel_rfl) (fun _ _ _ h => h) (Or.inl ⟨by rfl, ?_⟩) hHeld_5 ?_
              rotate_left
              · (intro w hSw; (try dsimp only at hSw); go_simp; try with_reducible rfl)
              try simp only [Act.put, List.setIfInBounds_toArray, List.set_cons_zero, List.set_cons_succ]
              refine wpAnyH_take (i := 22) (oi := { dst := some 36, op := Op.binOp BinOp.leq 3 (Operand.tmp 29) (Operand.tmp 35) 3, type := 4, pos := "ref.go:93", after := #[{ on := 15, ground := Ground.data }, { on := 21, ground := Ground.data }, { on := 11, ground := Ground.guard }], guard := some (11, true) }) (v := ?_) rfl (by kernel_rfl) (by kernel_rfl) (by kernel_rfl) (fun _ _ _ h => h) (Or.inl ⟨by rfl, ?_⟩) hHeld_5 ?_
              rotate_left
              · (intro w hSw; (try dsimp only at hSw); go_simp; try with_reducible rfl)
              try simp only [Act.put, List.setIfInBounds_toArray, List.set_cons_zero, List.set_cons_succ]
              refine wpAnyH_take (i := 23) (oi := { dst := some 37, op := Op.pick (Operand.tmp 25) (Operand.tmp 36) (Operand.const (Value.bool false)), type := 4, pos := "ref.go:93", after := #[{ on := 11, ground := Ground.data }, { on := 22, ground := Ground.data }, { on := 7, ground := Ground.guard }], guard := some (7, false) }) (v := ?_) rfl (by kernel_rfl) (by kernel_rfl) (by kernel_rfl) (fun _ _ _ h => h) (Or.inl ⟨by rfl, ?_⟩) hHeld_5 ?_
              rotate_left
              · (intro w hSw; (try dsimp only at hSw); go_simp; try with_reducible rfl)
              try simp only [Act.put, List.setIfInBounds_toArray, List.set_cons_zero, List.set_cons_succ]
              refine wpAnyH_take (i := 24) (oi := { dst := some 38, op := Op.pick (Operand.tmp 21) (Operand.const (Value.bool true)) (Operand.tmp 37), type := 4, pos := "ref.go:93", after := #[{ on := 7, ground := Ground.data }, { on := 23, ground := Ground.data }], guard := none }) (v := ?_) rfl (by kernel_rfl) (by kernel_rfl) (by kernel_rfl) (fun _ _ _ h => h) (Or.inl ⟨by rfl, ?_⟩) hHeld_5 ?_
              rotate_left
              · (intro w hSw; (try dsimp only at hSw); go_simp; try with_reducible rfl)
              try simp only [Act.put, List.setIfInBounds_toArray, List.set_cons_zero, List.set_cons_succ]
              refine wpAnyH_done (by kernel_rfl) ?_ _
              go_wp2
              exact ⟨⟨t + 1, bb, by omega, by go_num, rfl, HN.out, HW6.out, Hb6.out⟩, by simp [intOf]; omega⟩
        · have hin2 : decide (x ∈ vs) = false := decide_eq_false hin
          have HN : Hid (BestIs l vs out (t + 1) bb) := HBs.out.skip HX.out fun hc => hin hc.1
          clear hin HBs
          go_wp2_with fail
          refine wp_region_held_drew (S := fun w' => w'.cell? ⟨B0, 0, none⟩ = some (.bool false) ∧ w'.cell? ⟨B0, 1, none⟩ = some (.slice none 0 0) ∧ w'.cell? ⟨B0, 2, none⟩ = some (.int .i64 0) ∧ w'.cell? ⟨B0, 3, none⟩ = some (.bool false) ∧ w'.cell? ⟨B0, 4, none⟩ = some (.int .i64 0) ∧ w'.cell? ⟨B0, 5, none⟩ = some (.int .i64 0) ∧ w'.cell? ⟨B0, 6, none⟩ = some (.slice av nv cv) ∧ w'.cell? ⟨b1, o1 + t, none⟩ = some (.int .i64 x)) (by kernel_rfl) ?_ (fun hHeld => ?_)
          · exact ⟨k0, k1, k2, k3, k4, k5, k6, d1⟩
          generalize wr.drew = w3 at *
          refine wpAnyH_take (i := 0) (oi := { dst := some 14, op := Op.load 37 (Operand.tmp 3), type := 37, pos := "ref.go:93", after := #[], guard := none }) (v := ?_) rfl (by kernel_rfl) (by kernel_rfl) (by kernel_rfl) (fun _ _ _ h => h) (Or.inl ⟨by rfl, ?_⟩) hHeld ?_
          rotate_left
          · (intro w hSw; (try dsimp only at hSw); go_simp; try with_reducible rfl)
          try simp only [Act.put, List.setIfInBounds_toArray, List.set_cons_zero, List.set_cons_succ]
          refine wpAnyH_take (i := 1) (oi := { dst := some 15, op := Op.move (Operand.tmp 0), type := 22, pos := "ref.go:93", after := #[], guard := none }) (v := ?_) rfl (by kernel_rfl) (by kernel_rfl) (by kernel_rfl) (fun _ _ _ h => h) (Or.inl ⟨by rfl, ?_⟩) hHeld ?_
          rotate_left
          · (intro w hSw; (try dsimp only at hSw); go_simp; try with_reducible rfl)
          try simp only [Act.put, List.setIfInBounds_toArray, List.set_cons_zero, List.set_cons_succ]
          refine wpAnyH_take (i := 2) (oi := { dst := some 16, op := Op.move (Operand.tmp 7), type := 3, pos := "ref.go:93", after := #[], guard := none }) (v := ?_) rfl (by kernel_rfl) (by kernel_rfl) (by kernel_rfl) (fun _ _ _ h => h) (Or.inl ⟨by rfl, ?_⟩) hHeld ?_
          rotate_left
          · (intro w hSw; (try dsimp only at hSw); go_simp; try with_reducible rfl)
          try simp only [Act.put, List.setIfInBounds_toArray, List.set_cons_zero, List.set_cons_succ]
          refine wpAnyH_take (i := 3) (oi := { dst := some 17, op := Op.indexAddr 22 (Operand.tmp 15) (Operand.tmp 16), type := 0, pos := "ref.go:93", after := #[{ on := 1, ground := Ground.data }, { on := 2, ground := Ground.data }], guard := none }) (v := ?_) rfl (by kernel_rfl) (by kernel_rfl) (by kernel_rfl) (fun _ _ _ h => h) (Or.inl ⟨by rfl, ?_⟩) hHeld ?_
          rotate_left
          · (intro w hSw; (try dsimp only at hSw); go_simp; try with_reducible rfl)
          try simp only [Act.put, List.setIfInBounds_toArray, List.set_cons_zero, List.set_cons_succ]
          refine wpAnyH_take (i := 4) (oi := { dst := some 18, op := Op.load 3 (Operand.tmp 17), type := 3, pos := "ref.go:93", after := #[{ on := 3, ground := Ground.data }], guard := none }) (v := ?_) rfl (by kernel_rfl) (by kernel_rfl) (by kernel_rfl) (fun _ _ _ h => h) (Or.inl ⟨by rfl, ?_⟩) hHeld ?_
          rotate_left
          · (intro w hSw; (try dsimp only at hSw); go_simp; try with_reducible rfl)
          try simp only [Act.put, List.setIfInBounds_toArray, List.set_cons_zero, List.set_cons_succ]
          refine wpAnyH_ready (rs := [5]) (by kernel_rfl) (by simp) ?_
          refine AllReadyH.cons (o := { dst := some 19, op := Op.call { callee := Callee.value (Operand.func 27), args := #[Operand.tmp 14, Operand.tmp 18], argTypes := #[37, 3] }, type := 4, pos := "ref.go:93", after := #[{ on := 0, ground := Ground.data }, { on := 4, ground := Ground.data }], guard := none }) rfl (fun K hK => ?_) AllReadyH.nil
          go_simp
          go_at_call 27
          refine (is_any w3 vs x nv cv av HVl.out hnv HI3.out).mono ?_
          rintro e w6 ⟨rfl, hb6⟩
          rw [hin2]
          have m0 : w6.cell? ⟨B0, 0, none⟩ = some (.bool false) := (hb6.cell (p := ⟨B0, 0, none⟩) s0).trans k0
          have m1 : w6.cell? ⟨B0, 1, none⟩ = some (.slice none 0 0) := (hb6.cell (p := ⟨B0, 1, none⟩) s0).trans k1
          have m2 : w6.cell? ⟨B0, 2, none⟩ = some (.int .i64 0) := (hb6.cell (p := ⟨B0, 2, none⟩) s0).trans k2
          have m3 : w6.cell? ⟨B0, 3, none⟩ = some (.bool false) := (hb6.cell (p := ⟨B0, 3, none⟩) s0).trans k3
          have m4 : w6.cell? ⟨B0, 4, none⟩ = some (.int .i64 0) := (hb6.cell (p := ⟨B0, 4, none⟩) s0).trans k4
          have m5 : w6.cell? ⟨B0, 5, none⟩ = some (.int .i64 0) := (hb6.cell (p := ⟨B0, 5, none⟩) s0).trans k5
          have m6 : w6.cell? ⟨B0, 6, none⟩ = some (.slice av nv cv) := (hb6.cell (p := ⟨B0, 6, none⟩) s0).trans k6
          have m7 : w6.cell? ⟨b1, o1 + t, none⟩ = some (.int .i64 x) := (hb6.cell (p := ⟨b1, o1 + t, none⟩) s1).trans d1
          have HW6 : Hid (w6.ownsRow wA.heap.size 3 1 (.slice ao k cap) k (out.map intV)) := owns_same HW3.out fun g e => hb6.block g (own_low HW3.out g e)
          have Hb6 : Hid (Below wA.heap.size wA w6) := Hb3.out.trans (hb6.mono Hb3.out.size)
          clear hb6 HW3 Hb3 HI3 k0 k1 k2 k3 k4 k5 k6 d1
          try go_wp2_with fail
          refine hK.out _ _ ?_ (fun hHeld_5 => ?_)
          · exact ⟨m0, m1, m2, m3, m4, m5, m6, m7⟩
          clear hK K
          try simp only [Act.put, List.setIfInBounds_toArray, List.set_cons_zero, List.set_cons_succ]
          refine wpAnyH_take (i := 6) (oi := { dst := some 20, op := Op.unOp UnOp.not 4 (Operand.tmp 19), type := 4, pos := "ref.go:93", after := #[{ on := 5, ground := Ground.data }], guard := none }) (v := ?_) rfl (by kernel_rfl) (by kernel_rfl) (by kernel_rfl) (fun _ _ _ h => h) (Or.inl ⟨by rfl, ?_⟩) hHeld_5 ?_
          rotate_left
          · (intro w hSw; (try dsimp only at hSw); go_simp; try with_reducible rfl)
          try simp only [Act.put, List.setIfInBounds_toArray, List.set_cons_zero, List.set_cons_succ]
          refine wpAnyH_take (i := 7) (oi := { dst := some 21, op := Op.move (Operand.tmp 20), type := 4, pos := "ref.go:93", after := #[{ on := 6, ground := Ground.data }, { on := 5, ground := Ground.chain }], guard := none }) (v := ?_) rfl (by kernel_rfl) (by kernel_rfl) (by kernel_rfl) (fun _ _ _ h => h) (Or.inl ⟨by rfl, ?_⟩) hHeld_5 ?_
          rotate_left
          · (intro w hSw; (try dsimp only at hSw); go_simp; try with_reducible rfl)
          try simp only [Act.put, List.setIfInBounds_toArray, List.set_cons_zero, List.set_cons_succ]
          refine wpAnyH_take (i := 8) (oi := { dst := some 22, op := Op.move (Operand.tmp 5), type := 22, pos := "ref.go:93", after := #[{ on := 7, ground := Ground.guard }], guard := some (7, false) }) (v := undef) rfl (by kernel_rfl) (by kernel_rfl) (by kernel_rfl) (fun _ _ _ h => h) (Or.inr ⟨by rfl, rfl⟩) hHeld_5 ?_
          try simp only [Act.put, List.setIfInBounds_toArray, List.set_cons_zero, List.set_cons_succ]
          refine wpAnyH_take (i := 9) (oi := { dst := some 23, op := Op.call { callee := Callee.builtin Builtin.len, args := #[Operand.tmp 22], argTypes := #[22] }, type := 3, pos := "ref.go:93", after := #[{ on := 8, ground := Ground.data }, { on := 7, ground := Ground.guard }], guard := some (7, false) }) (v := undef) rfl (by kernel_rfl) (by kernel_rfl) (by kernel_rfl) (fun _ _ _ h => h) (Or.inr ⟨by rfl, rfl⟩) hHeld_5 ?_
          try simp only [Act.put, List.setIfInBounds_toArray, List.set_cons_zero, List.set_cons_succ]
          refine wpAnyH_take (i := 10) (oi := { dst := some 24, op := Op.binOp BinOp.gtr 3 (Operand.tmp 23) (Operand.const (Value.int IntKind.i64 0)) 3, type := 4, pos := "ref.go:93", after := #[{ on := 9, ground := Ground.data }, { on := 7, ground := Ground.guard }], guard := some (7, false) }) (v := undef) rfl (by kernel_rfl) (by kernel_rfl) (by kernel_rfl) (fun _ _ _ h => h) (Or.inr ⟨by rfl, rfl⟩) hHeld_5 ?_
          try simp only [Act.put, List.setIfInBounds_toArray, List.set_cons_zero, List.set_cons_succ]
          refine wpAnyH_take (i := 11) (oi := { dst := some 25, op := Op.move (Operand.tmp 24), type := 4, pos := "ref.go:93", after := #[{ on := 10, ground := Ground.data }, { on := 7, ground := Ground.chain }, { on := 7, ground := Ground.guard }], guard := some (7, false) }) (v := undef) rfl (by kernel_rfl) (by kernel_rfl) (by kernel_rfl) (fun _ _ _ h => h) (Or.inr ⟨by rfl, rfl⟩) hHeld_5 ?_
          try simp only [Act.put, List.setIfInBounds_toArray, List.set_cons_zero, List.set_cons_succ]
          refine wpAnyH_take (i := 12) (oi := { dst := some 26, op := Op.move (Operand.tmp 0), type := 22, pos := "ref.go:93", after := #[{ on := 11, ground := Ground.guard }], guard := some (11, true) }) (v := undef) rfl (by kernel_rfl) (by kernel_rfl) (by kernel_rfl) (fun _ _ _ h => h) (Or.inr ⟨by rfl, rfl⟩) hHeld_5 ?_
          try simp only [Act.put, List.setIfInBounds_toArray, List.set_cons_zero, List.set_cons_succ]
          refine wpAnyH_take (i := 13) (oi := { dst := some 27, op := Op.move (Operand.tmp 7), type := 3, pos := "ref.go:93", after := #[{ on := 11, ground := Ground.guard }], guard := some (11, true) }) (v := undef) rfl (by kernel_rfl) (by kernel_rfl) (by kernel_rfl) (fun _ _ _ h => h) (Or.inr ⟨by rfl, rfl⟩) hHeld_5 ?_
          try simp only [Act.put, List.setIfInBounds_toArray, List.set_cons_zero, List.set_cons_succ]
          refine wpAnyH_take (i := 14) (oi := { dst := some 28, op := Op.indexAddr 22 (Operand.tmp 26) (Operand.tmp 27), type := 0, pos := "ref.go:93", after := #[{ on := 12, ground := Ground.data }, { on := 13, ground := Ground.data }, { on := 11, ground := Ground.guard }], guard := some (11, true) }) (v := undef) rfl (by kernel_rfl) (by kernel_rfl) (by kernel_rfl) (fun _ _ _ h => h) (Or.inr ⟨by rfl, rfl⟩) hHeld_5 ?_
          try simp only [Act.put, List.setIfInBounds_toArray, List.set_cons_zero, List.set_cons_succ]
          refine wpAnyH_take (i := 15) (oi := { dst := some 29, op := Op.load 3 (Operand.tmp 28), type := 3, pos := "ref.go:93", after := #[{ on := 14, ground := Ground.data }, { on := 11, ground := Ground.guard }], guard := some (11, true) }) (v := undef) rfl (by kernel_rfl) (by kernel_rfl) (by kernel_rfl) (fun _ _ _ h => h) (Or.inr ⟨by rfl, rfl⟩) hHeld_5 ?_
          try simp only [Act.put, List.setIfInBounds_toArray, List.set_cons_zero, List.set_cons_succ]
          refine wpAnyH_take (i := 16) (oi := { dst := some 30, op := Op.move (Operand.tmp 5), type := 22, pos := "ref.go:93", after := #[{ on := 11, ground := Ground.guard }], guard := some (11, true) }) (v := undef) rfl (by kernel_rfl) (by kernel_rfl) (by kernel_rfl) (fun _ _ _ h => h) (Or.inr ⟨by rfl, rfl⟩) hHeld_5 ?_
          try simp only [Act.put, List.setIfInBounds_toArray, List.set_cons_zero, List.set_cons_succ]
          refine wpAnyH_take (i := 17) (oi := { dst := some 31, op := Op.move (Operand.tmp 5), type := 22, pos := "ref.go:93", after := #[{ on := 11, ground := Ground.guard }], guard := some (11, true) }) (v := undef) rfl (by kernel_rfl) (by kernel_rfl) (by kernel_rfl) (fun _ _ _ h => h) (Or.inr ⟨by rfl, rfl⟩) hHeld_5 ?_
          try simp only [Act.put, List.setIfInBounds_toArray, List.set_cons_zero, List.set_cons_succ]
          refine wpAnyH_take (i := 18) (oi := { dst := some 32, op := Op.call { callee := Callee.builtin Builtin.len, args := #[Operand.tmp 31], argTypes := #[22] }, type := 3, pos := "ref.go:93", after := #[{ on := 17, ground := Ground.data }, { on := 11, ground := Ground.guard }], guard := some (11, true) }) (v := undef) rfl (by kernel_rfl) (by kernel_rfl) (by kernel_rfl) (fun _ _ _ h => h) (Or.inr ⟨by rfl, rfl⟩) hHeld_5 ?_
          try simp only [Act.put, List.setIfInBounds_toArray, List.set_cons_zero, List.set_cons_succ]
          refine wpAnyH_take (i := 19) (oi := { dst := some 33, op := Op.binOp BinOp.sub 3 (Operand.tmp 32) (Operand.const (Value.int IntKind.i64 1)) 3, type := 3, pos := "ref.go:93", after := #[{ on := 18, ground := Ground.data }, { on := 11, ground := Ground.guard }], guard := some (11, true) }) (v := undef) rfl (by kernel_rfl) (by kernel_rfl) (by kernel_rfl) (fun _ _ _ h => h) (Or.inr ⟨by rfl, rfl⟩) hHeld_5 ?_
          try simp only [Act.put, List.setIfInBounds_toArray, List.set_cons_zero, List.set_cons_succ]
          refine wpAnyH_take (i := 20) (oi := { dst := some 34, op := Op.indexAddr 22 (Operand.tmp 30) (Operand.tmp 33), type := 0, pos := "ref.go:93", after := #[{ on := 16, ground := Ground.data }, { on := 19, ground := Ground.data }, { on := 11, ground := Ground.guard }], guard := some (11, true) }) (v := undef) rfl (by kernel_rfl) (by kernel_rfl) (by kernel_rfl) (fun _ _ _ h => h) (Or.inr ⟨by rfl, rfl⟩) hHeld_5 ?_
          try simp only [Act.put, List.setIfInBounds_toArray, List.set_cons_zero, List.set_cons_succ]
          refine wpAnyH_take (i := 21) (oi := { dst := some 35, op := Op.load 3 (Operand.tmp 34), type := 3, pos := "ref.go:93", after := #[{ on := 20, ground := Ground.data }, { on := 11, ground := Ground.guard }], guard := some (11, true) }) (v := undef) rfl (by kernel_rfl) (by kernel_rfl) (by kernel_rfl) (fun _ _ _ h => h) (Or.inr ⟨by rfl, rfl⟩) hHeld_5 ?_
          try simp only [Act.put, List.setIfInBounds_toArray, List.set_cons_zero, List.set_cons_succ]
          refine wpAnyH_take (i := 22) (oi := { dst := some 36, op := Op.binOp BinOp.leq 3 (Operand.tmp 29) (Operand.tmp 35) 3, type := 4, pos := "ref.go:93", after := #[{ on := 15, ground := Ground.data }, { on := 21, ground := Ground.data }, { on := 11, ground := Ground.guard }], guard := some (11, true) }) (v := undef) rfl (by kernel_rfl) (by kernel_rfl) (by kernel_rfl) (fun _ _ _ h => h) (Or.inr ⟨by rfl, rfl⟩) hHeld_5 ?_
          try simp only [Act.put, List.setIfInBounds_toArray, List.set_cons_zero, List.set_cons_succ]
          refine wpAnyH_take (i := 23) (oi := { dst := some 37, op := Op.pick (Operand.tmp 25) (Operand.tmp 36) (Operand.const (Value.bool false)), type := 4, pos := "ref.go:93", after := #[{ on := 11, ground := Ground.data }, { on := 22, ground := Ground.data }, { on := 7, ground := Ground.guard }], guard := some (7, false) }) (v := undef) rfl (by kernel_rfl) (by kernel_rfl) (by kernel_rfl) (fun _ _ _ h => h) (Or.inr ⟨by rfl, rfl⟩) hHeld_5 ?_
          try simp only [Act.put, List.setIfInBounds_toArray, List.set_cons_zero, List.set_cons_succ]
          refine wpAnyH_take (i := 24) (oi := { dst := some 38, op := Op.pick (Operand.tmp 21) (Operand.const (Value.bool true)) (Operand.tmp 37), type := 4, pos := "ref.go:93", after := #[{ on := 7, ground := Ground.data }, { on := 23, ground := Ground.data }], guard := none }) (v := ?_) rfl (by kernel_rfl) (by kernel_rfl) (by kernel_rfl) (fun _ _ _ h => h) (Or.inl ⟨by rfl, ?_⟩) hHeld_5 ?_
          rotate_left
          · (intro w hSw; (try dsimp only at hSw); go_simp; try with_reducible rfl)
          try simp only [Act.put, List.setIfInBounds_toArray, List.set_cons_zero, List.set_cons_succ]
          refine wpAnyH_done (by kernel_rfl) ?_ _
          go_wp2
          exact ⟨⟨t + 1, bb, by omega, by go_num, rfl, HN.out, HW6.out, Hb6.out⟩, by simp [intOf]; omega⟩
      · have n1 : ¬ (t : Int) < (n : Int) := by omega
        have htn : t = n := by omega
        subst htn
        rcases HBs.out with ⟨hbb, h4⟩ | ⟨bi, y, hbb, hbt, hy, hcy, h4⟩
        · have HD : Hid (∀ x, x ∈ out ↔ x ∈ l ∧ x ∈ vs) := HI.out.done HL.out h4
          have HR : Hid (IntsAt wr ao out) := by
            obtain ⟨a', c', e, hr⟩ := own_row HW.out
            cases e
            exact hr.ints
          have HBE : Hid (Below w.heap.size w wr) := by
            have h1 := HBA.out
            rw [HB0.out]
            exact h1.trans (hb.out.mono (by have := h1.size; rw [HB0.out] at this; exact this))
          subst hbb
          clear h4 HBs
          go_wp2
          go_ret
          exact ⟨HBE.out, ao, cap, out, by rw [HO.out]; rfl, HR.out, by rw [HO.out]; exact hk, HI.out.rise, HD.out⟩
        · obtain ⟨b1, o1, rfl, c1⟩ := HA.out bi y hy
          have c2 : wr.cell? ⟨b1, o1 + bi, none⟩ = some (.int .i64 y) := (hb.out.cell (p := ⟨b1, o1 + bi, none⟩) (World.block_lt_of_cell? _ _ c1)).trans c1
          have f1 : ¬ (bi : Int) < 0 := by omega
          have f2 : (bi : Int) < (t : Int) := by omega
          have HN : Hid (OutIs l vs (out ++ [y])) := HI.out.more HL.out (List.mem_of_getElem? hy) hcy h4
          have hlen : (out ++ [y]).length ≤ t := by rw [← HL.out]; exact rising_len _ _ HN.out.rise fun x hx => (HN.out.mem x hx).1
          have hk1 : k + 1 ≤ t := by rw [List.length_append, HO.out] at hlen; exact hlen
          have hs0 : wA.heap.size ≤ wr.heap.size := hb.out.size
          subst hbb
          clear h4 hy hcy c1 HBs hlen
          go_wp2_with (at_builtin; refine wpList_append_more (w := wr.alloc (.cells #[.int .i64 y] 3)) rfl _ _ _ rfl wA.heap.size 3 i0 _ 1 8 Try.underlying22 hi0 hz0 hz1 hz3 rfl (by omega) _ k (out.map intV) (by rfl) (by exact HW.out.alloc _) (some ⟨wr.heap.size, 0, none⟩) 1 1 [.int .i64 y] (by rfl) (by rfl) (by exact (row_new wr [.int .i64 y] 3 _ rfl).news) (by simp [Value.oneCell']) (by unfold maxLen; omega) (by omega) (by simp; omega) ?_; intro a2 c2 w2 ho hb2; have HO3 : Hid (w2.ownsRow wA.heap.size 3 1 (.slice a2 (k + 1) c2) (k + 1) (out.map intV ++ [.int .i64 y])) := ho; have HB3 : Hid (Below wA.heap.size wA w2) := hb.out.trans (((Below.refl _ _).alloc hs0 _).trans hb2); clear ho hb2)
          go_wp2
          refine ⟨⟨k + 1, _, _, out ++ [y], hk1, rfl, by show _ = _; simp [HO.out], ?_, HN.out, HB3.out⟩, by simp [lenV]; omega⟩
          show World.ownsRow _ _ _ _ _ _ _
          rw [List.map_append]
          exact HO3.out
end Go.Proofs.Ytmgpnaehniohgaa
