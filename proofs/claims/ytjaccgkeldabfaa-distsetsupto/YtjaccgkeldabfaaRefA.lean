/- The document's All. -/
import Derived.Test.YtjaccgkeldabfaaRank
import Derived.Deep.RegionHeld3
namespace Go.Proofs.Ytjaccgkeldabfaa
open Go.RowKit

/-- All along its first loop: the ranks so far. -/
def RankRel (vl : List Int) (n BR : Nat) (w1 : World) (iv : Value) (wx : World) : Prop := ∃ (i : Nat) (rs : List Int), i ≤ n ∧ iv = .int .i64 i ∧ rs.length = n ∧ NumsAt wx BR rs ∧ Turn BR w1 wx ∧ (∀ (k : Nat) (x : Int), k < i → vl[k]? = some x → rs[k]? = some (rank vl x : Int)) ∧ (∀ k, i ≤ k → k < n → rs[k]? = some 0) ∧ (∀ (k k' : Nat) (x : Int), k < i → k ≠ k' → vl[k]? = some x → vl[k']? ≠ some x)
/-- All along its second loop: the rank of one. -/
def OneRel (vl : List Int) (n BR : Nat) (w1 : World) (rs0 : List Int) (i : Nat) (x : Int) (jv : Value) (wx : World) : Prop := ∃ (j : Nat) (rs : List Int), j ≤ n ∧ jv = .int .i64 j ∧ rs.length = n ∧ NumsAt wx BR rs ∧ Turn BR w1 wx ∧ rs[i]? = some (rank (vl.take j) x : Int) ∧ (∀ k, k ≠ i → rs[k]? = rs0[k]?) ∧ (∀ k, k < j → k ≠ i → vl[k]? ≠ some x)
/-- All along its third loop: those that have found their place. -/
def PutRel (vl m : List Int) (n BS : Nat) (w3 : World) (iv : Value) (wx : World) : Prop := ∃ (i : Nat) (ss : List Int), i ≤ n ∧ iv = .int .i64 i ∧ ss.length = n ∧ NumsAt wx BS ss ∧ Turn BS w3 wx ∧ (∀ (k i' : Nat) (y : Int), m[k]? = some y → i' < i → vl[i']? = some y → ss[k]? = some y)
/-- All along its last loop: the pairs of one. -/
def FrontRel (m : List Int) (j : Nat) (x : Int) (q nr : Nat) (w1 : World) (v i : Value) (wx : World) : Prop := ∃ (k q2 : Nat) (av2 : Option Addr) (cap2 : Nat), k ≤ nr ∧ q2 ≤ q + k ∧ i = .int .i64 ((j + 1 + k : Nat) : Int) ∧ v = .slice av2 q2 cap2 ∧ (frontP m j ++ ((m.drop (j + 1)).take k).map fun b => (x, b)).length = q2 ∧ wx.ownsRow w1.heap.size 24 2 (.slice av2 q2 cap2) q2 (rowP (frontP m j ++ ((m.drop (j + 1)).take k).map fun b => (x, b))) ∧ Below w1.heap.size w1 wx
theorem ints_turn {w W : World} {B : Nat} {a : Option Addr} {l : List Int} (h : IntsAt w a l) (hB : w.heap.size ≤ B) (hb : Below w.heap.size w W) {W' : World} (ht : Turn B W W') {i : Nat} {x : Int} (hi : l[i]? = some x) : ∃ b off, a = some ⟨b, off, none⟩ ∧ b < w.heap.size ∧ W'.cell? ⟨b, off + i, none⟩ = some (.int .i64 x) := by
  obtain ⟨b, off, e, hc⟩ := h i x hi
  have hlt : b < w.heap.size := World.block_lt_of_cell? _ _ hc
  refine ⟨b, off, e, hlt, ?_⟩
  have h1 := hb.size
  rw [World.cell?_of_block (a := ⟨b, off + i, none⟩) (ht.block b (by omega) (by omega)), World.cell?_of_block (a := ⟨b, off + i, none⟩) (hb.block b hlt)]
  exact hc
set_option maxRecDepth 100000 in
set_option maxHeartbeats 16000000 in
theorem rall_any (w : World) (a : Option Addr) (c : Nat) (vl : List Int) (n : Nat) (hl : vl.length = n) (hn : n ≤ 4611686018427387904) (hA : IntsAt w a vl) :
    Calls Try.prog 16 #[.slice a n c] w fun e w' => AllIs w w' e vl := by
  have HL : Hid (vl.length = n) := hl
  by_cases hbig : 512 < n
  · have f1 : decide ((n : Int) > 512) = true := by rw [decide_eq_true_eq]; omega
    have HF : Hid (AllIs w w (.returned (.tuple #[.slice none 0 0, .int .i64 22])) vl) := ⟨Below.refl _ _, .inl ⟨by omega, rfl⟩⟩
    clear hA hl
    go_enter Try.func16, Try.ntmps16
    go_wp2
    refine bodyPost_ret (by simp [results, Try.results16, go_sem]; try rfl) rfl ?_
    exact HF.out
  · have f1 : decide ((n : Int) > 512) = false := by rw [decide_eq_false_iff_not]; omega
    have hn5 : n ≤ 512 := by omega
    have HA : Hid (IntsAt w a vl) := hA
    have hmk := makes n hn5
    obtain ⟨i0, hi0, hz0, hz1, hz3⟩ := info_parts info24
    obtain ⟨w1, hw1⟩ : ∃ w1, w1 = w.alloc (.cells (zerosA n) 3) := ⟨_, rfl⟩
    have HB1 : Hid (Below w.heap.size w w1) := by rw [hw1]; exact below_alloc _ _
    have HN1 : Hid (NumsAt w1 w.heap.size (List.replicate n 0)) := by rw [hw1]; exact nums_made w n
    clear hA hl hbig
    go_enter Try.func16, Try.ntmps16
    go_wp2_with fail
    rw [← hw1]
    clear hw1
    go_loopw [5] (fun iv wx => RankRel vl n w.heap.size w1 iv wx) (fun i _ => n - (intOf i).toNat)
    case atStart => exact ⟨0, List.replicate n 0, Nat.zero_le _, rfl, by simp, HN1.out, Turn.refl _ _, fun k x hk => absurd hk (by omega), fun k _ hk => by simp [hk], fun k k' x hk => absurd hk (by omega)⟩
    case round =>
      obtain ⟨i, rs0, hi, rfl, hrl, hN, hT, hR, hZ, hD⟩ := hrel
      have HRl : Hid (rs0.length = n) := hrl
      have HN : Hid (NumsAt wr w.heap.size rs0) := hN
      have HT : Hid (Turn w.heap.size w1 wr) := hT
      have HR : Hid (∀ (k : Nat) (x : Int), k < i → vl[k]? = some x → rs0[k]? = some (rank vl x : Int)) := hR
      have HZ : Hid (∀ k, i ≤ k → k < n → rs0[k]? = some 0) := hZ
      have HD : Hid (∀ (k k' : Nat) (x : Int), k < i → k ≠ k' → vl[k]? = some x → vl[k']? ≠ some x) := hD
      clear hrl hN hT hR hZ hD
      by_cases hlt : i < n
      · have n1 : (i : Int) < (n : Int) := by omega
        obtain ⟨x, hx⟩ : ∃ x, vl[i]? = some x := ⟨vl[i]'(by rw [HL.out]; exact hlt), List.getElem?_eq_getElem _⟩
        have HX : Hid (vl[i]? = some x) := hx
        clear hx hmk
        go_wp2_with fail
        go_loopw [6] (fun jv wx => OneRel vl n w.heap.size w1 rs0 i x jv wx) (fun j _ => n - (intOf j).toNat)
        case atStart => exact ⟨0, rs0, Nat.zero_le _, rfl, HRl.out, HN.out, HT.out, HZ.out i (Nat.le_refl _) hlt, fun _ _ => rfl, fun k hk => absurd hk (by omega)⟩
        case round =>
          clear HN HT
          obtain ⟨j, rs, hj, rfl, hrl, hN, hT, hC, hO, hE⟩ := hrel
          have HRl2 : Hid (rs.length = n) := hrl
          have HN : Hid (NumsAt wr w.heap.size rs) := hN
          have HT : Hid (Turn w.heap.size w1 wr) := hT
          have HC : Hid (rs[i]? = some (rank (vl.take j) x : Int)) := hC
          have HO : Hid (∀ k, k ≠ i → rs[k]? = rs0[k]?) := hO
          have HE : Hid (∀ k, k < j → k ≠ i → vl[k]? ≠ some x) := hE
          have HBr : Hid (Below w.heap.size w wr) := HB1.out.trans (HT.out.below HB1.out.size (Nat.le_refl _))
          clear hrl hN hT hC hO hE
          by_cases hlt2 : j < n
          · have n2 : (j : Int) < (n : Int) := by omega
            obtain ⟨y, hy⟩ : ∃ y, vl[j]? = some y := ⟨vl[j]'(by rw [HL.out]; exact hlt2), List.getElem?_eq_getElem _⟩
            obtain ⟨b1, o1, e1, hb1, cx⟩ := ints_turn HA.out (Nat.le_refl _) HB1.out HT.out HX.out
            obtain ⟨b2, o2, e2, hb2, cy⟩ := ints_turn HA.out (Nat.le_refl _) HB1.out HT.out hy
            subst e1
            cases e2
            have HRT : Hid _ := rank_take (x := x) hy
            by_cases hij : i = j
            · subst hij
              have exy : y = x := by have h := HX.out; rw [hy] at h; cases h; rfl
              subst exy
              have f2 : ¬ y < y := by omega
              have HF : Hid (∀ k, OneRel vl n w.heap.size w1 rs0 i y (.int .i64 ((i : Int) + 1)) (wr.drewN k)) := fun k => by
                refine ⟨i + 1, rs, by omega, by simp, HRl2.out, HN.out.under rfl, ⟨HT.out.os, HT.out.tape, HT.out.output, HT.out.size, HT.out.block⟩, ?_, HO.out, fun k hk hne => HE.out k (by omega) hne⟩
                rw [HRT.out, if_neg f2]; exact HC.out
              clear hy HRT
              go_wp2_with fail
              go_quiet (fail)
              go_wp2_with fail
              go_quiet (fail)
              go_wp2
              go_roundw
              case rel => exact HF.out _
              case measure => simp [intOf]; omega
            · have g1 : ((i : Int) != (j : Int)) = true := by rw [bne_iff_ne]; omega
              by_cases hxy : x = y
              · have f2 : (x == y) = true := by rw [beq_iff_eq]; exact hxy
                have HF : Hid (∀ k, AllIs w (wr.drewN k) (.returned (.tuple #[.slice none 0 0, .int .i64 50])) vl) := fun k =>
                  ⟨⟨HBr.out.os, HBr.out.tape, HBr.out.output, HBr.out.size, HBr.out.block⟩, .inr (.inl ⟨by rw [HL.out]; exact hn5, dup_at HX.out (hxy ▸ hy) hij, rfl⟩)⟩
                clear hy HRT hxy
                go_wp2_with fail
                go_quiet (fail)
                go_wp2
                refine bodyPost_ret (by simp [results, Try.results16, go_sem]; try rfl) rfl ?_
                exact HF.out _
              · have f2 : (x == y) = false := by rw [beq_eq_false_iff_ne]; exact hxy
                have HE2 : Hid (∀ k, k < j + 1 → k ≠ i → vl[k]? ≠ some x) := fun k hk hne => by
                  by_cases e : k = j
                  · subst e; rw [hy]; intro h; cases h; exact hxy rfl
                  · exact HE.out k (by omega) hne
                by_cases hlt3 : y < x
                · obtain ⟨r, hr⟩ : ∃ r, rank (vl.take j) x = r := ⟨_, rfl⟩
                  have hrn : r ≤ 512 := by
                    have h := rank_le (vl.take j) x
                    rw [hr, List.length_take] at h
                    omega
                  have HC2 := HC.out
                  rw [hr] at HC2
                  have k0 : wr.cell? ⟨w.heap.size, i, none⟩ = some (.int .i64 (r : Int)) := HN.out.cell HC2
                  have kf : wr.frozen? ⟨w.heap.size, i, none⟩ = false := HN.out.frozen i
                  have f3 : IntKind.i64.wrap ((r : Int) + 1) = (r : Int) + 1 := by rw [IntWalk.i64_in _ (by omega)]
                  have HF : Hid (∀ k, OneRel vl n w.heap.size w1 rs0 i x (.int .i64 ((j : Int) + 1)) ((wr.drewN k).setCell ⟨w.heap.size, i, none⟩ (.int .i64 ((r : Int) + 1)))) := fun k => by
                    have hNk : NumsAt (wr.drewN k) w.heap.size rs := HN.out.under rfl
                    have hTk : Turn w.heap.size w1 (wr.drewN k) := ⟨HT.out.os, HT.out.tape, HT.out.output, HT.out.size, HT.out.block⟩
                    refine ⟨j + 1, rs.set i ((r : Int) + 1), by omega, by simp, by simp [HRl2.out], (hNk.set i _).1, hTk.trans (hNk.set i _).2, ?_, fun k hk => ?_, HE2.out⟩
                    · rw [HRT.out, if_pos hlt3, hr, List.getElem?_set, if_pos rfl, if_pos (by rw [HRl2.out]; exact hlt)]
                      simp
                    · rw [List.getElem?_set, if_neg (fun e => hk e.symm)]
                      exact HO.out k hk
                  clear hy HRT hxy HC2 hr HE2
                  go_wp2_with fail
                  go_quiet (fail)
                  go_wp2_with fail
                  go_quiet (fail)
                  go_wp2
                  go_roundw
                  case rel => exact HF.out _
                  case measure => simp [intOf]; omega
                · have HF : Hid (∀ k, OneRel vl n w.heap.size w1 rs0 i x (.int .i64 ((j : Int) + 1)) (wr.drewN k)) := fun k => by
                    refine ⟨j + 1, rs, by omega, by simp, HRl2.out, HN.out.under rfl, ⟨HT.out.os, HT.out.tape, HT.out.output, HT.out.size, HT.out.block⟩, ?_, HO.out, HE2.out⟩
                    rw [HRT.out, if_neg hlt3]; exact HC.out
                  clear hy HRT hxy HE2
                  go_wp2_with fail
                  go_quiet (fail)
                  go_wp2_with fail
                  go_quiet (fail)
                  go_wp2
                  go_roundw
                  case rel => exact HF.out _
                  case measure => simp [intOf]; omega
          · have n2 : ¬ (j : Int) < (n : Int) := by omega
            have HF : Hid (RankRel vl n w.heap.size w1 (.int .i64 ((i : Int) + 1)) wr) := by
              have htk : vl.take j = vl := List.take_of_length_le (by rw [HL.out]; omega)
              have hC := HC.out
              rw [htk] at hC
              refine ⟨i + 1, rs, by omega, by simp, HRl2.out, HN.out, HT.out, fun k y hk hy => ?_, fun k hk hkn => ?_, fun k k' y hk hne hy hy' => ?_⟩
              · by_cases e : k = i
                · subst e
                  have h := HX.out
                  rw [hy] at h
                  cases h
                  exact hC
                · rw [HO.out k e]
                  exact HR.out k y (by omega) hy
              · rw [HO.out k (by omega)]
                exact HZ.out k (by omega) hkn
              · by_cases e : k = i
                · subst e
                  have h := HX.out
                  rw [hy] at h
                  cases h
                  have hk' : k' < vl.length := (List.getElem?_eq_some_iff.1 hy').1
                  rw [HL.out] at hk'
                  exact HE.out k' (by omega) (fun e => hne e.symm) hy'
                · exact HD.out k k' y (by omega) hne hy hy'
            go_wp2
            go_roundw
            case rel => exact HF.out
            case measure => simp [intOf]; omega
      · have n1 : ¬ (i : Int) < (n : Int) := by omega
        have hin : i = n := by omega
        have HND : Hid vl.Nodup := nodup_of fun k k' x hk hne h1 => HD.out k k' x (by rw [HL.out] at hk; omega) hne h1
        obtain ⟨m, hm1, hm2⟩ := sort_once HND.out
        have HM : Hid (IsOnce vl m) := hm1
        have HML : Hid (m.length = n) := by show _ = _; rw [hm2.length_eq]; exact HL.out
        have HPL : Hid (∀ (i' : Nat) (x : Int), vl[i']? = some x → ∃ k : Nat, m[k]? = some x ∧ rs0[i']? = some (k : Int) ∧ k < n) := fun i' x h => by
          obtain ⟨k, hk⟩ := List.getElem?_of_mem ((hm1.mem x).2 (List.mem_of_getElem? h))
          have h1 := rank_at hm1.up hk
          rw [rank_perm hm2] at h1
          have h2 := HR.out i' x (by have := (List.getElem?_eq_some_iff.1 h).1; rw [HL.out] at this; omega) h
          rw [h1] at h2
          exact ⟨k, hk, h2, by have := (List.getElem?_eq_some_iff.1 hk).1; have e := HML.out; omega⟩
        have HAL : Hid (∀ y, y ∈ m → ∃ i', i' < n ∧ vl[i']? = some y) := fun y hy => by
          obtain ⟨i', hi'⟩ := List.getElem?_of_mem ((hm1.mem y).1 hy)
          exact ⟨i', by have := (List.getElem?_eq_some_iff.1 hi').1; rw [HL.out] at this; exact this, hi'⟩
        have HBr : Hid (Below w.heap.size w wr) := HB1.out.trans (HT.out.below HB1.out.size (Nat.le_refl _))
        obtain ⟨w3, hw3⟩ : ∃ w3, w3 = wr.alloc (.cells (zerosA n) 3) := ⟨_, rfl⟩
        have HB3 : Hid (Below wr.heap.size wr w3) := by rw [hw3]; exact below_alloc _ _
        have HN3 : Hid (NumsAt w3 wr.heap.size (List.replicate n 0)) := by rw [hw3]; exact nums_made wr n
        have HBw3 : Hid (Below w.heap.size w w3) := HBr.out.trans (HB3.out.mono HBr.out.size)
        have HNR : Hid (NumsAt w3 w.heap.size rs0) := HN.out.under (HB3.out.block _ HN.out.low)
        have HSR : Hid (w.heap.size < wr.heap.size) := HN.out.low
        clear hm1 hm2 hin HR HZ HD HT HN
        go_wp2_with fail
        rw [← hw3]
        clear hw3
        obtain ⟨BS, hBS⟩ : ∃ BS, wr.heap.size = BS := ⟨_, rfl⟩
        rw [hBS] at HN3 HSR
        rw [hBS]
        clear hBS HB3 HBr hmk
        go_loopw [8] (fun iv wx => PutRel vl m n BS w3 iv wx) (fun i _ => n - (intOf i).toNat)
        case atStart => exact ⟨0, List.replicate n 0, Nat.zero_le _, rfl, by simp, HN3.out, Turn.refl _ _, fun k i' y _ hk => absurd hk (by omega)⟩
        case round =>
          obtain ⟨k2, ss, hk2, rfl, hsl, hN, hT, hP⟩ := hrel
          have HSL : Hid (ss.length = n) := hsl
          have HNS : Hid (NumsAt wr BS ss) := hN
          have HTS : Hid (Turn BS w3 wr) := hT
          have HPS : Hid (∀ (k i' : Nat) (y : Int), m[k]? = some y → i' < k2 → vl[i']? = some y → ss[k]? = some y) := hP
          clear hsl hN hT hP
          by_cases hlt2 : k2 < n
          · have n2 : (k2 : Int) < (n : Int) := by omega
            obtain ⟨x, hx⟩ : ∃ x, vl[k2]? = some x := ⟨vl[k2]'(by rw [HL.out]; exact hlt2), List.getElem?_eq_getElem _⟩
            obtain ⟨b1, o1, e1, hb1, cx⟩ := ints_turn HA.out (Nat.le_of_lt HSR.out) HBw3.out HTS.out hx
            subst e1
            obtain ⟨k, hk, hrk, hkn⟩ := HPL.out k2 x hx
            have n3 : (k : Int) < (n : Int) := by omega
            have hwS : w.heap.size ≠ BS := Nat.ne_of_lt HSR.out
            have HNR2 : Hid (NumsAt wr w.heap.size rs0) := HNR.out.under (HTS.out.block _ HNR.out.low hwS)
            have S18 : Hid (wr.drew.cell? ⟨b1, o1 + k2, none⟩ = some (.int .i64 x) ∧ wr.drew.cell? ⟨w.heap.size, k2, none⟩ = some (.int .i64 (k : Int))) := ⟨cx, HNR2.out.cell hrk⟩
            obtain ⟨u, hu⟩ : ∃ u, ss[k]? = some u := ⟨ss[k]'(by rw [HSL.out]; exact hkn), List.getElem?_eq_getElem _⟩
            have k0 : wr.drew.cell? ⟨BS, k, none⟩ = some (.int .i64 u) := HNS.out.cell hu
            have kf : wr.drew.frozen? ⟨BS, k, none⟩ = false := HNS.out.frozen k
            have hNd : NumsAt wr.drew BS ss := HNS.out.under rfl
            have hTd : Turn BS w3 wr.drew := ⟨HTS.out.os, HTS.out.tape, HTS.out.output, HTS.out.size, HTS.out.block⟩
            have S19 : Hid ((wr.drew.setCell ⟨BS, k, none⟩ (.int .i64 x)).cell? ⟨b1, o1 + k2, none⟩ = some (.int .i64 x) ∧ (wr.drew.setCell ⟨BS, k, none⟩ (.int .i64 x)).cell? ⟨w.heap.size, k2, none⟩ = some (.int .i64 (k : Int))) := by
              have ht := (hNd.set k x).2
              have hbS : b1 ≠ BS := by have := HSR.out; omega
              have hb3 : b1 < wr.drew.heap.size := Nat.lt_of_lt_of_le hb1 (Nat.le_trans HBw3.out.size hTd.size)
              exact ⟨(World.cell?_of_block (a := ⟨b1, o1 + k2, none⟩) (ht.block b1 hb3 hbS)).trans S18.out.1, (World.cell?_of_block (a := ⟨w.heap.size, k2, none⟩) (ht.block w.heap.size HNR2.out.low hwS)).trans S18.out.2⟩
            have HF : Hid (PutRel vl m n BS w3 (.int .i64 ((k2 : Int) + 1)) (wr.drew.setCell ⟨BS, k, none⟩ (.int .i64 x))) := by
              refine ⟨k2 + 1, ss.set k x, by omega, by simp, by simp [HSL.out], (hNd.set k x).1, hTd.trans (hNd.set k x).2, fun k' i' y h1 h2 h3 => ?_⟩
              rw [List.getElem?_set]
              by_cases e : k = k'
              · subst e
                rw [if_pos rfl, if_pos (by rw [HSL.out]; exact hkn)]
                rw [hk] at h1
                exact h1
              · rw [if_neg e]
                by_cases e2 : i' = k2
                · subst e2
                  rw [hx] at h3
                  cases h3
                  have h4 := rank_at HM.out.up hk
                  rw [rank_at HM.out.up h1] at h4
                  exact absurd h4.symm e
                · exact HPS.out k' i' y h1 (by omega) h3
            clear hx hk hrk hu hNd hTd hwS cx
            go_wp2_with fail
            refine wp_region_held_drew (S := fun w' => w'.cell? ⟨b1, o1 + k2, none⟩ = some (.int .i64 x) ∧ w'.cell? ⟨w.heap.size, k2, none⟩ = some (.int .i64 (k : Int))) (by kernel_rfl) ?_ (fun hHeld => ?_)
            · exact S18.out
            refine wpAnyH_take (i := 0) (oi := { dst := some 68, op := Op.move (Operand.tmp 7), type := 25, pos := "ref.go:70", after := #[], guard := none }) (v := ?_) rfl (by kernel_rfl) (by kernel_rfl) (by kernel_rfl) (fun _ _ _ h => h) (Or.inl ⟨by rfl, ?_⟩) hHeld ?_
            rotate_left
            · (intro w hSw; (try dsimp only at hSw); go_simp; try with_reducible rfl)
            try simp only [Act.put, List.setIfInBounds_toArray, List.set_cons_zero, List.set_cons_succ]
            refine wpAnyH_take (i := 1) (oi := { dst := some 69, op := Op.move (Operand.tmp 4), type := 25, pos := "ref.go:70", after := #[], guard := none }) (v := ?_) rfl (by kernel_rfl) (by kernel_rfl) (by kernel_rfl) (fun _ _ _ h => h) (Or.inl ⟨by rfl, ?_⟩) hHeld ?_
            rotate_left
            · (intro w hSw; (try dsimp only at hSw); go_simp; try with_reducible rfl)
            try simp only [Act.put, List.setIfInBounds_toArray, List.set_cons_zero, List.set_cons_succ]
            refine wpAnyH_take (i := 2) (oi := { dst := some 70, op := Op.move (Operand.tmp 8), type := 3, pos := "ref.go:70", after := #[], guard := none }) (v := ?_) rfl (by kernel_rfl) (by kernel_rfl) (by kernel_rfl) (fun _ _ _ h => h) (Or.inl ⟨by rfl, ?_⟩) hHeld ?_
            rotate_left
            · (intro w hSw; (try dsimp only at hSw); go_simp; try with_reducible rfl)
            try simp only [Act.put, List.setIfInBounds_toArray, List.set_cons_zero, List.set_cons_succ]
            refine wpAnyH_take (i := 3) (oi := { dst := some 71, op := Op.indexAddr 25 (Operand.tmp 69) (Operand.tmp 70), type := 0, pos := "ref.go:70", after := #[{ on := 1, ground := Ground.data }, { on := 2, ground := Ground.data }], guard := none }) (v := ?_) rfl (by kernel_rfl) (by kernel_rfl) (by kernel_rfl) (fun _ _ _ h => h) (Or.inl ⟨by rfl, ?_⟩) hHeld ?_
            rotate_left
            · (intro w hSw; (try dsimp only at hSw); go_simp; try with_reducible rfl)
            try simp only [Act.put, List.setIfInBounds_toArray, List.set_cons_zero, List.set_cons_succ]
            refine wpAnyH_take (i := 4) (oi := { dst := some 72, op := Op.load 3 (Operand.tmp 71), type := 3, pos := "ref.go:70", after := #[{ on := 3, ground := Ground.data }], guard := none }) (v := ?_) rfl (by kernel_rfl) (by kernel_rfl) (by kernel_rfl) (fun _ _ _ h => h) (Or.inl ⟨by rfl, ?_⟩) hHeld ?_
            rotate_left
            · (intro w hSw; (try dsimp only at hSw); go_simp; try with_reducible rfl)
            try simp only [Act.put, List.setIfInBounds_toArray, List.set_cons_zero, List.set_cons_succ]
            refine wpAnyH_take (i := 5) (oi := { dst := some 73, op := Op.move (Operand.tmp 0), type := 25, pos := "ref.go:70", after := #[], guard := none }) (v := ?_) rfl (by kernel_rfl) (by kernel_rfl) (by kernel_rfl) (fun _ _ _ h => h) (Or.inl ⟨by rfl, ?_⟩) hHeld ?_
            rotate_left
            · (intro w hSw; (try dsimp only at hSw); go_simp; try with_reducible rfl)
            try simp only [Act.put, List.setIfInBounds_toArray, List.set_cons_zero, List.set_cons_succ]
            refine wpAnyH_take (i := 6) (oi := { dst := some 74, op := Op.move (Operand.tmp 8), type := 3, pos := "ref.go:70", after := #[], guard := none }) (v := ?_) rfl (by kernel_rfl) (by kernel_rfl) (by kernel_rfl) (fun _ _ _ h => h) (Or.inl ⟨by rfl, ?_⟩) hHeld ?_
            rotate_left
            · (intro w hSw; (try dsimp only at hSw); go_simp; try with_reducible rfl)
            try simp only [Act.put, List.setIfInBounds_toArray, List.set_cons_zero, List.set_cons_succ]
            refine wpAnyH_take (i := 7) (oi := { dst := some 75, op := Op.indexAddr 25 (Operand.tmp 73) (Operand.tmp 74), type := 0, pos := "ref.go:70", after := #[{ on := 5, ground := Ground.data }, { on := 6, ground := Ground.data }], guard := none }) (v := ?_) rfl (by kernel_rfl) (by kernel_rfl) (by kernel_rfl) (fun _ _ _ h => h) (Or.inl ⟨by rfl, ?_⟩) hHeld ?_
            rotate_left
            · (intro w hSw; (try dsimp only at hSw); go_simp; try with_reducible rfl)
            try simp only [Act.put, List.setIfInBounds_toArray, List.set_cons_zero, List.set_cons_succ]
            refine wpAnyH_take (i := 8) (oi := { dst := some 76, op := Op.load 3 (Operand.tmp 75), type := 3, pos := "ref.go:70", after := #[{ on := 7, ground := Ground.data }], guard := none }) (v := ?_) rfl (by kernel_rfl) (by kernel_rfl) (by kernel_rfl) (fun _ _ _ h => h) (Or.inl ⟨by rfl, ?_⟩) hHeld ?_
            rotate_left
            · (intro w hSw; (try dsimp only at hSw); go_simp; try with_reducible rfl)
            try simp only [Act.put, List.setIfInBounds_toArray, List.set_cons_zero, List.set_cons_succ]
            refine wpAnyH_take (i := 9) (oi := { dst := some 77, op := Op.indexAddr 25 (Operand.tmp 68) (Operand.tmp 72), type := 0, pos := "ref.go:70", after := #[{ on := 0, ground := Ground.data }, { on := 4, ground := Ground.data }, { on := 0, ground := Ground.phase }, { on := 1, ground := Ground.phase }, { on := 2, ground := Ground.phase }, { on := 3, ground := Ground.phase }, { on := 4, ground := Ground.phase }, { on := 5, ground := Ground.phase }, { on := 6, ground := Ground.phase }, { on := 7, ground := Ground.phase }, { on := 8, ground := Ground.phase }], guard := none }) (v := ?_) rfl (by kernel_rfl) (by kernel_rfl) (by kernel_rfl) (fun _ _ _ h => h) (Or.inl ⟨by rfl, ?_⟩) hHeld ?_
            rotate_left
            · (intro w hSw; (try dsimp only at hSw); go_simp; try with_reducible rfl)
            try simp only [Act.put, List.setIfInBounds_toArray, List.set_cons_zero, List.set_cons_succ]
            refine wpAnyH_ready (rs := [10]) (by kernel_rfl) (by simp) ?_
            refine AllReadyH.cons (o := { dst := none, op := Op.store 3 (Operand.tmp 77) (Operand.tmp 76), type := 0, pos := "ref.go:70", after := #[{ on := 9, ground := Ground.data }, { on := 8, ground := Ground.data }, { on := 0, ground := Ground.phase }, { on := 1, ground := Ground.phase }, { on := 2, ground := Ground.phase }, { on := 3, ground := Ground.phase }, { on := 4, ground := Ground.phase }, { on := 5, ground := Ground.phase }, { on := 6, ground := Ground.phase }, { on := 7, ground := Ground.phase }, { on := 8, ground := Ground.phase }], guard := none }) rfl (fun K hK => ?_) AllReadyH.nil
            go_simp
            refine hK.out _ _ ?_ (fun hHeld_10 => ?_)
            · exact S19.out
            clear hK K
            try simp only [Act.put, List.setIfInBounds_toArray, List.set_cons_zero, List.set_cons_succ]
            refine wpAnyH_done (by kernel_rfl) ?_ _
            go_wp2
            go_roundw
            case rel => exact HF.out
            case measure => simp [intOf]; omega
          · have n2 : ¬ (k2 : Int) < (n : Int) := by omega
            have HSM : Hid (ss = m) := eq_of_at (by rw [HSL.out, HML.out]) fun k y hk => by
              obtain ⟨i', h1, h2⟩ := HAL.out y (List.mem_of_getElem? hk)
              exact HPS.out k i' y hk (by omega) h2
            have HNM : Hid (NumsAt wr BS m) := by have h := HNS.out; rw [HSM.out] at h; exact h
            have HBE : Hid (Below w.heap.size w wr) := HBw3.out.trans (HTS.out.below HBw3.out.size (Nat.le_of_lt HSR.out))
            obtain ⟨wE, hwE⟩ : ∃ wE, wE = wr := ⟨_, rfl⟩
            subst hwE
            clear HSM HNS HTS HPS HSL HPL HAL HN3 HBw3 HNR
            go_wp2_with fail
            go_loopw [9, 10] (fun v i wx => AllRel m n wE v i wx) (fun _ i _ => n - (intOf i).toNat)
            case atStart => exact ⟨0, 0, none, 0, Nat.zero_le _, Nat.le_refl _, rfl, rfl, rfl, World.ownsRow_nil _ _ _ _, Below.refl _ _⟩
            case round =>
              obtain ⟨j, q, av, cap, hj, hqj, rfl, rfl, hml, hR, hb⟩ := hrel
              have HML2 : Hid ((frontP m j).length = q) := hml
              have HR : Hid (wr.ownsRow wE.heap.size 24 2 (.slice av q cap) q (rowP (frontP m j))) := hR
              have HB : Hid (Below wE.heap.size wE wr) := hb
              clear hml hR hb
              by_cases hlt3 : j < n
              · have n3 : (j : Int) < (n : Int) := by omega
                obtain ⟨x, hx⟩ : ∃ x, m[j]? = some x := ⟨m[j]'(by rw [HML.out]; exact hlt3), List.getElem?_eq_getElem _⟩
                have HCX : Hid (wE.cell? ⟨BS, j, none⟩ = some (.int .i64 x)) := HNM.out.cell hx
                have HFS : Hid (frontP m (j + 1) = frontP m j ++ (m.drop (j + 1)).map fun b => (x, b)) := by show _ = _; rw [frontP_succ, List.getD, hx]; rfl
                have HDL : Hid ((m.drop (j + 1)).length = n - (j + 1)) := by show _ = _; rw [List.length_drop, HML.out]
                clear hx
                go_wp2_with fail
                go_loopw [9, 11] (fun v i wx => FrontRel m j x q (n - (j + 1)) wE v i wx) (fun _ i _ => n - (intOf i).toNat)
                case atStart => exact ⟨0, q, av, cap, Nat.zero_le _, Nat.le_refl _, by simp, rfl, by rw [List.take_zero, List.map_nil, List.append_nil]; exact HML2.out, by rw [List.take_zero, List.map_nil, List.append_nil]; exact HR.out, HB.out⟩
                case round =>
                  clear HML2 HR HB
                  obtain ⟨k, q2, av2, cap2, hk, hq2, rfl, rfl, hml, hR, hb⟩ := hrel
                  have HML2 : Hid _ := hml
                  have HR : Hid (wr.ownsRow wE.heap.size 24 2 (.slice av2 q2 cap2) q2 (rowP (frontP m j ++ ((m.drop (j + 1)).take k).map fun b => (x, b)))) := hR
                  have HB : Hid (Below wE.heap.size wE wr) := hb
                  clear hml hR hb
                  obtain ⟨jk, hjk⟩ : ∃ jk, j + 1 + k = jk := ⟨_, rfl⟩
                  rw [hjk]
                  by_cases hlt4 : jk < n
                  · have n4 : (jk : Int) < (n : Int) := by omega
                    obtain ⟨y, hy⟩ : ∃ y, m[jk]? = some y := ⟨m[jk]'(by rw [HML.out]; exact hlt4), List.getElem?_eq_getElem _⟩
                    have hBSE : BS < wE.heap.size := HNM.out.low
                    have hBSr : BS < wr.drew.heap.size := Nat.lt_of_lt_of_le hBSE HB.out.size
                    have S26 : Hid (wr.drew.cell? ⟨BS, j, none⟩ = some (.int .i64 x) ∧ wr.drew.cell? ⟨BS, jk, none⟩ = some (.int .i64 y)) := ⟨(HB.out.cell (p := ⟨BS, j, none⟩) hBSE).trans HCX.out, (HB.out.cell (p := ⟨BS, jk, none⟩) hBSE).trans (HNM.out.cell hy)⟩
                    have S27 : Hid ((wr.drew.alloc (.cells #[.int .i64 x, .int .i64 y] 24)).cell? ⟨BS, j, none⟩ = some (.int .i64 x) ∧ (wr.drew.alloc (.cells #[.int .i64 x, .int .i64 y] 24)).cell? ⟨BS, jk, none⟩ = some (.int .i64 y)) := ⟨(World.cell?_of_block (w := wr.drew) (a := ⟨BS, j, none⟩) (Below.heap_alloc _ _ BS hBSr)).trans S26.out.1, (World.cell?_of_block (w := wr.drew) (a := ⟨BS, jk, none⟩) (Below.heap_alloc _ _ BS hBSr)).trans S26.out.2⟩
                    have HTK : Hid ((frontP m j ++ ((m.drop (j + 1)).take (k + 1)).map fun b => (x, b)) = (frontP m j ++ ((m.drop (j + 1)).take k).map fun b => (x, b)) ++ [(x, y)]) := by
                      show _ = _
                      have hy2 : (m.drop (j + 1))[k]? = some y := by rw [List.getElem?_drop, hjk]; exact hy
                      rw [List.take_add_one, hy2, Option.toList_some, List.map_append, List.append_assoc]; rfl
                    have HBD : Hid (Below wE.heap.size wE (wr.drew.alloc (.cells #[.int .i64 x, .int .i64 y] 24))) := by
                      have h : Below wE.heap.size wE wr.drew := ⟨HB.out.os, HB.out.tape, HB.out.output, HB.out.size, HB.out.block⟩
                      exact h.alloc h.size _
                    have HRD : Hid ((wr.drew.alloc (.cells #[.int .i64 x, .int .i64 y] 24)).ownsRow wE.heap.size 24 2 (.slice av2 q2 cap2) q2 (rowP (frontP m j ++ ((m.drop (j + 1)).take k).map fun b => (x, b)))) := by
                      have h : wr.drew.ownsRow wE.heap.size 24 2 (.slice av2 q2 cap2) q2 (rowP (frontP m j ++ ((m.drop (j + 1)).take k).map fun b => (x, b))) := HR.out
                      exact h.alloc _
                    have HSD : Hid (wE.heap.size ≤ (wr.drew.alloc (.cells #[.int .i64 x, .int .i64 y] 24)).heap.size) := HBD.out.size
                    have HJK : Hid (j + 1 + k = jk) := hjk
                    have HBSE : Hid (BS < wE.heap.size) := hBSE
                    have hq6 : q2 ≤ 300000 := by omega
                    have hk4 : k + 1 ≤ n - (j + 1) := by omega
                    have hq7 : q2 + 1 ≤ q + (k + 1) := by omega
                    have HJK1 : Hid ((jk : Int) + 1 = ((j + 1 + (k + 1) : Nat) : Int)) := by show _ = _; omega
                    have f5 : IntKind.i64.wrap ((jk : Int) + 1) = (jk : Int) + 1 := by rw [IntWalk.i64_in _ (by omega)]
                    clear hy hjk hBSE hBSr HR HB
                    generalize (frontP m j ++ ((m.drop (j + 1)).take k).map fun b => (x, b)) = row at *
                    go_wp2_with fail
                    refine wp_region_held_drew (S := fun w' => w'.cell? ⟨BS, j, none⟩ = some (.int .i64 x) ∧ w'.cell? ⟨BS, jk, none⟩ = some (.int .i64 y)) (by kernel_rfl) ?_ (fun hHeld => ?_)
                    · exact S26.out
                    refine wpAnyH_take (i := 0) (oi := { dst := some 92, op := Op.move (Operand.tmp 9), type := 22, pos := "ref.go:75", after := #[], guard := none }) (v := ?_) rfl (by kernel_rfl) (by kernel_rfl) (by kernel_rfl) (fun _ _ _ h => h) (Or.inl ⟨by rfl, ?_⟩) hHeld ?_
                    rotate_left
                    · (intro w hSw; (try dsimp only at hSw); go_simp; try with_reducible rfl)
                    try simp only [Act.put, List.setIfInBounds_toArray, List.set_cons_zero, List.set_cons_succ]
                    refine wpAnyH_take (i := 1) (oi := { dst := some 93, op := Op.move (Operand.tmp 7), type := 25, pos := "ref.go:75", after := #[], guard := none }) (v := ?_) rfl (by kernel_rfl) (by kernel_rfl) (by kernel_rfl) (fun _ _ _ h => h) (Or.inl ⟨by rfl, ?_⟩) hHeld ?_
                    rotate_left
                    · (intro w hSw; (try dsimp only at hSw); go_simp; try with_reducible rfl)
                    try simp only [Act.put, List.setIfInBounds_toArray, List.set_cons_zero, List.set_cons_succ]
                    refine wpAnyH_take (i := 2) (oi := { dst := some 94, op := Op.move (Operand.tmp 10), type := 3, pos := "ref.go:75", after := #[], guard := none }) (v := ?_) rfl (by kernel_rfl) (by kernel_rfl) (by kernel_rfl) (fun _ _ _ h => h) (Or.inl ⟨by rfl, ?_⟩) hHeld ?_
                    rotate_left
                    · (intro w hSw; (try dsimp only at hSw); go_simp; try with_reducible rfl)
                    try simp only [Act.put, List.setIfInBounds_toArray, List.set_cons_zero, List.set_cons_succ]
                    refine wpAnyH_take (i := 3) (oi := { dst := some 95, op := Op.indexAddr 25 (Operand.tmp 93) (Operand.tmp 94), type := 0, pos := "ref.go:75", after := #[{ on := 1, ground := Ground.data }, { on := 2, ground := Ground.data }], guard := none }) (v := ?_) rfl (by kernel_rfl) (by kernel_rfl) (by kernel_rfl) (fun _ _ _ h => h) (Or.inl ⟨by rfl, ?_⟩) hHeld ?_
                    rotate_left
                    · (intro w hSw; (try dsimp only at hSw); go_simp; try with_reducible rfl)
                    try simp only [Act.put, List.setIfInBounds_toArray, List.set_cons_zero, List.set_cons_succ]
                    refine wpAnyH_take (i := 4) (oi := { dst := some 96, op := Op.load 3 (Operand.tmp 95), type := 3, pos := "ref.go:75", after := #[{ on := 3, ground := Ground.data }], guard := none }) (v := ?_) rfl (by kernel_rfl) (by kernel_rfl) (by kernel_rfl) (fun _ _ _ h => h) (Or.inl ⟨by rfl, ?_⟩) hHeld ?_
                    rotate_left
                    · (intro w hSw; (try dsimp only at hSw); go_simp; try with_reducible rfl)
                    try simp only [Act.put, List.setIfInBounds_toArray, List.set_cons_zero, List.set_cons_succ]
                    refine wpAnyH_take (i := 5) (oi := { dst := some 97, op := Op.move (Operand.tmp 7), type := 25, pos := "ref.go:75", after := #[], guard := none }) (v := ?_) rfl (by kernel_rfl) (by kernel_rfl) (by kernel_rfl) (fun _ _ _ h => h) (Or.inl ⟨by rfl, ?_⟩) hHeld ?_
                    rotate_left
                    · (intro w hSw; (try dsimp only at hSw); go_simp; try with_reducible rfl)
                    try simp only [Act.put, List.setIfInBounds_toArray, List.set_cons_zero, List.set_cons_succ]
                    refine wpAnyH_take (i := 6) (oi := { dst := some 98, op := Op.move (Operand.tmp 11), type := 3, pos := "ref.go:75", after := #[], guard := none }) (v := ?_) rfl (by kernel_rfl) (by kernel_rfl) (by kernel_rfl) (fun _ _ _ h => h) (Or.inl ⟨by rfl, ?_⟩) hHeld ?_
                    rotate_left
                    · (intro w hSw; (try dsimp only at hSw); go_simp; try with_reducible rfl)
                    try simp only [Act.put, List.setIfInBounds_toArray, List.set_cons_zero, List.set_cons_succ]
                    refine wpAnyH_take (i := 7) (oi := { dst := some 99, op := Op.indexAddr 25 (Operand.tmp 97) (Operand.tmp 98), type := 0, pos := "ref.go:75", after := #[{ on := 5, ground := Ground.data }, { on := 6, ground := Ground.data }], guard := none }) (v := ?_) rfl (by kernel_rfl) (by kernel_rfl) (by kernel_rfl) (fun _ _ _ h => h) (Or.inl ⟨by rfl, ?_⟩) hHeld ?_
                    rotate_left
                    · (intro w hSw; (try dsimp only at hSw); go_simp; try with_reducible rfl)
                    try simp only [Act.put, List.setIfInBounds_toArray, List.set_cons_zero, List.set_cons_succ]
                    refine wpAnyH_take (i := 8) (oi := { dst := some 100, op := Op.load 3 (Operand.tmp 99), type := 3, pos := "ref.go:75", after := #[{ on := 7, ground := Ground.data }], guard := none }) (v := ?_) rfl (by kernel_rfl) (by kernel_rfl) (by kernel_rfl) (fun _ _ _ h => h) (Or.inl ⟨by rfl, ?_⟩) hHeld ?_
                    rotate_left
                    · (intro w hSw; (try dsimp only at hSw); go_simp; try with_reducible rfl)
                    try simp only [Act.put, List.setIfInBounds_toArray, List.set_cons_zero, List.set_cons_succ]
                    refine wpAnyH_take (i := 9) (oi := { dst := some 101, op := Op.build 24 #[(0, Operand.tmp 96), (1, Operand.tmp 100)], type := 24, pos := "ref.go:75", after := #[{ on := 4, ground := Ground.data }, { on := 8, ground := Ground.data }], guard := none }) (v := ?_) rfl (by kernel_rfl) (by kernel_rfl) (by kernel_rfl) (fun _ _ _ h => h) (Or.inl ⟨by rfl, ?_⟩) hHeld ?_
                    rotate_left
                    · (intro w hSw; (try dsimp only at hSw); go_simp; try with_reducible rfl)
                    try simp only [Act.put, List.setIfInBounds_toArray, List.set_cons_zero, List.set_cons_succ]
                    refine wpAnyH_ready (rs := [10]) (by kernel_rfl) (by simp) ?_
                    refine AllReadyH.cons (o := { dst := some 102, op := Op.buildSlice 22 1 #[(0, Operand.tmp 101)], type := 22, pos := "ref.go:75", after := #[{ on := 9, ground := Ground.data }], guard := none }) rfl (fun K hK => ?_) AllReadyH.nil
                    go_simp
                    refine hK.out _ _ ?_ (fun hHeld_10 => ?_)
                    · exact S27.out
                    clear hK K
                    try simp only [Act.put, List.setIfInBounds_toArray, List.set_cons_zero, List.set_cons_succ]
                    refine wpAnyH_ready (rs := [11]) (by kernel_rfl) (by simp) ?_
                    refine AllReadyH.cons (o := { dst := some 103, op := Op.call { callee := Callee.builtin Builtin.append, args := #[Operand.tmp 92, Operand.tmp 102], argTypes := #[22, 22] }, type := 22, pos := "ref.go:75", after := #[{ on := 0, ground := Ground.data }, { on := 10, ground := Ground.data }], guard := none }) rfl (fun K hK => ?_) AllReadyH.nil
                    refine step_append_lies (wr.drew.alloc (.cells #[.int .i64 x, .int .i64 y] 24)) rfl _ _ _ rfl wE.heap.size 24 i0 _ 2 16 Try.underlying22 hi0 hz0 hz1 hz3 rfl (by omega) _ q2 (rowP row) (by rfl) (by exact HRD.out) ⟨wr.drew.heap.size, 0, none⟩ 1 1 [.int .i64 x, .int .i64 y] (by rfl) (by rfl) (World.news_of_block (cs := #[.int .i64 x, .int .i64 y]) (t := 24) (fr := (0, 0)) (World.alloc_heap_new wr.drew _)) (by simp [Value.oneCell']) (by omega) (by unfold maxLen; omega) (by omega) (by exact HSD.out) (wr.drew.heap.size + 1) (by simp) ?_
                    intro g2 cap3 w8 hown8 hgrow8 hat8 hlt8
                    have HB8 : Hid (Below wE.heap.size wE w8) := HBD.out.grown hgrow8 HSD.out (own_ge HRD.out)
                    have HO8 : Hid (w8.ownsRow wE.heap.size 24 2 (.slice (some ⟨g2, 0, none⟩) (q2 + 1) cap3) (q2 + 1) (rowP (row ++ [(x, y)]))) := by rw [rowP_snoc]; exact hown8
                    have S28 : Hid (w8.cell? ⟨BS, j, none⟩ = some (.int .i64 x) ∧ w8.cell? ⟨BS, jk, none⟩ = some (.int .i64 y)) := ⟨(HB8.out.cell (p := ⟨BS, j, none⟩) HBSE.out).trans ((HBD.out.cell (p := ⟨BS, j, none⟩) HBSE.out).symm.trans S27.out.1), (HB8.out.cell (p := ⟨BS, jk, none⟩) HBSE.out).trans ((HBD.out.cell (p := ⟨BS, jk, none⟩) HBSE.out).symm.trans S27.out.2)⟩
                    clear hown8 hgrow8 hat8 hlt8 HBD HRD HSD
                    refine hK.out _ _ ?_ (fun hHeld_11 => ?_)
                    · exact S28.out
                    clear hK K
                    try simp only [Act.put, List.setIfInBounds_toArray, List.set_cons_zero, List.set_cons_succ]
                    refine wpAnyH_take (i := 12) (oi := { dst := some 9, op := Op.assign (Operand.tmp 103), type := 22, pos := "ref.go:75", after := #[{ on := 11, ground := Ground.data }, { on := 11, ground := Ground.chain }, { on := 0, ground := Ground.phase }, { on := 1, ground := Ground.phase }, { on := 2, ground := Ground.phase }, { on := 3, ground := Ground.phase }, { on := 4, ground := Ground.phase }, { on := 5, ground := Ground.phase }, { on := 6, ground := Ground.phase }, { on := 7, ground := Ground.phase }, { on := 8, ground := Ground.phase }, { on := 9, ground := Ground.phase }, { on := 10, ground := Ground.phase }, { on := 11, ground := Ground.phase }], guard := none }) (v := ?_) rfl (by kernel_rfl) (by kernel_rfl) (by kernel_rfl) (fun _ _ _ h => h) (Or.inl ⟨by rfl, ?_⟩) hHeld_11 ?_
                    rotate_left
                    · (intro w hSw; (try dsimp only at hSw); go_simp; try with_reducible rfl)
                    try simp only [Act.put, List.setIfInBounds_toArray, List.set_cons_zero, List.set_cons_succ]
                    refine wpAnyH_done (by kernel_rfl) ?_ _
                    go_wp2
                    go_roundw
                    case rel => exact ⟨k + 1, q2 + 1, _, _, hk4, hq7, by rw [HJK1.out], rfl, by rw [HTK.out, List.length_append, HML2.out]; rfl, by rw [HTK.out]; exact HO8.out, HB8.out⟩
                    case measure => simp [intOf]; omega
                  · have n4 : ¬ (jk : Int) < (n : Int) := by omega
                    have HK : Hid ((frontP m j ++ ((m.drop (j + 1)).take k).map fun b => (x, b)) = frontP m (j + 1)) := by show _ = _; rw [HFS.out, List.take_of_length_le (by rw [HDL.out]; omega)]
                    have HF : Hid (AllRel m n wE (.slice av2 q2 cap2) (.int .i64 ((j : Int) + 1)) wr) := by
                      have h1 := HML2.out
                      have h2 := HR.out
                      rw [HK.out] at h1 h2
                      exact ⟨j + 1, q2, av2, cap2, by omega, by omega, by simp, rfl, h1, h2, HB.out⟩
                    clear HK HML2 HR HB hjk
                    go_wp2
                    go_roundw
                    case rel => exact HF.out
                    case measure => simp [intOf]; omega
              · have n3 : ¬ (j : Int) < (n : Int) := by omega
                have hjn : j = n := by omega
                have HF : Hid (AllIs w wr (.returned (.tuple #[.slice av q cap, .int .i64 0])) vl) := by
                  refine ⟨HBE.out.trans (HB.out.mono HBE.out.size), .inr (.inr ⟨by rw [HL.out]; exact hn5, HND.out, _, m, HM.out, rfl, ?_⟩)⟩
                  have h1 := HR.out
                  have h2 : frontP m j = allP m := by unfold allP; rw [hjn, HML.out]
                  rw [h2] at h1
                  have h3 : (allP m).length = q := by rw [← h2]; exact HML2.out
                  rw [h3]
                  exact h1.mono HBE.out.size
                clear hjn HML2 HR HB
                go_wp2
                refine bodyPost_ret (by simp [results, Try.results16, go_sem]; try rfl) rfl ?_
                exact HF.out
end Go.Proofs.Ytjaccgkeldabfaa
