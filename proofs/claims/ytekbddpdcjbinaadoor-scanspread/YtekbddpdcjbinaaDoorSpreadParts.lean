/- What the law's own makers of words and gaps answer. -/
import Derived.Test.YtekbddpdcjbinaaDoorSpread
import Derived.Test.YtekbddpdcjbinaaDoorLimitsWalk
import Derived.Test.YtekbddpdcjbinaaDoorBytes
namespace Go.Proofs.YtekbddpdcjbinaaDoor
open Go.RowKit

theorem good_true' (c : UInt8) (w : World) (h : 2 ≤ kindF c.toNat) : Calls Tryd.prog 15 #[.int .u8 c.toNat] w fun e w' => e = .returned (.bool true) ∧ w' = w := by
  have := good_byte c w; rwa [decide_eq_true h] at this
theorem good_false' (c : UInt8) (w : World) (h : kindF c.toNat < 2) : Calls Tryd.prog 15 #[.int .u8 c.toNat] w fun e w' => e = .returned (.bool false) ∧ w' = w := by
  have := good_byte c w; rwa [decide_eq_false (by omega)] at this
def gapStr (k : Nat) : ByteArray := ⟨(gapL k).toArray⟩
def gapBlock : Array Value := #[.string ⟨#[32]⟩, .string ⟨#[10]⟩, .string ⟨#[9]⟩, .string ⟨#[13, 10]⟩, .string ⟨#[12]⟩, .string ⟨#[32, 10, 32]⟩, .string ⟨#[32, 36, 40, 32, 36, 41, 32]⟩, .string ⟨#[10, 36, 40, 32, 97, 32, 99, 111, 109, 109, 101, 110, 116, 32, 36, 99, 32, 36, 46, 32, 36, 41, 10]⟩, .string ⟨#[32, 36, 40, 32, 120, 32, 36, 41, 32, 36, 40, 32, 121, 36, 32, 36, 41, 32]⟩]
theorem gapBlock_get (k : Nat) (h : k < 9) : gapBlock[k]? = some (.string (gapStr k)) := by
  match k with
  | 0 => rfl
  | 1 => rfl
  | 2 => rfl
  | 3 => rfl
  | 4 => rfl
  | 5 => rfl
  | 6 => rfl
  | 7 => rfl
  | 8 => rfl
  | n + 9 => omega
theorem gapN_lt (n : Int) : gapN n < 9 := by
  unfold gapN
  have := Int.tmod_lt_of_pos n (show (0 : Int) < 9 by decide)
  have := Int.lt_tmod_of_pos n (show (0 : Int) < 9 by decide)
  omega

set_option maxRecDepth 100000 in
set_option maxHeartbeats 2000000 in
theorem between_any (n : Int) (w : World) : Calls Tryd.prog 17 #[.int .i64 n] w fun e w' => e = .returned (.string (gapStr (gapN n))) ∧ Below w.heap.size w w' := by
  have hlt := gapN_lt n
  have hc : ∀ k : Nat, k = gapN n → (w.alloc (.cells gapBlock 9)).cell? ⟨w.heap.size, k, none⟩ = some (.string (gapStr (gapN n))) := by
    intro k hk
    subst hk
    have := gapBlock_get (gapN n) hlt
    have hh : (w.alloc (.cells gapBlock 9)).heap[w.heap.size]? = some (.cells gapBlock 9 (0, 0)) := heap_alloc_new w _
    simp only [World.cell?]
    rw [hh]
    exact this
  have h1 := Int.tmod_lt_of_pos n (show (0 : Int) < 9 by decide)
  have h2 := Int.lt_tmod_of_pos n (show (0 : Int) < 9 by decide)
  have hw : IntKind.i64.wrap (n.tmod 9) = n.tmod 9 := IntWalk.i64_in _ (by omega)
  have HN : Hid (gapN n = (n.tmod 9).natAbs) := rfl
  unfold gapBlock at hc
  obtain ⟨G, hG⟩ : ∃ G, G = gapStr (gapN n) := ⟨_, rfl⟩
  rw [← hG] at hc ⊢
  clear hG
  generalize gapN n = N at *
  by_cases hneg : n.tmod 9 < 0
  · have hw2 : IntKind.i64.wrap (-(n.tmod 9)) = (N : Int) := by rw [IntWalk.i64_in _ (by omega), HN.out]; omega
    have c := hc N rfl
    clear hc
    go_enter Tryd.func17, Tryd.ntmps17
    go_wp2
    go_ret
    exact ⟨rfl, (Below.refl _ _).alloc (Nat.le_refl _) _⟩
  · have hw2 : n.tmod 9 = (N : Int) := by rw [HN.out]; omega
    have c := hc N rfl
    rw [hw2] at hw
    clear hc
    go_enter Tryd.func17, Tryd.ntmps17
    go_wp2
    go_ret
    exact ⟨rfl, (Below.refl _ _).alloc (Nat.le_refl _) _⟩

theorem filter_more (s : ByteArray) (i : Nat) (h : i < s.size) : (s.data.toList.take (i + 1)).filter goodB = (s.data.toList.take i).filter goodB ++ (if goodB s[i] then [s[i]] else []) := by
  rw [take_snoc s i h, List.filter_append, List.filter_cons]
  by_cases e : goodB s[i] = true
  · rw [if_pos e, if_pos e]; rfl
  · rw [if_neg e, if_neg e]; rfl
theorem word_end (l : List UInt8) (i : Nat) (h : i = l.length ∨ ((l.take i).filter goodB).length = 40) (h4 : ((l.take i).filter goodB).length ≤ 40) : wordL l = (l.take i).filter goodB := by
  unfold wordL
  rcases h with rfl | h
  · rw [List.take_length] at h4 ⊢
    exact List.take_of_length_le h4
  · have e : l.filter goodB = (l.take i).filter goodB ++ (l.drop i).filter goodB := by rw [← List.filter_append, List.take_append_drop]
    rw [e, ← h, List.take_left']
    rfl
def wordS (s : ByteArray) : ByteArray := ⟨(wordB s.data.toList).toArray⟩

set_option maxRecDepth 100000 in
set_option maxHeartbeats 4000000 in
theorem word_any (s : ByteArray) (w : World) (hs : s.size ≤ 9223372036854775807) : Calls Tryd.prog 18 #[.string s] w fun e w' => e = .returned (.string (wordS s)) ∧ Below w.heap.size w w' := by
  obtain ⟨i0, hi0, hz0, hz1, hz3⟩ := info_parts info5
  go_enter Tryd.func18, Tryd.ntmps18
  go_wp2
  go_loopw [3, 4] (fun bv iv wr => ∃ (i n cp : Nat) (a : Option Addr), i ≤ s.size ∧ iv = .int .i64 i ∧ bv = .slice a n cp ∧ n ≤ 40 ∧ Hid (((s.data.toList.take i).filter goodB).length = n) ∧ Hid (wr.ownsRow w.heap.size 5 1 (.slice a n cp) n (((s.data.toList.take i).filter goodB).map byteV)) ∧ Below w.heap.size w wr) (fun _ iv _ => s.size - (intOf iv).toNat)
  case atStart => exact ⟨0, 0, 0, none, Nat.zero_le _, rfl, rfl, by omega, rfl, World.ownsRow_nil _ _ _ _, Below.refl _ _⟩
  case round =>
    obtain ⟨i, n, cp, a, hi, rfl, rfl, hn, hlen, hown, hbel⟩ := hrel
    by_cases hgo : i < s.size ∧ n < 40
    · obtain ⟨his, hn4⟩ := hgo
      have k0 : (0 : Int) ≤ (i : Int) := by omega
      have k1 : (i : Int) < (s.size : Int) := by omega
      have k2 : (n : Int) < 40 := by omega
      obtain ⟨_, _, _, hgo⟩ := slice_form hown.out
      have hmore := filter_more s i his
      by_cases hk : 2 ≤ kindF (s[i]'his).toNat
      · have Hk : Hid (2 ≤ kindF (s[i]'his).toNat) := hk
        by_cases h36 : s[i]'his = 36
        · have c36 : (((s[i]'his).toNat : Int) == 36) = true := by rw [h36]; rfl
          have hg : goodB (s[i]'his) = false := by unfold goodB; rw [h36]; simp
          rw [hg] at hmore
          have Hm : Hid ((s.data.toList.take (i + 1)).filter goodB = (s.data.toList.take i).filter goodB) := by
            show _ = _
            rw [hmore]; simp
          clear hmore hg h36 hk
          go_wp2_with (first | (go_at_call 15; refine (good_true' _ _ (by with_reducible exact Hk.out)).mono ?_; rintro e wr ⟨rfl, rfl⟩))
          go_roundw
          case rel => exact ⟨i + 1, n, cp, a, by omega, by go_num, (by first | rfl | trivial), hn, (by show _ = _; rw [Hm.out]; exact hlen.out), (by show World.ownsRow _ _ _ _ _ _ _; rw [Hm.out]; exact hown.out), hbel⟩
          case measure => simp [intOf]; omega
        · have c36 : (((s[i]'his).toNat : Int) == 36) = false := by
            rw [beq_eq_false_iff_ne]; intro e; exact h36 (UInt8.toNat_inj.1 (by have : (36 : UInt8).toNat = 36 := rfl; omega))
          have hg : goodB (s[i]'his) = true := by unfold goodB; rw [decide_eq_true hk, beq_eq_false_iff_ne.2 h36]; rfl
          rw [hg] at hmore
          have Hm : Hid ((s.data.toList.take (i + 1)).filter goodB = (s.data.toList.take i).filter goodB ++ [s[i]'his]) := by
            show _ = _
            rw [hmore]; simp
          clear hmore hg h36 hk
          go_wp2_with (first | (go_at_call 15; refine (good_true' _ _ (by with_reducible exact Hk.out)).mono ?_; rintro e wr ⟨rfl, rfl⟩) | (at_builtin; refine wpList_append_lies _ rfl _ _ _ rfl w.heap.size 5 i0 _ 1 1 Tryd.underlying23 hi0 hz0 hz1 hz3 rfl (by omega) _ n (((s.data.toList.take i).filter goodB).map byteV) (by rfl) (by exact (hown.out.alloc _)) ⟨wr.heap.size, 0, none⟩ 1 1 [.int .u8 ((s[i]'his).toNat : Int)] (by rfl) (by rfl) (World.news_of_block (cs := #[.int .u8 ((s[i]'his).toNat : Int)]) (t := 5) (fr := (0, 0)) (heap_alloc_new _ _)) (by simp [Value.oneCell']) (by omega) (by unfold maxLen; omega) (by omega) (by have := hbel.size; simp; omega) (wr.heap.size + 1) (by simp) ?_; intro g2 cap2 w2 hown2 hgrow hat hlt3))
          go_roundw
          case rel =>
            refine ⟨i + 1, n + 1, cap2, some ⟨g2, 0, none⟩, by omega, by go_num, (by first | rfl | trivial), by omega, ?_, ?_, (hbel.alloc hbel.size _).grown hgrow (by have := hbel.size; simp; omega) hgo⟩
            · show _ = _
              rw [Hm.out, List.length_append, hlen.out]; rfl
            · show World.ownsRow _ _ _ _ _ _ _
              rw [Hm.out, List.map_append]; exact hown2
          case measure => simp [intOf]; omega
      · have Hk : Hid (kindF (s[i]'his).toNat < 2) := by show _ < _; omega
        have hg : goodB (s[i]'his) = false := by unfold goodB; rw [decide_eq_false hk]; rfl
        rw [hg] at hmore
        have Hm : Hid ((s.data.toList.take (i + 1)).filter goodB = (s.data.toList.take i).filter goodB) := by
          show _ = _
          rw [hmore]; simp
        clear hmore hg hk
        go_wp2_with (first | (go_at_call 15; refine (good_false' _ _ (by with_reducible exact Hk.out)).mono ?_; rintro e wr ⟨rfl, rfl⟩))
        go_roundw
        case rel => exact ⟨i + 1, n, cp, a, by omega, by go_num, (by first | rfl | trivial), hn, (by show _ = _; rw [Hm.out]; exact hlen.out), (by show World.ownsRow _ _ _ _ _ _ _; rw [Hm.out]; exact hown.out), hbel⟩
        case measure => simp [intOf]; omega
    · have hend : wordL s.data.toList = (s.data.toList.take i).filter goodB := word_end _ i (by
        have : s.data.toList.length = s.size := rfl
        have := hlen.out
        omega) (by rw [hlen.out]; exact hn)
      have hwl : (wordL s.data.toList).length = n := by rw [hend]; exact hlen.out
      rw [← hend] at hown
      have hcv : (convert 23 9 (.slice a n cp)).run Tryd.prog wr = .ok (.string ⟨(wordL s.data.toList).toArray⟩) wr := convert_row hown.out
      by_cases hn0 : n = 0
      · have He : Hid (wordS s = ⟨#[119]⟩) := by
          show _ = _
          unfold wordS wordB
          rw [if_pos (by rw [List.isEmpty_iff]; exact List.eq_nil_of_length_eq_zero (by omega))]
        have k1 : (s.size : Int) ≤ (i : Int) := by omega
        have k2 : s.size ≤ i := by omega
        subst hn0
        clear hcv hgo hend hwl
        go_wp2
        go_ret
        exact ⟨by rw [He.out]; rfl, hbel⟩
      · have He : Hid (wordS s = ⟨(wordL s.data.toList).toArray⟩) := by
          show _ = _
          unfold wordS wordB
          rw [if_neg (by rw [List.isEmpty_iff]; intro e; rw [e] at hwl; simp at hwl; omega)]
        have k3 : ((n : Int) == 0) = false := by simp only [beq_eq_false_iff_ne]; omega
        obtain ⟨W, hW⟩ : ∃ W : ByteArray, W = ⟨(wordL s.data.toList).toArray⟩ := ⟨_, rfl⟩
        rw [← hW] at hcv He
        by_cases his : i < s.size
        · have k1 : (i : Int) < (s.size : Int) := by omega
          have k2 : decide ((n : Int) < 40) = false := decide_eq_false (by omega)
          clear hgo hend hwl hn0 hW
          go_wp2
          go_ret
          exact ⟨by rw [He.out]; rfl, hbel⟩
        · have k1 : decide ((i : Int) < (s.size : Int)) = false := decide_eq_false (by omega)
          clear hgo hend hwl hn0 hW
          go_wp2
          go_ret
          exact ⟨by rw [He.out]; rfl, hbel⟩
end Go.Proofs.YtekbddpdcjbinaaDoor
