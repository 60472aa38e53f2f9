/- The walk of SymFinds. -/
import Derived.Test.YtdnkgjjboonmnaaDoorSymStand
namespace Go.Proofs.YtdnkgjjboonmnaaDoor
open Go.RowKit

def knownB (l : List (ByteArray × Bool)) (odd : ByteArray) (n : Nat) : Bool := (l.take n).any (fun p => decide (p.1 = odd))
theorem known_succ {l : List (ByteArray × Bool)} {odd : ByteArray} {n : Nat} {p : ByteArray × Bool} (h : l[n]? = some p) : knownB l odd (n + 1) = (knownB l odd n || decide (p.1 = odd)) := by
  unfold knownB
  rw [List.take_add_one, h]
  simp
theorem known_all {l : List (ByteArray × Bool)} {odd : ByteArray} {n : Nat} (hn : l.length ≤ n) (h : knownB l odd n = false) : numOf l odd = none := by
  unfold knownB at h
  rw [List.take_of_length_le hn] at h
  unfold numOf
  rw [List.findIdx?_eq_none_iff]
  intro p hp
  have := List.any_eq_false.1 h p hp
  simpa using this

theorem active_act {T : Tab} {n : Nat} {p : ByteArray × Bool} (hnd : (T.syms.map (·.1)).Nodup) (h : T.syms[n]? = some p) : activeOf (actT T n) (n : Int) = true := by
  rw [active_at (T := actT T n) (n := n) (p := p) hnd h]
  simp [actT]
theorem same_bytes (a b : ByteArray) : (a.toList == b.toList) = decide (a = b) := by
  rw [ByteArray.toList_eq, ByteArray.toList_eq]
  by_cases h : a = b
  · subst h; simp
  · rw [decide_eq_false h]
    rw [beq_eq_false_iff_ne]
    intro e
    apply h
    obtain ⟨⟨a⟩⟩ := a
    obtain ⟨⟨b⟩⟩ := b
    have : a = b := e
    rw [this]

set_option maxRecDepth 100000 in
set_option maxHeartbeats 16000000 in
theorem finds_walk (w : World) (a0 : Option Addr) (len cap : Nat) (K : Nat → Int) (S : Nat → ByteArray) (M : Nat → Int) (odd : ByteArray) (hlen : len ≤ 4398046511104) (hodd : odd.size ≤ maxLen) (hscr : ScriptIs w a0 len K S M) (hKB : KB w) :
    Calls Tryd.prog 5 #[.slice a0 len cap, .string odd] w fun e w' => e = .returned (.bool true) ∧ Below w.heap.size w w' := by
  have BG : Hid _ := begun_any w hKB
  have HK : Hid (KB w) := hKB
  have HS : Hid (ScriptIs w a0 len K S M) := hscr
  clear hKB hscr
  go_enter Tryd.func5, Tryd.ntmps5
  go_wp2_with fail
  refine Calls.mono BG.out ?_
  rintro e w1 ⟨B, rfl, hb1, bs1, ht1, hl1⟩
  have ST1 : Hid (Stand w w1 B 4 tab2 bs1) := Stand.start HK.out hb1 ht1 hl1
  clear BG hb1 ht1 hl1
  go_wp2_with fail
  go_loopw [7] (fun i wx => ∃ j : Nat, j ≤ len ∧ i = .int .i64 j ∧ Hid (∃ T bs, Stand w wx B (4 + 2 * j) T bs)) (fun i _ => len - (intOf i).toNat)
  case atStart => exact ⟨0, Nat.zero_le _, rfl, ⟨_, _, ST1.out⟩⟩
  case round =>
    obtain ⟨j, hj, rfl, hst⟩ := hrel
    obtain ⟨T, bs, hst⟩ := hst.out
    by_cases hlt : j < len
    · obtain ⟨b, off, rfl, q0, q1, q2, hs⟩ := HS.out.at hst.below hlt
      have D : Hid _ := does_any wr bs B (4 + 2 * j) T (K j) (S j) (M j) hst.ok (by omega) hs hst.kbr hst.tab
      have HST : Hid (Stand w wr B (4 + 2 * j) T bs) := hst
      have n2 : (j : Int) < (len : Int) := by omega
      clear hst
      go_wp2_with fail
      refine Calls.mono D.out ?_
      rintro e w2 ⟨rfl, hn⟩
      have hnext := HST.out.doing hn
      have Hnext : Hid _ := hnext
      clear hn hnext D
      go_wp2
      go_roundw
      case rel =>
        obtain ⟨bs', h, _⟩ := Hnext.out
        exact ⟨j + 1, by omega, by go_num, _, _, h.up (by omega)⟩
      case measure => simp [intOf]; omega
    · have n2 : ¬ (j : Int) < (len : Int) := by omega
      have HST : Hid (Stand w wr B (4 + 2 * j) T bs) := hst
      clear hst HS ST1 HK
      obtain ⟨S1, hS1⟩ : ∃ S1, S1 = T.syms := ⟨_, rfl⟩
      have HS1 : Hid (S1 = T.syms) := hS1
      obtain ⟨L, hL⟩ : ∃ L, L = S1.length := ⟨_, rfl⟩
      have HL : Hid (L = S1.length) := hL
      have hL512 : L ≤ 512 := by rw [hL, hS1]; exact HST.out.ok.syms
      clear hS1 hL
      go_wp2_with fail
      go_loopw [8, 9] (fun kn i wx => ∃ n : Nat, n ≤ L ∧ i = .int .i64 n ∧ kn = .bool (knownB S1 odd n) ∧ Hid (∃ T bs, Stand w wx B (4 + 2 * j + 4 * n) T bs ∧ T.syms = S1)) (fun _ i _ => L - (intOf i).toNat)
      case atStart => exact ⟨0, Nat.zero_le _, rfl, rfl, ⟨_, _, HST.out, HS1.out.symm⟩⟩
      case round =>
        clear HST HS1 T bs
        obtain ⟨n, hn, rfl, rfl, hst⟩ := hrel
        obtain ⟨T, bs, hst, hTS⟩ := hst.out
        obtain ⟨k0, hk0⟩ : ∃ k0, k0 = 4 + 2 * j + 4 * n := ⟨_, rfl⟩
        rw [← hk0] at hst
        have Hk0 : Hid (k0 = 4 + 2 * j + 4 * n) := hk0
        have hk0' : k0 < 17592186040000 := by omega
        have hTL : T.syms.length = L := by rw [hTS, HL.out]
        have ST : Hid (Stand w wr B k0 T bs) := hst
        have HTS : Hid (T.syms = S1) := hTS
        have CN := count_any wr bs B k0 T hst.tab
        rw [hTL] at CN
        have CNT : Hid _ := CN
        clear CN hk0
        by_cases hlt2 : n < L
        · obtain ⟨p, hp⟩ : ∃ p, T.syms[n]? = some p := ⟨T.syms[n]'(by omega), List.getElem?_eq_getElem _⟩
          have hnd := hst.ok.nodup
          have hmade := hst.ok.names p (List.mem_of_getElem? hp)
          have hsz : p.1.size ≤ maxLen := hst.ok.sizes p (List.mem_of_getElem? hp)
          have hgood := hst.good n p hp
          have ksucc := known_succ (l := S1) (odd := odd) (n := n) (p := p) (by rw [← hTS]; exact hp)
          have Hks : Hid _ := ksucc
          have hL46 : T.syms.length ≤ 4611686018427387904 := by omega
          have NM := fun (wx : World) (h : TabAt wx bs B k0 T) => name_of wx bs B k0 T n hL46 h
          have FD := fun (wx : World) (h : TabAt wx bs B k0 T) => find_any wx bs B k0 T p.1 hsz h
          have AC := fun (wx : World) (h : TabAt wx bs B k0 T) => active_of wx bs B k0 T n hL46 hst.ok.sizes h
          have IV := fun (wx : World) (h : TabAt wx bs B k0 T) => isVar_of wx bs B k0 T n hL46 h
          have DP := fun (wx : World) (h : TabAt wx bs B k0 T) => depth_any wx bs B k0 T h
          have CO := fun (wx : World) (hK : KB wx) (h : TabAt wx bs B k0 T) => const_any wx bs B k0 T p.1 hst.ok (by omega) hsz hK h
          have VA := fun (wx : World) (bs : List Nat) (hK : KB wx) (h : TabAt wx bs B (k0 + 2) T) => var_any wx bs B (k0 + 2) T p.1 (hst.ok.up (by omega)) (by omega) hsz hK h
          have CK := const_known hnd hmade hp
          have VK := var_known hnd hmade hp
          have hname : nameOf (symAt T (n : Int)) = p.1 := by rw [sym_at hp]; rfl
          have hvar : varOf (symAt T (n : Int)) = p.2 := by rw [sym_at hp]; rfl
          have hact := active_at hnd hp
          have hfind := act_at hnd hp
          rw [VK] at VA
          rw [hname] at NM
          rw [hvar] at IV
          rw [hact] at AC
          rw [hfind] at FD
          replace NM := show Hid _ from NM
          replace FD := show Hid _ from FD
          replace AC := show Hid _ from AC
          replace IV := show Hid _ from IV
          replace DP := show Hid _ from DP
          replace CO := show Hid _ from CO
          replace VA := show Hid _ from VA
          replace CK := show Hid _ from CK
          have n3 : (n : Int) < (L : Int) := by omega
          have hp2 : Hid (T.syms[n]? = some p) := hp
          have hnd2 : Hid _ := hnd
          have hsizes2 : Hid (∀ p ∈ T.syms, p.1.size ≤ maxLen) := hst.ok.sizes
          obtain ⟨nm, vr⟩ := p
          have Hgood : Hid (vr = false → n ∈ T.act) := fun h => (hgood h).1
          clear hname hvar hact hfind VK hp hnd hmade hTS hgood ksucc hst hTL
          dsimp only at *

          have hlt3 : Hid (n < T.syms.length) := (List.getElem?_eq_some_iff.1 hp2.out).1
          generalize hkb : knownB S1 odd n = kb at *
          have Hkb : Hid (knownB S1 odd n = kb) := hkb
          clear hkb Hkb
          by_cases hm : n ∈ T.act
          · rw [if_pos hm] at VA FD
            rw [decide_eq_true hm] at AC
            dsimp only [Option.getD_some, Option.isSome_some] at FD
            cases vr with
            | true =>
              by_cases hd : T.scopes.length = 0
              · cases kb with
                | true =>
                  go_wp2_with fail
                  refine Calls.mono CNT.out ?_
                  rintro e wz ⟨rfl, rfl⟩
                  go_wp2_with fail
                  refine Calls.mono (NM.out _ ST.out.tab) ?_
                  rintro e w2 ⟨rfl, hb2⟩
                  have ST2 : Hid (Stand w w2 B k0 T bs) := ST.out.under hb2
                  clear hb2 CNT NM
                  go_wp2_with fail
                  refine Calls.mono (FD.out _ ST2.out.tab) ?_
                  rintro e wz ⟨rfl, rfl⟩
                  go_wp2_with fail
                  refine Calls.mono (AC.out _ ST2.out.tab) ?_
                  rintro e w3 ⟨rfl, hb3⟩
                  have ST3 : Hid (Stand w w3 B k0 T bs) := ST2.out.under hb3
                  clear hb3 FD
                  go_wp2_with fail
                  refine Calls.mono (IV.out _ ST3.out.tab) ?_
                  rintro e w4 ⟨rfl, hb4⟩
                  have ST4 : Hid (Stand w w4 B k0 T bs) := ST3.out.under hb4
                  clear hb4 IV
                  go_wp2_with fail
                  refine Calls.mono (DP.out _ ST4.out.tab) ?_
                  rw [hd]
                  rintro e wz ⟨rfl, rfl⟩
                  go_wp2_with fail
                  refine Calls.mono (CO.out _ ST4.out.kbr ST4.out.tab) ?_
                  rw [CK.out hd]
                  rintro e w6 ⟨rfl, hn6⟩
                  obtain ⟨bs6, hs6, _⟩ := ST4.out.now hn6 (ST4.out.ok.up (by omega)) ST4.out.good
                  have ST6 : Hid (Stand w w6 B (k0 + 2) T bs6) := hs6
                  clear hn6 hs6
                  go_wp2_with fail
                  refine Calls.mono (VA.out _ bs6 ST6.out.kbr ST6.out.tab) ?_
                  rintro e w7 ⟨rfl, hn7⟩
                  obtain ⟨bs7, hs7, _⟩ := ST6.out.now hn7 (ST6.out.ok.up (by omega)) ST6.out.good
                  have ST7 : Hid (Stand w w7 B (k0 + 2 + 2) T bs7) := hs7
                  clear hn7 hs7
                  go_wp2
                  have e4 : k0 + 2 + 2 = 4 + 2 * j + 4 * (n + 1) := by rw [Hk0.out]; omega
                  go_roundw
                  case rel => exact ⟨n + 1, by omega, by go_num, by rw [Hks.out]; rfl, T, bs7, by rw [← e4]; exact ST7.out, HTS.out⟩
                  case measure => simp [intOf]; omega
                | false =>
                  go_wp2_with fail
                  refine Calls.mono CNT.out ?_
                  rintro e wz ⟨rfl, rfl⟩
                  go_wp2_with fail
                  refine Calls.mono (NM.out _ ST.out.tab) ?_
                  rintro e w2 ⟨rfl, hb2⟩
                  have ST2 : Hid (Stand w w2 B k0 T bs) := ST.out.under hb2
                  clear hb2 CNT NM
                  go_wp2_with fail
                  refine Calls.mono (FD.out _ ST2.out.tab) ?_
                  rintro e wz ⟨rfl, rfl⟩
                  go_wp2_with fail
                  refine Calls.mono (AC.out _ ST2.out.tab) ?_
                  rintro e w3 ⟨rfl, hb3⟩
                  have ST3 : Hid (Stand w w3 B k0 T bs) := ST2.out.under hb3
                  clear hb3 FD
                  go_wp2_with fail
                  refine Calls.mono (IV.out _ ST3.out.tab) ?_
                  rintro e w4 ⟨rfl, hb4⟩
                  have ST4 : Hid (Stand w w4 B k0 T bs) := ST3.out.under hb4
                  clear hb4 IV
                  go_wp2_with fail
                  refine Calls.mono (DP.out _ ST4.out.tab) ?_
                  rw [hd]
                  rintro e wz ⟨rfl, rfl⟩
                  go_wp2_with fail
                  refine Calls.mono (CO.out _ ST4.out.kbr ST4.out.tab) ?_
                  rw [CK.out hd]
                  rintro e w6 ⟨rfl, hn6⟩
                  obtain ⟨bs6, hs6, _⟩ := ST4.out.now hn6 (ST4.out.ok.up (by omega)) ST4.out.good
                  have ST6 : Hid (Stand w w6 B (k0 + 2) T bs6) := hs6
                  clear hn6 hs6
                  go_wp2_with fail
                  refine Calls.mono (VA.out _ bs6 ST6.out.kbr ST6.out.tab) ?_
                  rintro e w7 ⟨rfl, hn7⟩
                  obtain ⟨bs7, hs7, _⟩ := ST6.out.now hn7 (ST6.out.ok.up (by omega)) ST6.out.good
                  have ST7 : Hid (Stand w w7 B (k0 + 2 + 2) T bs7) := hs7
                  clear hn7 hs7
                  go_wp2
                  have e4 : k0 + 2 + 2 = 4 + 2 * j + 4 * (n + 1) := by rw [Hk0.out]; omega
                  go_roundw
                  case rel => exact ⟨n + 1, by omega, by go_num, by rw [Hks.out, Bool.false_or, same_bytes], T, bs7, by rw [← e4]; exact ST7.out, HTS.out⟩
                  case measure => simp [intOf]; omega
              · have hd' : ¬ ((T.scopes.length : Nat) : Int) = 0 := by omega
                clear CK CO
                cases kb with
                | true =>
                  go_wp2_with fail
                  refine Calls.mono CNT.out ?_
                  rintro e wz ⟨rfl, rfl⟩
                  go_wp2_with fail
                  refine Calls.mono (NM.out _ ST.out.tab) ?_
                  rintro e w2 ⟨rfl, hb2⟩
                  have ST2 : Hid (Stand w w2 B k0 T bs) := ST.out.under hb2
                  clear hb2 CNT NM
                  go_wp2_with fail
                  refine Calls.mono (FD.out _ ST2.out.tab) ?_
                  rintro e wz ⟨rfl, rfl⟩
                  go_wp2_with fail
                  refine Calls.mono (AC.out _ ST2.out.tab) ?_
                  rintro e w3 ⟨rfl, hb3⟩
                  have ST3 : Hid (Stand w w3 B k0 T bs) := ST2.out.under hb3
                  clear hb3 FD
                  go_wp2_with fail
                  refine Calls.mono (IV.out _ ST3.out.tab) ?_
                  rintro e w4 ⟨rfl, hb4⟩
                  have ST4 : Hid (Stand w w4 B k0 T bs) := ST3.out.under hb4
                  clear hb4 IV
                  go_wp2_with fail
                  refine Calls.mono (DP.out _ ST4.out.tab) ?_
                  rintro e wz ⟨rfl, rfl⟩
                  go_wp2_with fail
                  have ST6 : Hid (Stand w wz B (k0 + 2) T bs) := ST4.out.up (by omega)
                  refine Calls.mono (VA.out _ bs ST6.out.kbr ST6.out.tab) ?_
                  rintro e w7 ⟨rfl, hn7⟩
                  obtain ⟨bs7, hs7, _⟩ := ST6.out.now hn7 (ST6.out.ok.up (by omega)) ST6.out.good
                  have ST7 : Hid (Stand w w7 B (k0 + 2 + 2) T bs7) := hs7
                  clear hn7 hs7
                  go_wp2
                  have e4 : k0 + 2 + 2 = 4 + 2 * j + 4 * (n + 1) := by rw [Hk0.out]; omega
                  go_roundw
                  case rel => exact ⟨n + 1, by omega, by go_num, by rw [Hks.out]; rfl, T, bs7, by rw [← e4]; exact ST7.out, HTS.out⟩
                  case measure => simp [intOf]; omega
                | false =>
                  go_wp2_with fail
                  refine Calls.mono CNT.out ?_
                  rintro e wz ⟨rfl, rfl⟩
                  go_wp2_with fail
                  refine Calls.mono (NM.out _ ST.out.tab) ?_
                  rintro e w2 ⟨rfl, hb2⟩
                  have ST2 : Hid (Stand w w2 B k0 T bs) := ST.out.under hb2
                  clear hb2 CNT NM
                  go_wp2_with fail
                  refine Calls.mono (FD.out _ ST2.out.tab) ?_
                  rintro e wz ⟨rfl, rfl⟩
                  go_wp2_with fail
                  refine Calls.mono (AC.out _ ST2.out.tab) ?_
                  rintro e w3 ⟨rfl, hb3⟩
                  have ST3 : Hid (Stand w w3 B k0 T bs) := ST2.out.under hb3
                  clear hb3 FD
                  go_wp2_with fail
                  refine Calls.mono (IV.out _ ST3.out.tab) ?_
                  rintro e w4 ⟨rfl, hb4⟩
                  have ST4 : Hid (Stand w w4 B k0 T bs) := ST3.out.under hb4
                  clear hb4 IV
                  go_wp2_with fail
                  refine Calls.mono (DP.out _ ST4.out.tab) ?_
                  rintro e wz ⟨rfl, rfl⟩
                  go_wp2_with fail
                  have ST6 : Hid (Stand w wz B (k0 + 2) T bs) := ST4.out.up (by omega)
                  refine Calls.mono (VA.out _ bs ST6.out.kbr ST6.out.tab) ?_
                  rintro e w7 ⟨rfl, hn7⟩
                  obtain ⟨bs7, hs7, _⟩ := ST6.out.now hn7 (ST6.out.ok.up (by omega)) ST6.out.good
                  have ST7 : Hid (Stand w w7 B (k0 + 2 + 2) T bs7) := hs7
                  clear hn7 hs7
                  go_wp2
                  have e4 : k0 + 2 + 2 = 4 + 2 * j + 4 * (n + 1) := by rw [Hk0.out]; omega
                  go_roundw
                  case rel => exact ⟨n + 1, by omega, by go_num, by rw [Hks.out, Bool.false_or, same_bytes], T, bs7, by rw [← e4]; exact ST7.out, HTS.out⟩
                  case measure => simp [intOf]; omega
            | false =>
              by_cases hd : T.scopes.length = 0
              · cases kb with
                | true =>
                  go_wp2_with fail
                  refine Calls.mono CNT.out ?_
                  rintro e wz ⟨rfl, rfl⟩
                  go_wp2_with fail
                  refine Calls.mono (NM.out _ ST.out.tab) ?_
                  rintro e w2 ⟨rfl, hb2⟩
                  have ST2 : Hid (Stand w w2 B k0 T bs) := ST.out.under hb2
                  clear hb2 CNT NM
                  go_wp2_with fail
                  refine Calls.mono (FD.out _ ST2.out.tab) ?_
                  rintro e wz ⟨rfl, rfl⟩
                  go_wp2_with fail
                  refine Calls.mono (AC.out _ ST2.out.tab) ?_
                  rintro e w3 ⟨rfl, hb3⟩
                  have ST3 : Hid (Stand w w3 B k0 T bs) := ST2.out.under hb3
                  clear hb3 FD
                  go_wp2_with fail
                  refine Calls.mono (IV.out _ ST3.out.tab) ?_
                  rintro e w4 ⟨rfl, hb4⟩
                  have ST4 : Hid (Stand w w4 B k0 T bs) := ST3.out.under hb4
                  clear hb4 IV
                  go_wp2_with fail
                  refine Calls.mono (AC.out _ ST4.out.tab) ?_
                  rintro e w5 ⟨rfl, hb5⟩
                  have ST5 : Hid (Stand w w5 B k0 T bs) := ST4.out.under hb5
                  clear hb5
                  go_wp2_with fail
                  refine Calls.mono (DP.out _ ST5.out.tab) ?_
                  rw [hd]
                  rintro e wz ⟨rfl, rfl⟩
                  go_wp2_with fail
                  refine Calls.mono (CO.out _ ST5.out.kbr ST5.out.tab) ?_
                  rw [CK.out hd]
                  rintro e w6 ⟨rfl, hn6⟩
                  obtain ⟨bs6, hs6, _⟩ := ST5.out.now hn6 (ST5.out.ok.up (by omega)) ST5.out.good
                  have ST6 : Hid (Stand w w6 B (k0 + 2) T bs6) := hs6
                  clear hn6 hs6
                  go_wp2_with fail
                  refine Calls.mono (VA.out _ bs6 ST6.out.kbr ST6.out.tab) ?_
                  rintro e w7 ⟨rfl, hn7⟩
                  obtain ⟨bs7, hs7, _⟩ := ST6.out.now hn7 (ST6.out.ok.up (by omega)) ST6.out.good
                  have ST7 : Hid (Stand w w7 B (k0 + 2 + 2) T bs7) := hs7
                  clear hn7 hs7
                  go_wp2
                  have e4 : k0 + 2 + 2 = 4 + 2 * j + 4 * (n + 1) := by rw [Hk0.out]; omega
                  go_roundw
                  case rel => exact ⟨n + 1, by omega, by go_num, by rw [Hks.out]; rfl, T, bs7, by rw [← e4]; exact ST7.out, HTS.out⟩
                  case measure => simp [intOf]; omega
                | false =>
                  go_wp2_with fail
                  refine Calls.mono CNT.out ?_
                  rintro e wz ⟨rfl, rfl⟩
                  go_wp2_with fail
                  refine Calls.mono (NM.out _ ST.out.tab) ?_
                  rintro e w2 ⟨rfl, hb2⟩
                  have ST2 : Hid (Stand w w2 B k0 T bs) := ST.out.under hb2
                  clear hb2 CNT NM
                  go_wp2_with fail
                  refine Calls.mono (FD.out _ ST2.out.tab) ?_
                  rintro e wz ⟨rfl, rfl⟩
                  go_wp2_with fail
                  refine Calls.mono (AC.out _ ST2.out.tab) ?_
                  rintro e w3 ⟨rfl, hb3⟩
                  have ST3 : Hid (Stand w w3 B k0 T bs) := ST2.out.under hb3
                  clear hb3 FD
                  go_wp2_with fail
                  refine Calls.mono (IV.out _ ST3.out.tab) ?_
                  rintro e w4 ⟨rfl, hb4⟩
                  have ST4 : Hid (Stand w w4 B k0 T bs) := ST3.out.under hb4
                  clear hb4 IV
                  go_wp2_with fail
                  refine Calls.mono (AC.out _ ST4.out.tab) ?_
                  rintro e w5 ⟨rfl, hb5⟩
                  have ST5 : Hid (Stand w w5 B k0 T bs) := ST4.out.under hb5
                  clear hb5
                  go_wp2_with fail
                  refine Calls.mono (DP.out _ ST5.out.tab) ?_
                  rw [hd]
                  rintro e wz ⟨rfl, rfl⟩
                  go_wp2_with fail
                  refine Calls.mono (CO.out _ ST5.out.kbr ST5.out.tab) ?_
                  rw [CK.out hd]
                  rintro e w6 ⟨rfl, hn6⟩
                  obtain ⟨bs6, hs6, _⟩ := ST5.out.now hn6 (ST5.out.ok.up (by omega)) ST5.out.good
                  have ST6 : Hid (Stand w w6 B (k0 + 2) T bs6) := hs6
                  clear hn6 hs6
                  go_wp2_with fail
                  refine Calls.mono (VA.out _ bs6 ST6.out.kbr ST6.out.tab) ?_
                  rintro e w7 ⟨rfl, hn7⟩
                  obtain ⟨bs7, hs7, _⟩ := ST6.out.now hn7 (ST6.out.ok.up (by omega)) ST6.out.good
                  have ST7 : Hid (Stand w w7 B (k0 + 2 + 2) T bs7) := hs7
                  clear hn7 hs7
                  go_wp2
                  have e4 : k0 + 2 + 2 = 4 + 2 * j + 4 * (n + 1) := by rw [Hk0.out]; omega
                  go_roundw
                  case rel => exact ⟨n + 1, by omega, by go_num, by rw [Hks.out, Bool.false_or, same_bytes], T, bs7, by rw [← e4]; exact ST7.out, HTS.out⟩
                  case measure => simp [intOf]; omega
              · have hd' : ¬ ((T.scopes.length : Nat) : Int) = 0 := by omega
                clear CK CO
                cases kb with
                | true =>
                  go_wp2_with fail
                  refine Calls.mono CNT.out ?_
                  rintro e wz ⟨rfl, rfl⟩
                  go_wp2_with fail
                  refine Calls.mono (NM.out _ ST.out.tab) ?_
                  rintro e w2 ⟨rfl, hb2⟩
                  have ST2 : Hid (Stand w w2 B k0 T bs) := ST.out.under hb2
                  clear hb2 CNT NM
                  go_wp2_with fail
                  refine Calls.mono (FD.out _ ST2.out.tab) ?_
                  rintro e wz ⟨rfl, rfl⟩
                  go_wp2_with fail
                  refine Calls.mono (AC.out _ ST2.out.tab) ?_
                  rintro e w3 ⟨rfl, hb3⟩
                  have ST3 : Hid (Stand w w3 B k0 T bs) := ST2.out.under hb3
                  clear hb3 FD
                  go_wp2_with fail
                  refine Calls.mono (IV.out _ ST3.out.tab) ?_
                  rintro e w4 ⟨rfl, hb4⟩
                  have ST4 : Hid (Stand w w4 B k0 T bs) := ST3.out.under hb4
                  clear hb4 IV
                  go_wp2_with fail
                  refine Calls.mono (AC.out _ ST4.out.tab) ?_
                  rintro e w5 ⟨rfl, hb5⟩
                  have ST5 : Hid (Stand w w5 B k0 T bs) := ST4.out.under hb5
                  clear hb5
                  go_wp2_with fail
                  refine Calls.mono (DP.out _ ST5.out.tab) ?_
                  rintro e wz ⟨rfl, rfl⟩
                  go_wp2_with fail
                  have ST6 : Hid (Stand w wz B (k0 + 2) T bs) := ST5.out.up (by omega)
                  refine Calls.mono (VA.out _ bs ST6.out.kbr ST6.out.tab) ?_
                  rintro e w7 ⟨rfl, hn7⟩
                  obtain ⟨bs7, hs7, _⟩ := ST6.out.now hn7 (ST6.out.ok.up (by omega)) ST6.out.good
                  have ST7 : Hid (Stand w w7 B (k0 + 2 + 2) T bs7) := hs7
                  clear hn7 hs7
                  go_wp2
                  have e4 : k0 + 2 + 2 = 4 + 2 * j + 4 * (n + 1) := by rw [Hk0.out]; omega
                  go_roundw
                  case rel => exact ⟨n + 1, by omega, by go_num, by rw [Hks.out]; rfl, T, bs7, by rw [← e4]; exact ST7.out, HTS.out⟩
                  case measure => simp [intOf]; omega
                | false =>
                  go_wp2_with fail
                  refine Calls.mono CNT.out ?_
                  rintro e wz ⟨rfl, rfl⟩
                  go_wp2_with fail
                  refine Calls.mono (NM.out _ ST.out.tab) ?_
                  rintro e w2 ⟨rfl, hb2⟩
                  have ST2 : Hid (Stand w w2 B k0 T bs) := ST.out.under hb2
                  clear hb2 CNT NM
                  go_wp2_with fail
                  refine Calls.mono (FD.out _ ST2.out.tab) ?_
                  rintro e wz ⟨rfl, rfl⟩
                  go_wp2_with fail
                  refine Calls.mono (AC.out _ ST2.out.tab) ?_
                  rintro e w3 ⟨rfl, hb3⟩
                  have ST3 : Hid (Stand w w3 B k0 T bs) := ST2.out.under hb3
                  clear hb3 FD
                  go_wp2_with fail
                  refine Calls.mono (IV.out _ ST3.out.tab) ?_
                  rintro e w4 ⟨rfl, hb4⟩
                  have ST4 : Hid (Stand w w4 B k0 T bs) := ST3.out.under hb4
                  clear hb4 IV
                  go_wp2_with fail
                  refine Calls.mono (AC.out _ ST4.out.tab) ?_
                  rintro e w5 ⟨rfl, hb5⟩
                  have ST5 : Hid (Stand w w5 B k0 T bs) := ST4.out.under hb5
                  clear hb5
                  go_wp2_with fail
                  refine Calls.mono (DP.out _ ST5.out.tab) ?_
                  rintro e wz ⟨rfl, rfl⟩
                  go_wp2_with fail
                  have ST6 : Hid (Stand w wz B (k0 + 2) T bs) := ST5.out.up (by omega)
                  refine Calls.mono (VA.out _ bs ST6.out.kbr ST6.out.tab) ?_
                  rintro e w7 ⟨rfl, hn7⟩
                  obtain ⟨bs7, hs7, _⟩ := ST6.out.now hn7 (ST6.out.ok.up (by omega)) ST6.out.good
                  have ST7 : Hid (Stand w w7 B (k0 + 2 + 2) T bs7) := hs7
                  clear hn7 hs7
                  go_wp2
                  have e4 : k0 + 2 + 2 = 4 + 2 * j + 4 * (n + 1) := by rw [Hk0.out]; omega
                  go_roundw
                  case rel => exact ⟨n + 1, by omega, by go_num, by rw [Hks.out, Bool.false_or, same_bytes], T, bs7, by rw [← e4]; exact ST7.out, HTS.out⟩
                  case measure => simp [intOf]; omega
          · rw [if_neg hm] at VA FD
            rw [decide_eq_false hm] at AC
            dsimp only [Option.getD_none, Option.isSome_none] at FD
            cases vr with
            | false => exact absurd (Hgood.out rfl) hm
            | true =>
              by_cases hd : T.scopes.length = 0
              · cases kb with
                | true =>
                  go_wp2_with fail
                  refine Calls.mono CNT.out ?_
                  rintro e wz ⟨rfl, rfl⟩
                  go_wp2_with fail
                  refine Calls.mono (NM.out _ ST.out.tab) ?_
                  rintro e w2 ⟨rfl, hb2⟩
                  have ST2 : Hid (Stand w w2 B k0 T bs) := ST.out.under hb2
                  clear hb2 CNT NM
                  go_wp2_with fail
                  refine Calls.mono (FD.out _ ST2.out.tab) ?_
                  rintro e wz ⟨rfl, rfl⟩
                  go_wp2_with fail
                  refine Calls.mono (AC.out _ ST2.out.tab) ?_
                  rintro e w3 ⟨rfl, hb3⟩
                  have ST3 : Hid (Stand w w3 B k0 T bs) := ST2.out.under hb3
                  clear hb3 FD
                  go_wp2_with fail
                  refine Calls.mono (IV.out _ ST3.out.tab) ?_
                  rintro e w4 ⟨rfl, hb4⟩
                  have ST4 : Hid (Stand w w4 B k0 T bs) := ST3.out.under hb4
                  clear hb4 IV
                  go_wp2_with fail
                  refine Calls.mono (DP.out _ ST4.out.tab) ?_
                  rw [hd]
                  rintro e wz ⟨rfl, rfl⟩
                  go_wp2_with fail
                  refine Calls.mono (CO.out _ ST4.out.kbr ST4.out.tab) ?_
                  rw [CK.out hd]
                  rintro e w6 ⟨rfl, hn6⟩
                  obtain ⟨bs6, hs6, _⟩ := ST4.out.now hn6 (ST4.out.ok.up (by omega)) ST4.out.good
                  have ST6 : Hid (Stand w w6 B (k0 + 2) T bs6) := hs6
                  clear hn6 hs6
                  go_wp2_with fail
                  refine Calls.mono (VA.out _ bs6 ST6.out.kbr ST6.out.tab) ?_
                  rintro e w7 ⟨rfl, hn7⟩
                  obtain ⟨bs7, hs7, _⟩ := ST6.out.now hn7 ((ok_act ST6.out.ok hlt3.out).up (by omega)) (good_act ST6.out.good n (fun p hp => .inl (by rw [hp2.out] at hp; cases hp; rfl)))
                  have ST7 : Hid (Stand w w7 B (k0 + 2 + 2) (actT T n) bs7) := hs7
                  clear hn7 hs7
                  go_wp2_with fail
                  have AC2 := active_of w7 bs7 B (k0 + 2 + 2) (actT T n) n hL46 ST7.out.ok.sizes ST7.out.tab
                  rw [active_act hnd2.out hp2.out] at AC2
                  replace AC2 := show Hid _ from AC2
                  refine Calls.mono AC2.out ?_
                  rintro e w8 ⟨rfl, hb8⟩
                  have ST8 : Hid (Stand w w8 B (k0 + 2 + 2) (actT T n) bs7) := ST7.out.under hb8
                  clear hb8 AC2
                  go_wp2
                  have e4 : k0 + 2 + 2 = 4 + 2 * j + 4 * (n + 1) := by rw [Hk0.out]; omega
                  go_roundw
                  case rel => exact ⟨n + 1, by omega, by go_num, by rw [Hks.out]; rfl, actT T n, bs7, by rw [← e4]; exact ST8.out, HTS.out⟩
                  case measure => simp [intOf]; omega
                | false =>
                  go_wp2_with fail
                  refine Calls.mono CNT.out ?_
                  rintro e wz ⟨rfl, rfl⟩
                  go_wp2_with fail
                  refine Calls.mono (NM.out _ ST.out.tab) ?_
                  rintro e w2 ⟨rfl, hb2⟩
                  have ST2 : Hid (Stand w w2 B k0 T bs) := ST.out.under hb2
                  clear hb2 CNT NM
                  go_wp2_with fail
                  refine Calls.mono (FD.out _ ST2.out.tab) ?_
                  rintro e wz ⟨rfl, rfl⟩
                  go_wp2_with fail
                  refine Calls.mono (AC.out _ ST2.out.tab) ?_
                  rintro e w3 ⟨rfl, hb3⟩
                  have ST3 : Hid (Stand w w3 B k0 T bs) := ST2.out.under hb3
                  clear hb3 FD
                  go_wp2_with fail
                  refine Calls.mono (IV.out _ ST3.out.tab) ?_
                  rintro e w4 ⟨rfl, hb4⟩
                  have ST4 : Hid (Stand w w4 B k0 T bs) := ST3.out.under hb4
                  clear hb4 IV
                  go_wp2_with fail
                  refine Calls.mono (DP.out _ ST4.out.tab) ?_
                  rw [hd]
                  rintro e wz ⟨rfl, rfl⟩
                  go_wp2_with fail
                  refine Calls.mono (CO.out _ ST4.out.kbr ST4.out.tab) ?_
                  rw [CK.out hd]
                  rintro e w6 ⟨rfl, hn6⟩
                  obtain ⟨bs6, hs6, _⟩ := ST4.out.now hn6 (ST4.out.ok.up (by omega)) ST4.out.good
                  have ST6 : Hid (Stand w w6 B (k0 + 2) T bs6) := hs6
                  clear hn6 hs6
                  go_wp2_with fail
                  refine Calls.mono (VA.out _ bs6 ST6.out.kbr ST6.out.tab) ?_
                  rintro e w7 ⟨rfl, hn7⟩
                  obtain ⟨bs7, hs7, _⟩ := ST6.out.now hn7 ((ok_act ST6.out.ok hlt3.out).up (by omega)) (good_act ST6.out.good n (fun p hp => .inl (by rw [hp2.out] at hp; cases hp; rfl)))
                  have ST7 : Hid (Stand w w7 B (k0 + 2 + 2) (actT T n) bs7) := hs7
                  clear hn7 hs7
                  go_wp2_with fail
                  have AC2 := active_of w7 bs7 B (k0 + 2 + 2) (actT T n) n hL46 ST7.out.ok.sizes ST7.out.tab
                  rw [active_act hnd2.out hp2.out] at AC2
                  replace AC2 := show Hid _ from AC2
                  refine Calls.mono AC2.out ?_
                  rintro e w8 ⟨rfl, hb8⟩
                  have ST8 : Hid (Stand w w8 B (k0 + 2 + 2) (actT T n) bs7) := ST7.out.under hb8
                  clear hb8 AC2
                  go_wp2
                  have e4 : k0 + 2 + 2 = 4 + 2 * j + 4 * (n + 1) := by rw [Hk0.out]; omega
                  go_roundw
                  case rel => exact ⟨n + 1, by omega, by go_num, by rw [Hks.out, Bool.false_or, same_bytes], actT T n, bs7, by rw [← e4]; exact ST8.out, HTS.out⟩
                  case measure => simp [intOf]; omega
              · have hd' : ¬ ((T.scopes.length : Nat) : Int) = 0 := by omega
                clear CK CO
                cases kb with
                | true =>
                  go_wp2_with fail
                  refine Calls.mono CNT.out ?_
                  rintro e wz ⟨rfl, rfl⟩
                  go_wp2_with fail
                  refine Calls.mono (NM.out _ ST.out.tab) ?_
                  rintro e w2 ⟨rfl, hb2⟩
                  have ST2 : Hid (Stand w w2 B k0 T bs) := ST.out.under hb2
                  clear hb2 CNT NM
                  go_wp2_with fail
                  refine Calls.mono (FD.out _ ST2.out.tab) ?_
                  rintro e wz ⟨rfl, rfl⟩
                  go_wp2_with fail
                  refine Calls.mono (AC.out _ ST2.out.tab) ?_
                  rintro e w3 ⟨rfl, hb3⟩
                  have ST3 : Hid (Stand w w3 B k0 T bs) := ST2.out.under hb3
                  clear hb3 FD
                  go_wp2_with fail
                  refine Calls.mono (IV.out _ ST3.out.tab) ?_
                  rintro e w4 ⟨rfl, hb4⟩
                  have ST4 : Hid (Stand w w4 B k0 T bs) := ST3.out.under hb4
                  clear hb4 IV
                  go_wp2_with fail
                  refine Calls.mono (DP.out _ ST4.out.tab) ?_
                  rintro e wz ⟨rfl, rfl⟩
                  go_wp2_with fail
                  have ST6 : Hid (Stand w wz B (k0 + 2) T bs) := ST4.out.up (by omega)
                  refine Calls.mono (VA.out _ bs ST6.out.kbr ST6.out.tab) ?_
                  rintro e w7 ⟨rfl, hn7⟩
                  obtain ⟨bs7, hs7, _⟩ := ST6.out.now hn7 ((ok_act ST6.out.ok hlt3.out).up (by omega)) (good_act ST6.out.good n (fun p hp => .inl (by rw [hp2.out] at hp; cases hp; rfl)))
                  have ST7 : Hid (Stand w w7 B (k0 + 2 + 2) (actT T n) bs7) := hs7
                  clear hn7 hs7
                  go_wp2_with fail
                  have AC2 := active_of w7 bs7 B (k0 + 2 + 2) (actT T n) n hL46 ST7.out.ok.sizes ST7.out.tab
                  rw [active_act hnd2.out hp2.out] at AC2
                  replace AC2 := show Hid _ from AC2
                  refine Calls.mono AC2.out ?_
                  rintro e w8 ⟨rfl, hb8⟩
                  have ST8 : Hid (Stand w w8 B (k0 + 2 + 2) (actT T n) bs7) := ST7.out.under hb8
                  clear hb8 AC2
                  go_wp2
                  have e4 : k0 + 2 + 2 = 4 + 2 * j + 4 * (n + 1) := by rw [Hk0.out]; omega
                  go_roundw
                  case rel => exact ⟨n + 1, by omega, by go_num, by rw [Hks.out]; rfl, actT T n, bs7, by rw [← e4]; exact ST8.out, HTS.out⟩
                  case measure => simp [intOf]; omega
                | false =>
                  go_wp2_with fail
                  refine Calls.mono CNT.out ?_
                  rintro e wz ⟨rfl, rfl⟩
                  go_wp2_with fail
                  refine Calls.mono (NM.out _ ST.out.tab) ?_
                  rintro e w2 ⟨rfl, hb2⟩
                  have ST2 : Hid (Stand w w2 B k0 T bs) := ST.out.under hb2
                  clear hb2 CNT NM
                  go_wp2_with fail
                  refine Calls.mono (FD.out _ ST2.out.tab) ?_
                  rintro e wz ⟨rfl, rfl⟩
                  go_wp2_with fail
                  refine Calls.mono (AC.out _ ST2.out.tab) ?_
                  rintro e w3 ⟨rfl, hb3⟩
                  have ST3 : Hid (Stand w w3 B k0 T bs) := ST2.out.under hb3
                  clear hb3 FD
                  go_wp2_with fail
                  refine Calls.mono (IV.out _ ST3.out.tab) ?_
                  rintro e w4 ⟨rfl, hb4⟩
                  have ST4 : Hid (Stand w w4 B k0 T bs) := ST3.out.under hb4
                  clear hb4 IV
                  go_wp2_with fail
                  refine Calls.mono (DP.out _ ST4.out.tab) ?_
                  rintro e wz ⟨rfl, rfl⟩
                  go_wp2_with fail
                  have ST6 : Hid (Stand w wz B (k0 + 2) T bs) := ST4.out.up (by omega)
                  refine Calls.mono (VA.out _ bs ST6.out.kbr ST6.out.tab) ?_
                  rintro e w7 ⟨rfl, hn7⟩
                  obtain ⟨bs7, hs7, _⟩ := ST6.out.now hn7 ((ok_act ST6.out.ok hlt3.out).up (by omega)) (good_act ST6.out.good n (fun p hp => .inl (by rw [hp2.out] at hp; cases hp; rfl)))
                  have ST7 : Hid (Stand w w7 B (k0 + 2 + 2) (actT T n) bs7) := hs7
                  clear hn7 hs7
                  go_wp2_with fail
                  have AC2 := active_of w7 bs7 B (k0 + 2 + 2) (actT T n) n hL46 ST7.out.ok.sizes ST7.out.tab
                  rw [active_act hnd2.out hp2.out] at AC2
                  replace AC2 := show Hid _ from AC2
                  refine Calls.mono AC2.out ?_
                  rintro e w8 ⟨rfl, hb8⟩
                  have ST8 : Hid (Stand w w8 B (k0 + 2 + 2) (actT T n) bs7) := ST7.out.under hb8
                  clear hb8 AC2
                  go_wp2
                  have e4 : k0 + 2 + 2 = 4 + 2 * j + 4 * (n + 1) := by rw [Hk0.out]; omega
                  go_roundw
                  case rel => exact ⟨n + 1, by omega, by go_num, by rw [Hks.out, Bool.false_or, same_bytes], actT T n, bs7, by rw [← e4]; exact ST8.out, HTS.out⟩
                  case measure => simp [intOf]; omega
        · have n3 : ¬ (n : Int) < (L : Int) := by omega
          have hnone : Hid (knownB S1 odd n = false → actOf T odd = none) := fun h => by
            unfold actOf
            rw [hTS, known_all (by rw [← HL.out]; omega) h]; rfl
          have FO := find_any wr bs B k0 T odd hodd hst.tab
          replace FO := show Hid _ from FO
          clear hst hTS hTL
          generalize hkb : knownB S1 odd n = kb at *
          have Hkb : Hid (knownB S1 odd n = kb) := hkb
          clear hkb
          cases kb with
          | true =>
            go_wp2_with fail
            refine Calls.mono CNT.out ?_
            rintro e wz ⟨rfl, rfl⟩
            go_wp2
            go_ret
            exact ⟨rfl, ST.out.below⟩
          | false =>
            go_wp2_with fail
            refine Calls.mono CNT.out ?_
            rintro e wz ⟨rfl, rfl⟩
            go_wp2_with fail
            refine Calls.mono FO.out ?_
            rw [hnone.out trivial]
            rintro e wz ⟨rfl, rfl⟩
            go_wp2
            go_ret
            exact ⟨rfl, ST.out.below⟩
end Go.Proofs.YtdnkgjjboonmnaaDoor
