/- The law's Tables: both tables behind declarations answer alike. -/
import Derived.Test.YtmgpnaehniohgaaDoorRefT
namespace Go.Proofs.YtmgpnaehniohgaaDoor.R
open Go.RowKit Go.Deep
open Go.Proofs.YtmgpnaehniohgaaDoor.E

/-- Declarations that came in: element i holds a kind and a string. -/
def DeclsAt (w : World) (a0 : Option Addr) (len : Nat) (K : Nat → Int) (S : Nat → ByteArray) : Prop :=
  ∀ i, i < len → ∃ b off, a0 = some ⟨b, off, none⟩ ∧ w.cell? ⟨b, off + i * 2, none⟩ = some (.int .i64 (K i)) ∧ w.cell? ⟨b, off + i * 2 + 1, none⟩ = some (.string (S i)) ∧ (S i).size ≤ maxLen
theorem DeclsAt.under {w wr : World} {a0 : Option Addr} {len : Nat} {K : Nat → Int} {S : Nat → ByteArray} (h : DeclsAt w a0 len K S) (hb : Below w.heap.size w wr) : DeclsAt wr a0 len K S := fun i hi => by
  obtain ⟨b, off, e, h0, h1, hs⟩ := h i hi
  have hlt : b < w.heap.size := World.block_lt_of_cell? _ _ h0
  exact ⟨b, off, e, (hb.cell (p := ⟨b, off + i * 2, none⟩) hlt).trans h0, (hb.cell (p := ⟨b, off + i * 2 + 1, none⟩) hlt).trans h1, hs⟩
theorem inv_tab0 : Inv tab0 [] := ⟨rfl, fun n p hp => by simp [tab0] at hp, fun n i hl => by have := hl.1; simp at this, fun n i hl => by have := hl.1; simp at this, fun l hl => by simp [tab0] at hl⟩
set_option maxHeartbeats 1000000 in
theorem rnew_any (w : World) : Calls Tryd.prog 43 #[] w fun e w' => e = .returned (.pointer (some ⟨w.heap.size, 0, none⟩)) ∧ RAt w' [w.heap.size] w.heap.size [] [] ∧ Below w.heap.size w w' := by
  go_enter Tryd.func43, Tryd.ntmps43
  go_wp2
  go_ret
  refine ⟨rfl, ⟨.slice none 0 0, .slice none 0 0, .slice none 0 0, ⟨heap_alloc_new w _, World.ownsRow_nil _ _ _ _, World.ownsRow_nil _ _ _ _⟩, rfl⟩, (Below.refl _ _).alloc (Nat.le_refl _) _⟩

set_option maxRecDepth 100000 in
set_option maxHeartbeats 16000000 in
theorem tables_any (w : World) (a0 : Option Addr) (len c0 : Nat) (K : Nat → Int) (S : Nat → ByteArray) (hlen : len ≤ 1048576) (hD : DeclsAt w a0 len K S) (hKB : KB w) :
    Calls Tryd.prog 27 #[.slice a0 len c0] w fun e w' => ∃ B C T A bs rs, e = .returned (.tuple #[.pointer (some ⟨B, 0, none⟩), .pointer (some ⟨C, 0, none⟩), .bool true]) ∧ Duo w w' B C (4 * len) T T A bs rs := by
  have NW : Hid _ := new_any w
  have HKB : Hid (KB w) := hKB
  have HD : Hid (DeclsAt w a0 len K S) := hD
  clear hKB hD
  go_enter Tryd.func27, Tryd.ntmps27
  go_wp2_with fail
  refine Calls.mono NW.out ?_
  rintro e w1 ⟨rfl, ⟨bs1, hT1, hlow1⟩, hb1⟩
  generalize w.heap.size + 3 = B at *
  have NU : Hid _ := rnew_any w1
  have Hb1 : Hid (Below w.heap.size w w1) := hb1
  have Hl1 : Hid (∀ b ∈ bs1, w.heap.size ≤ b) := hlow1
  have HT1 : Hid (TabAt w1 bs1 B 0 tab0) := hT1
  clear NW hb1 hlow1 hT1
  go_wp2_with fail
  refine Calls.mono NU.out ?_
  rintro e w2 ⟨rfl, hR, hb2⟩
  have H2 : Hid (∃ A bs rs, Duo w w2 B w1.heap.size 0 tab0 tab0 A bs rs) := by
    refine ⟨[], bs1, [w1.heap.size], HT1.out.below hb2, hR, inv_tab0, ok_tab0, ok_tab0, good_tab0, good_tab0, Nat.le_refl _, fun b hb hb' => ?_, Hl1.out, fun b hb => ?_, Hb1.out.trans (hb2.mono Hb1.out.size), HKB.out⟩
    · have := HT1.out.low b hb
      simp at hb'
      omega
    · simp at hb
      rw [hb]
      exact Hb1.out.size
  clear NU hR hb2 HT1 Hl1 Hb1 HKB
  generalize w1.heap.size = C at *
  clear w1
  go_wp2_with fail
  go_loopw [7, 8] (fun v i wx => ∃ j : Nat, j ≤ len ∧ v = .bool true ∧ i = .int .i64 j ∧ Hid (∃ T A bs rs, Duo w wx B C (4 * j) T T A bs rs)) (fun _ i _ => len - (intOf i).toNat)
  case atStart => exact ⟨0, Nat.zero_le _, rfl, rfl, ⟨tab0, H2.out⟩⟩
  case round =>
    clear H2
    obtain ⟨j, hj, rfl, rfl, HH⟩ := hrel
    obtain ⟨T, A, bs, rs, hH⟩ := HH.out
    clear HH
    by_cases hlt : j < len
    · have n1 : (j : Int) < (len : Int) := by omega
      obtain ⟨b1, o1, rfl, d0, d1, hS⟩ := (HD.out.under hH.below) j hlt
      have HC : Hid (∀ w3, Below w.heap.size w w3 → w3.cell? ⟨b1, o1 + j * 2 + 1, none⟩ = some (.string (S j))) := fun w3 h3 => by
        obtain ⟨b', o', e', _, h1', _⟩ := (HD.out.under h3) j hlt
        cases e'
        exact h1'
      have hAl : A.length ≤ 17592186043900 := by have := hH.len; omega
      generalize K j = kj at *
      generalize S j = s at *
      have HH : Hid (Duo w wr B C (4 * j) T T A bs rs) := hH
      by_cases k1 : kj = 1
      · subst k1
        obtain ⟨r, hr⟩ : ∃ r, constR T s = r := ⟨_, rfl⟩
        have CALL := rconst_u wr rs C (4 * j) A T s hS hH.ok hAl hH.ref hH.inv
        rw [hr] at CALL
        replace CALL := show Hid _ from CALL
        have FIN : Hid (∀ w', RNow rs wr C A r.2.2 w' → ∃ A' rs', Duo w w' B C (4 * j + 2) T r.2.2 A' bs rs') := fun w' hn => HH.out.refNow hn (by rw [← hr]; exact ok_const s HH.out.ok) (by rw [← hr]; exact good_const s HH.out.good HH.out.ok)
        have NEXT : Hid (∀ w' A' rs', Duo w w' B C (4 * j + 2) T r.2.2 A' bs rs' → Calls Tryd.prog 9 #[.pointer (some ⟨B, 0, none⟩), .string s] w' fun e w2 => e = .returned (.tuple #[.int .i64 (r.1 : Nat), .int .i64 (r.2.1 : Nat)]) ∧ Now bs w' B (4 * j + 2) r.2.2 w2) := fun w' A' rs' hd => by
          have h := const_any w' bs B (4 * j + 2) T s hd.ok (by omega) hS hd.kbr hd.tab
          rw [hr] at h
          exact h
        have FIN2 : Hid (∀ w' A' rs' w2, Duo w w' B C (4 * j + 2) T r.2.2 A' bs rs' → Now bs w' B (4 * j + 2) r.2.2 w2 → ∃ T A bs rs, Duo w w2 B C (4 * (j + 1)) T T A bs rs) := fun w' A' rs' w2 hd hn => by
          obtain ⟨bs2, h2⟩ := hd.tabNow hn (by rw [← hr]; exact (ok_const s HH.out.ok).up (by omega)) (by rw [← hr]; exact good_const s HH.out.good HH.out.ok)
          exact ⟨_, _, _, _, h2⟩
        clear hH hr HH
        go_wp2_with fail
        refine Calls.mono CALL.out ?_
        rintro e w3 ⟨rfl, hn⟩
        obtain ⟨A', rs', hd⟩ := FIN.out w3 hn
        have d2 := HC.out w3 hd.below
        have CALL2 : Hid _ := NEXT.out w3 A' rs' hd
        have FIN3 : Hid (∀ w2, Now bs w3 B (4 * j + 2) r.2.2 w2 → ∃ T A bs rs, Duo w w2 B C (4 * (j + 1)) T T A bs rs) := fun w2 hn2 => FIN2.out w3 A' rs' w2 hd hn2
        clear CALL FIN hn hd NEXT FIN2
        go_wp2_with fail
        refine Calls.mono CALL2.out ?_
        rintro e w4 ⟨rfl, hn⟩
        have HN : Hid _ := FIN3.out w4 hn
        clear CALL2 FIN3 hn
        go_wp2
        exact ⟨⟨j + 1, by omega, rfl, by go_num, HN.out⟩, by simp [intOf]; omega⟩
      have g1 : (kj == 1) = false := by rw [beq_eq_false_iff_ne]; exact k1
      by_cases k2 : kj = 2
      · subst k2
        clear g1 k1
        obtain ⟨r, hr⟩ : ∃ r, varR T s = r := ⟨_, rfl⟩
        have CALL := rvar_u wr rs C (4 * j) A T s hS hH.ok hH.good hAl hH.ref hH.inv
        rw [hr] at CALL
        replace CALL := show Hid _ from CALL
        have FIN : Hid (∀ w', RNow rs wr C A r.2.2 w' → ∃ A' rs', Duo w w' B C (4 * j + 2) T r.2.2 A' bs rs') := fun w' hn => HH.out.refNow hn (by rw [← hr]; exact ok_var s HH.out.ok) (by rw [← hr]; exact good_var s HH.out.good HH.out.ok)
        have NEXT : Hid (∀ w' A' rs', Duo w w' B C (4 * j + 2) T r.2.2 A' bs rs' → Calls Tryd.prog 19 #[.pointer (some ⟨B, 0, none⟩), .string s] w' fun e w2 => e = .returned (.tuple #[.int .i64 (r.1 : Nat), .int .i64 (r.2.1 : Nat)]) ∧ Now bs w' B (4 * j + 2) r.2.2 w2) := fun w' A' rs' hd => by
          have h := var_any w' bs B (4 * j + 2) T s hd.ok (by omega) hS hd.kbr hd.tab
          rw [hr] at h
          exact h
        have FIN2 : Hid (∀ w' A' rs' w2, Duo w w' B C (4 * j + 2) T r.2.2 A' bs rs' → Now bs w' B (4 * j + 2) r.2.2 w2 → ∃ T A bs rs, Duo w w2 B C (4 * (j + 1)) T T A bs rs) := fun w' A' rs' w2 hd hn => by
          obtain ⟨bs2, h2⟩ := hd.tabNow hn (by rw [← hr]; exact (ok_var s HH.out.ok).up (by omega)) (by rw [← hr]; exact good_var s HH.out.good HH.out.ok)
          exact ⟨_, _, _, _, h2⟩
        clear hH hr HH
        go_wp2_with fail
        refine Calls.mono CALL.out ?_
        rintro e w3 ⟨rfl, hn⟩
        obtain ⟨A', rs', hd⟩ := FIN.out w3 hn
        have d2 := HC.out w3 hd.below
        have CALL2 : Hid _ := NEXT.out w3 A' rs' hd
        have FIN3 : Hid (∀ w2, Now bs w3 B (4 * j + 2) r.2.2 w2 → ∃ T A bs rs, Duo w w2 B C (4 * (j + 1)) T T A bs rs) := fun w2 hn2 => FIN2.out w3 A' rs' w2 hd hn2
        clear CALL FIN hn hd NEXT FIN2
        go_wp2_with fail
        refine Calls.mono CALL2.out ?_
        rintro e w4 ⟨rfl, hn⟩
        have HN : Hid _ := FIN3.out w4 hn
        clear CALL2 FIN3 hn
        go_wp2
        exact ⟨⟨j + 1, by omega, rfl, by go_num, HN.out⟩, by simp [intOf]; omega⟩
      have g2 : (kj == 2) = false := by rw [beq_eq_false_iff_ne]; exact k2
      by_cases k3 : kj = 3
      · subst k3
        clear g1 k1 g2 k2
        obtain ⟨r, hr⟩ : ∃ r, openR T = r := ⟨_, rfl⟩
        have CALL := open_any wr bs B (4 * j) T hH.tab
        rw [hr] at CALL
        replace CALL := show Hid _ from CALL
        have FIN : Hid (∀ w', Now bs wr B (4 * j) r.2 w' → ∃ bs', Duo w w' B C (4 * j + 2) r.2 T A bs' rs) := fun w' hn => HH.out.tabNow hn (by rw [← hr]; exact (ok_open HH.out.ok).up (by omega)) (by rw [← hr]; exact good_open HH.out.good)
        have NEXT : Hid (∀ w' bs', Duo w w' B C (4 * j + 2) r.2 T A bs' rs → Calls Tryd.prog 46 #[.pointer (some ⟨C, 0, none⟩)] w' fun e w2 => e = .returned (.int .i64 (r.1 : Nat)) ∧ RNow rs w' C A r.2 w2) := fun w' bs' hd => by
          have h := ropen_u w' rs C A T hAl hd.ref hd.inv
          rw [hr] at h
          exact h
        have FIN2 : Hid (∀ w' bs' w2, Duo w w' B C (4 * j + 2) r.2 T A bs' rs → RNow rs w' C A r.2 w2 → ∃ T A bs rs, Duo w w2 B C (4 * (j + 1)) T T A bs rs) := fun w' bs' w2 hd hn => by
          obtain ⟨A2, rs2, h2⟩ := hd.refNow hn (by rw [← hr]; exact (ok_open HH.out.ok).up (by omega)) (by rw [← hr]; exact good_open HH.out.good)
          exact ⟨_, _, _, _, h2⟩
        clear hH hr HH
        go_wp2_with fail
        refine Calls.mono CALL.out ?_
        rintro e w3 ⟨rfl, hn⟩
        obtain ⟨bs', hd⟩ := FIN.out w3 hn
        have CALL2 : Hid _ := NEXT.out w3 bs' hd
        have FIN3 : Hid (∀ w2, RNow rs w3 C A r.2 w2 → ∃ T A bs rs, Duo w w2 B C (4 * (j + 1)) T T A bs rs) := fun w2 hn2 => FIN2.out w3 bs' w2 hd hn2
        clear CALL FIN hn hd NEXT FIN2
        go_wp2_with fail
        refine Calls.mono CALL2.out ?_
        rintro e w4 ⟨rfl, hn⟩
        have HN : Hid _ := FIN3.out w4 hn
        clear CALL2 FIN3 hn
        go_wp2
        exact ⟨⟨j + 1, by omega, rfl, by go_num, HN.out⟩, by simp [intOf]; omega⟩
      have g3 : (kj == 3) = false := by rw [beq_eq_false_iff_ne]; exact k3
      by_cases k4 : kj = 4
      · subst k4
        clear g1 k1 g2 k2 g3 k3
        obtain ⟨r, hr⟩ : ∃ r, closeR T = r := ⟨_, rfl⟩
        have CALL := close_any wr bs B (4 * j) T hH.ok (by omega) hH.tab
        rw [hr] at CALL
        replace CALL := show Hid _ from CALL
        have FIN : Hid (∀ w', Now bs wr B (4 * j) r.2 w' → ∃ bs', Duo w w' B C (4 * j + 2) r.2 T A bs' rs) := fun w' hn => HH.out.tabNow hn (by rw [← hr]; exact (ok_close HH.out.ok).up (by omega)) (by rw [← hr]; exact good_close HH.out.good)
        have NEXT : Hid (∀ w' bs', Duo w w' B C (4 * j + 2) r.2 T A bs' rs → Calls Tryd.prog 47 #[.pointer (some ⟨C, 0, none⟩)] w' fun e w2 => e = .returned (.int .i64 (r.1 : Nat)) ∧ RNow rs w' C A r.2 w2) := fun w' bs' hd => by
          have h := rclose_u w' rs C A T hAl hd.ref hd.inv
          rw [hr] at h
          exact h
        have FIN2 : Hid (∀ w' bs' w2, Duo w w' B C (4 * j + 2) r.2 T A bs' rs → RNow rs w' C A r.2 w2 → ∃ T A bs rs, Duo w w2 B C (4 * (j + 1)) T T A bs rs) := fun w' bs' w2 hd hn => by
          obtain ⟨A2, rs2, h2⟩ := hd.refNow hn (by rw [← hr]; exact (ok_close HH.out.ok).up (by omega)) (by rw [← hr]; exact good_close HH.out.good)
          exact ⟨_, _, _, _, h2⟩
        clear hH hr HH
        go_wp2_with fail
        refine Calls.mono CALL.out ?_
        rintro e w3 ⟨rfl, hn⟩
        obtain ⟨bs', hd⟩ := FIN.out w3 hn
        have CALL2 : Hid _ := NEXT.out w3 bs' hd
        have FIN3 : Hid (∀ w2, RNow rs w3 C A r.2 w2 → ∃ T A bs rs, Duo w w2 B C (4 * (j + 1)) T T A bs rs) := fun w2 hn2 => FIN2.out w3 bs' w2 hd hn2
        clear CALL FIN hn hd NEXT FIN2
        go_wp2_with fail
        refine Calls.mono CALL2.out ?_
        rintro e w4 ⟨rfl, hn⟩
        have HN : Hid _ := FIN3.out w4 hn
        clear CALL2 FIN3 hn
        go_wp2
        exact ⟨⟨j + 1, by omega, rfl, by go_num, HN.out⟩, by simp [intOf]; omega⟩
      have g4 : (kj == 4) = false := by rw [beq_eq_false_iff_ne]; exact k4
      have HN : Hid (∃ T A bs rs, Duo w wr B C (4 * (j + 1)) T T A bs rs) := ⟨T, A, bs, rs, hH.up (by omega)⟩
      clear hH HH k1 k2 k3 k4
      go_wp2
      exact ⟨⟨j + 1, by omega, rfl, by go_num, HN.out⟩, by simp [intOf]; omega⟩
    · have n1 : ¬ (j : Int) < (len : Int) := by omega
      have HE : Hid (∃ T A bs rs, Duo w wr B C (4 * len) T T A bs rs) := by
        have : j = len := by omega
        subst this
        exact ⟨T, A, bs, rs, hH⟩
      clear hH
      go_wp2
      (try simp only [Exit.inBlock, Exit.then])
      refine bodyPost_ret (v := .tuple #[.pointer (some ⟨B, 0, none⟩), .pointer (some ⟨C, 0, none⟩), .bool true]) (by simp [results, Tryd.results27, go_sem]) rfl ?_
      obtain ⟨T, A, bs, rs, h⟩ := HE.out
      first | exact ⟨B, C, T, A, bs, rs, rfl, h⟩ | exact ⟨B, C, rfl, T, A, bs, rs, h⟩
end Go.Proofs.YtmgpnaehniohgaaDoor.R
