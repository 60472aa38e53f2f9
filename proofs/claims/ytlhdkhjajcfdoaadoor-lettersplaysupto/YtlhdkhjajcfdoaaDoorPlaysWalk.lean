/- The walk of LettersPlays. -/
import Derived.Test.YtlhdkhjajcfdoaaDoorRefX
namespace Go.Proofs.YtlhdkhjajcfdoaaDoor
open Go.RowKit

set_option maxRecDepth 100000 in
set_option maxHeartbeats 16000000 in
theorem plays_walk (w : World) (z : Int) (a1 : Option Addr) (n1 c1 : Nat) (ws : List ByteArray) (a2 : Option Addr) (n2 c2 : Nat) (l : List Int) (h1 : ws.length = n1) (hn1 : n1 ≤ 1048576) (i1 : StrsAt w a1 ws) (hb1 : (ws.flatMap fun s => s.data.toList).length ≤ 1048576) (h2 : l.length = n2) (hn2 : n2 ≤ 1048576) (hc2 : n2 ≤ c2) (i2 : IntsAt w a2 l) (hT : Tabs w) :
    Calls Tryd.prog 8 #[.int .i64 z, .slice a1 n1 c1, .slice a2 n2 c2] w fun e w' => e = .returned (.bool true) ∧ Below w.heap.size w w' := by
  obtain ⟨ts, hts⟩ : ∃ ts, ts = toksOf 0 ws := ⟨_, rfl⟩
  have htl : ts.length = n1 := by rw [hts, toksOf_len]; exact h1
  have hab : (allBytes ts).length ≤ 1048576 := by rw [hts, toksOf_bytes]; exact hb1
  have hcl := codesOf_len ts 0
  obtain ⟨cs, hcs⟩ : ∃ cs, cs = codesOf 0 ts := ⟨_, rfl⟩
  obtain ⟨m, hm⟩ : ∃ m, m = cs.length := ⟨_, rfl⟩
  obtain ⟨cut, hcut⟩ : ∃ cut, cut = decide (0 < endOf 0 ts) := ⟨_, rfl⟩
  have EN : Hid _ := encode_any w z
  have RE : Hid (∀ wx, Calls Tryd.prog 20 #[.int .i64 z] wx fun e w' => e = .returned (.tuple #[.string (encT z), .int .i64 (encE z)]) ∧ Below wx.heap.size wx w') := fun wx => rencode_any wx z
  have TO : Hid (∀ wx, StrsAt wx a1 ws → Calls Tryd.prog 18 #[.slice a1 n1 c1] wx fun e w' => ∃ v, e = .returned v ∧ w'.ownsRow wx.heap.size 30 4 v n1 (rowT ts) ∧ Below wx.heap.size wx w') := fun wx hx => by
    have := tokens_any wx a1 n1 c1 ws h1 (by omega) hx
    rw [← hts] at this
    exact this
  have DE : Hid (∀ (wx : World) (v : Value) (base : Nat), wx.ownsRow base 30 4 v n1 (rowT ts) → Tabs wx → Calls Tryd.prog 9 #[v] wx fun e w' => ∃ av cap, e = .returned (.tuple #[.slice av m cap, .bool cut]) ∧ m ≤ cap ∧ CodesAt w' av cs ∧ Below wx.heap.size wx w') := fun wx v base hO hTx => by
    have := decode_own wx base v n1 ts hO htl hTx (by omega) (by omega)
    rw [← hcs, ← hm, ← hcut] at this
    refine this.mono ?_
    rintro e w' ⟨av, cap, rfl, hc, hC, _, hb⟩
    exact ⟨av, cap, rfl, hc, hC, hb⟩
  have RD : Hid (∀ (wx : World) (v : Value) (base : Nat), wx.ownsRow base 30 4 v n1 (rowT ts) → Calls Tryd.prog 21 #[v] wx fun e w' => ∃ av cap, e = .returned (.tuple #[.slice av m cap, .bool cut]) ∧ m ≤ cap ∧ CodesAt w' av cs ∧ Below wx.heap.size wx w') := fun wx v base hO => by
    obtain ⟨a, c, rfl, hc, hA⟩ := own_toks hO
    have := rdecode_any wx a n1 c ts htl (by omega) hA (by omega)
    rw [← hcs, ← hm, ← hcut] at this
    refine this.mono ?_
    rintro e w' ⟨v, rfl, ho, hb⟩
    obtain ⟨av, cap, rfl, hcap, hC⟩ := own_codes ho
    exact ⟨av, cap, rfl, hcap, hC, hb⟩
  have hm2 : m ≤ 1048577 := by rw [hm, hcs]; omega
  have SA : Hid (∀ (wx : World) (a b : Option Addr) (c d : Nat), m ≤ c → m ≤ d → CodesAt wx a cs → CodesAt wx b cs → Calls Tryd.prog 19 #[.slice a m c, .slice b m d] wx fun e w' => e = .returned (.bool true) ∧ Below wx.heap.size wx w') := fun wx a b c d hc hd hA hB => same_any wx a b m c d cs hm.symm (by omega) hc hd hA hB
  have PR : Hid (∀ wx, IntsAt wx a2 l → Calls Tryd.prog 14 #[.slice a2 n2 c2] wx fun e w' => e = .returned (.tuple #[.string (prT l), .int .i64 (prE l)]) ∧ Below wx.heap.size wx w') := fun wx hx => print_any wx a2 n2 c2 l h2 hc2 (by omega) hx
  have RP : Hid (∀ wx, IntsAt wx a2 l → Calls Tryd.prog 22 #[.slice a2 n2 c2] wx fun e w' => e = .returned (.tuple #[.string (prT l), .int .i64 (prE l)]) ∧ Below wx.heap.size wx w') := fun wx hx => rprint_any wx a2 n2 c2 l h2 (by omega) hx
  have HI1 : Hid (StrsAt w a1 ws) := i1
  have HI2 : Hid (IntsAt w a2 l) := i2
  have HT : Hid (Tabs w) := hT
  have HS : Hid (2 ≤ w.heap.size) := hT.size
  clear hts htl hab hcl hcs hm hcut h1 h2 hb1 i1 i2 hT
  generalize encT z = s1 at *
  generalize encE z = e1 at *
  generalize prT l = s2 at *
  generalize prE l = e2 at *
  go_enter Tryd.func8, Tryd.ntmps8
  go_wp2_with fail
  refine Calls.mono EN.out ?_
  rintro e v1 ⟨rfl, hb1⟩
  have HB1 : Hid (Below w.heap.size w v1) := hb1
  clear hb1 EN
  go_wp2_with fail
  refine Calls.mono (RE.out v1) ?_
  rintro e v2 ⟨rfl, hb2⟩
  have HB2 : Hid (Below w.heap.size w v2) := HB1.out.trans (hb2.mono HB1.out.size)
  clear hb2 HB1 RE
  go_wp2_with fail
  refine Calls.mono (TO.out v2 (HI1.out.under HB2.out)) ?_
  rintro e v3 ⟨t3, rfl, ho3, hb3⟩
  have HB3 : Hid (Below w.heap.size w v3) := HB2.out.trans (hb3.mono HB2.out.size)
  have D3 : Hid _ := DE.out v3 t3 _ ho3 (HT.out.under HS.out HB3.out)
  clear hb3 HB2 ho3
  go_wp2_with fail
  refine Calls.mono D3.out ?_
  rintro e v4 ⟨av4, cap4, rfl, hcap4, hC4, hb4⟩
  have HB4 : Hid (Below w.heap.size w v4) := HB3.out.trans (hb4.mono HB3.out.size)
  have HC4 : Hid (CodesAt v4 av4 cs) := hC4
  clear hb4 HB3 hC4 D3 DE
  go_wp2_with fail
  refine Calls.mono (TO.out v4 (HI1.out.under HB4.out)) ?_
  rintro e v5 ⟨t5, rfl, ho5, hb5⟩
  have HB5 : Hid (Below w.heap.size w v5) := HB4.out.trans (hb5.mono HB4.out.size)
  have HC5 : Hid (CodesAt v5 av4 cs) := HC4.out.under hb5
  have D5 : Hid _ := RD.out v5 t5 _ ho5
  clear hb5 HB4 HC4 ho5 TO
  go_wp2_with fail
  refine Calls.mono D5.out ?_
  rintro e v6 ⟨av6, cap6, rfl, hcap6, hC6, hb6⟩
  have HB6 : Hid (Below w.heap.size w v6) := HB5.out.trans (hb6.mono HB5.out.size)
  have S6 : Hid _ := SA.out v6 av4 av6 cap4 cap6 hcap4 hcap6 (HC5.out.under hb6) hC6
  clear hb6 HB5 hC6 D5 RD HC5 SA
  go_wp2_with fail
  refine Calls.mono S6.out ?_
  rintro e v7 ⟨rfl, hb7⟩
  have HB7 : Hid (Below w.heap.size w v7) := HB6.out.trans (hb7.mono HB6.out.size)
  clear hb7 HB6 S6
  go_wp2_with fail
  refine Calls.mono (PR.out v7 (HI2.out.under HB7.out)) ?_
  rintro e v8 ⟨rfl, hb8⟩
  have HB8 : Hid (Below w.heap.size w v8) := HB7.out.trans (hb8.mono HB7.out.size)
  clear hb8 HB7 PR
  go_wp2_with fail
  refine Calls.mono (RP.out v8 (HI2.out.under HB8.out)) ?_
  rintro e v9 ⟨rfl, hb9⟩
  have HB9 : Hid (Below w.heap.size w v9) := HB8.out.trans (hb9.mono HB8.out.size)
  clear hb9 HB8 RP
  go_wp2
  go_ret
  exact ⟨rfl, HB9.out⟩
end Go.Proofs.YtlhdkhjajcfdoaaDoor
