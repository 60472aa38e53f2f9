/- A law's table along its calls; and a script that came in. -/
import Derived.Test.YtdnkgjjboonmnaaDoorSymGood
namespace Go.Proofs.YtdnkgjjboonmnaaDoor
open Go.RowKit

/-- The table of a law that began in the world w: it lies in new memory, and nothing old has turned. -/
structure Stand (w wr : World) (B kk : Nat) (T : Tab) (bs : List Nat) : Prop where
  tab : TabAt wr bs B kk T
  ok : T.Ok kk
  good : T.Good
  low : ∀ b ∈ bs, w.heap.size ≤ b
  below : Below w.heap.size w wr
  kb : KB w
theorem Stand.now {w wr w' : World} {B kk : Nat} {T T' : Tab} {bs : List Nat} (h : Stand w wr B kk T bs) (hn : Now bs wr B kk T' w') (ho : T'.Ok (kk + 2)) (hg : T'.Good) : ∃ bs', Stand w w' B (kk + 2) T' bs' ∧ Goes bs wr bs' w' := by
  obtain ⟨bs', ht, hG⟩ := hn
  have := hG.below h.below.size h.low
  exact ⟨bs', ⟨ht, ho, hg, this.2, h.below.trans this.1, h.kb⟩, hG⟩
theorem Stand.under {w wr w' : World} {B kk : Nat} {T : Tab} {bs : List Nat} (h : Stand w wr B kk T bs) (hb : Below wr.heap.size wr w') : Stand w w' B kk T bs :=
  ⟨h.tab.below hb, h.ok, h.good, h.low, h.below.trans (hb.mono h.below.size), h.kb⟩
theorem Stand.kbr {w wr : World} {B kk : Nat} {T : Tab} {bs : List Nat} (h : Stand w wr B kk T bs) : KB wr := h.kb.below h.below h.kb.pos
theorem Stand.up {w wr : World} {B kk k' : Nat} {T : Tab} {bs : List Nat} (h : Stand w wr B kk T bs) (hk : kk ≤ k') : Stand w wr B k' T bs := ⟨h.tab.up hk, h.ok.up hk, h.good, h.low, h.below, h.kb⟩
theorem Stand.doing {w wr w' : World} {B kk : Nat} {T : Tab} {bs : List Nat} {kind : Int} {s : ByteArray} (h : Stand w wr B kk T bs) (hn : Now bs wr B kk (doT T kind s) w') : ∃ bs', Stand w w' B (kk + 2) (doT T kind s) bs' ∧ Goes bs wr bs' w' := h.now hn (ok_do kind s h.ok) (good_do kind s h.good h.ok)
theorem Stand.consts {w wr w' : World} {B kk : Nat} {T : Tab} {bs : List Nat} {s : ByteArray} (h : Stand w wr B kk T bs) (hn : Now bs wr B kk (constR T s).2.2 w') : ∃ bs', Stand w w' B (kk + 2) (constR T s).2.2 bs' ∧ Goes bs wr bs' w' := h.now hn (ok_const s h.ok) (good_const s h.good h.ok)
theorem Stand.vars {w wr w' : World} {B kk : Nat} {T : Tab} {bs : List Nat} {s : ByteArray} (h : Stand w wr B kk T bs) (hn : Now bs wr B kk (varR T s).2.2 w') : ∃ bs', Stand w w' B (kk + 2) (varR T s).2.2 bs' ∧ Goes bs wr bs' w' := h.now hn (ok_var s h.ok) (good_var s h.good h.ok)
theorem Stand.opens {w wr w' : World} {B kk : Nat} {T : Tab} {bs : List Nat} (h : Stand w wr B kk T bs) (hn : Now bs wr B kk (openR T).2 w') : ∃ bs', Stand w w' B (kk + 2) (openR T).2 bs' ∧ Goes bs wr bs' w' := h.now hn ((ok_open h.ok).up (by omega)) (good_open h.good)
theorem Stand.closes {w wr w' : World} {B kk : Nat} {T : Tab} {bs : List Nat} (h : Stand w wr B kk T bs) (hn : Now bs wr B kk (closeR T).2 w') : ∃ bs', Stand w w' B (kk + 2) (closeR T).2 bs' ∧ Goes bs wr bs' w' := h.now hn ((ok_close h.ok).up (by omega)) (good_close h.good)
theorem Stand.labels {w wr w' : World} {B kk : Nat} {T : Tab} {bs : List Nat} {s : ByteArray} (h : Stand w wr B kk T bs) (hn : Now bs wr B kk (labelR T s).2 w') : ∃ bs', Stand w w' B (kk + 2) (labelR T s).2 bs' ∧ Goes bs wr bs' w' := h.now hn ((ok_label s h.ok).up (by omega)) (good_label s h.good)
theorem Stand.start {w w' : World} {B : Nat} {bs : List Nat} (hKB : KB w) (hb : Below w.heap.size w w') (ht : TabAt w' bs B 4 tab2) (hl : ∀ b ∈ bs, w.heap.size ≤ b) : Stand w w' B 4 tab2 bs := ⟨ht, ok_tab2, good_tab2, hl, hb, hKB⟩

/-- A script that came in: element i holds a kind, a string and a number. -/
def ScriptIs (w : World) (a0 : Option Addr) (len : Nat) (K : Nat → Int) (S : Nat → ByteArray) (M : Nat → Int) : Prop :=
  ∀ i, i < len → ∃ b off, a0 = some ⟨b, off, none⟩ ∧ w.cell? ⟨b, off + i * 3, none⟩ = some (.int .i64 (K i)) ∧ w.cell? ⟨b, off + i * 3 + 1, none⟩ = some (.string (S i)) ∧ w.cell? ⟨b, off + i * 3 + 2, none⟩ = some (.int .i64 (M i)) ∧ (S i).size ≤ maxLen
theorem ScriptIs.at {w wr : World} {a0 : Option Addr} {len : Nat} {K : Nat → Int} {S : Nat → ByteArray} {M : Nat → Int} (h : ScriptIs w a0 len K S M) (hb : Below w.heap.size w wr) {i : Nat} (hi : i < len) :
    ∃ b off, a0 = some ⟨b, off, none⟩ ∧ wr.cell? ⟨b, off + i * 3, none⟩ = some (.int .i64 (K i)) ∧ wr.cell? ⟨b, off + i * 3 + 1, none⟩ = some (.string (S i)) ∧ wr.cell? ⟨b, off + i * 3 + 2, none⟩ = some (.int .i64 (M i)) ∧ (S i).size ≤ maxLen := by
  obtain ⟨b, off, e, h0, h1, h2, hs⟩ := h i hi
  have hlt : b < w.heap.size := World.block_lt_of_cell? _ _ h0
  exact ⟨b, off, e, (hb.cell (p := ⟨b, off + i * 3, none⟩) hlt).trans h0, (hb.cell (p := ⟨b, off + i * 3 + 1, none⟩) hlt).trans h1, (hb.cell (p := ⟨b, off + i * 3 + 2, none⟩) hlt).trans h2, hs⟩

theorem sym_at {T : Tab} {n : Nat} {p : ByteArray × Bool} (h : T.syms[n]? = some p) : symAt T (n : Int) = some p := by
  unfold symAt
  rw [if_pos (by omega)]
  simpa using h
theorem sym_none {T : Tab} {n : Nat} (h : T.syms.length ≤ n) : symAt T (n : Int) = none := by
  unfold symAt
  rw [if_pos (by omega)]
  simpa using h
theorem act_at {T : Tab} {n : Nat} {p : ByteArray × Bool} (hnd : (T.syms.map (·.1)).Nodup) (h : T.syms[n]? = some p) : actOf T p.1 = if n ∈ T.act then some n else none := by
  unfold actOf
  rw [numOf_at hnd h]
  by_cases hm : n ∈ T.act <;> simp [Option.filter, hm]
theorem active_at {T : Tab} {n : Nat} {p : ByteArray × Bool} (hnd : (T.syms.map (·.1)).Nodup) (h : T.syms[n]? = some p) : activeOf T (n : Int) = decide (n ∈ T.act) := by
  unfold activeOf
  rw [sym_at h]
  show (actOf T p.1).isSome = _
  rw [act_at hnd h]
  by_cases hm : n ∈ T.act <;> simp [hm]
theorem const_known {T : Tab} {n : Nat} {p : ByteArray × Bool} (hnd : (T.syms.map (·.1)).Nodup) (hm : madeB p.1 3 = true) (h : T.syms[n]? = some p) (h0 : T.scopes.length = 0) : constR T p.1 = (0, 20, T) := by
  unfold constR
  rw [if_neg (by omega), if_neg (by rw [hm]; decide), if_pos (by rw [numOf_at hnd h]; rfl)]
theorem var_known {T : Tab} {n : Nat} {p : ByteArray × Bool} (hnd : (T.syms.map (·.1)).Nodup) (hm : madeB p.1 3 = true) (h : T.syms[n]? = some p) : varR T p.1 = if n ∈ T.act then (0, 20, T) else (n, 0, actT T n) := by
  unfold varR
  rw [if_neg (by rw [hm]; decide), act_at hnd h]
  by_cases ha : n ∈ T.act
  · rw [if_pos ha, if_pos (by rfl), if_pos ha]
  · rw [if_neg ha, if_neg (by simp), if_neg ha, numOf_at hnd h]
end Go.Proofs.YtdnkgjjboonmnaaDoor
