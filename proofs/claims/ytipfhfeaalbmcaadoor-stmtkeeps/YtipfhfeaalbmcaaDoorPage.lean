/- A page that is being printed: a strings.Builder inside a struct: copyCheck, Len, WriteString, WriteByte, String, put. -/
import Derived.Test.YtipfhfeaalbmcaaDoorToks
import Derived.Lib.Builder
import Derived.Lib.AppendStr
import Derived.Lib.UnsafeStr
import Derived.Lib.MakeNoZero
import Derived.Laws.Externs
import Derived.Shelf.RegionOpenPlain
namespace Go.Proofs.YtipfhfeaalbmcaaDoor
open Go.RowKit

def byteV (c : UInt8) : Value := .int .u8 c.toNat
theorem infoY : (Tryd.prog.info? 5).map (fun i => (i.zero, i.size, i.bytes)) = some (some (.int .u8 0), 1, 1) := by kernel_rfl
theorem strCells_map (s : ByteArray) : Lib.strCells s = s.data.toList.map byteV := rfl
theorem size_list (s : ByteArray) : s.data.toList.length = s.size := by rw [Array.length_toList]; rfl
section
variable {P : Program} {w : World}
theorem run_append_str_lies (base : Nat) (t u ty e : TypeId) (i : TypeInfo) (ht : P.underlying t = some (.slice e)) (hu : P.underlying u = some .string) (hi : P.info? e = some i) (hz : i.zero = some (.int .u8 0)) (hsize : i.size = 1) (hby : i.bytes = 1)
    (v : Value) (n : Nat) (xs : List Value) (hown : w.ownsRow base e 1 v n xs) (s : ByteArray) (h63 : n + s.size ≤ maxLen) (hbytes : n + s.size ≤ 140737488355328) (hbase : base ≤ w.heap.size) :
    ∃ a c w', (Builtin.append_ #[t, u] ty #[v, .string s]).run P w = .ok (.slice a (n + s.size) c) w' ∧ w'.ownsRow base e 1 (.slice a (n + s.size) c) (n + s.size) (xs ++ Lib.strCells s) ∧ w.grownBy w' v.ownBlock ∧ ∀ b, (Value.slice a (n + s.size) c).ownBlock = some b → v.ownBlock = some b ∨ w.heap.size ≤ b := by
  obtain ⟨v', w', hr, h2, h3, _⟩ := Lib.run_append_own_string (P := P) (w := w) base t u ty e i ht hu hi hz hsize hby v n xs hown s h63 hbytes hbase
  obtain ⟨a', c', rfl, _⟩ := own_shape h2
  refine ⟨a', c', w', hr, h2, h3, fun b hb => ?_⟩
  have hxl : xs.length = n := by simpa using hown.1
  rcases hown.2 with ⟨rfl, rfl⟩ | ⟨g, cap, cur, rfl, hbg, hg, hnc, hcm, hcs, htake⟩
  · have hx : xs = [] := List.eq_nil_of_length_eq_zero hxl
    subst hx
    obtain ⟨v2, w2, hr2, k2, _, _⟩ := Lib.run_append_own_string (P := P) (w := w) w.heap.size t u ty e i ht hu hi hz hsize hby (.slice none 0 0) 0 [] (World.ownsRow_nil _ _ _ _) s h63 hbytes (Nat.le_refl _)
    rw [hr] at hr2
    simp only [Result.ok.injEq] at hr2
    obtain ⟨e2, e3⟩ := hr2
    rw [← e2, ← e3] at k2
    exact .inr (M.own_ge' k2 b hb)
  · by_cases hroom : n + s.size ≤ cap
    · have hr' := Lib.run_append_room_string (P := P) w t u ty e i ht hu hi hsize g n cap cur hg s hroom (by omega)
      rw [hr] at hr'
      simp only [Result.ok.injEq, Value.slice.injEq] at hr'
      obtain ⟨⟨rfl, _⟩, _⟩ := hr'
      cases hb
      exact .inl rfl
    · have holds : ∀ j u, xs[j]? = some u → w.cell? ((⟨g, 0, none⟩ : Addr).add j) = some u := hown.cells (g := g) rfl
      have hr' := Lib.run_append_grow_string (P := P) w t u ty e i (.int .u8 0) ht hu hi hz ⟨g, 0, none⟩ n cap xs (by rw [hsize]; simpa using hxl) holds s (by omega) (by omega) (by rw [hby]; exact growslice_fits (by omega) (by omega))
      rw [hr] at hr'
      simp only [Result.ok.injEq, Value.slice.injEq] at hr'
      obtain ⟨⟨rfl, _⟩, _⟩ := hr'
      cases hb
      exact .inr (Nat.le_refl _)
/-- append of a string to a row of bytes of one's own. -/
theorem wpList_append_str {ops : Array Oper} {rest : List Oper} {o : Oper} {a : Act} {Q : Exit → Act → World → Prop} (hgd : o.guard = none) (s x : Operand) (t u : TypeId)
    (ho : o.op = .call { callee := .builtin .append, args := #[s, x], argTypes := #[t, u] })
    (base : Nat) (e : TypeId) (i : TypeInfo) (ht : P.underlying t = some (.slice e)) (hu : P.underlying u = some .string) (hi : P.info? e = some i) (hz : i.zero = some (.int .u8 0)) (hsize : i.size = 1) (hby : i.bytes = 1)
    (v : Value) (n : Nat) (xs : List Value) (hs : a.eval s = v) (hown : w.ownsRow base e 1 v n xs) (str : ByteArray) (hx : a.eval x = .string str)
    (h63 : n + str.size ≤ maxLen) (hbytes : n + str.size ≤ 140737488355328) (hbase : base ≤ w.heap.size)
    (h : ∀ a' c' w', w'.ownsRow base e 1 (.slice a' (n + str.size) c') (n + str.size) (xs ++ Lib.strCells str) → w.grownBy w' v.ownBlock → (∀ b, (Value.slice a' (n + str.size) c').ownBlock = some b → v.ownBlock = some b ∨ w.heap.size ≤ b) → wpList P ops Q rest (a.put o.dst (.slice a' (n + str.size) c')) w') : wpList P ops Q (o :: rest) a w := by
  refine wpList_plain hgd fun K hK => ?_
  obtain ⟨a', c', w', hr, h2, h3, h4⟩ := run_append_str_lies (P := P) (w := w) base t u o.type e i ht hu hi hz hsize hby v n xs hown str h63 hbytes hbase
  unfold Oper.wp execOp
  simp only [ho, resolve, invoke, builtin, Sem.run_bind, Sem.run_pure, Result.andThen_ok, List.map_toArray, List.map_cons, List.map_nil, hs, hx, hr]
  exact hK _ _ (h a' c' w' h2 h3 h4)
end
/-- A page's state: its bytes, how many words, whether one found no room. -/
structure Pst where
  bs : List UInt8
  n : Nat
  full : Bool
structure PageAt (w : World) (P : Nat) (v : Value) (s : Pst) : Prop where
  box : ∃ p, (p = .pointer none ∨ p = .pointer (some ⟨P, 0, none⟩)) ∧ w.heap[P]? = some (.cells #[p, v, .int .i64 s.n, .bool s.full] 89 (0, 0))
  own : w.ownsRow (P + 1) 5 1 v s.bs.length (s.bs.map byteV)
  nil : s.bs = [] → v = .slice none 0 0
  len : s.bs.length ≤ 65536
  num : s.n ≤ 16384
/-- What turns beside a page: the page itself, its row, and what is new. -/
structure Pg (P : Nat) (w : World) (v : Value) (w' : World) (v' : Value) : Prop where
  ch : M.Ch (fun g => g = P ∨ v.ownBlock = some g) w w'
  loc : ∀ g, v'.ownBlock = some g → v.ownBlock = some g ∨ w.heap.size ≤ g
theorem Pg.refl (P : Nat) (w : World) (v : Value) : Pg P w v w v := ⟨M.Ch.refl _ _, fun _ e => .inl e⟩
theorem Pg.trans {P : Nat} {a b c : World} {u v x : Value} (h : Pg P a u b v) (k : Pg P b v c x) : Pg P a u c x :=
  ⟨⟨k.ch.os.trans h.ch.os, k.ch.tape.trans h.ch.tape, k.ch.output.trans h.ch.output, Nat.le_trans h.ch.size k.ch.size, fun g hg hx => (k.ch.block g (Nat.lt_of_lt_of_le hg h.ch.size) fun e => e.elim (fun e => hx (.inl e)) fun e => (h.loc g e).elim (fun e => hx (.inr e)) fun e => by omega).trans (h.ch.block g hg hx)⟩,
   fun g e => (k.loc g e).elim (h.loc g) fun e => .inr (Nat.le_trans h.ch.size e)⟩
theorem Pg.of_below {P : Nat} {a b : World} {v : Value} (h : Below a.heap.size a b) : Pg P a v b v := ⟨M.Ch.of_below h, fun _ e => .inl e⟩
theorem PageAt.down {w w' : World} {P : Nat} {v : Value} {s : Pst} (h : PageAt w P v s) (hb : Below w.heap.size w w') : PageAt w' P v s := by
  obtain ⟨p, hp, hk⟩ := h.box
  exact ⟨⟨p, hp, (hb.block P (Array.getElem?_eq_some_iff.1 hk).1).trans hk⟩, M.owns_ch h.own (M.Ch.of_below (X := fun _ => False) hb) (fun _ _ e => e), h.nil, h.len, h.num⟩
theorem PageAt.lt {w : World} {P : Nat} {v : Value} {s : Pst} (h : PageAt w P v s) : P < w.heap.size := by
  obtain ⟨p, hp, hk⟩ := h.box
  exact (Array.getElem?_eq_some_iff.1 hk).1
theorem PageAt.ge {w : World} {P : Nat} {v : Value} {s : Pst} (h : PageAt w P v s) : ∀ g, v.ownBlock = some g → P < g := fun g e => M.own_ge' h.own g e
theorem Pg.below {P N : Nat} {a b : World} {u v : Value} {s : Pst} (h : Pg P a u b v) (hp : PageAt a P u s) (hN : N ≤ P) : Below N a b :=
  h.ch.below (by have := hp.lt; omega) fun g e => e.elim (fun e => by omega) fun e => by have := hp.ge g e; omega

set_option maxRecDepth 100000 in
set_option maxHeartbeats 4000000 in
theorem pcopy_any (w : World) (P : Nat) (v : Value) (n : Int) (f : Bool) (p : Value) (hp : p = .pointer none ∨ p = .pointer (some ⟨P, 0, none⟩)) (hk : w.heap[P]? = some (.cells #[p, v, .int .i64 n, .bool f] 89 (0, 0))) :
    Calls Tryd.prog 88 #[.pointer (some ⟨P, 0, none⟩)] w fun e w' => e = .returned (.tuple #[]) ∧ w'.heap[P]? = some (.cells #[.pointer (some ⟨P, 0, none⟩), v, .int .i64 n, .bool f] 89 (0, 0)) ∧ M.Ch (fun g => g = P) w w' := by
  obtain ⟨j, hj, hjs⟩ : ∃ j, Tryd.prog.info? 87 = some j ∧ j.size = 2 := Option.map_eq_some_iff.1 (show (Tryd.prog.info? 87).map (·.size) = some 2 by kernel_rfl)
  have h0 : w.cell? ⟨P, 0, none⟩ = some p := M.cell_whole hk 0
  have hfz : w.frozen? ⟨P, 0, none⟩ = false := by simp [World.frozen?, hk]
  have hsh : w.shape? P = some (89, 4) := by simp [World.shape?, hk]
  have HK : Hid (w.heap[P]? = some (.cells #[p, v, .int .i64 n, .bool f] 89 (0, 0))) := hk
  clear hk
  rcases hp with rfl | rfl
  · go_enter Tryd.func88, Tryd.ntmps88
    go_wp2
    rw [Lib.run_to_unsafe _ ⟨P, 0, none⟩ Tryd.underlying85 Tryd.underlying149 hj (by rw [hjs]; decide) hsh (by show 0 < 4; omega)]
    simp only [Result.andThen]
    rw [Oper.upon_value]
    go_wp2
    rw [run_callFunc_extern Tryd.func95 (by kernel_rfl) (by kernel_rfl) (by kernel_rfl) (e := Extern.AbiNoEscape.same) (by kernel_rfl)]
    rw [Lib.run_noEscape]
    simp only [Result.andThen]
    rw [Oper.upon_value]
    go_wp2
    rw [Lib.run_from_unsafe _ ⟨P, 0, none⟩ Tryd.underlying149 Tryd.underlying85 hj hsh (by kernel_rfl)]
    simp only [Result.andThen]
    rw [Oper.upon_value]
    go_wp2
    go_end0
    exact ⟨rfl, M.heap_set_same HK.out, M.ch_set _ _ _ _⟩
  · go_enter Tryd.func88, Tryd.ntmps88
    go_wp2
    rw [Lib.run_neq_ptr_same _ _ Tryd.underlying85 hj]
    go_wp2
    go_end0
    exact ⟨rfl, HK.out, M.Ch.refl _ _⟩

theorem plen_any (w : World) (P : Nat) (v : Value) (s : Pst) (h : PageAt w P v s) : Calls Tryd.prog 80 #[.pointer (some ⟨P, 0, none⟩)] w fun e w' => e = .returned (.int .i64 s.bs.length) ∧ w' = w := by
  obtain ⟨p, _, hk⟩ := h.box
  obtain ⟨a, c, rfl, hc, _⟩ := M.own_cell h.own
  have h1 : w.cell? ⟨P, 1, none⟩ = some (.slice a s.bs.length c) := M.cell_whole hk 1
  clear h hk
  go_enter Tryd.func80, Tryd.ntmps80
  go_wp2
  go_ret
  exact ⟨rfl, rfl⟩

theorem Pg.of_ch {P : Nat} {w w1 w2 : World} {v v' : Value} (h1 : M.Ch (fun g => g = P) w w1) (h2 : w1.grownBy w2 v.ownBlock) (h3 : ∀ b, v'.ownBlock = some b → v.ownBlock = some b ∨ w1.heap.size ≤ b) (u : Value) : Pg P w v (w2.setCell ⟨P, 1, none⟩ u) v' :=
  ⟨((h1.mono fun _ e => .inl e).trans ((M.Ch.of_grown h2).mono fun _ e => .inr e)).trans ((M.ch_set w2 P 1 u).mono fun _ e => .inl e), fun g e => (h3 g e).elim .inl fun e => .inr (Nat.le_trans h1.size e)⟩

set_option maxRecDepth 100000 in
set_option maxHeartbeats 4000000 in
theorem pwrite_any (w : World) (P : Nat) (v p : Value) (n : Int) (f : Bool) (bs : List UInt8) (word : ByteArray) (hp : p = .pointer none ∨ p = .pointer (some ⟨P, 0, none⟩)) (hk : w.heap[P]? = some (.cells #[p, v, .int .i64 n, .bool f] 89 (0, 0))) (hown : w.ownsRow (P + 1) 5 1 v bs.length (bs.map byteV)) (hlen : bs.length + word.size ≤ 1099511627776) :
    Calls Tryd.prog 81 #[.pointer (some ⟨P, 0, none⟩), .string word] w fun e w' => e = .returned (.tuple #[.int .i64 word.size, .nilIface]) ∧ ∃ v', w'.heap[P]? = some (.cells #[.pointer (some ⟨P, 0, none⟩), v', .int .i64 n, .bool f] 89 (0, 0)) ∧ w'.ownsRow (P + 1) 5 1 v' (bs ++ word.data.toList).length ((bs ++ word.data.toList).map byteV) ∧ Pg P w v w' v' := by
  obtain ⟨i0, hi0, hz0, hz1, hz3⟩ := info_parts infoY
  obtain ⟨m, hm⟩ : ∃ m, bs.length = m := ⟨_, rfl⟩
  rw [hm] at hown hlen
  obtain ⟨a, c, rfl, hc, _⟩ := M.own_cell hown
  have CC : Hid _ := pcopy_any w P (.slice a m c) n f p hp hk
  have HO : Hid (w.ownsRow (P + 1) 5 1 (.slice a m c) m (bs.map byteV)) := hown
  have HP : Hid (P < w.heap.size) := (Array.getElem?_eq_some_iff.1 hk).1
  have HM : Hid (bs.length = m) := hm
  clear hp hk hown hm
  go_enter Tryd.func81, Tryd.ntmps81
  go_wp2_with fail
  refine Calls.mono CC.out ?_
  rintro e w1 ⟨rfl, hk1, hc1⟩
  have HO1 : Hid (w1.ownsRow (P + 1) 5 1 (.slice a m c) m (bs.map byteV)) := M.owns_ch HO.out hc1 fun g e hx => by have h1 := M.own_ge' HO.out g e; omega
  have C1 : Hid (M.Ch (fun g => g = P) w w1) := hc1
  have c1 : w1.cell? ⟨P, 1, none⟩ = some (.slice a m c) := M.cell_whole hk1 1
  have HK1 : Hid (w1.heap[P]? = some (.cells #[.pointer (some ⟨P, 0, none⟩), .slice a m c, .int .i64 n, .bool f] 89 (0, 0))) := hk1
  clear hk1 hc1 CC HO
  go_wp2_with (at_builtin; refine wpList_append_str (w := w1) rfl _ _ _ _ rfl (P + 1) 5 i0 Tryd.underlying81 Tryd.underlying9 hi0 hz0 hz1 hz3 _ m (bs.map byteV) (by rfl) (by exact HO1.out) word (by rfl) (by unfold maxLen; omega) (by omega) (by have h1 := C1.out.size; have h2 := HP.out; omega) ?_; intro a2 c2 w2 ho2 hg2 hl2; have HO2 : Hid (w2.ownsRow (P + 1) 5 1 (.slice a2 (m + word.size) c2) (m + word.size) (bs.map byteV ++ Lib.strCells word)) := ho2; have HG2 : Hid (w1.grownBy w2 (Value.slice a m c).ownBlock) := hg2; have HL2 : Hid (∀ b, (Value.slice a2 (m + word.size) c2).ownBlock = some b → (Value.slice a m c).ownBlock = some b ∨ w1.heap.size ≤ b) := hl2; clear ho2 hg2 hl2; have HK2 : Hid (w2.heap[P]? = some (.cells #[.pointer (some ⟨P, 0, none⟩), .slice a m c, .int .i64 n, .bool f] 89 (0, 0))) := (HG2.out.block P (by have h1 := C1.out.size; have h2 := HP.out; omega) (fun e => by have h1 := M.own_ge' HO1.out P e.symm; omega)).trans HK1.out; have c2' : w2.cell? ⟨P, 1, none⟩ = some (.slice a m c) := M.cell_whole HK2.out 1; have f2' : w2.frozen? ⟨P, 1, none⟩ = false := by simp [World.frozen?, HK2.out])
  go_ret2
  refine ⟨rfl, .slice a2 (m + word.size) c2, M.heap_set_same HK2.out, ?_, Pg.of_ch C1.out HG2.out HL2.out _⟩
  rw [List.length_append, HM.out, size_list, List.map_append]
  exact M.owns_ch HO2.out (M.ch_set w2 P 1 _) fun g e hx => by have h1 := M.own_ge' HO2.out g e; omega

set_option maxRecDepth 100000 in
set_option maxHeartbeats 4000000 in
theorem pbyte_any (w : World) (P : Nat) (v p : Value) (n : Int) (f : Bool) (bs : List UInt8) (ch : UInt8) (ci : Int) (hci : (ch.toNat : Int) = ci) (hp : p = .pointer none ∨ p = .pointer (some ⟨P, 0, none⟩)) (hk : w.heap[P]? = some (.cells #[p, v, .int .i64 n, .bool f] 89 (0, 0))) (hown : w.ownsRow (P + 1) 5 1 v bs.length (bs.map byteV)) (hlen : bs.length ≤ 1099511627776) :
    Calls Tryd.prog 82 #[.pointer (some ⟨P, 0, none⟩), .int .u8 ci] w fun e w' => e = .returned .nilIface ∧ ∃ v', w'.heap[P]? = some (.cells #[.pointer (some ⟨P, 0, none⟩), v', .int .i64 n, .bool f] 89 (0, 0)) ∧ w'.ownsRow (P + 1) 5 1 v' (bs ++ [ch]).length ((bs ++ [ch]).map byteV) ∧ Pg P w v w' v' := by
  obtain ⟨i0, hi0, hz0, hz1, hz3⟩ := info_parts infoY
  obtain ⟨m, hm⟩ : ∃ m, bs.length = m := ⟨_, rfl⟩
  rw [hm] at hown hlen
  obtain ⟨a, c, rfl, hc, _⟩ := M.own_cell hown
  have CC : Hid _ := pcopy_any w P (.slice a m c) n f p hp hk
  have HO : Hid (w.ownsRow (P + 1) 5 1 (.slice a m c) m (bs.map byteV)) := hown
  have HP : Hid (P < w.heap.size) := (Array.getElem?_eq_some_iff.1 hk).1
  have HM : Hid (bs.length = m) := hm
  have HCI : Hid ((ch.toNat : Int) = ci) := hci
  clear hp hk hown hm hci
  go_enter Tryd.func82, Tryd.ntmps82
  go_wp2_with fail
  refine Calls.mono CC.out ?_
  rintro e w1 ⟨rfl, hk1, hc1⟩
  have HO1 : Hid (w1.ownsRow (P + 1) 5 1 (.slice a m c) m (bs.map byteV)) := M.owns_ch HO.out hc1 fun g e hx => by have h1 := M.own_ge' HO.out g e; omega
  have C1 : Hid (M.Ch (fun g => g = P) w w1) := hc1
  have c1 : w1.cell? ⟨P, 1, none⟩ = some (.slice a m c) := M.cell_whole hk1 1
  have HK1 : Hid (w1.heap[P]? = some (.cells #[.pointer (some ⟨P, 0, none⟩), .slice a m c, .int .i64 n, .bool f] 89 (0, 0))) := hk1
  clear hk1 hc1 CC HO
  go_wp2_with (at_builtin; refine wpList_append_lies (w := w1.alloc (.cells #[.int .u8 ci] 5)) rfl _ _ _ rfl (P + 1) 5 i0 (.int .u8 0) 1 1 Tryd.underlying81 hi0 hz0 hz1 hz3 rfl (by decide) _ m (bs.map byteV) (by rfl) (by exact M.owns_alloc HO1.out _) ⟨w1.heap.size, 0, none⟩ 1 1 [.int .u8 ci] (by rfl) (by rfl) (fun j' u hu => World.news_of_block (cs := #[.int .u8 ci]) (t := 5) (fr := (0, 0)) (heap_alloc_new w1 _) j' u hu) (by simp [Value.oneCell']) (by omega) (by unfold maxLen; omega) (by omega) (by have h1 := C1.out.size; have h2 := HP.out; simp; omega) _ rfl ?_; intro g2 c2 w2 ho2 hg2 hl2 _; have HO2 : Hid (w2.ownsRow (P + 1) 5 1 (.slice (some ⟨g2, 0, none⟩) (m + 1) c2) (m + 1) (bs.map byteV ++ [.int .u8 ci])) := ho2; have HG2 : Hid ((w1.alloc (.cells #[.int .u8 ci] 5)).grownBy w2 (Value.slice a m c).ownBlock) := hg2; have HL2 : Hid ((Value.slice a m c).ownBlock = some g2 ∨ g2 = (w1.alloc (.cells #[.int .u8 ci] 5)).heap.size) := hl2; clear ho2 hg2 hl2; have HK2 : Hid (w2.heap[P]? = some (.cells #[.pointer (some ⟨P, 0, none⟩), .slice a m c, .int .i64 n, .bool f] 89 (0, 0))) := (HG2.out.block P (by have h1 := C1.out.size; have h2 := HP.out; simp; omega) (fun e => by have h1 := M.own_ge' HO1.out P e.symm; omega)).trans (((below_alloc w1 _).block P (by have h1 := C1.out.size; have h2 := HP.out; omega)).trans HK1.out); have c2' : w2.cell? ⟨P, 1, none⟩ = some (.slice a m c) := M.cell_whole HK2.out 1; have f2' : w2.frozen? ⟨P, 1, none⟩ = false := by simp [World.frozen?, HK2.out])
  go_ret
  refine ⟨rfl, .slice (some ⟨g2, 0, none⟩) (m + 1) c2, M.heap_set_same HK2.out, ?_, ?_⟩
  · rw [List.length_append, HM.out, List.map_append]
    have h3 : w2.ownsRow (P + 1) 5 1 (.slice (some ⟨g2, 0, none⟩) (m + 1) c2) (m + 1) (bs.map byteV ++ [ch].map byteV) := by
      have h := HO2.out
      rw [← HCI.out] at h
      exact h
    exact M.owns_ch h3 (M.ch_set w2 P 1 _) fun g e hx => by have h1 := M.own_ge' HO2.out g e; omega
  · refine Pg.trans (Pg.of_below (P := P) (Below.refl _ w)) ?_
    have hc3 : M.Ch (fun g => g = P) w (w1.alloc (.cells #[.int .u8 ci] 5)) := C1.out.trans (M.Ch.of_below (below_alloc w1 _))
    exact Pg.of_ch hc3 HG2.out (M.loc_of HL2.out) _

set_option maxRecDepth 100000 in
set_option maxHeartbeats 4000000 in
theorem pstr_any (w : World) (P : Nat) (v : Value) (s : Pst) (h : PageAt w P v s) : Calls Tryd.prog 34 #[.pointer (some ⟨P, 0, none⟩)] w fun e w' => e = .returned (.string ⟨s.bs.toArray⟩) ∧ Below (P + 1) w w' := by
  obtain ⟨p, hp, hbk⟩ := h.box
  by_cases h0 : s.bs = []
  · have hv := h.nil h0
    subst hv
    rw [h0]
    have hUS := Lib.run_unsafeString_none (P := Tryd.prog) (w := w.drew) 129 3 9
    have c1 : w.drew.cell? ⟨P, 1, none⟩ = some (.slice none 0 0) := M.cell_whole hbk 1
    have hSD : (Builtin.unsafeSliceData_ #[81] 129 #[.slice none 0 0]).run Tryd.prog w.drew = .ok (.pointer none) w.drew := rfl
    have mixed : Tryd.prog.follows Departure.mixedOrders = true := by kernel_rfl
    clear h hbk hp h0
    go_enter Tryd.func34, Tryd.ntmps34
    go_wp2
    go_region_o
    all_goals (go_wp2; go_ret; exact ⟨rfl, Below.drew (Below.refl _ w)⟩)
  · have hown := h.own
    have hl0 : s.bs.length ≠ 0 := by simpa using h0
    obtain ⟨bs, n, f⟩ := s
    dsimp only at *
    obtain ⟨g, cap, cur, rfl, hbg, hg, hnc, hcm, hcs, htake⟩ : ∃ g cap cur, v = .slice (some ⟨g, 0, none⟩) bs.length cap ∧ P + 1 ≤ g ∧ w.heap[g]? = some (.cells cur 5 (0, 0)) ∧ bs.length ≤ cap ∧ cap ≤ maxLen ∧ cur.size = cap * 1 ∧ cur.toList.take (bs.length * 1) = bs.map byteV := by
      rcases hown.2 with ⟨_, hz⟩ | ⟨g, cap, cur, hv, r⟩
      · exact absurd hz hl0
      · exact ⟨g, cap, cur, hv, r⟩
    have c1 : w.drew.cell? ⟨P, 1, none⟩ = some (.slice (some ⟨g, 0, none⟩) bs.length cap) := M.cell_whole hbk 1
    have hSD : (Builtin.unsafeSliceData_ #[81] 129 #[.slice (some ⟨g, 0, none⟩) bs.length cap]).run Tryd.prog w.drew = .ok (.pointer (some ⟨g, 0, none⟩)) w.drew := Lib.run_unsafeSliceData_row _ _ _ _ _ _ (by omega)
    have hUS : (Builtin.unsafeString_ #[129, 3] 9 #[.pointer (some ⟨g, 0, none⟩), .int .i64 bs.length]).run Tryd.prog w.drew = .ok (.string ⟨bs.toArray⟩) (w.drew.freeze ⟨g, 0, none⟩ bs.length) := by
      refine Lib.run_unsafeString_row w.drew 129 3 9 5 Tryd.underlying129 (by kernel_rfl) g cur.size (by have hg' : w.drew.heap[g]? = some (.cells cur 5 (0, 0)) := hg; simp [World.shape?, hg']) bs h0 (by omega) (by unfold maxLen at hcm; omega) ?_
      intro j x hx
      have := hown.cells (g := g) rfl j (.int .u8 x.toNat) (by simp [hx, byteV])
      exact this
    have mixed : Tryd.prog.follows Departure.mixedOrders = true := by kernel_rfl
    clear h hbk hp htake hown
    go_enter Tryd.func34, Tryd.ntmps34
    go_wp2
    go_region_o
    all_goals (go_wp2; go_ret; exact ⟨rfl, Lib.below_freeze (Below.drew (Below.refl _ w)) (p := ⟨g, 0, none⟩) hbg _⟩)
end Go.Proofs.YtipfhfeaalbmcaaDoor
