/- Laid together: FFrC, FFrE, FFrI, FFrK. -/
import Derived.Test.YtbancemhfjjmlaaGreatDoorTk
import Derived.Test.YtbancemhfjjmlaaGreatDoorQA14
set_option maxRecDepth 100000
set_option maxHeartbeats 32000000
namespace Go.Proofs.YtbancemhfjjmlaaGreatDoor
namespace F
open Go.Maps Go.RowKit Go.WideMaps
variable {tq:Nat} {isV:Int→Bool}
theorem qd3 {w:World}{base e size g n c o:Nat}{l:List Value}{v:Value}(h:w.ownsRow base e size (.slice (some ⟨g,0,none⟩) n c) n l):(w.setCell ⟨g,o,none⟩ v).ownsRow base e size (.slice (some ⟨g,0,none⟩) n c) n (l.set o v):=by
 refine⟨by rw[List.length_set];exact h.1,?_⟩
 rcases h.2 with ⟨e',_⟩ | ⟨g',cap',cur,hv,hg',hh,hn,hc,hsz,ht⟩
 ·cases e'
 ·simp only[Value.slice.injEq,Option.some.injEq,Addr.mk.injEq] at hv
  obtain⟨⟨rfl,_⟩,_,rfl⟩:=hv
  refine .inr ⟨g,c,cur.setIfInBounds o v,rfl,hg',S.M.qj hh,hn,hc,by rw[Array.size_setIfInBounds];exact hsz,?_⟩
  rw[Array.toList_setIfInBounds,List.take_set,ht]
theorem qa7 {base e size g n c:Nat}{l:List Value}:∀(vs:List Value) (o:Nat) (w:World),w.ownsRow base e size (.slice (some ⟨g,0,none⟩) n c) n l→n * size≤o→(w.setCells g o vs).ownsRow base e size (.slice (some ⟨g,0,none⟩) n c) n l
 | [],_,_,h,_=>h
 | v :: vs,o,w,h,ho=>by
  have h1:=qd3 (o:=o) (v:=v) h
  rw[List.set_eq_of_length_le (by rw[h.1];exact ho)] at h1
  exact qa7 vs (o + 1) _ h1 (by omega)
theorem q69 (g:Nat):∀(vs:List Value) (o:Nat) (w:World),S.M.Ch (fun b=>b=g) w (w.setCells g o vs)
 | [],_,w=>S.M.Ch.of_below (Below.refl _ w)
 | v :: vs,o,w=>(S.M.xu w g o v).trans (q69 g vs (o + 1) _)
theorem qa8 {w:World}{base e size g n c k:Nat}{l:List Value}(h:w.ownsRow base e size (.slice (some ⟨g,0,none⟩) n c) n l)(hk:k≤n):w.ownsRow base e size (.slice (some ⟨g,0,none⟩) k c) k (l.take (k * size)):=by
 rcases h.2 with ⟨e',_⟩ | ⟨g',cap',cur,hv,hg',hh,hn,hc,hsz,ht⟩
 ·cases e'
 ·simp only[Value.slice.injEq,Option.some.injEq,Addr.mk.injEq] at hv
  obtain⟨⟨rfl,_⟩,_,rfl⟩:=hv
  have hle:k * size≤n * size:=Nat.mul_le_mul_right _ hk
  refine⟨by rw[List.length_take,h.1];omega,.inr ⟨g,c,cur,rfl,hg',hh,by omega,hc,hsz,?_⟩⟩
  rw[←ht,List.take_take,Nat.min_eq_left hle]
theorem q5y {P:Program} (w:World) (t e ty:TypeId) (z:Value) (ht:P.underlying t=some (.slice e)) (hv:∀w,(zeroValue e).run P w=.ok z w) (h0:0 < z.cells.size) (h1:∀j,j < z.cells.size→(z.cells[j]!).oneCell'=true) (b o n c:Nat) (hn:0 < n)
  (hc:∀j,j < n * z.cells.size→(w.cell? ⟨b,o + j,none⟩).isSome=true) (hf:∀j,j < n * z.cells.size→w.frozen? ⟨b,o + j,none⟩=false) :
  (Builtin.clear_ #[t] ty #[.slice (some ⟨b,o,none⟩) n c]).run P w=.ok (.tuple #[]) (w.setCells b o (Builtin.zeroCells z.cells n).toList):=by
 have hsz:(Builtin.zeroCells z.cells n).toList.length=n * z.cells.size:=by rw[Array.length_toList,size_zeroCells]
 have hst:=run_storeCells_cells (P:=P) b o (Builtin.zeroCells z.cells n).toList 0 w (by rw[hsz];simpa using hc) (by rw[hsz];simpa using hf) (by
  intro v hv'
  obtain⟨i,hi,rfl⟩:=Array.mem_iff_getElem.1 (Array.mem_toList_iff.1 hv')
  simp only[Builtin.zeroCells,Array.getElem_map]
  exact h1 _ (Nat.mod_lt _ h0))
 simp only[Nat.add_zero] at hst
 obtain⟨m,rfl⟩:∃m,n=m + 1:=⟨n - 1,by omega⟩
 simp[Builtin.clear_,run_underlying ht,hv,hst]
theorem qw.under {N:Nat}{O:Nat→Prop}{W W':World}{P:Nat}{vS:Value}{xs:List ScC}(h:qw tq O W P vS xs)(hb:Below N W W')(hO:∀g,O g→g < N):qw tq O W' P vS xs:=by
 have hc:=q4a hb
 have no:∀g,O g→¬N≤g:=fun g hg=>by have:=hO g hg;omega
 exact⟨(hc.block P (h.lt P h.bo) (no P h.bo)).trans h.box,h.bo,S.M.qh h.row hc fun g e=>no g (h.ro g e),h.ro,fun x hx=>(h.each x hx).ch hc (fun g e=>no g ((h.each x hx).lo g e)) (fun y hy g e=>no g (((h.each x hx).e y hy).2 g e)) (no _ (h.each x hx).mo) (fun g e=>no g ((h.each x hx).po g e)),h.ap,fun g hg=>Nat.lt_of_lt_of_le (h.lt g hg) hb.size⟩
theorem qio:∀(l:List Pp) (i j:Nat) (x:Pp),l[i]?=some x→j < 2→(je l)[i * 2 + j]?=[Value.int .i64 x.1,.int .i64 x.2][j]?
 | [],i,j,x,h,_=>by simp at h
 | y :: r,0,j,x,h,hj=>by
  simp at h
  subst h
  show ([Value.int .i64 y.1,.int .i64 y.2]++je r)[0 * 2 + j]?=_
  rw[Nat.zero_mul,Nat.zero_add,List.getElem?_append_left (by simp;omega)]
 | y :: r,i + 1,j,x,h,hj=>by
  show ([Value.int .i64 y.1,.int .i64 y.2]++je r)[(i + 1) * 2 + j]?=_
  rw[List.getElem?_append_right (by simp;omega)]
  have e:(i + 1) * 2 + j - [Value.int .i64 y.1,.int .i64 y.2].length=i * 2 + j:=by simp;omega
  rw[e]
  exact qio r i j x (by simpa using h) hj
theorem qnc {W:World}{base g n cap:Nat}{l:List Pp}(h:W.ownsRow base 130 2 (.slice (some ⟨g,0,none⟩) n cap) n (je l))(i:Nat)(x:Pp)(hi:l[i]?=some x):W.cell? ⟨g,i * 2,none⟩=some (.int .i64 x.1)∧W.cell? ⟨g,i * 2 + 1,none⟩=some (.int .i64 x.2):=by
 have key:∀j u,[Value.int .i64 x.1,.int .i64 x.2][j]?=some u→j < 2→W.cell? ⟨g,i * 2 + j,none⟩=some u:=fun j u hu hj=>by
  obtain⟨ad,e,h1⟩:=q1u h (i * 2 + j) u ((qio l i j x hi hj).trans hu)
  cases e
  rw[Addr.add_lit,Nat.zero_add] at h1
  exact h1
 exact⟨key 0 _ rfl (by decide),key 1 _ rfl (by decide)⟩
theorem q5d {W:World}{base e size g n cap:Nat}{l:List Value}(h:W.ownsRow base e size (.slice (some ⟨g,0,none⟩) n cap) n l)(o:Nat):W.frozen? ⟨g,o,none⟩=false:=by
 rcases h.2 with ⟨e',_⟩ | ⟨g',cap',cur,hv,hg',hh,_⟩
 ·cases e'
 ·simp only[Value.slice.injEq,Option.some.injEq,Addr.mk.injEq] at hv
  obtain⟨⟨rfl,_⟩,_,rfl⟩:=hv
  simp[World.frozen?,hh]
theorem qew:∀(l:List Pp) (i:Nat) (x:Pp),((je l).set (i * 2) (.int .i64 x.1)).set (i * 2 + 1) (.int .i64 x.2)=je (l.set i x)
 | [],i,x=>by simp[je]
 | y :: r,0,x=>by simp[je]
 | y :: r,i + 1,x=>by
  show (([Value.int .i64 y.1,.int .i64 y.2]++je r).set ((i + 1) * 2) _).set ((i + 1) * 2 + 1) _=[Value.int .i64 y.1,.int .i64 y.2]++je (r.set i x)
  rw[←qew r i x]
  have e1:(i + 1) * 2=(i * 2) + 1 + 1:=by omega
  rw[e1]
  rfl
theorem qkr (l:List Pp)(k:Nat):(je l).take (k * 2)=je (l.take k):=by
 induction l generalizing k with
 | nil=>simp[je]
 | cons y r ih =>
  cases k with
  | zero=>simp[je]
  | succ k =>
   show ([Value.int .i64 y.1,.int .i64 y.2]++je r).take ((k + 1) * 2)=[Value.int .i64 y.1,.int .i64 y.2]++je (r.take k)
   rw[←ih k]
   have e1:(k + 1) * 2=(k * 2) + 1 + 1:=by omega
   rw[e1]
   rfl
structure q3t {α:Type}(p:α→Bool)(l:List α)(n i j:Nat)(zs:List α):Prop where
 len:zs.length=n
 take:zs.take i=(l.take j).filter p
 drop:zs.drop j=l.drop j
theorem q3t.at {α:Type}{p:α→Bool}{l:List α}{n i j:Nat}{zs:List α}(h:q3t p l n i j zs):zs[j]?=l[j]?:=by
 have:=congrArg (fun r=>r[0]?) h.drop
 simpa using this
theorem q3t.skip {α:Type}{p:α→Bool}{l:List α}{n i j:Nat}{zs:List α}{x:α}(h:q3t p l n i j zs)(hx:l[j]?=some x)(hp:p x=false):q3t p l n i (j + 1) zs:=by
 refine⟨h.len,?_,?_⟩
 ·rw[h.take,List.take_add_one,hx,Option.toList_some,List.filter_append]
  simp[hp]
 ·have:=congrArg (fun r=>r.drop 1) h.drop
  simpa [List.drop_drop] using this
theorem q3t.keep {α:Type}{p:α→Bool}{l:List α}{n i j:Nat}{zs:List α}{x:α}(h:q3t p l n i j zs)(hx:l[j]?=some x)(hp:p x=true)(hij:i < j)(hjn:j < n):q3t p l n (i + 1) (j + 1) (zs.set i x):=by
 refine⟨by rw[List.length_set];exact h.len,?_,?_⟩
 ·rw[List.take_add_one,List.take_set,List.set_eq_of_length_le (by rw[List.length_take];omega),h.take,List.getElem?_set_self (by rw[h.len];omega),Option.toList_some,List.take_add_one,hx,Option.toList_some,List.filter_append]
  simp[hp]
 ·rw[List.drop_set,if_pos (by omega)]
  have:=congrArg (fun r=>r.drop 1) h.drop
  simpa [List.drop_drop] using this
theorem qh6 {α:Type}{p:α→Bool}{l:List α}{n:Nat}(hl:l.length=n):(q3c p l=-1∧l.filter (fun x=>!p x)=l)∨∃j,j < n∧q3c p l=(j:Int)∧q3t (fun x=>!p x) l n j (j + 1) l:=by
 unfold q3c
 cases h:l.findIdx? p with
 | none =>
  rw[List.findIdx?_eq_none_iff] at h
  exact .inl ⟨rfl,List.filter_eq_self.2 fun x hx=>by rw[h x hx];rfl⟩
 | some j =>
  rw[List.findIdx?_eq_some_iff_getElem] at h
  obtain⟨hj,hp,hbef⟩:=h
  refine .inr ⟨j,by omega,rfl,hl,?_,rfl⟩
  rw[List.take_add_one,List.getElem?_eq_getElem hj,Option.toList_some,List.filter_append]
  have:(l.take j).filter (fun x=>!p x)=l.take j:=List.filter_eq_self.2 fun x hx=>by
   obtain⟨k,hk,rfl⟩:=List.mem_iff_getElem.1 hx
   rw[List.length_take] at hk
   rw[List.getElem_take]
   have:=hbef k (by omega)
   simpa using this
  rw[this]
  simp[hp]
theorem qex (w:World) (F:Pp→Bool) (P:Nat) (a:Option Addr) (n c:Nat) (l:List Pp) (hl:l.length=n) (hn:n≤17592186043904) (hA:w.ownsRow 0 130 2 (.slice a n c) n (je l))
  (hF:∀W,Below w.heap.size w W→∀x ∈ l,Calls Tryz.prog 225 #[.pointer (some ⟨P,0,none⟩),.agg #[.int .i64 x.1,.int .i64 x.2]] W fun e W'=>e=.returned (.bool (F x))∧Below W.heap.size W W') :
  Calls Tryz.prog 254 #[.slice a n c,.func (.func 225) #[.pointer (some ⟨P,0,none⟩)] #[]] w fun e w'=>e=.returned (.int .i64 (q3c F l))∧Below w.heap.size w w':=by
 have HL:Hid (l.length=n):=hl
 have HA:Hid _:=hA
 have HF:Hid _:=hF
 clear hl hA hF
 go_enter Tryz.func254,Tryz.ntmps254
 go_wp2_with fail
 go_loopw [8] (fun v8 wx=>∃j:Nat,j≤n∧v8=.int .i64 j∧Hid ((l.take j).any F=false)∧Hid (Below w.heap.size w wx)) (fun v8 _=>n - (intOf v8).toNat)
 case atStart=>exact⟨0,Nat.zero_le _,rfl,rfl,Below.refl _ _⟩
 case round =>
  obtain⟨j,hj,rfl,hN,hB⟩:=hrel
  by_cases hlt:j < n
  ·have n1:(j:Int) < (n:Int):=by omega
   obtain⟨x,hx⟩:∃x,l[j]?=some x:=⟨_,List.getElem?_eq_getElem (by rw[HL.out];exact hlt)⟩
   have hrow:wr.ownsRow 0 130 2 (.slice a n c) n (je l):=S.M.qh HA.out (S.M.Ch.of_below (X:=fun _=>False) hB.out) fun _ _ e=>e
   obtain⟨g,c',e,_,_,_⟩:=S.M.q0f hrow (by omega)
   cases e
   obtain⟨y0,y1⟩:=qnc hrow j x hx
   have CF:Hid _:=HF.out wr hB.out x (List.mem_of_getElem? hx)
   clear hrow
   cases e1:F x with
   | false =>
    rw[e1] at CF
    have N2:Hid ((l.take (j + 1)).any F=false):=qa3 hx e1 hN.out
    clear hx e1 hN
    go_wp2_with fail
    refine Calls.mono CF.out ?_
    rintro e w2 ⟨rfl,hb2⟩
    have B2:Hid (Below w.heap.size w w2):=hB.out.trans (hb2.mono hB.out.size)
    clear hb2 CF
    go_wp2
    exact⟨⟨j + 1,by omega,by go_num,N2.out,B2.out⟩,by simp[intOf];omega⟩
   | true =>
    rw[e1] at CF
    have N2:Hid (q3c F l=(j:Int)):=q68 hx e1 hN.out
    clear hx e1 hN
    go_wp2_with fail
    refine Calls.mono CF.out ?_
    rintro e w2 ⟨rfl,hb2⟩
    have B2:Hid (Below w.heap.size w w2):=hB.out.trans (hb2.mono hB.out.size)
    clear hb2 CF
    go_wp2
    go_ret
    exact⟨by rw[N2.out];rfl,B2.out⟩
  ·have n1:¬(j:Int) < (n:Int):=by omega
   have N2:Hid (q3c F l=-1):=by
    have h:=hN.out
    rw[List.take_of_length_le (by rw[HL.out];omega)] at h
    exact q51 h
   clear hN
   go_wp2
   go_ret
   exact⟨by rw[N2.out];rfl,hB.out⟩
theorem qks (w:World) (F:Pp→Bool) (P N:Nat) (a:Option Addr) (n c:Nat) (l:List Pp) (hl:l.length=n) (hn:n≤1048576) (hN:N≤w.heap.size) (hA:w.ownsRow N 130 2 (.slice a n c) n (je l))
  (hF:∀W,Below N w W→∀x ∈ l,Calls Tryz.prog 225 #[.pointer (some ⟨P,0,none⟩),.agg #[.int .i64 x.1,.int .i64 x.2]] W fun e W'=>e=.returned (.bool (F x))∧Below W.heap.size W W') :
  Calls Tryz.prog 224 #[.slice a n c,.func (.func 225) #[.pointer (some ⟨P,0,none⟩)] #[]] w fun e w'=>Below N w w'∧∃a' n' c',e=.returned (.slice a' n' c')∧(l.filter fun p=>!F p).length=n'∧w'.ownsRow N 130 2 (.slice a' n' c') n' (je (l.filter fun p=>!F p)):=by
 have HL:Hid (l.length=n):=hl
 have HF:Hid _:=hF
 have CI:Hid _:=qex w F P a n c l hl (by omega) (S.M.qp hA (Nat.zero_le _)) fun W hW x hx=>hF W (hW.mono hN) x hx
 have HA:Hid (w.ownsRow N 130 2 (.slice a n c) n (je l)):=hA
 have ID:Hid _:=qh6 (p:=F) hl
 have HN:Hid (N≤w.heap.size):=hN
 clear hl hF hA hN
 go_enter Tryz.func224,Tryz.ntmps224
 go_wp2_with fail
 refine Calls.mono CI.out ?_
 rintro e w1 ⟨rfl,hb1⟩
 rcases ID.out with ⟨hi,hfl⟩ | ⟨j0,hj0,hi,hK⟩
 ·have HB:Hid (Below w.heap.size w w1):=hb1
  have HFL:Hid (l.filter (fun p=>!F p)=l):=hfl
  rw[hi]
  clear CI ID hb1 hi hfl
  go_wp2
  go_ret
  refine⟨HB.out.mono HN.out,a,n,c,rfl,by rw[HFL.out,HL.out],?_⟩
  rw[HFL.out]
  exact S.M.qh HA.out (S.M.Ch.of_below (X:=fun _=>False) HB.out) fun _ _ e=>e
 ·obtain⟨g,c',e,hnc,hgN,hgw⟩:=S.M.q0f HA.out (by omega)
  cases e
  have HT:Hid (Below N w w1∧w1.ownsRow N 130 2 (.slice (some ⟨g,0,none⟩) n c) n (je l)∧q3t (fun p=>!F p) l n j0 (j0 + 1) l):=⟨hb1.mono HN.out,S.M.qh HA.out (S.M.Ch.of_below (X:=fun _=>False) hb1) (fun _ _ e=>e),hK⟩
  have e1:IntKind.i64.wrap ((j0:Int) + 1)=((j0 + 1:Nat):Int):=by rw[IntWalk.i64_in _ (by omega)];omega
  have e2:((j0:Int) == -1)=false:=by rw[beq_eq_false_iff_ne];omega
  have HG:Hid (N≤g):=hgN
  rw[hi]
  clear CI ID hb1 hi hK HA hgN hgw
  go_wp2_with fail
  go_loopw [5,6] (fun iv jv wx=>∃i j:Nat,i < j∧j≤n∧iv=.int .i64 i∧jv=.int .i64 j∧Hid (∃zs,Below N w wx∧wx.ownsRow N 130 2 (.slice (some ⟨g,0,none⟩) n c) n (je zs)∧q3t (fun p=>!F p) l n i j zs)) (fun _ jv _=>n - (intOf jv).toNat)
  case atStart=>exact⟨j0,j0 + 1,by omega,by omega,rfl,by go_num,l,HT.out⟩
  case round =>
   obtain⟨i,j,hij,hj,rfl,rfl,HX⟩:=hrel
   clear HT e1 e2 hj0
   obtain⟨zs,hB,hO,hK⟩:=HX.out
   have HK:Hid (q3t (fun p=>!F p) l n i j zs):=hK
   by_cases hlt:j < n
   ·have n1:(j:Int) < (n:Int):=by omega
    have n2:(i:Int) < (n:Int):=by omega
    obtain⟨x,hx⟩:∃x,l[j]?=some x:=⟨l[j]'(by rw[HL.out];exact hlt),List.getElem?_eq_getElem _⟩
    obtain⟨y0,y1⟩:=qnc hO j x (hK.at.trans hx)
    obtain⟨wa,hwa⟩:∃wa,wa=wr.alloc (.cells #[.int .i64 x.1,.int .i64 x.2] 130):=⟨_,rfl⟩
    obtain⟨Bx,hBx⟩:∃Bx,wr.heap.size=Bx:=⟨_,rfl⟩
    have HWA:Hid (wa=wr.alloc (.cells #[.int .i64 x.1,.int .i64 x.2] 130)):=hwa
    have HBX:Hid (wr.heap.size=Bx):=hBx
    have ba:Below wr.heap.size wr wa:=by rw[hwa];exact qo _ _
    have ka:wa.heap[Bx]?=some (.cells #[.int .i64 x.1,.int .i64 x.2] 130 (0,0)):=by rw[hwa,←hBx];exact heap_alloc_new wr _
    have z0:wa.cell? ⟨Bx,0,none⟩=some (.int .i64 x.1):=S.M.qc ka 0
    have z1:wa.cell? ⟨Bx,1,none⟩=some (.int .i64 x.2):=S.M.qc ka 1
    have hNr:N≤wr.heap.size:=Nat.le_trans HN.out hB.size
    have BA:Hid (Below N w wa∧N≤wa.heap.size):=⟨hB.trans (ba.mono hNr),Nat.le_trans hNr ba.size⟩
    have OA:Hid (wa.ownsRow N 130 2 (.slice (some ⟨g,0,none⟩) n c) n (je zs)):=S.M.qh hO (S.M.Ch.of_below (X:=fun _=>False) ba) fun _ _ e=>e
    have CC:Hid _:=HF.out wa BA.out.1 x (List.mem_of_getElem? hx)
    have KA:Hid (wa.heap[Bx]?=some (.cells #[.int .i64 x.1,.int .i64 x.2] 130 (0,0))∧Bx < wa.heap.size):=⟨ka,(Array.getElem?_eq_some_iff.1 ka).1⟩
    clear hwa hBx ba ka hNr hB hO
    go_upto_region 8 with fail
    rw[←HWA.out,HBX.out]
    clear HWA HBX y0 y1
    cases hp:F x with
    | true =>
     have HK2:Hid (q3t (fun p=>!F p) l n i (j + 1) zs):=hK.skip hx (by rw[hp];rfl)
     rw[hp] at CC
     clear hx hp hK HX HK
     go_wp2_with fail
     refine Calls.mono CC.out ?_
     rintro e w2 ⟨rfl,hb⟩
     have HY:Hid (∃zs,Below N w w2∧w2.ownsRow N 130 2 (.slice (some ⟨g,0,none⟩) n c) n (je zs)∧q3t (fun p=>!F p) l n i (j + 1) zs):=⟨zs,BA.out.1.trans (hb.mono BA.out.2),S.M.qh OA.out (S.M.Ch.of_below (X:=fun _=>False) hb) (fun _ _ e=>e),HK2.out⟩
     clear CC hb
     go_wp2
     exact⟨⟨i,j + 1,by omega,by omega,rfl,by go_num,HY.out⟩,by simp[intOf];omega⟩
    | false =>
     have HK2:Hid (q3t (fun p=>!F p) l n (i + 1) (j + 1) (zs.set i x)):=hK.keep hx (by rw[hp];rfl) hij hlt
     obtain⟨y,hy⟩:∃y,zs[i]?=some y:=⟨zs[i]'(by rw[hK.len];omega),List.getElem?_eq_getElem _⟩
     have HY0:Hid (zs[i]?=some y):=hy
     rw[hp] at CC
     clear hx hp hK HX HK hy
     go_wp2_with fail
     refine Calls.mono CC.out ?_
     rintro e w2 ⟨rfl,hb⟩
     have O2:w2.ownsRow N 130 2 (.slice (some ⟨g,0,none⟩) n c) n (je zs):=S.M.qh OA.out (S.M.Ch.of_below (X:=fun _=>False) hb) fun _ _ e=>e
     obtain⟨d0,d1⟩:=qnc O2 i y HY0.out
     have f0:w2.frozen? ⟨g,i * 2,none⟩=false:=q5d O2 _
     have f1:w2.frozen? ⟨g,i * 2 + 1,none⟩=false:=q5d O2 _
     have k2:w2.heap[Bx]?=some (.cells #[.int .i64 x.1,.int .i64 x.2] 130 (0,0)):=(hb.block Bx KA.out.2).trans KA.out.1
     have q0:w2.cell? ⟨Bx,0,none⟩=some (.int .i64 x.1):=S.M.qc k2 0
     have q1:w2.cell? ⟨Bx,1,none⟩=some (.int .i64 x.2):=S.M.qc k2 1
     obtain⟨w9,hw9⟩:∃w9,w9=(w2.setCell ⟨g,i * 2,none⟩ (.int .i64 x.1)).setCell ⟨g,i * 2 + 1,none⟩ (.int .i64 x.2):=⟨_,rfl⟩
     have HW9:Hid (w9=(w2.setCell ⟨g,i * 2,none⟩ (.int .i64 x.1)).setCell ⟨g,i * 2 + 1,none⟩ (.int .i64 x.2)):=hw9
     have HY:Hid (∃zs,Below N w w9∧w9.ownsRow N 130 2 (.slice (some ⟨g,0,none⟩) n c) n (je zs)∧q3t (fun p=>!F p) l n (i + 1) (j + 1) zs):=by
      have b2:Below N w w2:=BA.out.1.trans (hb.mono BA.out.2)
      have ch9:S.M.Ch (fun b=>b=g) w2 w9:=by rw[hw9];exact (S.M.xu w2 g _ _).trans (S.M.xu _ g _ _)
      refine⟨zs.set i x,b2.trans (ch9.below (Nat.le_trans HN.out b2.size) fun b e=>by rw[e];exact HG.out),?_,HK2.out⟩
      rw[hw9,←qew]
      exact qd3 (qd3 O2)
     clear CC hb O2 k2 hw9 HY0
     go_upto_region 10 with fail
     rw[←HW9.out]
     clear HW9 d0 d1 f0 f1 q0 q1
     go_wp2
     exact⟨⟨i + 1,j + 1,by omega,by omega,by go_num,by go_num,HY.out⟩,by simp[intOf];omega⟩
   ·have n1:¬(j:Int) < (n:Int):=by omega
    have hjn:j=n:=by omega
    have hQ:zs.take i=l.filter (fun p=>!F p):=by
     have:=hK.take
     rw[List.take_of_length_le (l:=l) (by rw[HL.out];omega)] at this
     exact this
    have hI:(l.filter (fun p=>!F p)).length=i:=by
     have h2:=congrArg List.length hQ
     rw[List.length_take,hK.len] at h2
     omega
    have n2:i≤c:=by omega
    have hz:∀q,q < (n - i) * 2→(wr.cell? ⟨g,i * 2 + q,none⟩).isSome=true∧wr.frozen? ⟨g,i * 2 + q,none⟩=false:=fun q hq=>by
     obtain⟨ad,e,h1⟩:=q1u hO (i * 2 + q) _ (List.getElem?_eq_getElem (by rw[hO.1];omega))
     cases e
     rw[Addr.add_lit,Nat.zero_add] at h1
     exact⟨by rw[h1];rfl,q5d hO _⟩
    have hclr:=q5y (P:=Tryz.prog) wr 45 130 0 (.agg #[.int .i64 0,.int .i64 0]) Tryz.underlying45 (fun w=>by kernel_rfl) (by decide) (by decide) g (i * 2) (n - i) (c - i) (by omega) (fun q hq=>(hz q hq).1) (fun q hq=>(hz q hq).2)
    obtain⟨Z,hZ⟩:∃Z,(Builtin.zeroCells (Value.agg #[.int .i64 0,.int .i64 0]).cells (n - i)).toList=Z:=⟨_,rfl⟩
    rw[hZ] at hclr
    have HE:Hid (Below N w (wr.setCells g (i * 2) Z)∧(wr.setCells g (i * 2) Z).ownsRow N 130 2 (.slice (some ⟨g,0,none⟩) i c) i (je (l.filter (fun p=>!F p)))):=by
     refine⟨hB.trans ((q69 g Z _ wr).below (Nat.le_trans HN.out hB.size) fun b e=>by rw[e];exact HG.out),?_⟩
     have h1:=qa8 (k:=i) hO (by omega)
     rw[qkr,hQ] at h1
     exact qa7 Z _ wr h1 (Nat.le_refl _)
    have HI:Hid ((l.filter (fun p=>!F p)).length=i):=hI
    clear hz hB hO hK HX HK HF hQ hI hZ
    go_wp2
    go_ret
    exact⟨HE.out.1,_,i,c,rfl,HI.out,HE.out.2⟩
end F
namespace F
open S (qm)
open Go.Maps Go.RowKit Go.WideMaps
variable {tq:Nat} {isV:Int→Bool}
section
variable {P:Program} {w:World}
theorem qb9 (t ty:TypeId) (base:Nat) (e:TypeId) (i:TypeInfo) (z:Value) (size bytes:Nat) (ht:P.underlying t=some (.slice e)) (hi:P.info? e=some i) (hz:i.zero=some z)
  (hsize:i.size=size) (hby:i.bytes=bytes) (hzs:z.cells.size=size) (hsz:0 < size)
  (v:Value) (n:Nat) (xs:List Value) (hown:w.ownsRow base e size v n xs)
  (x0:Option Addr) (m c:Nat) (news:List Value) (hl:news.length=m * size) (hnews:∀j u,news[j]?=some u→∃ad,x0=some ad∧w.cell? (ad.add j)=some u) (h1:∀u ∈ news,u.oneCell'=true)
  (h63:n + m≤maxLen) (hbytes:(n + m) * bytes≤140737488355328) (hbase:base≤w.heap.size) :
  ∃a' c' w',(Builtin.append_ #[t,t] ty #[v,.slice x0 m c]).run P w=.ok (.slice a' (n + m) c') w'∧w'.ownsRow base e size (.slice a' (n + m) c') (n + m) (xs++news)∧S.M.Ch (fun b=>v.ownBlock=some b) w w'∧∀b,(Value.slice a' (n + m) c').ownBlock=some b→v.ownBlock=some b∨w.heap.size≤b:=by
 rcases Nat.eq_zero_or_pos m with rfl | hm
 ·have hn0:news=[]:=List.eq_nil_of_length_eq_zero (by rw[hl,Nat.zero_mul])
  subst hn0
  obtain⟨a',c',rfl,hc⟩:=qm hown
  have src:Src P i.size t (.slice x0 0 c) 0 [] w:=by
   cases x0 with
   | none=>exact Src.ofNil w ht c
   | some ad=>exact Src.ofSlice w ht ad 0 c [] (by simp) (fun j u hu=>by simp at hu) (fun u hu=>by simp at hu)
  refine⟨a',c',w,run_append_nothing w t t ty e i ht hi a' n c' hc _ src,?_,S.M.Ch.of_below (Below.refl _ _),fun b hb=>.inl hb⟩
  rw[List.append_nil]
  exact hown
 ·have hne:0 < news.length:=by rw[hl];exact Nat.mul_pos hm hsz
  obtain⟨ad,rfl,_⟩:=hnews 0 _ (List.getElem?_eq_getElem hne)
  obtain⟨g,cap,w',hr,h2,h3,h4,_⟩:=run_append_lies (P:=P) w t ty base e i z size bytes ht hi hz hsize hby hzs hsz v n xs hown ad m c news hl (fun j u hu=>by
   obtain⟨ad',he,hc⟩:=hnews j u hu
   cases he
   exact hc) h1 hm h63 hbytes hbase w.heap.size rfl
  exact⟨_,_,w',hr,h2,S.M.Ch.jm h3,fun b hb=>S.M.q43 (c:=cap) (n:=n + m) h4 b hb⟩
theorem qd4 {o:Oper} {a:Act} {K:Act→World→Prop} {Q:Exit→Act→World→Prop} (s x:Operand) (t:TypeId)
  (ho:o.op=.call { callee:=.builtin .append,args:=#[s,x],argTypes:=#[t,t] })
  (base:Nat) (e:TypeId) (i:TypeInfo) (z:Value) (size bytes:Nat) (ht:P.underlying t=some (.slice e)) (hi:P.info? e=some i) (hz:i.zero=some z)
  (hsize:i.size=size) (hby:i.bytes=bytes) (hzs:z.cells.size=size) (hsz:0 < size)
  (v:Value) (n:Nat) (xs:List Value) (hs:a.eval s=v) (hown:w.ownsRow base e size v n xs)
  (x0:Option Addr) (m c:Nat) (news:List Value) (hx:a.eval x=.slice x0 m c) (hl:news.length=m * size) (hnews:∀j u,news[j]?=some u→∃ad,x0=some ad∧w.cell? (ad.add j)=some u) (h1:∀u ∈ news,u.oneCell'=true)
  (h63:n + m≤maxLen) (hbytes:(n + m) * bytes≤140737488355328) (hbase:base≤w.heap.size)
  (h:∀a' c' w',w'.ownsRow base e size (.slice a' (n + m) c') (n + m) (xs++news)→S.M.Ch (fun b=>v.ownBlock=some b) w w'→(∀b,(Value.slice a' (n + m) c').ownBlock=some b→v.ownBlock=some b∨w.heap.size≤b)→K (a.put o.dst (.slice a' (n + m) c')) w'):o.wp P a w K Q:=by
 obtain⟨a',c',w',hr,h2,h3,h4⟩:=qb9 (P:=P) (w:=w) t o.type base e i z size bytes ht hi hz hsize hby hzs hsz v n xs hown x0 m c news hl hnews h1 h63 hbytes hbase
 unfold Oper.wp execOp
 simp only[ho,resolve,invoke,builtin,Sem.run_bind,Sem.run_pure,Result.andThen_ok,List.map_toArray,List.map_cons,List.map_nil,hs,hx,hr]
 exact h a' c' w' h2 h3 h4
theorem q89 {ops:Array Oper} {rest:List Oper} {o:Oper} {a:Act} {Q:Exit→Act→World→Prop} (hgd:o.guard=none) (s x:Operand) (t:TypeId)
  (ho:o.op=.call { callee:=.builtin .append,args:=#[s,x],argTypes:=#[t,t] })
  (base:Nat) (e:TypeId) (i:TypeInfo) (z:Value) (size bytes:Nat) (ht:P.underlying t=some (.slice e)) (hi:P.info? e=some i) (hz:i.zero=some z)
  (hsize:i.size=size) (hby:i.bytes=bytes) (hzs:z.cells.size=size) (hsz:0 < size)
  (v:Value) (n:Nat) (xs:List Value) (hs:a.eval s=v) (hown:w.ownsRow base e size v n xs)
  (x0:Option Addr) (m c:Nat) (news:List Value) (hx:a.eval x=.slice x0 m c) (hl:news.length=m * size) (hnews:∀j u,news[j]?=some u→∃ad,x0=some ad∧w.cell? (ad.add j)=some u) (h1:∀u ∈ news,u.oneCell'=true)
  (h63:n + m≤maxLen) (hbytes:(n + m) * bytes≤140737488355328) (hbase:base≤w.heap.size)
  (h:∀a' c' w',w'.ownsRow base e size (.slice a' (n + m) c') (n + m) (xs++news)→S.M.Ch (fun b=>v.ownBlock=some b) w w'→(∀b,(Value.slice a' (n + m) c').ownBlock=some b→v.ownBlock=some b∨w.heap.size≤b)→wpList P ops Q rest (a.put o.dst (.slice a' (n + m) c')) w'):wpList P ops Q (o :: rest) a w :=
 wpList_plain hgd fun _ hK=>qd4 s x t ho base e i z size bytes ht hi hz hsize hby hzs hsz v n xs hs hown x0 m c news hx hl hnews h1 h63 hbytes hbase fun a' c' w' h2 h3 h4=>hK _ _ (h a' c' w' h2 h3 h4)
end
structure PutP (w W:World)(g o:Nat)(cs:Array Value)(x:ScC)(vp':Value)(ps':List Pp):Prop where
 blk:W.heap[g]?=some (.cells (cs.setIfInBounds o vp') 225 (0,0))
 own:W.ownsRow 0 130 2 vp' ps'.length (je ps')
 loc:∀b,vp'.ownBlock=some b→x.vp.ownBlock=some b∨w.heap.size≤b
 ch:S.M.Ch (fun b=>x.vp.ownBlock=some b∨b=g) w W
theorem qa9 (w:World)(g o:Nat)(cs:Array Value)(x:ScC)(a:Option Addr)(n c:Nat)(l:List Pp)(hg:w.heap[g]?=some (.cells cs 225 (0,0)))(ho:cs[o]?=some x.vp)(hx:w.ownsRow 0 130 2 x.vp x.ps.length (je x.ps))(hl:l.length=n)(hA:w.ownsRow 0 130 2 (.slice a n c) n (je l))(hn:x.ps.length + n≤1048576) :
  Calls Tryz.prog 227 #[.pointer (some ⟨g,o,none⟩),.slice a n c] w fun e w'=>e=.returned (.tuple #[])∧∃vp',PutP w w' g o cs x vp' (x.ps++l):=by
 obtain⟨iQ,hiQ,iQz,iQs,iQb⟩:=info_parts qcw
 obtain⟨ap,cp,ep,_⟩:=qm hx
 have q:w.cell? ⟨g,o,none⟩=some x.vp:=(S.M.qc hg o).trans ho
 obtain⟨np,hnp⟩:∃np,x.ps.length=np:=⟨_,rfl⟩
 rw[ep,hnp] at q hx
 rw[hnp] at hn
 have HX:Hid (w.ownsRow 0 130 2 (.slice ap np cp) np (je x.ps)∧x.ps.length=np∧x.vp=.slice ap np cp):=⟨hx,hnp,by rw[ep,hnp]⟩
 have HG:Hid (w.heap[g]?=some (.cells cs 225 (0,0))∧cs[o]?=some (.slice ap np cp)):=⟨hg,by rw[ho,ep,hnp]⟩
 have HA:Hid (w.ownsRow 0 130 2 (.slice a n c) n (je l)∧l.length=n):=⟨hA,hl⟩
 clear hg ho hx hl hA ep hnp
 go_enter Tryz.func227,Tryz.ntmps227
 go_wp2_with (at_builtin;refine q89 (w:=w) rfl _ _ 45 rfl 0 130 iQ _ 2 16 Tryz.underlying45 hiQ iQz iQs iQb rfl (by decide) _ np (je x.ps) (by rfl) HX.out.1 a n c (je l) (by rfl) (by rw[q9t,HA.out.2]) (q1u HA.out.1) (q9u _) (by unfold maxLen;omega) (by omega) (Nat.zero_le _) ?_;intro a8 c8 w8 ho8 hc8 hloc8;have g8:w8.heap[g]?=some (.cells cs 225 (0,0)):=((hc8.block g (Array.getElem?_eq_some_iff.1 HG.out.1).1 (own_ne HX.out.1 HG.out.1 (by decide))).trans HG.out.1);have dL:w8.cell? ⟨g,o,none⟩=some (.slice ap np cp):=((S.M.qc g8 o).trans HG.out.2);have fL:w8.frozen? ⟨g,o,none⟩=false:=(by simp[World.frozen?,g8]);have FI:Hid (PutP w (w8.setCell ⟨g,o,none⟩ (.slice a8 (np + n) c8)) g o cs x (.slice a8 (np + n) c8) (x.ps++l)):=(by
  have c9:=S.M.xu w8 g o (.slice a8 (np + n) c8)
  refine⟨S.M.qj g8,?_,fun b e=>by rw[HX.out.2.2];exact hloc8 b e,?_⟩
  ·rw[List.length_append,HX.out.2.1,HA.out.2,q5v]
   exact S.M.qh ho8 c9 fun b hb e=>own_ne ho8 g8 (by decide) (by rw[hb,e])
  ·rw[HX.out.2.2]
   exact (hc8.mono fun b e=>.inl e).trans (c9.mono fun b e=>.inr e));clear ho8 hc8 hloc8 g8)
 refine bodyPost_end (results_none rfl _ _ _) rfl ?_
 exact⟨rfl,_,FI.out⟩
theorem qw.putp {O:Nat→Prop}{w W:World}{P g n c:Nat}{xs:List ScC}{x:ScC}{cs:Array Value}{vp':Value}{ps':List Pp}(hS:qw tq O w P (.slice (some ⟨g,0,none⟩) n c) (xs++[x]))(hg:w.heap[g]?=some (.cells cs 225 (0,0)))(hp:PutP w W g (xs.length * 3 + 2) cs x vp' ps') :
  qw tq (More O w W) W P (.slice (some ⟨g,0,none⟩) n c) (xs++[{ x with vp:=vp',ps:=ps' }])∧S.M.Ch O w W:=by
 have hxm:x ∈ xs++[x]:=by simp
 have hx:=hS.each x hxm
 have hrow:=hS.row
 have up:∀b,O b→More O w W b:=fun b hb=>.inl hb
 have XO:∀b,(x.vp.ownBlock=some b∨b=g)→O b:=fun b hb=>by
  rcases hb with hb | rfl
  ·exact hx.po b hb
  ·exact hS.ro _ rfl
 have cG:S.M.Ch O w W:=hp.ch.mono XO
 have cells:∀{B:Nat} {cs':Array Value} {t:TypeId},w.heap[B]?=some (.cells cs' t (0,0))→t≠130→t≠225→W.heap[B]?=w.heap[B]?:=fun hB h1 h2=>hp.ch.block _ (Array.getElem?_eq_some_iff.1 hB).1 fun e=>by
  rcases e with e | rfl
  ·exact own_ne hx.p hB (Ne.symm h1) e
  ·rw[hg] at hB;simp only[Option.some.injEq,Obj.cells.injEq] at hB;exact h2 hB.2.1.symm
 have rows:∀{base e sz k:Nat} {v:Value} {zs:List Value},w.ownsRow base e sz v k zs→e≠130→e≠225→∀b,v.ownBlock=some b→¬(x.vp.ownBlock=some b∨b=g):=fun ho h1 h2 b hb e=>by
  rcases e with e | rfl
  ·exact uf ho hx.p h1 b hb e
  ·exact own_ne ho hg h2 hb
 have maps:∀{b mn:Nat} {f:Int→Option Int},q2b w b mn f→¬(x.vp.ownBlock=some b∨b=g):=fun hm e=>by
  rcases e with e | e
  ·exact q49 hx.p hm e
  ·exact q3x hg hm e.symm
 obtain⟨hap,_,hall⟩:=List.pairwise_append.1 hS.ap
 refine⟨⟨(cells hS.box (by decide) (by decide)).trans hS.box,up _ hS.bo,?_,fun b e=>up b (hS.ro b e),fun y hy=>?_,?_,?_⟩,cG⟩
 ·have hlen:n=(xs++[x]).length:=by obtain⟨_,_,e,_⟩:=qm hrow;cases e;rfl
  have h0:=qec (o:=xs.length * 3 + 2) (v:=vp') (l':=uq (xs++[{ x with vp:=vp',ps:=ps' }])) (by rw[←hlen] at hrow;exact hrow) hg hp.blk (qgn xs x vp' _)
  rw[hlen] at h0
  rw[hlen]
  simpa using h0
 ·rcases List.mem_append.1 hy with hy | hy
  ·have hyo:=hS.each y (List.mem_append_left _ hy)
   obtain⟨a1,a2,a3⟩:=hall y hy x (by simp)
   refine (hyo.ch hp.ch (rows hyo.l (by decide) (by decide)) (fun z hz b hb=>rows (hyo.e z hz).1 (by decide) (by decide) b hb) (maps hyo.m) (fun b hb e=>?_)).mono up
   rcases e with e | rfl
   ·exact a3 b hb e
   ·exact own_ne hyo.p hg (by decide) hb
  ·rw[List.mem_singleton.1 hy]
   obtain⟨es,ck,h3⟩:=hx.m.isM
   refine⟨S.M.qh hx.l hp.ch (rows hx.l (by decide) (by decide)),fun b e=>up b (hx.lo b e),fun z hz=>⟨S.M.qh (hx.e z hz).1 hp.ch (rows (hx.e z hz).1 (by decide) (by decide)),fun b e=>up b ((hx.e z hz).2 b e)⟩,hx.m.kept (hp.ch.block _ (Array.getElem?_eq_some_iff.1 h3).1 (maps hx.m)),up _ hx.mo,hx.mc,hp.own,fun b e=>?_⟩
   rcases hp.loc b e with h1 | h1
   ·exact up b (hx.po b h1)
   ·exact .inr ⟨h1,S.M.jl hp.own b e⟩
 ·refine List.pairwise_append.2 ⟨hap,by simp,fun y hy z hz=>?_⟩
  rw[List.mem_singleton.1 hz]
  obtain⟨a1,a2,a3⟩:=hall y hy x (by simp)
  refine⟨a1,a2,fun b hb e=>?_⟩
  rcases hp.loc b e with h1 | h1
  ·exact a3 b hb h1
  ·have:=S.M.jl (hS.each y (List.mem_append_left _ hy)).p b hb
   omega
 ·intro b hb
  rcases hb with hb | hb
  ·exact Nat.lt_of_lt_of_le (hS.lt b hb) cG.size
  ·exact hb.2
end F
namespace F
open S (qm)
open Go.Maps Go.RowKit Go.WideMaps
variable {tq:Nat} {isV:Int→Bool}
def varsOf (l:List Int):List Int:=Lib.compact ((l.filter isV).mergeSort fun x y=>decide (x≤y))
theorem q8a (l:List Int):q39 (isV:=isV) l (varsOf (isV:=isV) l):=by
 obtain⟨h1,h2⟩:=q4o (q86 (l.filter isV))
 have hperm:=List.mergeSort_perm (l.filter isV) (fun x y=>decide (x≤y))
 refine⟨h1,fun x=>(h2 x).trans (hperm.mem_iff.trans List.mem_filter),Nat.le_trans (q36 _) ?_⟩
 rw[hperm.length_eq]
 exact List.length_filter_le _ _
theorem qh7 {l m:List Int}(h:q39 (isV:=isV) l m):m=varsOf (isV:=isV) l:=q6k h.up (q8a l).up fun x=>(h.mem x).trans ((q8a l).mem x).symm
theorem qkt {l m:List Int}(hl:l.Pairwise (· < ·))(h:q87 l m):m=l:=q6k h.up hl h.mem
def q3d (l:List Sa)(vs:List Int):List Pp:=(q6n (varsOf (isV:=isV) vs)).filter fun p=>!q3b (uo l) p
def q1h (l:List Sa)(vs:List Int):Int:=if (vs.any fun v=>!isV v)=true then 71 else if (varsOf (isV:=isV) vs).length < vs.length then 50 else if 256 < (varsOf (isV:=isV) vs).length * ((varsOf (isV:=isV) vs).length - 1) / 2 then 22 else if 256 < (uo l).length + (q3d (isV:=isV) l vs).length then 22 else 0
def q1i (l:List Sa)(vs:List Int):List Sa:=if q1h (isV:=isV) l vs=0 then q1w (fun a=>⟨a.hs,a.ps++q3d (isV:=isV) l vs⟩) l else l
theorem q7b {l:List Sa}{vs:List Int}{E:Int}(h:q1h (isV:=isV) l vs=E)(hE:E≠0):q1i (isV:=isV) l vs=l:=by unfold q1i;rw[h,if_neg hE]
theorem qip (m:List Int):(q6n m).length≤m.length * m.length:=by
 have key:∀i,(q0a m i).length≤i * m.length:=fun i=>by
  induction i with
  | zero=>simp[q0a]
  | succ i ih =>
   rw[q5w,List.length_append,List.length_map,List.length_drop,Nat.succ_mul]
   omega
 exact key m.length
theorem qnd {k:Nat}(h:¬256 < k * (k - 1) / 2):k≤23:=by
 rcases Nat.lt_or_ge 23 k with h1 | h1
 ·have h2:24 * 23≤k * (k - 1):=Nat.mul_le_mul h1 (by omega)
  omega
 ·exact h1
theorem qh8 (xs:List ScC)(x:ScC)(vp':Value)(f:List Pp):(xs++[{ x with vp:=vp',ps:=x.ps++f }]).map jk=q1w (fun a=>⟨a.hs,a.ps++f⟩) ((xs++[x]).map jk):=by
 rw[List.map_append,List.map_append]
 show _=q1w _ (List.map jk xs++[jk x])
 rw[q4l]
 rfl
theorem qne (n:Int)(h1:-9223372036854775808≤n)(h2:n≤9223372036854775807):wrap64 n=n:=by have h:=qbo n h1 h2;rw[IntKind.wrap_i64] at h;unfold wrap64;omega
theorem qku (w:World)(O:Nat→Prop)(P:Nat)(vS:Value)(xs:List ScC)(a:Option Addr)(n c:Nat)(vs:List Int)(h:qw tq O w P vS xs)(hV:q2w tq isV w)(h0:0 < xs.length)(hn:xs.length≤1048576)(hq:(q0j xs).length≤1000000)(hl:vs.length=n)(hnv:n≤1048576)(hA:q1a w a vs) :
  Calls Tryz.prog 166 #[.pointer (some ⟨P,0,none⟩),.slice a n c] w (Decl (tq:=tq) O w P (q1h (isV:=isV) (xs.map jk) vs) (q1i (isV:=isV) (xs.map jk) vs)):=by
 obtain⟨w1,hw1⟩:∃w1,w1=w.alloc (.cells #[.pointer (some ⟨P,0,none⟩)] 104):=⟨_,rfl⟩
 obtain⟨PB,hPB⟩:∃PB,w.heap.size=PB:=⟨_,rfl⟩
 have HW1:Hid (w1=w.alloc (.cells #[.pointer (some ⟨P,0,none⟩)] 104)):=hw1
 have HPB:Hid (w.heap.size=PB):=hPB
 have b1:Below w.heap.size w w1:=by rw[hw1];exact qo _ _
 have k1:w1.heap[PB]?=some (.cells #[.pointer (some ⟨P,0,none⟩)] 104 (0,0)):=by rw[hw1,←hPB];exact heap_alloc_new w _
 have c1:w1.cell? ⟨PB,0,none⟩=some (.pointer (some ⟨P,0,none⟩)):=S.M.qc k1 0
 have HS:Hid (qw tq O w P vS xs):=h
 have S1:Hid (qw tq O w1 P vS xs):=h.below b1
 have HV:Hid (q2w tq isV w1):=hV.up b1
 have HK:Hid (∀W,Below w1.heap.size w1 W→W.cell? ⟨PB,0,none⟩=some (.pointer (some ⟨P,0,none⟩))):=fun W hW=>(hW.cell (p:=⟨PB,0,none⟩) (World.block_lt_of_cell? _ _ c1)).trans c1
 have CO:Hid _:=qa5 w1 (fun x=>!isV x) PB a n c vs hl (by omega) (hA.under b1) fun W hW x _=>qev W O P PB vS xs x (S1.out.below hW) (HV.out.up hW) (HK.out W hW)
 have B1:Hid (Below w.heap.size w w1∧PB < w1.heap.size):=⟨b1,(Array.getElem?_eq_some_iff.1 k1).1⟩
 have HA:Hid (q1a w1 a vs):=hA.under b1
 have HQ:Hid (0 < xs.length∧xs.length≤1048576∧(q0j xs).length≤1000000∧vs.length=n):=⟨h0,hn,hq,hl⟩
 clear hV hw1 hPB b1 k1 c1 h h0 hn hq hl hA
 go_enter Tryz.func166,Tryz.ntmps166
 go_upto_region 1 with fail
 rw[←HW1.out,HPB.out]
 clear HW1
 go_wp2_with fail
 refine Calls.mono CO.out ?_
 rintro e w2 ⟨rfl,hb2⟩
 have B2:Hid (Below w1.heap.size w1 w2):=hb2
 have BW2:Hid (Below w.heap.size w w2):=B1.out.1.trans (hb2.mono B1.out.1.size)
 clear hb2 CO
 cases e1:vs.any fun v=>!isV v with
 | true =>
  have HE:Hid (q1h (isV:=isV) (xs.map jk) vs=71):=by show _=_;unfold q1h;rw[if_pos e1]
  clear e1
  go_wp2
  go_ret
  rw[q7b HE.out (by decide),HE.out]
  exact Decl.same HS.out BW2.out
 | false =>
  have HE0:Hid (vs.any (fun v=>!isV v)=false):=e1
  have EV:Hid _:=q88 w2 a n c vs HQ.out.2.2.2 (by omega) (HA.out.under B2.out) (HV.out.up B2.out)
  have x0:=(S1.out.below B2.out).cells.1
  have xb:=HK.out w2 B2.out
  unfold q17 at x0 EV
  clear e1
  go_wp2_with fail
  refine Calls.mono EV.out ?_
  rintro e w3 ⟨hb3,a3,c3,m,rfl,hns3,hc3,hm3⟩
  have hmv:=qh7 hm3
  obtain⟨k,hk⟩:∃k,m.length=k:=⟨_,rfl⟩
  rw[hk]
  have hkn:k≤n:=by rw[←hk,←HQ.out.2.2.2];exact hm3.le
  have HM:Hid (m=varsOf (isV:=isV) vs∧m.length=k∧m.Pairwise (· < ·)):=⟨hmv,hk,hm3.up⟩
  have N3:Hid (q1a w3 a3 m):=hns3
  have B3:Hid (Below w1.heap.size w1 w3):=B2.out.trans (hb3.mono B2.out.size)
  have BW3:Hid (Below w.heap.size w w3):=B1.out.1.trans (B3.out.mono B1.out.1.size)
  clear EV hb3 hns3 hc3 hm3 hmv hk x0 xb B2 BW2
  by_cases h50:k < n
  ·have n1:(k:Int) < (n:Int):=by omega
   have HE:Hid (q1h (isV:=isV) (xs.map jk) vs=50):=by
    show _=_
    unfold q1h
    rw[←HM.out.1,HM.out.2.1,HQ.out.2.2.2,if_neg (by rw[HE0.out];decide),if_pos h50]
   go_wp2
   go_ret
   rw[q7b HE.out (by decide),HE.out]
   exact Decl.same HS.out BW3.out
  ·have n1:¬(k:Int) < (n:Int):=by omega
   have hkk:k≤1048576:=by omega
   have hpp:k * (k - 1)≤1048576 * 1048576:=Nat.mul_le_mul hkk (by omega)
   have e27:(k:Int) * ((k:Int) - 1)=((k * (k - 1):Nat):Int):=by
    rcases Nat.eq_zero_or_pos k with h | h
    ·subst h;rfl
    ·obtain⟨j,rfl⟩:∃j,k=j + 1:=⟨k - 1,by omega⟩
     have e1:((j + 1:Nat):Int) - 1=(j:Int):=by omega
     have e2:(j + 1) * (j + 1 - 1)=(j + 1) * j:=rfl
     rw[e1,e2,Int.natCast_mul]
   have e28:wrap64 ((k:Int) * ((k:Int) - 1))=((k * (k - 1):Nat):Int):=by rw[e27];exact qne _ (by omega) (by omega)
   have e29:wrap64 ((wrap64 ((k:Int) * ((k:Int) - 1))).tdiv 2)=((k * (k - 1) / 2:Nat):Int):=by
    rw[e28]
    have:(((k * (k - 1):Nat):Int)).tdiv 2=((k * (k - 1) / 2:Nat):Int):=rfl
    rw[this]
    exact qne _ (by omega) (by omega)
   by_cases h22:256 < k * (k - 1) / 2
   ·have g1:(256:Int) < wrap64 ((wrap64 ((k:Int) * ((k:Int) - 1))).tdiv 2):=by rw[e29];omega
    have HE:Hid (q1h (isV:=isV) (xs.map jk) vs=22):=by
     show _=_
     unfold q1h
     rw[←HM.out.1,HM.out.2.1,HQ.out.2.2.2,if_neg (by rw[HE0.out];decide),if_neg h50,if_pos h22]
    clear e27 e28 e29 hpp
    go_wp2
    go_ret
    rw[q7b HE.out (by decide),HE.out]
    exact Decl.same HS.out BW3.out
   ·have g1:¬(256:Int) < wrap64 ((wrap64 ((k:Int) * ((k:Int) - 1))).tdiv 2):=by rw[e29];omega
    have hk23:=qnd h22
    have AL:Hid _:=all_any w3 a3 c3 m k HM.out.2.1 (by omega) N3.out
    clear e27 e28 e29 hpp
    go_wp2_with fail
    refine Calls.mono AL.out ?_
    rintro e w4 ⟨hb4,hcase⟩
    have hnd:m.Nodup:=HM.out.2.2.imp fun h=>Int.ne_of_lt h
    rcases hcase with ⟨hbig,_⟩ | ⟨_,hno,_⟩ | ⟨_,_,v4,m4,ho4,rfl,hown4⟩
    ·rw[HM.out.2.1] at hbig;omega
    ·exact absurd hnd hno
    have hm4:=qkt HM.out.2.2 ho4
    subst hm4
    have hal:(q6n m4).length≤1048576:=by have h1:=qip m4;rw[HM.out.2.1] at h1;have h2:k * k≤23 * 23:=Nat.mul_le_mul hk23 hk23;omega
    obtain⟨a4,c4,e4,_⟩:=qm hown4
    obtain⟨n4,hn4⟩:∃n4,(q6n m4).length=n4:=⟨_,rfl⟩
    rw[e4,hn4] at hown4 ⊢
    have BW4:Hid (Below w.heap.size w w4):=BW3.out.trans (hb4.mono BW3.out.size)
    have B4:Hid (Below w1.heap.size w1 w4):=B3.out.trans (hb4.mono B3.out.size)
    have hO3:∀g,O g→g < w3.heap.size:=fun g hg=>Nat.lt_of_lt_of_le (HS.out.lt g hg) BW3.out.size
    have S4:Hid (qw tq O w4 P vS xs):=HS.out.below BW4.out
    have DE:Hid _:=qks w4 (fun p=>q3b (q0j xs) p) P w3.heap.size a4 n4 c4 (q6n m4) hn4 (by omega) hb4.size hown4 fun W hW x _=>qeu W O P vS xs x (S4.out.under hW hO3) HQ.out.2.1 (by have:=HQ.out.2.2.1;omega)
    have HO:Hid (∀g,O g→g < w3.heap.size):=hO3
    have BS:Hid (w3.heap.size≤w4.heap.size):=hb4.size
    have xb:=HK.out w4 B4.out
    obtain⟨FR,hFR⟩:∃FR,((q6n m4).filter fun p=>!q3b (q0j xs) p)=FR:=⟨_,rfl⟩
    rw[hFR] at DE
    have HFR:Hid (q3d (isV:=isV) (xs.map jk) vs=FR):=by
     show _=_
     unfold q3d
     rw[←HM.out.1,←qcz]
     exact hFR
    clear hFR hb4 hnd ho4 hown4 e4 hO3 AL N3 hal
    go_wp2_with fail
    refine Calls.mono DE.out ?_
    rintro e w5 ⟨hb5,a5,n5,c5,rfl,hn5,ho5⟩
    have S5:Hid (qw tq O w5 P vS xs):=S4.out.under hb5 HO.out
    have AP:Hid _:=q3p w5 O P vS xs S5.out HQ.out.2.1 (by have:=HQ.out.2.2.1;omega)
    have BW5:Hid (Below w.heap.size w w5):=BW4.out.trans (hb5.mono BW3.out.size)
    have xb5:w5.cell? ⟨PB,0,none⟩=some (.pointer (some ⟨P,0,none⟩)):=(hb5.cell (p:=⟨PB,0,none⟩) (by show PB < w3.heap.size;exact Nat.lt_of_lt_of_le B1.out.2 B3.out.size)).trans xb
    have F5:Hid (FR.length=n5∧w5.ownsRow 0 130 2 (.slice a5 n5 c5) n5 (je FR)):=⟨hn5,S.M.qp ho5 (Nat.zero_le _)⟩
    obtain⟨na,hna⟩:∃na,(q0j xs).length=na:=⟨_,rfl⟩
    rw[hna] at AP
    have HNA:Hid ((q0j xs).length=na):=hna
    have hnal:na≤1000000:=by rw[←hna];exact HQ.out.2.2.1
    have hn5l:n5≤529:=by
     have h1:=qip m4
     rw[HM.out.2.1] at h1
     have h2:k * k≤23 * 23:=Nat.mul_le_mul hk23 hk23
     have h3:FR.length≤(q6n m4).length:=by
      have h4:=HFR.out
      unfold q3d at h4
      rw[←HM.out.1] at h4
      rw[←h4]
      exact List.length_filter_le _ _
     omega
    clear hb5 ho5 hn5 DE S4 xb hna
    go_wp2_with fail
    refine Calls.mono AP.out ?_
    rintro e w6 ⟨hb6,v6,rfl,ho6⟩
    obtain⟨a6,c6,rfl,_⟩:=qm ho6
    have BW6:Hid (Below w.heap.size w w6):=BW5.out.trans (hb6.mono BW5.out.size)
    have S6:Hid (qw tq O w6 P vS xs):=S5.out.below hb6
    have xb6:w6.cell? ⟨PB,0,none⟩=some (.pointer (some ⟨P,0,none⟩)):=(hb6.cell (p:=⟨PB,0,none⟩) (World.block_lt_of_cell? _ _ xb5)).trans xb5
    have F6:Hid (FR.length=n5∧w6.ownsRow 0 130 2 (.slice a5 n5 c5) n5 (je FR)):=⟨F5.out.1,S.M.qh F5.out.2 (S.M.Ch.of_below (X:=fun _=>False) hb6) fun _ _ e=>e⟩
    clear hb6 ho6 AP xb5 S5 F5
    have HD:Hid (q1h (isV:=isV) (xs.map jk) vs=if 256 < na + n5 then 22 else 0):=by
     show _=_
     unfold q1h
     rw[HFR.out,←HM.out.1,HM.out.2.1,HQ.out.2.2.2,if_neg (by rw[HE0.out];decide),if_neg h50,if_neg h22,←qcz,HNA.out,F6.out.1]
    by_cases hmany:256 < na + n5
    ·have g2:(256:Int) < (na:Int) + (n5:Int):=by omega
     have HE:Hid (q1h (isV:=isV) (xs.map jk) vs=22):=by show _=_;rw[HD.out,if_pos hmany]
     clear HD
     go_wp2
     go_ret
     rw[q7b HE.out (by decide),HE.out]
     exact Decl.same HS.out BW6.out
    ·have g2:¬(256:Int) < (na:Int) + (n5:Int):=by omega
     have HE:Hid (q1h (isV:=isV) (xs.map jk) vs=0):=by show _=_;rw[HD.out,if_neg hmany]
     obtain⟨ys,x,hxs⟩:∃ys x,xs=ys++[x]:=by
      rcases List.eq_nil_or_concat xs with h | ⟨ys,x,h⟩
      ·have:=HQ.out.1;rw[h] at this;simp at this
      ·exact⟨ys,x,by rw[h,List.concat_eq_append]⟩
     obtain⟨g,cS,cs,eS,hgb,hcs⟩:=S6.out.shape HQ.out.1
     obtain⟨nx,hnx⟩:∃nx,xs.length=nx:=⟨_,rfl⟩
     have hys:nx - 1=ys.length:=by rw[←hnx,hxs,List.length_append];rfl
     rw[hnx] at eS
     have IN:Hid _:=q85 w6 O P g nx cS xs hnx (by rw[←hnx];exact HQ.out.1) (by rw[←hnx];exact HQ.out.2.1) (by have h:=S6.out;rw[eS] at h;exact h)
     have HX:Hid (xs=ys++[x]∧vS=.slice (some ⟨g,0,none⟩) nx cS∧w6.heap[g]?=some (.cells cs 225 (0,0))∧cs[ys.length * 3 + 2]?=some x.vp):=⟨hxs,eS,hgb,by
      have h1:=hcs ys.length 2 x (by rw[hxs,List.getElem?_append_right (Nat.le_refl _)];simp) (by decide)
      exact h1⟩
     rw[hys] at IN
     clear HD hxs eS hgb hcs hnx hys
     go_wp2_with fail
     refine Calls.mono IN.out ?_
     rintro e w7 ⟨rfl,q,hw7⟩
     have b7:Below w6.heap.size w6 w7:=by rw[hw7];exact zu (Below.refl _ _) q
     have S7:Hid (qw tq O w7 P (.slice (some ⟨g,0,none⟩) nx cS) (ys++[x])):=by
      have h:=S6.out.below b7
      rw[HX.out.2.1,HX.out.1] at h
      exact h
     have G7:Hid (w7.heap[g]?=some (.cells cs 225 (0,0))):=(b7.block g (Array.getElem?_eq_some_iff.1 HX.out.2.2.1).1).trans HX.out.2.2.1
     have PA:Hid _:=qa9 w7 g (ys.length * 3 + 2) cs x a5 n5 c5 FR G7.out HX.out.2.2.2 (S7.out.each x (by simp)).p F6.out.1 (S.M.qh F6.out.2 (S.M.Ch.of_below (X:=fun _=>False) b7) fun _ _ e=>e) (by
      have h1:=HNA.out
      rw[HX.out.1] at h1
      unfold q0j at h1
      rw[List.flatMap_append,List.length_append] at h1
      simp at h1
      omega)
     have BW7:Hid (Below w.heap.size w w7):=BW6.out.trans (b7.mono BW6.out.size)
     clear hw7 b7 IN F6 S6 xb6
     go_wp2_with fail
     refine Calls.mono PA.out ?_
     rintro e w8 ⟨rfl,vp',hput⟩
     have FI:Hid (Decl (tq:=tq) O w P 0 (q1i (isV:=isV) (xs.map jk) vs) (.returned (.int .i64 0)) w8):=by
      obtain⟨h1,h2⟩:=S7.out.putp G7.out hput
      refine⟨rfl,_,_,h1.up (fun b hb=>?_) (fun b hb=>?_),?_,(S.M.Ch.of_below BW7.out).trans h2⟩
      ·rcases hb with hb | hb
       ·exact .inl hb
       ·exact .inr ⟨Nat.le_trans BW7.out.size hb.1,hb.2⟩
      ·rcases hb with hb | hb
       ·exact Nat.lt_of_lt_of_le (HS.out.lt b hb) (Nat.le_trans BW7.out.size h2.size)
       ·exact hb.2
      ·unfold q1i
       rw[HE.out,if_pos rfl,HFR.out,qh8,HX.out.1]
     clear hput PA
     go_wp2
     go_ret
     rw[HE.out]
     exact FI.out
end F
namespace F
open S (qm)
open Go.Maps Go.RowKit Go.WideMaps
variable {tq:Nat} {isV:Int→Bool}
section
variable {P:Program} {w:World}
theorem q8b {ops:Array Oper} {o:Oper} {a:Act} {K:Act→World→Prop} {Q:Exit→Act→World→Prop} {E:Prop} (hgd:o.guard=none) (s x:Operand) (t:TypeId)
  (ho:o.op=.call { callee:=.builtin .append,args:=#[s,x],argTypes:=#[t,t] }) (e:TypeId) (i:TypeInfo) (ht:P.underlying t=some (.slice e)) (hi:P.info? e=some i)
  (a':Option Addr) (n c':Nat) (hs:a.eval s=.slice a' n c') (hc:n≤c') (x0:Option Addr) (c:Nat) (hx:a.eval x=.slice x0 0 c) (h:K (a.put o.dst (.slice a' n c')) w) :
  if Region.wanted o (yielded ops a.tmps)=true then Oper.wp P o a w K Q else E:=by
 have hw:Region.wanted o (yielded ops a.tmps)=true:=by simp[Region.wanted,hgd]
 rw[if_pos hw]
 have src:Src P i.size t (.slice x0 0 c) 0 [] w:=by
  cases x0 with
  | none=>exact Src.ofNil w ht c
  | some ad=>exact Src.ofSlice w ht ad 0 c [] (by simp) (fun j u hu=>by simp at hu) (fun u hu=>by simp at hu)
 have hr:=run_append_nothing w t t o.type e i ht hi a' n c' hc _ src
 unfold Oper.wp execOp
 simp only[ho,resolve,invoke,builtin,Sem.run_bind,Sem.run_pure,Result.andThen_ok,List.map_toArray,List.map_cons,List.map_nil,hs,hx,hr]
 exact h
end
theorem qh9 (l:List ScC)(k:Nat):(uq l).take (k * 3)=uq (l.take k):=by
 induction l generalizing k with
 | nil=>simp[uq]
 | cons y r ih =>
  cases k with
  | zero=>simp[uq]
  | succ k =>
   show (scC y++uq r).take ((k + 1) * 3)=scC y++uq (r.take k)
   rw[←ih k]
   have e1:(k + 1) * 3=(k * 3) + 1 + 1 + 1:=by omega
   rw[e1]
   rfl
theorem qkv (w:World)(g m c:Nat)(xs:List ScC)(hm:m≤1048576)(hrow:w.ownsRow 0 225 3 (.slice (some ⟨g,0,none⟩) (m + 1) c) (m + 1) (uq xs)) :
  Calls Tryz.prog 155 #[.slice (some ⟨g,0,none⟩) (m + 1) c,.int .i64 (m:Int),.int .i64 ((m:Int) + 1)] w fun e w'=>e=.returned (.slice (some ⟨g,0,none⟩) m c)∧S.M.Ch (fun b=>b=g) w w'∧w'.ownsRow 0 225 3 (.slice (some ⟨g,0,none⟩) m c) m (uq (xs.take m)):=by
 obtain⟨iS,hiS,iSz,iSs,iSb⟩:=info_parts qmw
 obtain⟨_,_,e,hmc⟩:=qm hrow
 cases e
 have HR:Hid (w.ownsRow 0 225 3 (.slice (some ⟨g,0,none⟩) (m + 1) c) (m + 1) (uq xs)):=hrow
 have HD:Hid (w.drew.ownsRow 0 225 3 (.slice (some ⟨g,0,none⟩) (m + 1) c) (m + 1) (uq xs)):=hrow
 clear hrow
 have n1:((m:Int) == (m:Int) + 1)=false:=by rw[beq_eq_false_iff_ne];omega
 go_enter Tryz.func155,Tryz.ntmps155
 go_upto_region 5 with fail
 have hz:∀q,q < 1 * 3→(w.drew.cell? ⟨g,m * 3 + q,none⟩).isSome=true∧w.drew.frozen? ⟨g,m * 3 + q,none⟩=false:=fun q hq=>by
  obtain⟨ad,e,h1⟩:=q1u HD.out (m * 3 + q) _ (List.getElem?_eq_getElem (by rw[HD.out.1];omega))
  cases e
  rw[Addr.add_lit,Nat.zero_add] at h1
  exact⟨by rw[h1];rfl,q5d HD.out _⟩
 have hclr:=q5y (P:=Tryz.prog) w.drew 169 225 0 (.agg #[.slice none 0 0,.map none,.slice none 0 0]) Tryz.underlying169 (fun w=>by kernel_rfl) (by decide) (by decide) g (m * 3) 1 (c - m) (by omega) (fun q hq=>(hz q hq).1) (fun q hq=>(hz q hq).2)
 obtain⟨Z,hZ⟩:∃Z,(Builtin.zeroCells (Value.agg #[.slice none 0 0,.map none,.slice none 0 0]).cells 1).toList=Z:=⟨_,rfl⟩
 rw[hZ] at hclr
 have FI:Hid (S.M.Ch (fun b=>b=g) w (w.drew.setCells g (m * 3) Z)∧(w.drew.setCells g (m * 3) Z).ownsRow 0 225 3 (.slice (some ⟨g,0,none⟩) m c) m (uq (xs.take m))):=by
  refine⟨(S.M.Ch.of_below (zu (Below.refl _ w) 1)).trans (q69 g Z _ w.drew),?_⟩
  have h1:=qa8 (k:=m) HD.out (by omega)
  rw[qh9] at h1
  exact qa7 Z _ w.drew h1 (Nat.le_refl _)
 clear hz hZ
 have s1:m≤c:=by omega
 have s2:(0:Int)≤(m:Int) + 1:=by omega
 have s3:¬c=m:=by omega
 refine wp_region_held_drew (S:=fun _=>True) (by kernel_rfl) ?_ (fun hHeld=>?_)
 ·trivial
 refine tk 0 ⟨some 20,.move (.tmp 0),169,"slices.go:232",#[],none⟩ ?_ hHeld ?_ ?_
 rotate_left
 ·(intro w hSw;(try dsimp only at hSw);go_simp;try with_reducible rfl)
 try simp only[Act.put,List.setIfInBounds_toArray,List.set_cons_zero,List.set_cons_succ]
 refine tk 1 ⟨some 21,.move (.tmp 1),3,"slices.go:232",#[],none⟩ ?_ hHeld ?_ ?_
 rotate_left
 ·(intro w hSw;(try dsimp only at hSw);go_simp;try with_reducible rfl)
 try simp only[Act.put,List.setIfInBounds_toArray,List.set_cons_zero,List.set_cons_succ]
 refine tk 2 ⟨some 22,.slice 169 (.tmp 20) none (some (.tmp 21)) none,169,"slices.go:232",#[⟨0,.data⟩,⟨1,.data⟩],none⟩ ?_ hHeld ?_ ?_
 rotate_left
 ·(intro w hSw;(try dsimp only at hSw);go_simp;try with_reducible rfl)
 try simp only[Act.put,List.setIfInBounds_toArray,List.set_cons_zero,List.set_cons_succ]
 refine tk 3 ⟨some 23,.move (.tmp 0),169,"slices.go:232",#[],none⟩ ?_ hHeld ?_ ?_
 rotate_left
 ·(intro w hSw;(try dsimp only at hSw);go_simp;try with_reducible rfl)
 try simp only[Act.put,List.setIfInBounds_toArray,List.set_cons_zero,List.set_cons_succ]
 refine tk 4 ⟨some 24,.move (.tmp 2),3,"slices.go:232",#[],none⟩ ?_ hHeld ?_ ?_
 rotate_left
 ·(intro w hSw;(try dsimp only at hSw);go_simp;try with_reducible rfl)
 try simp only[Act.put,List.setIfInBounds_toArray,List.set_cons_zero,List.set_cons_succ]
 refine tk 5 ⟨some 25,.slice 169 (.tmp 23) (some (.tmp 24)) none none,169,"slices.go:232",#[⟨3,.data⟩,⟨4,.data⟩],none⟩ ?_ hHeld ?_ ?_
 rotate_left
 ·(intro w hSw;(try dsimp only at hSw);go_simp;try with_reducible rfl)
 try simp only[Act.put,List.setIfInBounds_toArray,List.set_cons_zero,List.set_cons_succ]
 refine wpAnyH_ready (rs:=[6]) (by kernel_rfl) (by simp) ?_
 refine AllReadyH.cons rfl (fun K hK=>?_) AllReadyH.nil
 generalize (if c=m + 1 then some (⟨g,0,none⟩:Addr) else some ⟨g,(m + 1) * 3,none⟩)=x25 at *
 refine q8b rfl _ _ 169 rfl 225 iS Tryz.underlying169 hiS (some ⟨g,0,none⟩) m c (by rfl) (by omega) _ _ (by rfl) ?_
 refine hK.out _ _ ?_ (fun hHeld_6=>?_)
 ·trivial
 clear hK K
 try simp only[Act.put,List.setIfInBounds_toArray]
 refine tk 7 ⟨some 0,.assign (.tmp 26),169,"slices.go:232",#[⟨6,.data⟩,⟨6,.chain⟩,⟨0,.phase⟩,⟨1,.phase⟩,⟨2,.phase⟩,⟨3,.phase⟩,⟨4,.phase⟩,⟨5,.phase⟩,⟨6,.phase⟩],none⟩ ?_ hHeld_6 ?_ ?_
 rotate_left
 ·(intro w hSw;(try dsimp only at hSw);go_simp;try with_reducible rfl)
 try simp only[Act.put]
 refine wpAnyH_done (by kernel_rfl) ?_ _
 go_wp2
 go_ret
 exact⟨rfl,FI.out⟩
def q0p (l:List Sa):Int:=if l.length≤1 then 23 else 0
def q08 (l:List Sa):List Sa:=if l.length≤1 then l else l.take (l.length - 1)
theorem qha (w:World)(O:Nat→Prop)(P:Nat)(vS:Value)(xs:List ScC)(h:qw tq O w P vS xs)(h0:0 < xs.length)(hn:xs.length≤1048576) :
  Calls Tryz.prog 107 #[.pointer (some ⟨P,0,none⟩)] w (Decl (tq:=tq) O w P (q0p (xs.map jk)) (q08 (xs.map jk))):=by
 have HS:Hid (qw tq O w P vS xs):=h
 have DP:Hid _:=q41 w O P vS xs h hn
 obtain⟨g,c,cs,eS,hgb,_⟩:=h.shape h0
 obtain⟨m,hl⟩:∃m,xs.length=m + 1:=⟨xs.length - 1,by omega⟩
 rw[hl] at DP hn eS
 rw[show (((m + 1:Nat):Int) - 1)=(m:Int) by omega] at DP
 have HL:Hid (xs.length=m + 1∧vS=.slice (some ⟨g,0,none⟩) (m + 1) c):=⟨hl,eS⟩
 have x1:=h.cells.2
 rw[eS] at x1
 have hrow:=h.row
 rw[hl,eS] at hrow
 have DE:Hid _:=qkv w g m c xs (by omega) hrow
 clear h hl eS h0 hgb hrow
 by_cases hm:m=0
 ·have z:((m:Int) == 0)=true:=by rw[hm];rfl
  have HE:Hid (q0p (xs.map jk)=23∧q08 (xs.map jk)=xs.map jk):=by
   have h1:(xs.map jk).length≤1:=by rw[List.length_map,HL.out.1];omega
   exact⟨by unfold q0p;rw[if_pos h1],by unfold q08;rw[if_pos h1]⟩
  go_enter Tryz.func107,Tryz.ntmps107
  go_wp2_with fail
  refine Calls.mono DP.out ?_
  rintro e wz ⟨rfl,hwz⟩
  subst wz
  go_wp2
  go_ret
  rw[HE.out.1,HE.out.2]
  exact Decl.same HS.out (Below.refl _ _)
 ·have z:((m:Int) == 0)=false:=by rw[beq_eq_false_iff_ne];omega
  have HE:Hid (q0p (xs.map jk)=0∧q08 (xs.map jk)=(xs.take m).map jk):=by
   have h1:¬(xs.map jk).length≤1:=by rw[List.length_map,HL.out.1];omega
   refine⟨by unfold q0p;rw[if_neg h1],?_⟩
   unfold q08
   rw[if_neg h1,List.length_map,HL.out.1,Nat.add_sub_cancel,List.map_take]
  go_enter Tryz.func107,Tryz.ntmps107
  go_wp2_with fail
  refine Calls.mono DP.out ?_
  rintro e wz ⟨rfl,hwz⟩
  subst wz
  go_wp2_with fail
  refine Calls.mono DE.out ?_
  rintro e w2 ⟨rfl,hc2,ho2⟩
  have hS:=HS.out
  rw[HL.out.2] at hS
  have hlen:(xs.take m).length=m:=by rw[List.length_take,HL.out.1];omega
  obtain⟨k1,k2⟩:=hS.q98 (w:=w) (ys:=xs.take m) (Nat.le_refl _) (hc2.mono fun b e=>by rw[e];rfl) (by rw[hlen];exact ho2) (fun b e=>.inl (by cases e;rfl)) (fun y hy=>.inl (List.mem_of_mem_take hy)) (hS.ap.sublist (List.take_sublist _ _))
  have hneP:P≠g:=fun e=>own_ne hS.row hS.box (by decide) (by rw[e];rfl)
  have b2:w2.heap[P]?=some (.cells #[(q17 tq),.slice (some ⟨g,0,none⟩) (m + 1) c] 171 (0,0)):=(hc2.block P (hS.lt P hS.bo) hneP).trans hS.box
  have dL:w2.cell? ⟨P,1,none⟩=some (.slice (some ⟨g,0,none⟩) (m + 1) c):=S.M.qc b2 1
  have fL:w2.frozen? ⟨P,1,none⟩=false:=by simp[World.frozen?,b2]
  have FI:Hid (Decl (tq:=tq) O w P 0 ((xs.take m).map jk) (.returned (.int .i64 0)) (w2.setCell ⟨P,1,none⟩ (.slice (some ⟨g,0,none⟩) m c))):=⟨rfl,_,_,k1,rfl,k2⟩
  clear hc2 ho2 hS k1 k2 b2 hlen DE DP
  go_wp2
  go_ret
  rw[HE.out.1,HE.out.2]
  exact FI.out
end F
end Go.Proofs.YtbancemhfjjmlaaGreatDoor
