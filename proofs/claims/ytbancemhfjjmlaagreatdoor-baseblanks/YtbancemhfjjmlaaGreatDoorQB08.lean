/- Laid together. -/
import Derived.Test.YtbancemhfjjmlaaGreatDoorQB07
set_option maxRecDepth 100000
set_option maxHeartbeats 32000000
namespace Go.Proofs.YtbancemhfjjmlaaGreatDoor
namespace B
open Go.RowKit
open S (Tok Stm)
structure AsC where
 a:As
 vg:Value
 vn:Value
 vp:Value
 va:Value
 vq:Value
 vf:Value
def asC (x:AsC):List Value:=[.string x.a.label.text,.int .i64 x.a.label.off,.int .i64 x.a.label.line,.int .i64 x.a.label.col,.bool x.a.thm,x.vg,x.vn,x.vp,x.va,x.vq,x.vf,.string x.a.fin.text,.int .i64 x.a.fin.off,.int .i64 x.a.fin.line,.int .i64 x.a.fin.col]
def q4t (l:List AsC):List Value:=l.flatMap asC
structure qa7 (N:Nat)(W:World)(x:AsC):Prop where
 g:W.ownsRow N 3 1 x.vg x.a.goal.length (F.xw x.a.goal)
 n:W.ownsRow N 3 1 x.vn x.a.needed.length (F.xw x.a.needed)
 p:W.ownsRow N 130 2 x.vp x.a.apart.length (F.jh x.a.apart)
 a:W.ownsRow N 3 1 x.va x.a.active.length (F.xw x.a.active)
 q:W.ownsRow N 130 2 x.vq x.a.pairs.length (F.jh x.a.pairs)
 f:W.ownsRow N 36 4 x.vf x.a.proof.length (S.rowT x.a.proof)
def qgl (x:AsC)(b:Nat):Prop:=x.vg.ownBlock=some b∨x.vn.ownBlock=some b∨x.vp.ownBlock=some b∨x.va.ownBlock=some b∨x.vq.ownBlock=some b∨x.vf.ownBlock=some b
structure LdM where
 Bb:Nat
 tq:Nat
 P:Nat
 nb:Nat
 hb:Nat
 ab:Nat
 bs:List Nat
 O:Nat→Prop
 vS:Value
 vh:Value
 va:Value
 sx:List F.ScC
 hs:List F.HyC
 ax:List AsC
def LdM.q (m:LdM)(b:Nat):Prop:=b=m.Bb∨b=m.nb∨b=m.hb∨b=m.ab∨m.vh.ownBlock=some b∨m.va.ownBlock=some b
def LdM.hot (m:LdM)(b:Nat):Prop:=b ∈ m.bs∨m.O b∨m.q b
structure qgm (N:Nat)(W:World)(lb:Nat)(m:LdM):Prop where
 lbox:W.heap[lb]?=some (.cells #[.pointer (some ⟨m.Bb,0,none⟩),.pointer (some ⟨m.tq,0,none⟩),.pointer (some ⟨m.P,0,none⟩)] 106 (0,0))
 lh:¬m.hot lb
 e:∀y ∈ m.hs,W.ownsRow N 3 1 y.ve y.h.ex.length (F.xw y.h.ex)∧∀b,y.ve.ownBlock=some b→¬m.hot b
 a:∀x ∈ m.ax,qa7 N W x∧∀b,qgl x b→¬m.hot b
structure xg (N:Nat)(W:World)(lb:Nat)(txt:ByteArray)(k:Nat)(L:Ld)(nf:ByteArray→Option Nat)(m:LdM):Prop where
 cold:qgm N W lb m
 bbox:W.heap[m.Bb]?=some (.cells #[.string txt,.pointer (some ⟨m.tq,0,none⟩),.map (some m.nb),m.vh,.map (some m.hb),m.va,.map (some m.ab)] 121 (0,0))
 tab:Y.TabAt W m.bs m.tq k L.T
 stk:F.qw m.tq m.O W m.P m.vS m.sx
 sca:m.sx.map F.jm=L.sc
 num:∃n,n≤k∧Y.jg W m.nb n nf
 hyr:W.ownsRow N 57 4 m.vh m.hs.length (F.uf m.hs)
 hya:m.hs.map (·.h)=L.hy
 hym:∃n,n≤k∧Y.jg W m.hb n (q1p L.hy)
 asr:W.ownsRow N 123 15 m.va m.ax.length (q4t m.ax)
 asa:m.ax.map (·.a)=L.al
 asm:∃n,n≤k∧Y.jg W m.ab n (q3a L.al)
 ta:∀b ∈ m.bs,¬m.O b
 qa:∀b,m.q b→b ∉ m.bs∧¬m.O b
 ne:m.nb≠m.hb∧m.nb≠m.ab∧m.hb≠m.ab
 low:∀b,m.hot b→N≤b
 ge:N≤W.heap.size
theorem map_lt {W:World}{b n:Nat}{f:ByteArray→Option Nat}(h:Y.jg W b n f):b < W.heap.size∧∃es c,W.heap[b]?=some (.map es c):=by
 obtain⟨D,⟨es,clock,hh,_⟩,_⟩:=h;exact⟨(aIx hh),es,clock,hh⟩
theorem xg.lt {N:Nat}{W:World}{lb:Nat}{txt:ByteArray}{k:Nat}{L:Ld}{nf:ByteArray→Option Nat}{m:LdM}(h:xg N W lb txt k L nf m):∀b,m.hot b→b < W.heap.size:=fun b hb=>by
 rcases hb with hb | hb | rfl | rfl | rfl | rfl | hb | hb
 ·exact h.tab.low b hb
 ·exact h.stk.lt b hb
 ·exact (aIx h.bbox)
 ·exact (map_lt h.num.choose_spec.2).1
 ·exact (map_lt h.hym.choose_spec.2).1
 ·exact (map_lt h.asm.choose_spec.2).1
 ·exact S.M.jr h.hyr b hb
 ·exact S.M.jr h.asr b hb
theorem qa7.ch {N:Nat}{X:Nat→Prop}{W W':World}{x:AsC}(h:qa7 N W x)(hc:S.M.Ch X W W')(hx:∀b,qgl x b→¬X b):qa7 N W' x :=
 ⟨S.M.qh h.g hc fun b e=>hx b (.inl e),S.M.qh h.n hc fun b e=>hx b (.inr (.inl e)),S.M.qh h.p hc fun b e=>hx b (.inr (.inr (.inl e))),S.M.qh h.a hc fun b e=>hx b (.inr (.inr (.inr (.inl e)))),S.M.qh h.q hc fun b e=>hx b (.inr (.inr (.inr (.inr (.inl e))))),S.M.qh h.f hc fun b e=>hx b (.inr (.inr (.inr (.inr (.inr e)))))⟩
theorem qa7.lt {N:Nat}{W:World}{x:AsC}(h:qa7 N W x):∀b,qgl x b→b < W.heap.size:=fun b hb=>by
 rcases hb with e | e | e | e | e | e
 ·exact S.M.jr h.g b e
 ·exact S.M.jr h.n b e
 ·exact S.M.jr h.p b e
 ·exact S.M.jr h.a b e
 ·exact S.M.jr h.q b e
 ·exact S.M.jr h.f b e
theorem qgm.ch {N:Nat}{W W':World}{lb:Nat}{m m':LdM}(h:qgm N W lb m)(hc:S.M.Ch m.hot W W')(e1:m'.Bb=m.Bb)(e2:m'.tq=m.tq)(e3:m'.P=m.P)(e4:m'.hs=m.hs)(e5:m'.ax=m.ax)(hh:∀b,m'.hot b→m.hot b∨W.heap.size≤b):qgm N W' lb m':=by
 have hl:=(aIx h.lbox);have hno:∀b,b < W.heap.size→¬m.hot b→¬m'.hot b:=fun b hb hn hm=>(hh b hm).elim hn fun h2=>by omega
 refine⟨?_,hno lb hl h.lh,?_,?_⟩
 ·rw[e1,e2,e3];exact (hc.block lb hl h.lh).trans h.lbox
 ·rw[e4];intro y hy;obtain⟨h1,h2⟩:=h.e y hy;exact⟨S.M.qh h1 hc h2,fun b eb=>hno b (S.M.jr h1 b eb) (h2 b eb)⟩
 ·rw[e5];intro x hx;obtain⟨h1,h2⟩:=h.a x hx;exact⟨h1.ch hc h2,fun b eb=>hno b (h1.lt b eb) (h2 b eb)⟩
theorem qbo {tq:Nat}{O X:Nat→Prop}{W W':World}{P:Nat}{vS:Value}{xs:List F.ScC}(h:F.qw tq O W P vS xs)(hc:S.M.Ch X W W')(hx:∀b,O b→¬X b):F.qw tq O W' P vS xs :=
 ⟨(hc.block P (h.lt P h.bo) (hx P h.bo)).trans h.box,h.bo,S.M.qh h.row hc fun g e=>hx g (h.ro g e),h.ro,fun x hm=>(h.each x hm).ch hc (fun g e=>hx g ((h.each x hm).lo g e)) (fun y hy g e=>hx g (((h.each x hm).e y hy).2 g e)) (hx _ (h.each x hm).mo) (fun g e=>hx g ((h.each x hm).po g e)),h.ap,fun g hg=>Nat.lt_of_lt_of_le (h.lt g hg) hc.size⟩
theorem qbp {X:Nat→Prop}{W W':World}{bs:List Nat}{B k:Nat}{T:Y.Tab}(h:Y.TabAt W bs B k T)(hc:S.M.Ch X W W')(hx:∀b ∈ bs,¬X b):Y.TabAt W' bs B k T:=h.kept fun b hb=>hc.block b (h.low b hb) (hx b hb)
theorem q1q {X:Nat→Prop}{W W':World}{b k:Nat}{f:ByteArray→Option Nat}(h:∃n,n≤k∧Y.jg W b n f)(hc:S.M.Ch X W W')(hx:¬X b):∃n,n≤k∧Y.jg W' b n f:=by
 obtain⟨n,hn,h⟩:=h;exact⟨n,hn,h.kept (hc.block b (map_lt h).1 hx)⟩
theorem q40 {W:World}{b k k':Nat}{f:ByteArray→Option Nat}(h:∃n,n≤k∧Y.jg W b n f)(hk:k≤k'):∃n,n≤k'∧Y.jg W b n f:=by
 obtain⟨n,hn,h⟩:=h;exact⟨n,by omega,h⟩
section
variable {N:Nat} {W W':World} {lb:Nat} {txt:ByteArray} {k k':Nat} {L:Ld} {nf:ByteArray→Option Nat} {m:LdM}
theorem xg.below (h:xg N W lb txt k L nf m)(hb:Below W.heap.size W W'):xg N W' lb txt k L nf m:=by
 have hc:=S.M.Ch.oB (X:=fun _=>False) hb;refine⟨h.cold.ch (S.M.Ch.oB hb) rfl rfl rfl rfl rfl fun _=>.inl,(hb.block _ (h.lt _ (.inr (.inr (.inl rfl))))).trans h.bbox,h.tab.below hb,h.stk.below hb,h.sca,q1q h.num hc id,S.M.qh h.hyr hc fun _ _=>id,h.hya,q1q h.hym hc id,S.M.qh h.asr hc fun _ _=>id,h.asa,q1q h.asm hc id,h.ta,h.qa,h.ne,h.low,nLt h.ge hb.size⟩
theorem xg.up (h:xg N W lb txt k L nf m)(hk:k≤k'):xg N W lb txt k' L nf m :=
 ⟨h.cold,h.bbox,h.tab.up hk,h.stk,h.sca,q40 h.num hk,h.hyr,h.hya,q40 h.hym hk,h.asr,h.asa,q40 h.asm hk,h.ta,h.qa,h.ne,h.low,h.ge⟩
def Goes (N:Nat)(W:World)(lb:Nat)(txt:ByteArray)(m:LdM)(k':Nat)(L':Ld)(nf':ByteArray→Option Nat)(W':World):Prop:=S.M.Ch m.hot W W'∧∃m',xg N W' lb txt k' L' nf' m'∧∀b,m'.hot b→m.hot b∨W.heap.size≤b
theorem Goes.same (h:xg N W lb txt k L nf m)(hb:Below W.heap.size W W'):Goes N W lb txt m k L nf W':=⟨S.M.Ch.oB hb,m,h.below hb,fun _=>.inl⟩
theorem Goes.trans {W2:World}{k1 k2:Nat}{L1 L2:Ld}{nf1 nf2:ByteArray→Option Nat}(h:Goes N W lb txt m k1 L1 nf1 W')(h2:∀m',xg N W' lb txt k1 L1 nf1 m'→Goes N W' lb txt m' k2 L2 nf2 W2):Goes N W lb txt m k2 L2 nf2 W2:=by
 obtain⟨c1,m1,i1,g1⟩:=h;obtain⟨c2,m2,i2,g2⟩:=h2 m1 i1;have hs:=c1.size;refine⟨?_,m2,i2,fun b hb=>?_⟩
 ·refine⟨c2.os.trans c1.os,c2.tape.trans c1.tape,c2.output.trans c1.output,nLt c1.size c2.size,fun g hg hn=>?_⟩;refine (c2.block g (by omega) fun hm=>?_).trans (c1.block g hg hn);rcases g1 g hm with h | h
  ·exact hn h
  ·omega
 ·rcases g2 b hb with h | h
  ·exact g1 b h
  ·exact .inr (by omega)
theorem Goes.up (h:Goes N W lb txt m k L nf W')(hk:k≤k'):Goes N W lb txt m k' L nf W':=⟨h.1,h.2.choose,h.2.choose_spec.1.up hk,h.2.choose_spec.2⟩
theorem xg.qbq {bs':List Nat}{T':Y.Tab}(h:xg N W lb txt k L nf m)(hk:k≤k')(ht:Y.TabAt W' bs' m.tq k' T')(hg:Y.Goes m.bs W bs' W'):Goes N W lb txt m k' { L with T:=T' } nf W':=by
 have hc:S.M.Ch (fun b=>b ∈ m.bs) W W':=⟨hg.turned.os,hg.turned.tape,hg.turned.output,hg.turned.size,hg.turned.block⟩;have hN:=h.ge;have hot:∀b,LdM.hot { m with bs:=bs' } b→m.hot b∨W.heap.size≤b:=fun b hb=>by
  rcases hb with hb | hb | hb
  ·exact (hg.blocks b hb).imp (fun h=>.inl h) id
  ·exact .inl (.inr (.inl hb))
  ·exact .inl (.inr (.inr hb))
 have fresh:∀b ∈ bs',∀(X:Nat→Prop),(∀b ∈ m.bs,¬X b)→(∀b,X b→b < W.heap.size)→¬X b:=fun b hb X h1 h2 hx=>by
  rcases hg.blocks b hb with h3 | h3
  ·exact h1 b h3 hx
  ·have:=h2 b hx;omega
 have nq:∀b,m.q b→b ∉ m.bs:=fun b hb=>(h.qa b hb).1
 refine⟨hc.mono fun b hb=>.inl hb,{ m with bs:=bs' },?_,hot⟩;refine⟨h.cold.ch (hc.mono fun b hb=>.inl hb) rfl rfl rfl rfl rfl hot,(hc.block _ (h.lt _ (.inr (.inr (.inl rfl)))) (nq _ (.inl rfl))).trans h.bbox,ht,qbo h.stk hc (fun b hO hb=>h.ta b hb hO),h.sca,q40 (q1q h.num hc (nq _ (.inr (.inl rfl)))) hk,S.M.qh h.hyr hc (fun b e=>nq b (.inr (.inr (.inr (.inr (.inl e)))))),h.hya,q40 (q1q h.hym hc (nq _ (.inr (.inr (.inl rfl))))) hk,S.M.qh h.asr hc (fun b e=>nq b (.inr (.inr (.inr (.inr (.inr e)))))),h.asa,q40 (q1q h.asm hc (nq _ (.inr (.inr (.inr (.inl rfl)))))) hk,?_,?_,h.ne,?_,nLt hN hc.size⟩
 ·exact fun b hb=>fresh b hb m.O h.ta h.stk.lt
 ·exact fun b hq=>⟨fun hb=>fresh b hb m.q (fun b hb hq=>nq b hq hb) (fun b hq=>h.lt b (.inr (.inr hq))) hq,(h.qa b hq).2⟩
 ·exact fun b hb=>(hot b hb).elim (h.low b) fun h2=>by omega
theorem xg.stacked {vS':Value}{sx':List F.ScC}(h:xg N W lb txt k L nf m)(hs:F.qw m.tq (F.More m.O W W') W' m.P vS' sx')(hc:S.M.Ch m.O W W'):Goes N W lb txt m k { L with sc:=sx'.map F.jm } nf W':=by
 have hN:=h.ge;have hot:∀b,LdM.hot { m with O:=F.More m.O W W',vS:=vS',sx:=sx' } b→m.hot b∨W.heap.size≤b:=fun b hb=>by
  rcases hb with hb | hb | hb
  ·exact .inl (.inl hb)
  ·exact hb.elim (fun h=>.inl (.inr (.inl h))) fun h=>.inr h.1
  ·exact .inl (.inr (.inr hb))
 have no:∀b,¬m.O b→b < W.heap.size→¬F.More m.O W W' b:=fun b h1 h2 h3=>h3.elim h1 fun h4=>by have:=h4.1;omega
 have nq:∀b,m.q b→¬m.O b:=fun b hb=>(h.qa b hb).2
 refine⟨hc.mono fun b hb=>.inr (.inl hb),{ m with O:=F.More m.O W W',vS:=vS',sx:=sx' },?_,hot⟩;refine⟨h.cold.ch (hc.mono fun b hb=>.inr (.inl hb)) rfl rfl rfl rfl rfl hot,(hc.block _ (h.lt _ (.inr (.inr (.inl rfl)))) (nq _ (.inl rfl))).trans h.bbox,qbp h.tab hc h.ta,hs,rfl,q1q h.num hc (nq _ (.inr (.inl rfl))),S.M.qh h.hyr hc (fun b e=>nq b (.inr (.inr (.inr (.inr (.inl e)))))),h.hya,q1q h.hym hc (nq _ (.inr (.inr (.inl rfl)))),S.M.qh h.asr hc (fun b e=>nq b (.inr (.inr (.inr (.inr (.inr e)))))),h.asa,q1q h.asm hc (nq _ (.inr (.inr (.inr (.inl rfl))))),?_,?_,h.ne,?_,nLt hN hc.size⟩
 ·exact fun b hb=>no b (h.ta b hb) (h.lt b (.inl hb))
 ·exact fun b hq=>⟨(h.qa b hq).1,no b (nq b hq) (h.lt b (.inr (.inr hq)))⟩
 ·exact fun b hb=>(hot b hb).elim (h.low b) fun h2=>by omega
theorem xg.mapped {x:Nat} (h:xg N W lb txt k L nf m) (hk:k≤k') (hx:x=m.nb∨x=m.hb∨x=m.ab) (hc:S.M.Ch (fun b=>some x=some b) W W') {hy':List F.Hy} {al':List As} {nf':ByteArray→Option Nat}
  (h1:if x=m.nb then ∃n,n≤k'∧Y.jg W' m.nb n nf' else nf'=nf) (h2:if x=m.hb then ∃n,n≤k'∧Y.jg W' m.hb n (q1p hy') else q1p hy'=q1p L.hy) (h3:if x=m.ab then ∃n,n≤k'∧Y.jg W' m.ab n (q3a al') else q3a al'=q3a L.al) :
  S.M.Ch m.hot W W'∧qgm N W' lb m∧W'.heap[m.Bb]?=W.heap[m.Bb]?∧Y.TabAt W' m.bs m.tq k' L.T∧F.qw m.tq m.O W' m.P m.vS m.sx∧(∃n,n≤k'∧Y.jg W' m.nb n nf')∧W'.ownsRow N 57 4 m.vh m.hs.length (F.uf m.hs)∧(∃n,n≤k'∧Y.jg W' m.hb n (q1p hy'))∧W'.ownsRow N 123 15 m.va m.ax.length (q4t m.ax)∧∃n,n≤k'∧Y.jg W' m.ab n (q3a al'):=by
 have qx:m.q x:=by rcases hx with rfl | rfl | rfl <;> simp[LdM.q]
 have hc':S.M.Ch (fun b=>b=x) W W':=hc.mono fun b e=>by cases e;rfl
 have hC:S.M.Ch m.hot W W':=hc'.mono fun b e=>by cases e;exact .inr (.inr qx)
 have nx:∀b,m.q b→b≠x→b≠x:=fun _ _=>id
 have hmap:∃es c,W.heap[x]?=some (.map es c):=by
  rcases hx with rfl | rfl | rfl
  ·exact (map_lt h.num.choose_spec.2).2
  ·exact (map_lt h.hym.choose_spec.2).2
  ·exact (map_lt h.asm.choose_spec.2).2
 obtain⟨es,ck,hmap⟩:=hmap;have nc:∀{v:Value} {base e size n:Nat} {xs:List Value},W.ownsRow base e size v n xs→∀b,v.ownBlock=some b→b≠x:=fun ho b eb e=>by
  subst e;obtain⟨cs,hcs⟩:=F.um ho eb;rw[hmap] at hcs
  cases hcs
 refine⟨hC,h.cold.ch hC rfl rfl rfl rfl rfl fun _=>.inl,hc'.block _ (h.lt _ (.inr (.inr (.inl rfl)))) (fun e=>?_),(qbp h.tab hc' fun b hb e=>(h.qa x qx).1 (e ▸ hb)).up hk,qbo h.stk hc' (fun b hb e=>(h.qa x qx).2 (e ▸ hb)),?_,S.M.qh h.hyr hc' (fun b eb=>nc h.hyr b eb),?_,S.M.qh h.asr hc' (fun b eb=>nc h.asr b eb),?_⟩
 ·subst e;rw[h.bbox] at hmap
  cases hmap
 ·by_cases e:x=m.nb
  ·rwa [if_pos e] at h1
  ·rw[if_neg e] at h1;rw[h1];exact q40 (q1q h.num hc' fun e2=>e e2.symm) hk
 ·by_cases e:x=m.hb
  ·rwa [if_pos e] at h2
  ·rw[if_neg e] at h2;rw[h2];exact q40 (q1q h.hym hc' fun e2=>e e2.symm) hk
 ·by_cases e:x=m.ab
  ·rwa [if_pos e] at h3
  ·rw[if_neg e] at h3;rw[h3];exact q40 (q1q h.asm hc' fun e2=>e e2.symm) hk
end
theorem qja (w:World)(N0:Nat)(v:Value)(n:Nat)(ts:List Tok)(hl:ts.length=n)(hn:n≤1099511627776)(h:w.ownsRow N0 36 4 v n (S.rowT ts)) :
  Calls Tryz.prog 67 #[v] w fun e w'=>∃v',e=.returned v'∧w'.ownsRow w.heap.size 36 4 v' n (S.rowT ts)∧Below w.heap.size w w':=by
 obtain⟨i0,hi0,hz0,hz1,hz3⟩:=info_parts S.qk7;have HL:=hid hl;rcases h.2 with ⟨rfl,h0⟩ | ⟨g,cap,cur,rfl,_⟩
 ·subst h0;obtain rfl:ts=[]:=List.eq_nil_of_length_eq_zero hl;have hq:=Lib.run_eql_slice_nil (P:=Tryz.prog) w 32 36 none 0 0 0 0 Tryz.underlying32;clear h hl;go_enter Tryz.func67,Tryz.ntmps67
  go_wp2
  go_ret
  exact⟨_,rfl,World.ownsRow_nil _ _ _ _,bRf⟩
 ·have HA:Hid ((w.alloc (.cells #[] 36)).ownsRow N0 36 4 (.slice (some ⟨g,0,none⟩) n cap) n (S.rowT ts)):=S.M.zk h _;have hq:=Lib.run_eql_slice_nil (P:=Tryz.prog) w 32 36 (some ⟨g,0,none⟩) n cap 0 0 Tryz.underlying32;clear h hl;go_enter Tryz.func67,Tryz.ntmps67;have hown:Hid ((w.alloc (.cells #[] 36)).ownsRow w.heap.size 36 4 (.slice (some ⟨w.heap.size,0,none⟩) 0 0) 0 []):=⟨rfl,.inr ⟨w.heap.size,0,_,rfl,Nat.le_refl _,World.alloc_heap_new w _,Nat.le_refl _,by unfold maxLen;omega,rfl,rfl⟩⟩
  go_wp2_with (at_builtin;refine S.jk (w:=w.alloc (.cells #[] 36)) rfl _ _ _ rfl w.heap.size 36 i0 _ 4 40 Tryz.underlying32 hi0 hz0 hz1 hz3 rfl (by omega) _ 0 [] (by rfl) (by exact hown.out) (some ⟨g,0,none⟩) n cap (S.rowT ts) (by rfl) (by rw[S.qog,HL.out]) (F.q29 HA.out) (S.qoh ts) (by unfold maxLen;omega) (by omega) (by exact (S.qg _ _).size) ?_;intro a8 c8 w8 ho8 hb8;have HO:=hid ho8;have HB:Hid (Below w.heap.size w w8):=(S.qg w _).trans hb8;clear ho8 hb8)
  go_wp2
  go_ret
  refine⟨_,rfl,?_,HB.out⟩;have:=HO.out
  simpa using this
theorem qbr (w:World)(N0:Nat)(v:Value)(n:Nat)(ts:List F.Pp)(hl:ts.length=n)(hn:n≤1099511627776)(h:w.ownsRow N0 130 2 v n (F.jh ts)) :
  Calls Tryz.prog 124 #[v] w fun e w'=>∃v',e=.returned v'∧w'.ownsRow w.heap.size 130 2 v' n (F.jh ts)∧Below w.heap.size w w':=by
 obtain⟨i0,hi0,hz0,hz1,hz3⟩:=info_parts F.qeb;have HL:=hid hl;rcases h.2 with ⟨rfl,h0⟩ | ⟨g,cap,cur,rfl,_⟩
 ·subst h0;obtain rfl:ts=[]:=List.eq_nil_of_length_eq_zero hl;have hq:=Lib.run_eql_slice_nil (P:=Tryz.prog) w 45 130 none 0 0 0 0 Tryz.underlying45;clear h hl;go_enter Tryz.func124,Tryz.ntmps124
  go_wp2
  go_ret
  exact⟨_,rfl,World.ownsRow_nil _ _ _ _,bRf⟩
 ·have HA:Hid ((w.alloc (.cells #[] 130)).ownsRow N0 130 2 (.slice (some ⟨g,0,none⟩) n cap) n (F.jh ts)):=S.M.zk h _;have hq:=Lib.run_eql_slice_nil (P:=Tryz.prog) w 45 130 (some ⟨g,0,none⟩) n cap 0 0 Tryz.underlying45;clear h hl;go_enter Tryz.func124,Tryz.ntmps124;have hown:Hid ((w.alloc (.cells #[] 130)).ownsRow w.heap.size 130 2 (.slice (some ⟨w.heap.size,0,none⟩) 0 0) 0 []):=⟨rfl,.inr ⟨w.heap.size,0,_,rfl,Nat.le_refl _,World.alloc_heap_new w _,Nat.le_refl _,by unfold maxLen;omega,rfl,rfl⟩⟩
  go_wp2_with (at_builtin;refine S.jk (w:=w.alloc (.cells #[] 130)) rfl _ _ _ rfl w.heap.size 130 i0 _ 2 16 Tryz.underlying45 hi0 hz0 hz1 hz3 rfl (by omega) _ 0 [] (by rfl) (by exact hown.out) (some ⟨g,0,none⟩) n cap (F.jh ts) (by rfl) (by rw[F.qaz,HL.out]) (F.q29 HA.out) (F.qb3 ts) (by unfold maxLen;omega) (by omega) (by exact (S.qg _ _).size) ?_;intro a8 c8 w8 ho8 hb8;have HO:=hid ho8;have HB:Hid (Below w.heap.size w w8):=(S.qg w _).trans hb8;clear ho8 hb8)
  go_wp2
  go_ret
  refine⟨_,rfl,?_,HB.out⟩;have:=HO.out
  simpa using this
def Asks (w:World)(r:Res Int)(e:Ending)(w':World):Prop:=Below w.heap.size w w'∧match r with
 | .ok n=>e=.returned (.int .i64 n)
 | .error f=>Quits f.1 f.2 w.heap.size e w'
theorem q78 {w w':World}{r:Res Int}{e:Ending}{n:Int}(h:r=.ok n)(hb:Below w.heap.size w w')(he:e=.returned (.int .i64 n)):Asks w r e w':=by
 subst h;exact⟨hb,he⟩
theorem q4g {w w':World}{r:Res Int}{e:Ending}{t:Tok}{c:Int}(h:r=.error (t,c))(hb:Below w.heap.size w w')(hq:Quits t c w.heap.size e w'):Asks w r e w':=by
 subst h;exact⟨hb,hq⟩
section
variable {N:Nat} {w:World} {lb:Nat} {txt:ByteArray} {k:Nat} {L:Ld} {nf:ByteArray→Option Nat} {m:LdM}
theorem xg.cells (h:xg N w lb txt k L nf m):w.cell? ⟨lb,0,none⟩=some (.pointer (some ⟨m.Bb,0,none⟩))∧w.cell? ⟨lb,1,none⟩=some (.pointer (some ⟨m.tq,0,none⟩))∧w.cell? ⟨lb,2,none⟩=some (.pointer (some ⟨m.P,0,none⟩)):=⟨S.M.qc h.cold.lbox 0,S.M.qc h.cold.lbox 1,S.M.qc h.cold.lbox 2⟩
theorem q21 {t:Tok}{c:Int}{wz:World}{e:Ending}{w':World}(hb:Below w.heap.size w wz)(h:Below wz.heap.size wz w'∧Quits t c wz.heap.size e w'):Below w.heap.size w w'∧Quits t c w.heap.size e w':=⟨hb.trans (h.1.mono hb.size),h.2.le hb.size⟩
theorem ug {w w':World}{b o:Nat}{v:Value}(h:w.cell? ⟨b,o,none⟩=some v)(hb:Below w.heap.size w w'):w'.cell? ⟨b,o,none⟩=some v:=(hb.cell (p:=⟨b,o,none⟩) (bLt h)).trans h
theorem xg.isv (h:xg N w lb txt k L nf m)(hT:L.T.syms.length≤4611686018427387904)(wx:World)(hb:Below w.heap.size w wx)(n:Int):Calls Tryz.prog 70 #[.pointer (some ⟨m.tq,0,none⟩),.int .i64 n] wx fun e w'=>e=.returned (.bool (zn L.T n))∧Below wx.heap.size wx w':=Y.isVar_of wx _ _ _ _ n hT (h.below hb).tab
theorem q1g (h:xg N w lb txt k L nf m)(t:Tok)(ht:t.text.size≤maxLen):Calls Tryz.prog 218 #[.pointer (some ⟨lb,0,none⟩),S.zo t] w (Asks w (q33 L t)):=by
 obtain⟨x0,x1,x2⟩:=h.cells;have FD:Hid (∀wx,Below w.heap.size w wx→Calls Tryz.prog 250 #[.pointer (some ⟨m.tq,0,none⟩),.string t.text] wx fun e w'=>e=.returned (.tuple #[.int .i64 ((Y.q07 L.T t.text).getD 0:Nat),.bool (Y.q07 L.T t.text).isSome])∧w'=wx):=fun wx hb=>Y.qpz wx _ _ _ _ _ ht (h.below hb).tab
 have GU:Hid (∀wx,Calls Tryz.prog 153 #[S.zo t,.int .i64 30] wx fun e w'=>Below wx.heap.size wx w'∧Quits t 30 wx.heap.size e w'):=fun wx=>q20 wx t 30
 have HR:Hid (q33 L t=match Y.q07 L.T t.text with | some n=>.ok (n:Int) | none=>.error (t,30)):=rfl;generalize Y.q07 L.T t.text=r at *;generalize m.tq=tq at *;unfold S.zo at GU ⊢;have hb0:Hid (Below w.heap.size w (w.alloc (.cells #[.string t.text,.int .i64 t.off,.int .i64 t.line,.int .i64 t.col] 36))):=S.qg w _;have y1:=ug x1 hb0.out
 cases r with
 | some n =>
  clear h GU x0 x2;go_enter Tryz.func218,Tryz.ntmps218;go_wp2_with fail
  go_quiet (first | exact (FD.out _ (S.M.zi hb0.out _)).mono fun _ _ ⟨he,hw⟩=>⟨he,_,hw⟩)
  go_wp2
  go_ret
  exact q78 HR.out (S.M.zi hb0.out _) rfl
 | none =>
  clear h x0 x2;go_enter Tryz.func218,Tryz.ntmps218;go_wp2_with fail
  go_quiet (first | exact (FD.out _ (S.M.zi hb0.out _)).mono fun _ _ ⟨he,hw⟩=>⟨he,_,hw⟩)
  go_wp2_with fail;refine cMo (GU.out _) ?_;rintro e w' hq;obtain⟨q1,q2⟩:=q21 (S.M.zi hb0.out _) hq;have q2':=q2;obtain⟨b,rfl,_⟩:=q2';exact⟨rfl,q4g HR.out q1 q2⟩
abbrev uq (t:Tok):Array Value:=#[.string t.text,.int .i64 t.off,.int .i64 t.line,.int .i64 t.col]
theorem q5o {t:Tok}{w':World}(hb:Below (w.alloc (.cells (uq t) 36)).heap.size (w.alloc (.cells (uq t) 36)) w'):w'.cell? ⟨w.heap.size,0,none⟩=some (.string t.text)∧w'.cell? ⟨w.heap.size,1,none⟩=some (.int .i64 t.off)∧w'.cell? ⟨w.heap.size,2,none⟩=some (.int .i64 t.line)∧w'.cell? ⟨w.heap.size,3,none⟩=some (.int .i64 t.col) :=
 ⟨ug ((World.cell?_alloc_new w (uq t) 36 0).trans rfl) hb,ug ((World.cell?_alloc_new w (uq t) 36 1).trans rfl) hb,ug ((World.cell?_alloc_new w (uq t) 36 2).trans rfl) hb,ug ((World.cell?_alloc_new w (uq t) 36 3).trans rfl) hb⟩
theorem q8a (h:xg N w lb txt k L nf m)(hT:L.T.syms.length≤4611686018427387904)(t:Tok)(ht:t.text.size≤maxLen):Calls Tryz.prog 167 #[.pointer (some ⟨lb,0,none⟩),S.zo t] w (Asks w (q08 L t)):=by
 obtain⟨x0,x1,x2⟩:=h.cells;have SY:Hid (∀wx,Below w.heap.size w wx→Calls Tryz.prog 218 #[.pointer (some ⟨lb,0,none⟩),S.zo t] wx (Asks wx (q33 L t))):=fun wx hb=>q1g (h.below hb) t ht
 have IV:Hid (∀wx,Below w.heap.size w wx→∀n,Calls Tryz.prog 70 #[.pointer (some ⟨m.tq,0,none⟩),.int .i64 n] wx fun e w'=>e=.returned (.bool (zn L.T n))∧Below wx.heap.size wx w'):=fun wx hb n=>h.isv hT wx hb n
 have GU:Hid (∀wx,Calls Tryz.prog 153 #[S.zo t,.int .i64 72] wx fun e w'=>Below wx.heap.size wx w'∧Quits t 72 wx.heap.size e w'):=fun wx=>q20 wx t 72
 have HR:Hid (∀r,q33 L t=r→q08 L t=match r with | .ok n=>if zn L.T n=true then .error (t,72) else .ok n | .error f=>.error f):=fun r e=>by unfold q08;rw[e] <;> cases r <;> rfl
 generalize hr:q33 L t=r at *;replace HR:=show Hid _ from HR.out r rfl;generalize m.tq=tq at *;unfold S.zo at GU SY ⊢;have hb0:Hid (Below w.heap.size w (w.alloc (.cells (uq t) 36))):=S.qg w _;have y1:=ug x1 hb0.out;clear h x0 x2 hr
 cases r with
 | error f =>
  go_enter Tryz.func167,Tryz.ntmps167;go_wp2_with fail;refine cMo (SY.out _ hb0.out) ?_;rintro e w' hq;obtain⟨q1,q2⟩:=q21 hb0.out hq;have q2':=q2;obtain⟨b,rfl,_⟩:=q2';exact⟨rfl,q4g HR.out q1 q2⟩
 | ok n =>
  have HS:Hid _:=SY.out _ hb0.out;clear SY
  cases hv:zn L.T n with
  | true =>
   have hr2:Hid (q08 L t=.error (t,72)):=HR.out.trans (if_pos hv);clear HR;go_enter Tryz.func167,Tryz.ntmps167;go_wp2_with fail;refine cMo HS.out ?_;rintro e w1 ⟨hb1,rfl⟩;have B1:=bTr hb0 hb1;have C1:=hid hb1;have z1:=ug x1 B1.out;have IV1:Hid _:=IV.out w1 B1.out n;rw[hv] at IV1;clear hb1 HS x1 y1 IV;go_wp2_with fail;refine cMo IV1.out ?_;rintro e w2 ⟨rfl,hb2⟩;have B2:=bTr B1 hb2;obtain⟨u0,u1,u2,u3⟩:=q5o (C1.out.trans (hb2.mono C1.out.size));clear hb2 IV1 z1;go_wp2_with fail;refine cMo (GU.out _) ?_;rintro e w' hq;obtain⟨q1,q2⟩:=q21 B2.out hq;have q2':=q2;obtain⟨b,rfl,_⟩:=q2';exact⟨rfl,q4g hr2.out q1 q2⟩
  | false =>
   have hr2:Hid (q08 L t=.ok n):=HR.out.trans (if_neg (by rw[hv];decide));clear HR;go_enter Tryz.func167,Tryz.ntmps167;go_wp2_with fail;refine cMo HS.out ?_;rintro e w1 ⟨hb1,rfl⟩;have B1:=bTr hb0 hb1;have C1:=hid hb1;have z1:=ug x1 B1.out;have IV1:Hid _:=IV.out w1 B1.out n;rw[hv] at IV1;clear hb1 HS x1 y1 IV;go_wp2_with fail;refine cMo IV1.out ?_;rintro e w2 ⟨rfl,hb2⟩;have B2:=bTr B1 hb2;clear hb2
   go_wp2
   go_ret
   exact q78 hr2.out B2.out rfl
theorem q8b (h:xg N w lb txt k L nf m)(hT:L.T.syms.length≤4611686018427387904)(t:Tok)(ht:t.text.size≤maxLen):Calls Tryz.prog 162 #[.pointer (some ⟨lb,0,none⟩),S.zo t] w (Asks w (q3o L t)):=by
 obtain⟨x0,x1,x2⟩:=h.cells;have SY:Hid (∀wx,Below w.heap.size w wx→Calls Tryz.prog 218 #[.pointer (some ⟨lb,0,none⟩),S.zo t] wx (Asks wx (q33 L t))):=fun wx hb=>q1g (h.below hb) t ht
 have IV:Hid (∀wx,Below w.heap.size w wx→∀n,Calls Tryz.prog 70 #[.pointer (some ⟨m.tq,0,none⟩),.int .i64 n] wx fun e w'=>e=.returned (.bool (zn L.T n))∧Below wx.heap.size wx w'):=fun wx hb n=>h.isv hT wx hb n
 have GU:Hid (∀wx,Calls Tryz.prog 153 #[S.zo t,.int .i64 71] wx fun e w'=>Below wx.heap.size wx w'∧Quits t 71 wx.heap.size e w'):=fun wx=>q20 wx t 71
 have HR:Hid (∀r,q33 L t=r→q3o L t=match r with | .ok n=>if zn L.T n=true then .ok n else .error (t,71) | .error f=>.error f):=fun r e=>by unfold q3o;rw[e] <;> cases r <;> rfl
 generalize hr:q33 L t=r at *;replace HR:=show Hid _ from HR.out r rfl;generalize m.tq=tq at *;unfold S.zo at GU SY ⊢;have hb0:Hid (Below w.heap.size w (w.alloc (.cells (uq t) 36))):=S.qg w _;have y1:=ug x1 hb0.out;clear h x0 x2 hr
 cases r with
 | error f =>
  go_enter Tryz.func162,Tryz.ntmps162;go_wp2_with fail;refine cMo (SY.out _ hb0.out) ?_;rintro e w' hq;obtain⟨q1,q2⟩:=q21 hb0.out hq;have q2':=q2;obtain⟨b,rfl,_⟩:=q2';exact⟨rfl,q4g HR.out q1 q2⟩
 | ok n =>
  have HS:Hid _:=SY.out _ hb0.out;clear SY
  cases hv:zn L.T n with
  | true =>
   have hr2:Hid (q3o L t=.ok n):=HR.out.trans (if_pos hv);clear HR;go_enter Tryz.func162,Tryz.ntmps162;go_wp2_with fail;refine cMo HS.out ?_;rintro e w1 ⟨hb1,rfl⟩;have B1:=bTr hb0 hb1;have C1:=hid hb1;have z1:=ug x1 B1.out;have IV1:Hid _:=IV.out w1 B1.out n;rw[hv] at IV1;clear hb1 HS x1 y1 IV;go_wp2_with fail;refine cMo IV1.out ?_;rintro e w2 ⟨rfl,hb2⟩;have B2:=bTr B1 hb2;clear hb2
   go_wp2
   go_ret
   exact q78 hr2.out B2.out rfl
  | false =>
   have hr2:Hid (q3o L t=.error (t,71)):=HR.out.trans (if_neg (by rw[hv];decide));clear HR;go_enter Tryz.func162,Tryz.ntmps162;go_wp2_with fail;refine cMo HS.out ?_;rintro e w1 ⟨hb1,rfl⟩;have B1:=bTr hb0 hb1;have C1:=hid hb1;have z1:=ug x1 B1.out;have IV1:Hid _:=IV.out w1 B1.out n;rw[hv] at IV1;clear hb1 HS x1 y1 IV;go_wp2_with fail;refine cMo IV1.out ?_;rintro e w2 ⟨rfl,hb2⟩;have B2:=bTr B1 hb2;obtain⟨u0,u1,u2,u3⟩:=q5o (C1.out.trans (hb2.mono C1.out.size));clear hb2 IV1 z1;go_wp2_with fail;refine cMo (GU.out _) ?_;rintro e w' hq;obtain⟨q1,q2⟩:=q21 B2.out hq;have q2':=q2;obtain⟨b,rfl,_⟩:=q2';exact⟨rfl,q4g hr2.out q1 q2⟩
end
theorem qq9 {T:Y.Tab}{s:ByteArray}{n:Nat}(h:Y.q07 T s=some n):n < T.syms.length:=by
 unfold Y.q07 at h;obtain⟨h1,_⟩:=Option.filter_eq_some_iff.1 h;obtain⟨b,hb⟩:=Y.q5m h1;exact (List.getElem?_eq_some_iff.1 hb).1
theorem q8c {L:Ld}{t:Tok}{n:Int}(hT:L.T.syms.length≤4611686018427387904)(h:q33 L t=.ok n):F.wfN n:=by
 obtain⟨j,hj,rfl⟩:=ql0 h;have:=qq9 hj
 unfold F.wfN;omega
section
variable {N:Nat} {w:World} {lb:Nat} {txt:ByteArray} {k:Nat} {L:Ld} {nf:ByteArray→Option Nat} {m:LdM}
theorem xg.q49 (h:xg N w lb txt k L nf m):m.sx.length=L.sc.length:=by rw[←h.sca,lMa]
theorem xg.typ (h:xg N w lb txt k L nf m)(hS:L.sc.length≤1048576)(wx:World)(hb:Below w.heap.size w wx)(n:Int)(hn:F.wfN n):Calls Tryz.prog 228 #[.pointer (some ⟨m.P,0,none⟩),.int .i64 n] wx fun e w'=>e=.returned (.tuple #[.int .i64 ((F.tyA L.sc n).getD 0),.bool (F.tyA L.sc n).isSome])∧Below wx.heap.size wx w':=by
 have h1:=F.qav wx m.O m.P m.vS m.sx n (h.below hb).stk (by rw[h.q49];exact hS) hn;rw[F.qaa,h.sca] at h1;exact h1
theorem qgn (h:xg N w lb txt k L nf m)(hT:L.T.syms.length≤4611686018427387904)(hS:L.sc.length≤1048576)(t:Tok)(ht:t.text.size≤maxLen):Calls Tryz.prog 168 #[.pointer (some ⟨lb,0,none⟩),S.zo t] w (Asks w (q04 L t)):=by
 obtain⟨x0,x1,x2⟩:=h.cells;have SY:Hid (∀wx,Below w.heap.size w wx→Calls Tryz.prog 162 #[.pointer (some ⟨lb,0,none⟩),S.zo t] wx (Asks wx (q3o L t))):=fun wx hb=>q8b (h.below hb) hT t ht
 have TY:Hid (∀wx,Below w.heap.size w wx→∀n,F.wfN n→Calls Tryz.prog 228 #[.pointer (some ⟨m.P,0,none⟩),.int .i64 n] wx fun e w'=>e=.returned (.tuple #[.int .i64 ((F.tyA L.sc n).getD 0),.bool (F.tyA L.sc n).isSome])∧Below wx.heap.size wx w'):=fun wx hb n hn=>h.typ hS wx hb n hn
 have GU:Hid (∀wx,Calls Tryz.prog 153 #[S.zo t,.int .i64 70] wx fun e w'=>Below wx.heap.size wx w'∧Quits t 70 wx.heap.size e w'):=fun wx=>q20 wx t 70
 have HR:Hid (∀r,q3o L t=r→q04 L t=match r with | .ok n=>if (F.tyA L.sc n).isSome=true then .error (t,70) else .ok n | .error f=>.error f):=fun r e=>by unfold q04;rw[e] <;> cases r <;> rfl
 have HW:Hid (∀n,q3o L t=.ok n→F.wfN n):=fun n e=>by
  unfold q3o at e
  cases hs:q33 L t with
  | error f=>rw[hs] at e;cases e
  | ok j =>
   rw[hs] at e;simp only at e
   split at e
   ·cases e;exact q8c hT hs
   ·cases e
 generalize hr:q3o L t=r at *;replace HR:=show Hid _ from HR.out r rfl;generalize m.P=P at *;unfold S.zo at GU SY ⊢;have hb0:Hid (Below w.heap.size w (w.alloc (.cells (uq t) 36))):=S.qg w _;clear h x0 x1 hr
 cases r with
 | error f =>
  go_enter Tryz.func168,Tryz.ntmps168;go_wp2_with fail;refine cMo (SY.out _ hb0.out) ?_;rintro e w' hq;obtain⟨q1,q2⟩:=q21 hb0.out hq;have q2':=q2;obtain⟨b,rfl,_⟩:=q2';exact⟨rfl,q4g HR.out q1 q2⟩
 | ok n =>
  have HS:Hid _:=SY.out _ hb0.out;have HW1:Hid (F.wfN n):=HW.out n rfl;clear SY HW
  cases hv:(F.tyA L.sc n).isSome with
  | true =>
   have hr2:Hid (q04 L t=.error (t,70)):=HR.out.trans (if_pos hv);clear HR;go_enter Tryz.func168,Tryz.ntmps168;go_wp2_with fail;refine cMo HS.out ?_;rintro e w1 ⟨hb1,rfl⟩;have B1:=bTr hb0 hb1;have C1:=hid hb1;have z1:=ug x2 B1.out;have IV1:Hid _:=TY.out w1 B1.out n HW1.out;rw[hv] at IV1;clear hb1 HS x2 TY;go_wp2_with fail;refine cMo IV1.out ?_;rintro e w2 ⟨rfl,hb2⟩;have B2:=bTr B1 hb2;obtain⟨u0,u1,u2,u3⟩:=q5o (C1.out.trans (hb2.mono C1.out.size));clear hb2 IV1 z1;go_wp2_with fail;refine cMo (GU.out _) ?_;rintro e w' hq;obtain⟨q1,q2⟩:=q21 B2.out hq;have q2':=q2;obtain⟨b,rfl,_⟩:=q2';exact⟨rfl,q4g hr2.out q1 q2⟩
  | false =>
   have hr2:Hid (q04 L t=.ok n):=HR.out.trans (if_neg (by rw[hv];decide));clear HR;go_enter Tryz.func168,Tryz.ntmps168;go_wp2_with fail;refine cMo HS.out ?_;rintro e w1 ⟨hb1,rfl⟩;have B1:=bTr hb0 hb1;have z1:=ug x2 B1.out;have IV1:Hid _:=TY.out w1 B1.out n HW1.out;rw[hv] at IV1;clear hb1 HS x2 TY;go_wp2_with fail;refine cMo IV1.out ?_;rintro e w2 ⟨rfl,hb2⟩;have B2:=bTr B1 hb2;clear hb2
   go_wp2
   go_ret
   exact q78 hr2.out B2.out rfl
theorem qnb (h:xg N w lb txt k L nf m)(hT:L.T.syms.length≤4611686018427387904)(hS:L.sc.length≤1048576)(t:Tok)(ht:t.text.size≤maxLen):Calls Tryz.prog 230 #[.pointer (some ⟨lb,0,none⟩),S.zo t] w (Asks w (q1h L t)):=by
 obtain⟨x0,x1,x2⟩:=h.cells;have SY:Hid (∀wx,Below w.heap.size w wx→Calls Tryz.prog 218 #[.pointer (some ⟨lb,0,none⟩),S.zo t] wx (Asks wx (q33 L t))):=fun wx hb=>q1g (h.below hb) t ht
 have IV:Hid (∀wx,Below w.heap.size w wx→∀n,Calls Tryz.prog 70 #[.pointer (some ⟨m.tq,0,none⟩),.int .i64 n] wx fun e w'=>e=.returned (.bool (zn L.T n))∧Below wx.heap.size wx w'):=fun wx hb n=>h.isv hT wx hb n
 have TY:Hid (∀wx,Below w.heap.size w wx→∀n,F.wfN n→Calls Tryz.prog 228 #[.pointer (some ⟨m.P,0,none⟩),.int .i64 n] wx fun e w'=>e=.returned (.tuple #[.int .i64 ((F.tyA L.sc n).getD 0),.bool (F.tyA L.sc n).isSome])∧Below wx.heap.size wx w'):=fun wx hb n hn=>h.typ hS wx hb n hn
 have GU:Hid (∀wx,Calls Tryz.prog 153 #[S.zo t,.int .i64 70] wx fun e w'=>Below wx.heap.size wx w'∧Quits t 70 wx.heap.size e w'):=fun wx=>q20 wx t 70
 have HR:Hid (∀r,q33 L t=r→q1h L t=match r with | .ok n=>if (F.tyA L.sc n).isSome=false∧zn L.T n=true then .error (t,70) else .ok n | .error f=>.error f):=fun r e=>by unfold q1h;rw[e] <;> cases r <;> rfl
 have HW:Hid (∀n,q33 L t=.ok n→F.wfN n):=fun n e=>q8c hT e
 generalize hr:q33 L t=r at *;replace HR:=show Hid _ from HR.out r rfl;generalize m.P=P at *;generalize m.tq=tq at *;unfold S.zo at GU SY ⊢;have hb0:Hid (Below w.heap.size w (w.alloc (.cells (uq t) 36))):=S.qg w _;clear h x0 hr
 cases r with
 | error f =>
  go_enter Tryz.func230,Tryz.ntmps230;go_wp2_with fail;refine cMo (SY.out _ hb0.out) ?_;rintro e w' hq;obtain⟨q1,q2⟩:=q21 hb0.out hq;have q2':=q2;obtain⟨b,rfl,_⟩:=q2';exact⟨rfl,q4g HR.out q1 q2⟩
 | ok n =>
  have HS:Hid _:=SY.out _ hb0.out;have HW1:Hid (F.wfN n):=HW.out n rfl;clear SY HW
  cases hv:(F.tyA L.sc n).isSome with
  | true =>
   have hr2:Hid (q1h L t=.ok n):=HR.out.trans (if_neg (by rw[hv];simp));clear HR;go_enter Tryz.func230,Tryz.ntmps230;go_wp2_with fail;refine cMo HS.out ?_;rintro e w1 ⟨hb1,rfl⟩;have B1:=bTr hb0 hb1;have z1:=ug x2 B1.out;have IV1:Hid _:=TY.out w1 B1.out n HW1.out;rw[hv] at IV1;clear hb1 HS x2 TY IV;go_wp2_with fail;refine cMo IV1.out ?_;rintro e w2 ⟨rfl,hb2⟩;have B2:=bTr B1 hb2;clear hb2
   go_wp2
   go_ret
   exact q78 hr2.out B2.out rfl
  | false =>
   cases hv2:zn L.T n with
   | false =>
    have hr2:Hid (q1h L t=.ok n):=HR.out.trans (if_neg (by rw[hv2];simp));clear HR;go_enter Tryz.func230,Tryz.ntmps230;go_wp2_with fail;refine cMo HS.out ?_;rintro e w1 ⟨hb1,rfl⟩;have B1:=bTr hb0 hb1;have z1:=ug x2 B1.out;have IV1:Hid _:=TY.out w1 B1.out n HW1.out;rw[hv] at IV1;clear hb1 HS x2 TY;go_wp2_with fail;refine cMo IV1.out ?_;rintro e w2 ⟨rfl,hb2⟩;have B2:=bTr B1 hb2;have IV2:Hid _:=IV.out w2 B2.out n;rw[hv2] at IV2;have z2:=ug x1 B2.out;clear hb2 IV x1;go_wp2_with fail;refine cMo IV2.out ?_;rintro e w3 ⟨rfl,hb3⟩;have B3:=bTr B2 hb3;clear hb3
    go_wp2
    go_ret
    exact q78 hr2.out B3.out rfl
   | true =>
    have hr2:Hid (q1h L t=.error (t,70)):=HR.out.trans (if_pos ⟨hv,hv2⟩);clear HR;go_enter Tryz.func230,Tryz.ntmps230;go_wp2_with fail;refine cMo HS.out ?_;rintro e w1 ⟨hb1,rfl⟩;have B1:=bTr hb0 hb1;have C1:=hid hb1;have z1:=ug x2 B1.out;have IV1:Hid _:=TY.out w1 B1.out n HW1.out;rw[hv] at IV1;clear hb1 HS x2 TY;go_wp2_with fail;refine cMo IV1.out ?_;rintro e w2 ⟨rfl,hb2⟩;have B2:=bTr B1 hb2;have C2:Hid (Below (w.alloc (.cells (uq t) 36)).heap.size (w.alloc (.cells (uq t) 36)) w2):=C1.out.trans (hb2.mono C1.out.size);have IV2:Hid _:=IV.out w2 B2.out n;rw[hv2] at IV2;have z2:=ug x1 B2.out;clear hb2 IV x1;go_wp2_with fail;refine cMo IV2.out ?_;rintro e w3 ⟨rfl,hb3⟩;have B3:=bTr B2 hb3;obtain⟨u0,u1,u2,u3⟩:=q5o (C2.out.trans (hb3.mono C2.out.size));clear hb3 IV2 z2;go_wp2_with fail;refine cMo (GU.out _) ?_;rintro e w' hq;obtain⟨q1,q2⟩:=q21 B3.out hq;have q2':=q2;obtain⟨b,rfl,_⟩:=q2';exact⟨rfl,q4g hr2.out q1 q2⟩
end
theorem q1i {N0:Nat}{w:World}(h:N0≤w.heap.size)(o:Obj):Below N0 w (w.alloc o):=(Below.refl _ w).alloc h o
def Lists (N0:Nat)(w:World)(r:Res (List Int))(e:Ending)(w':World):Prop:=Below N0 w w'∧match r with
 | .ok l=>∃v,e=.returned v∧w'.ownsRow N0 3 1 v l.length (F.xw l)
 | .error f=>Quits f.1 f.2 N0 e w'
theorem qqa {N0:Nat}{w w':World}{r:Res (List Int)}{e:Ending}{l:List Int}{v:Value}(h:r=.ok l)(hb:Below N0 w w')(he:e=.returned v)(ho:w'.ownsRow N0 3 1 v l.length (F.xw l)):Lists N0 w r e w':=by
 subst h;exact⟨hb,v,he,ho⟩
theorem qbs {N0:Nat}{w w':World}{r:Res (List Int)}{e:Ending}{f:Tok × Int}(h:r=.error f)(hb:Below N0 w w')(hq:Quits f.1 f.2 N0 e w'):Lists N0 w r e w':=by
 subst h;exact⟨hb,hq⟩
section
variable {N:Nat} {w:World} {lb:Nat} {txt:ByteArray} {k:Nat} {L:Ld} {nf:ByteArray→Option Nat} {m:LdM}
theorem uh {w w':World}{b o N0:Nat}{v:Value}(h:w.cell? ⟨b,o,none⟩=some v)(hN:w.heap.size=N0)(hb:Below N0 w w'):w'.cell? ⟨b,o,none⟩=some v:=by
 subst hN;exact ug h hb
theorem q6v (h:xg N w lb txt k L nf m)(hT:L.T.syms.length≤4611686018427387904)(hS:L.sc.length≤1048576)(a:Option Addr)(n c:Nat)(ts:List Tok)(hl:ts.length=n)(hn:n≤1048576)(hA:S.q0i w a ts)(hz:∀t ∈ ts,t.text.size≤maxLen) :
  Calls Tryz.prog 171 #[.pointer (some ⟨lb,0,none⟩),.slice a n c] w (Lists w.heap.size w (q0c L [] ts)):=by
 obtain⟨iN,hiN,iNz,iNs,iNb⟩:=info_parts F.q7l;have CO:Hid (∀wx,Below w.heap.size w wx→∀t,t ∈ ts→Calls Tryz.prog 167 #[.pointer (some ⟨lb,0,none⟩),S.zo t] wx (Asks wx (q08 L t))):=fun wx hb t ht=>q8a (h.below hb) hT t (hz t ht)
 have TY:Hid (∀wx,Below w.heap.size w wx→∀t,t ∈ ts→Calls Tryz.prog 230 #[.pointer (some ⟨lb,0,none⟩),S.zo t] wx (Asks wx (q1h L t))):=fun wx hb t ht=>qnb (h.below hb) hT hS t (hz t ht)
 have HAt:=hid hA;have HL:=hid hl;obtain⟨N0,hN⟩:∃N,w.heap.size=N:=⟨_,rfl⟩;have HN:=hid hN;rw[hN] at CO TY ⊢;clear h hA hl hN hz;go_enter Tryz.func171,Tryz.ntmps171;go_wp2_with fail
 go_loopw [5,10] (fun v5 v10 wx=>∃(j:Nat) (acc:List Int),j≤n∧v10=.int .i64 j∧Hid (acc.length=j)∧Hid (q0c L [] ts=q0c L acc (ts.drop j))∧Hid (wx.ownsRow N0 3 1 v5 j (F.xw acc))∧Hid (Below N0 w wx)) (fun _ v10 _=>n - (intOf v10).toNat)
 case atStart=>exact⟨0,[],Nat.zero_le _,rfl,rfl,rfl,World.ownsRow_nil _ _ _ _,bRf⟩
 case round =>
  obtain⟨j,acc,hj,rfl,HA,hR,hO,HB⟩:=hrel;have HNr:Hid (N0≤wr.heap.size):=by have h1:=HB.out.size;have h2:=HN.out;show N0≤_;omega
  by_cases hlt:j < n
  ·have n1:(j:Int) < (n:Int):=by omega
   obtain⟨t,ht⟩:∃t,ts[j]?=some t:=⟨_,gEq (by rw[HL.out];exact hlt)⟩;have hdr:ts.drop j=t :: ts.drop (j + 1):=by
    obtain⟨hlt2,e2⟩:=List.getElem?_eq_some_iff.1 ht;rw[List.drop_eq_getElem_cons hlt2,e2]
   have HT:Hid (t ∈ ts):=mGe ht;obtain⟨g,off,rfl,y0,y1,y2,y3⟩:=HAt.out j t ht;replace y0:=uh y0 HN.out HB.out;replace y1:=uh y1 HN.out HB.out;replace y2:=uh y2 HN.out HB.out;replace y3:=uh y3 HN.out HB.out
   by_cases h2:200≤j
   ·have n2:¬(j:Int) < 200:=by omega
    have R2:Hid (q0c L [] ts=.error (t,31)):=hR.out.trans (by rw[hdr,q0c,if_pos (by rw[HA.out];exact h2)]);have GU:Hid (∀wx,Calls Tryz.prog 153 #[S.zo t,.int .i64 31] wx fun e w'=>Below wx.heap.size wx w'∧Quits t 31 wx.heap.size e w'):=fun wx=>q20 wx t 31
    unfold S.zo at GU;clear hdr hR hO ht HT CO TY;go_wp2_with fail;refine cMo (GU.out _) ?_;rintro e w' ⟨hb,b,rfl,q2,q3⟩;have hs:=(HB.out.trans (q1i HNr.out (.cells (uq t) 36)));have hs2:N0≤(wr.alloc (.cells (uq t) 36)).heap.size:=by rw[←HN.out];exact hs.size
    exact⟨rfl,qbs R2.out (hs.trans (hb.mono hs2)) ⟨b,rfl,q2,nLt hs2 q3⟩⟩
   have n2:(j:Int) < 200:=by omega
   have HR2:Hid (q0c L [] ts=match (if acc.length=0 then q08 L t else q1h L t) with | .ok n=>q0c L (acc++[n]) (ts.drop (j + 1)) | .error f=>.error f):=hR.out.trans (by rw[hdr,q0c,if_neg (by rw[HA.out];exact h2)] <;> cases (if acc.length=0 then q08 L t else q1h L t) <;> rfl);clear hdr ht
   by_cases hz:j=0
   ·have HZ:Hid (acc.length=0):=by show _=_;rw[HA.out];exact hz
    have nz:((j:Int) == 0)=true:=by simp[hz]
    simp only[hz,Nat.zero_mul,Nat.add_zero] at y0 y1 y2 y3;have A:Hid (Calls Tryz.prog 167 #[.pointer (some ⟨lb,0,none⟩),S.zo t] (wr.alloc (.cells (uq t) 36)) (Asks (wr.alloc (.cells (uq t) 36)) (q08 L t))):=CO.out _ (HB.out.trans (q1i HNr.out _)) t HT.out;unfold S.zo at A
    cases hr:q08 L t with
    | error f =>
     rw[hr] at A;have R2:Hid (q0c L [] ts=.error f):=HR2.out.trans (by rw[if_pos HZ.out,hr]);clear hO hR HR2 hr HT;go_wp2_with fail;refine cMo A.out ?_;rintro e w' ⟨hb,b,rfl,q2,q3⟩;have hs:=(HB.out.trans (q1i HNr.out (.cells (uq t) 36)));have hs2:N0≤(wr.alloc (.cells (uq t) 36)).heap.size:=by rw[←HN.out];exact hs.size
     exact⟨rfl,qbs R2.out (hs.trans (hb.mono hs2)) ⟨b,rfl,q2,nLt hs2 q3⟩⟩
    | ok x =>
     rw[hr] at A;have R2:Hid (q0c L [] ts=q0c L (acc++[x]) (ts.drop (j + 1))):=HR2.out.trans (by rw[if_pos HZ.out,hr]);have A2:Hid ((acc++[x]).length=j + 1):=by show _=_;rw[lAp,HA.out];rfl
     have HF:Hid (F.xw (acc++[x])=F.xw acc++[.int .i64 x]):=F.q2o acc [x];clear hR HR2 hr HT;go_wp2_with fail;refine cMo A.out ?_;rintro e w1 ⟨hb1,rfl⟩;have hs:=(HB.out.trans (q1i HNr.out (.cells (uq t) 36)));have hs2:N0≤(wr.alloc (.cells (uq t) 36)).heap.size:=by rw[←HN.out];exact hs.size
     have HB1:Hid (Below N0 w w1):=hs.trans (hb1.mono hs2);have HN1:Hid (N0≤w1.heap.size):=nLt hs2 hb1.size;have HO1:Hid (w1.ownsRow N0 3 1 u5 j (F.xw acc)):=S.M.qh (S.M.zk hO.out _) (S.M.Ch.oB (X:=fun _=>False) hb1) fun _ _ e=>e
     clear hb1 hO HB hs hs2 A
     go_wp2_with (at_builtin;refine wpList_append_lies (w:=w1.alloc (.cells #[.int .i64 x] 3)) rfl _ _ 38 rfl N0 3 iN _ 1 8 Tryz.underlying38 hiN iNz iNs iNb rfl (by decide) _ j (F.xw acc) (by rfl) (S.M.zk HO1.out _) ⟨w1.heap.size,0,none⟩ 1 1 [.int .i64 x] (by rfl) (by rfl) (World.news_of_block (cs:=#[.int .i64 x]) (t:=3) (fr:=(0,0)) (World.alloc_heap_new w1 _)) (by simp[Value.oneCell']) (by omega) (by unfold maxLen;omega) (by omega) (nLt HN1.out (S.qg w1 _).size) _ rfl ?_;intro gg cap' w8 hown8 hgrow hat hlt8;have O8:Hid (w8.ownsRow N0 3 1 (.slice (some ⟨gg,0,none⟩) (j + 1) cap') (j + 1) (F.xw (acc++[x]))):=(by show World.ownsRow _ _ _ _ _ _ _;rw[HF.out];exact hown8);have B8:Hid (Below N0 w w8):=HB1.out.trans (((Below.refl _ w1).alloc HN1.out _).trans (bRf.grown hgrow (nLt HN1.out (S.qg w1 _).size) (S.M.zf HO1.out)));clear hown8 hgrow hat hlt8)
     exact⟨⟨j + 1,acc++[x],by omega,by go_num,A2.out,R2.out,(by have h8:=O8.out;rw[hz] at h8 ⊢;exact h8),B8.out⟩,by simp[intOf];omega⟩
   ·have HZ:Hid (¬acc.length=0):=by show ¬_;rw[HA.out];exact hz
    have nz:((j:Int) == 0)=false:=by simp;omega
    have A:Hid (Calls Tryz.prog 230 #[.pointer (some ⟨lb,0,none⟩),S.zo t] (wr.alloc (.cells (uq t) 36)) (Asks (wr.alloc (.cells (uq t) 36)) (q1h L t))):=TY.out _ (HB.out.trans (q1i HNr.out _)) t HT.out;unfold S.zo at A
    cases hr:q1h L t with
    | error f =>
     rw[hr] at A;have R2:Hid (q0c L [] ts=.error f):=HR2.out.trans (by rw[if_neg HZ.out,hr]);clear hO hR HR2 hr HT;go_wp2_with fail;refine cMo A.out ?_;rintro e w' ⟨hb,b,rfl,q2,q3⟩;have hs:=(HB.out.trans (q1i HNr.out (.cells (uq t) 36)));have hs2:N0≤(wr.alloc (.cells (uq t) 36)).heap.size:=by rw[←HN.out];exact hs.size
     exact⟨rfl,qbs R2.out (hs.trans (hb.mono hs2)) ⟨b,rfl,q2,nLt hs2 q3⟩⟩
    | ok x =>
     rw[hr] at A;have R2:Hid (q0c L [] ts=q0c L (acc++[x]) (ts.drop (j + 1))):=HR2.out.trans (by rw[if_neg HZ.out,hr]);have A2:Hid ((acc++[x]).length=j + 1):=by show _=_;rw[lAp,HA.out];rfl
     have HF:Hid (F.xw (acc++[x])=F.xw acc++[.int .i64 x]):=F.q2o acc [x];clear hR HR2 hr HT;go_wp2_with fail;refine cMo A.out ?_;rintro e w1 ⟨hb1,rfl⟩;have hs:=(HB.out.trans (q1i HNr.out (.cells (uq t) 36)));have hs2:N0≤(wr.alloc (.cells (uq t) 36)).heap.size:=by rw[←HN.out];exact hs.size
     have HB1:Hid (Below N0 w w1):=hs.trans (hb1.mono hs2);have HN1:Hid (N0≤w1.heap.size):=nLt hs2 hb1.size;have HO1:Hid (w1.ownsRow N0 3 1 u5 j (F.xw acc)):=S.M.qh (S.M.zk hO.out _) (S.M.Ch.oB (X:=fun _=>False) hb1) fun _ _ e=>e
     clear hb1 hO HB hs hs2 A
     go_wp2_with (at_builtin;refine wpList_append_lies (w:=w1.alloc (.cells #[.int .i64 x] 3)) rfl _ _ 38 rfl N0 3 iN _ 1 8 Tryz.underlying38 hiN iNz iNs iNb rfl (by decide) _ j (F.xw acc) (by rfl) (S.M.zk HO1.out _) ⟨w1.heap.size,0,none⟩ 1 1 [.int .i64 x] (by rfl) (by rfl) (World.news_of_block (cs:=#[.int .i64 x]) (t:=3) (fr:=(0,0)) (World.alloc_heap_new w1 _)) (by simp[Value.oneCell']) (by omega) (by unfold maxLen;omega) (by omega) (nLt HN1.out (S.qg w1 _).size) _ rfl ?_;intro gg cap' w8 hown8 hgrow hat hlt8;have O8:Hid (w8.ownsRow N0 3 1 (.slice (some ⟨gg,0,none⟩) (j + 1) cap') (j + 1) (F.xw (acc++[x]))):=(by show World.ownsRow _ _ _ _ _ _ _;rw[HF.out];exact hown8);have B8:Hid (Below N0 w w8):=HB1.out.trans (((Below.refl _ w1).alloc HN1.out _).trans (bRf.grown hgrow (nLt HN1.out (S.qg w1 _).size) (S.M.zf HO1.out)));clear hown8 hgrow hat hlt8)
     exact⟨⟨j + 1,acc++[x],by omega,by go_num,A2.out,R2.out,O8.out,B8.out⟩,by simp[intOf];omega⟩
  ·have n1:¬(j:Int) < (n:Int):=by omega
   have hall:ts.drop j=[]:=List.drop_eq_nil_of_le (by rw[HL.out];omega);have R2:Hid (q0c L [] ts=.ok acc):=hR.out.trans (by rw[hall];rfl);obtain⟨a5,c5,rfl,_⟩:=S.M.xq hO.out;clear hall hR
   go_wp2
   go_ret
   exact qqa R2.out HB.out rfl (by rw[HA.out];exact hO.out)
end
open Go.RowKit Go.Maps Go.WideMaps
theorem map_get {W:World}{b n:Nat}{f:ByteArray→Option Nat}(h:Y.jg W b n f)(s:ByteArray)(hs:s.size≤maxLen) :
  (Instr.lookup 118 (.map (some b)) (.string s) false).run Tryz.prog W=.ok (.int .i64 ((f s).getD 0:Nat)) W:=by
 obtain⟨D,hown,hf⟩:=h;obtain⟨v,ps,hrun,hv⟩:=hown.lookup Y.qpx Tryz.underlying118 (Y.zero3 W) (plainElem_int (H:=Unit) Tryz.underlying3 (by decide)) (Y.qac hs);obtain⟨c,rfl,hc,_⟩:=plainElem_int_inv Tryz.underlying3 hv;have h1:D.atKey (Y.q83 s) Y.qpy=.lit (.int .i64 c):=congrArg Prod.fst hc;rw[(hf s).2] at h1;have e:(((f s).getD 0:Nat):Int)=c:=by simpa using h1
 rw[hrun,e]
section
variable {N:Nat} {w:World} {lb:Nat} {txt:ByteArray} {k:Nat} {L:Ld} {nf:ByteArray→Option Nat} {m:LdM}
theorem q8d {Bb0 hb0:Nat}{hy0:List F.Hy}(hmm:∃n,n≤k∧Y.jg w hb0 n (q1p hy0))(hb4:w.cell? ⟨Bb0,4,none⟩=some (.map (some hb0)))(N1:Nat)(v:Value)(ts:List F.HyC)(ho:w.ownsRow N1 57 4 v ts.length (F.uf ts))(hn:ts.length≤1048576)(HV0:∀y ∈ ts,∃a n c,y.ve=.slice a n c)(hz:∀y ∈ ts,y.h.lab.size≤maxLen) :
  Calls Tryz.prog 174 #[.pointer (some ⟨Bb0,0,none⟩),v] w fun e w'=>Below w.heap.size w w'∧∃v',e=.returned v'∧w'.ownsRow w.heap.size 3 1 v' ts.length (F.xw (ts.map fun y=>yg hy0 y.h)):=by
 obtain⟨iN,hiN,iNz,iNs,iNb⟩:=info_parts F.q7l;obtain⟨a,c,rfl,_,hcells⟩:=S.M.xq ho;obtain⟨n,hnn⟩:=eXb ts.length;have HL:=hid hnn;have HC:Hid (∀(j:Nat) (y:F.HyC),ts[j]?=some y→∃g,a=some ⟨g,0,none⟩∧w.cell? ⟨g,j * 4,none⟩=some (.string y.h.lab)∧w.cell? ⟨g,j * 4 + 1,none⟩=some (.bool y.h.fl)∧w.cell? ⟨g,j * 4 + 2,none⟩=some (.int .i64 y.h.var)∧w.cell? ⟨g,j * 4 + 3,none⟩=some y.ve):=fun j y hy=>by
  have q:=fun i hi=>F.qb8 ts j i y hy hi
  obtain⟨g,e0,h0⟩:=hcells (j * 4 + 0) _ ((q 0 (by omega)).trans rfl);obtain⟨g1,e1,h1⟩:=hcells (j * 4 + 1) _ ((q 1 (by omega)).trans rfl);obtain⟨g2,e2,h2⟩:=hcells (j * 4 + 2) _ ((q 2 (by omega)).trans rfl);obtain⟨g3,e3,h3⟩:=hcells (j * 4 + 3) _ ((q 3 (by omega)).trans rfl)
  cases e0
  cases e1
  cases e2
  cases e3;exact⟨g,rfl,h0,h1,h2,h3⟩
 have HV:Hid (∀y ∈ ts,∃a n c,y.ve=.slice a n c):=fun y hy=>HV0 y hy
 have HZ:=hid hz;obtain⟨nm1,hn1,hm⟩:=hmm;have HM:=hid hm;have b4:w.cell? ⟨Bb0,4,none⟩=some (.map (some hb0)):=hb4;have HB4:=hid b4;obtain⟨N0,hN⟩:∃N,w.heap.size=N:=⟨_,rfl⟩;have HN:=hid hN;rw[hnn] at hn;rw[hN,hnn];generalize Bb0=Bb at *;generalize hb0=hb at *;generalize hhy:hy0=hy at *;clear hb4 ho hnn hcells hz hm hN b4 hhy;go_enter Tryz.func174,Tryz.ntmps174;obtain⟨wm,hmk,hom,hgm⟩:=run_make_own (P:=Tryz.prog) w N0 38 3 iN _ 1 Tryz.underlying38 hiN iNz iNs .i64 .i64 n (by rw[iNb];omega) (by unfold maxLen;omega) (Nat.le_of_eq HN.out.symm);have BM:Hid (Below N0 w wm):=(Below.refl N0 w).grown hgm (Nat.le_of_eq HN.out.symm) (fun g e=>by cases e);have OM:=hid hom;clear hom hgm;go_wp2_with fail;clear hmk
 go_loopw [5,13] (fun v5 v13 wx=>∃j:Nat,j≤n∧v13=.int .i64 j∧Hid (wx.ownsRow N0 3 1 v5 j (F.xw ((ts.take j).map fun y=>yg hy y.h)))∧Hid (Below N0 w wx)) (fun _ v13 _=>n - (intOf v13).toNat)
 case atStart=>exact⟨0,Nat.zero_le _,rfl,OM.out,BM.out⟩
 case round =>
  clear OM BM;obtain⟨j,hj,rfl,hO,HB⟩:=hrel;have HNr:Hid (N0≤wr.heap.size):=by have h1:=HB.out.size;have h2:=HN.out;show N0≤_;omega
  by_cases hlt:j < n
  ·have n1:(j:Int) < (n:Int):=by omega
   obtain⟨y,hy1⟩:∃y,ts[j]?=some y:=⟨_,gEq (by rw[HL.out];exact hlt)⟩;obtain⟨g,rfl,y0,y1,y2,y3⟩:=HC.out j y hy1;obtain⟨ae,ne,ce,he⟩:=HV.out y (mGe hy1);have hlab:=HZ.out y (mGe hy1);rw[he] at y3;have HF:Hid (F.xw ((ts.take (j + 1)).map fun y=>yg hy y.h)=F.xw ((ts.take j).map fun y=>yg hy y.h)++[.int .i64 (yg hy y.h)]):=by
    show _=_
    rw[List.take_add_one,hy1,Option.toList_some,List.map_append,F.q2o]
    rfl
   replace y0:=uh y0 HN.out HB.out;replace y1:=uh y1 HN.out HB.out;replace y2:=uh y2 HN.out HB.out;replace y3:=uh y3 HN.out HB.out;have hlt1:=(map_lt HM.out).1;have hmr:Y.jg wr hb nm1 (q1p hy):=HM.out.kept (HB.out.block hb (by rw[←HN.out];exact hlt1));have bA:Below wr.heap.size wr (wr.alloc (.cells #[.string y.h.lab,.bool y.h.fl,.int .i64 y.h.var,.slice ae ne ce] 57)):=S.qg _ _;have hlk:(Instr.lookup 118 (.map (some hb)) (.string y.h.lab) false).run Tryz.prog (wr.alloc (.cells #[.string y.h.lab,.bool y.h.fl,.int .i64 y.h.var,.slice ae ne ce] 57)).drew=.ok (.int .i64 (yg hy y.h)) (wr.alloc (.cells #[.string y.h.lab,.bool y.h.fl,.int .i64 y.h.var,.slice ae ne ce] 57)).drew:=map_get (hmr.kept ((show (wr.alloc (.cells #[.string y.h.lab,.bool y.h.fl,.int .i64 y.h.var,.slice ae ne ce] 57)).drew.heap[hb]?=wr.heap[hb]? from bA.block hb (map_lt hmr).1))) y.h.lab hlab;have b4:=ug (uh HB4.out HN.out HB.out) bA;have OA:Hid ((wr.alloc (.cells #[.string y.h.lab,.bool y.h.fl,.int .i64 y.h.var,.slice ae ne ce] 57)).ownsRow N0 3 1 u5 j (F.xw ((ts.take j).map fun y=>yg hy y.h))):=S.M.zk hO.out _;have BA:Hid (Below N0 w (wr.alloc (.cells #[.string y.h.lab,.bool y.h.fl,.int .i64 y.h.var,.slice ae ne ce] 57))):=HB.out.trans (bA.mono HNr.out);have SA:Hid (N0≤(wr.alloc (.cells #[.string y.h.lab,.bool y.h.fl,.int .i64 y.h.var,.slice ae ne ce] 57)).heap.size):=nLt HNr.out bA.size;obtain⟨wa,hwa⟩:=eXa (wr.alloc (.cells #[.string y.h.lab,.bool y.h.fl,.int .i64 y.h.var,.slice ae ne ce] 57));have z0:wa.cell? ⟨wr.heap.size,0,none⟩=some (.string y.h.lab):=by rw[hwa];exact (World.cell?_alloc_new wr _ 57 0).trans rfl
   rw[←hwa] at hlk b4 OA BA SA;have n0:(0:Int)≤(j:Int):=by omega
   generalize hpl:yg hy y.h=pl at *;clear hy1 he hlab hmr bA hlt1 hO HB hpl;go_upto_region 5 with fail;rw[←hwa];clear hwa
   go_region_law (refine step_append_lies _ (by rfl) _ _ _ (by rfl) N0 3 iN _ 1 8 Tryz.underlying38 hiN iNz iNs iNb rfl (by omega) _ j (F.xw ((ts.take j).map fun y=>yg hy y.h)) (by rfl) (by exact (S.M.zk OA.out _)) ⟨wa.heap.size,0,none⟩ 1 1 [.int .i64 pl] (by rfl) (by rfl) (World.news_of_block (cs:=#[.int .i64 pl]) (t:=3) (fr:=(0,0)) (World.alloc_heap_new wa _)) (by simp[Value.oneCell']) (by omega) (by unfold maxLen;omega) (by omega) (by have:=SA.out;simp;omega) (wa.heap.size + 1) (by simp) ?_;intro gg cap' w8 hown8 hgrow hat hlt8;have O8:Hid (w8.ownsRow N0 3 1 (.slice (some ⟨gg,0,none⟩) (j + 1) cap') (j + 1) (F.xw ((ts.take (j + 1)).map fun y=>yg hy y.h))):=(by show World.ownsRow _ _ _ _ _ _ _;rw[HF.out];exact hown8);have B8:Hid (Below N0 w w8):=BA.out.trans (((Below.refl _ wa).alloc SA.out (.cells #[.int .i64 pl] 3)).trans (bRf.grown (show (wa.alloc (.cells #[.int .i64 pl] 3)).grownBy w8 _ from ⟨hgrow.os,hgrow.tape,hgrow.output,hgrow.size,hgrow.block⟩) (nLt SA.out (S.qg wa _).size) (S.M.zf OA.out)));clear hown8 hgrow hat hlt8)
   all_goals go_wp2
   all_goals exact⟨⟨j + 1,by omega,by go_num,O8.out,B8.out⟩,by simp[intOf];omega⟩
  ·have n1:¬(j:Int) < (n:Int):=by omega
   have hje:j=n:=by omega
   subst hje;have hO2:Hid (wr.ownsRow N0 3 1 u5 j (F.xw (ts.map fun y=>yg hy y.h))):=by have h:=hO.out;rw[List.take_of_length_le (Nat.le_of_eq HL.out)] at h;exact h
   obtain⟨a5,c5,rfl,_⟩:=S.M.xq hO.out;clear hO
   go_wp2
   go_ret
   exact⟨HB.out,_,rfl,hO2.out⟩
end
end B
end Go.Proofs.YtbancemhfjjmlaaGreatDoor
