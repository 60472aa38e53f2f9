/- Laid together: BDeclW, BConst, BKeep, BEss, BScope. -/
import Derived.Test.YtbancemhfjjmlaaGreatDoorQA16
import Derived.Test.YtbancemhfjjmlaaGreatDoorQA00
set_option maxRecDepth 100000
set_option maxHeartbeats 32000000
namespace Go.Proofs.YtbancemhfjjmlaaGreatDoor
namespace B
open Go.RowKit
open S (Tok Stm)
theorem qae {X Y:Nat→Prop}{w wr W2:World}(h:S.M.Ch X w wr)(g:∀b,Y b→X b∨w.heap.size≤b)(c:S.M.Ch Y wr W2):S.M.Ch X w W2:=by
 have hs:=h.size
 refine⟨c.os.trans h.os,c.tape.trans h.tape,c.output.trans h.output,Nat.le_trans h.size c.size,fun b hb hne=>?_⟩
 exact (c.block b (by omega) fun hm=>(g b hm).elim hne fun e=>by omega).trans (h.block b hb hne)
theorem q2k {N:Nat}{w wr W2:World}{lb:Nat}{txt:ByteArray}{m mr:LdM}{k1:Nat}{L1:Ld}{nf1:ByteArray→Option Nat}(h:S.M.Ch m.hot w wr)(g:∀b,mr.hot b→m.hot b∨w.heap.size≤b)(c:Goes N wr lb txt mr k1 L1 nf1 W2):Goes N w lb txt m k1 L1 nf1 W2:=by
 obtain⟨c4,m4,i4,g4⟩:=c
 have hs:=h.size
 exact⟨qae h g c4,m4,i4,fun b hb=>(g4 b hb).elim (g b) fun e=>.inr (by omega)⟩
theorem Goes.q0q {N:Nat}{W Wa W2:World}{lb:Nat}{txt:ByteArray}{m:LdM}{k1:Nat}{L1:Ld}{nf1:ByteArray→Option Nat}(hb:Below W.heap.size W Wa)(h:Goes N Wa lb txt m k1 L1 nf1 W2):Goes N W lb txt m k1 L1 nf1 W2:=by
 obtain⟨c1,m1,i1,g1⟩:=h
 have hs:=hb.size
 exact⟨(S.M.Ch.of_below hb).trans c1,m1,i1,fun b hm=>(g1 b hm).imp id fun e=>by omega⟩
theorem Goes.jc {N:Nat}{W Wa W2:World}{lb:Nat}{txt:ByteArray}{m:LdM}{k1:Nat}{L1:Ld}{nf1:ByteArray→Option Nat}(h:Goes N W lb txt m k1 L1 nf1 Wa)(hb:Below Wa.heap.size Wa W2):Goes N W lb txt m k1 L1 nf1 W2:=h.trans fun _ i=>Goes.same i hb
section
variable {N:Nat} {w W':World} {lb:Nat} {txt:ByteArray} {k k':Nat} {L L':Ld} {nf nf':ByteArray→Option Nat} {m m':LdM} {a:Option Addr} {ts:List Tok}
theorem zq.ptrs (h:zq N w lb txt k L nf m)(hc:S.M.Ch m.hot w W')(h':zq N W' lb txt k' L' nf' m'):m'.Bb=m.Bb∧m'.tq=m.tq∧m'.P=m.P:=by
 have e:=(hc.block lb (Array.getElem?_eq_some_iff.1 h.cold.lbox).1 h.cold.lh).trans h.cold.lbox
 rw[h'.cold.lbox] at e
 simp only[Option.some.injEq,Obj.cells.injEq,Array.mk.injEq,List.cons.injEq,Value.pointer.injEq,Addr.mk.injEq] at e
 exact⟨e.1.1.1,e.1.2.1.1,e.1.2.2.1.1⟩
def qaf (m:LdM)(w:World)(a:Option Addr)(ts:List Tok):Prop:=S.q3m w a ts∧∀b off,a=some ⟨b,off,none⟩→0 < ts.length→¬m.hot b
theorem qaf.ch (h:qaf m w a ts)(hc:S.M.Ch m.hot w W'):S.q3m W' a ts:=fun i t hi=>by
 obtain⟨b,off,e,h0,h1,h2,h3⟩:=h.1 i t hi
 have hb:=hc.block b (World.block_lt_of_cell? _ _ h0) (h.2 b off e (by have:=(List.getElem?_eq_some_iff.1 hi).1;omega))
 exact⟨b,off,e,(World.cell?_of_block (a:=⟨b,_,none⟩) hb).trans h0,(World.cell?_of_block (a:=⟨b,_,none⟩) hb).trans h1,(World.cell?_of_block (a:=⟨b,_,none⟩) hb).trans h2,(World.cell?_of_block (a:=⟨b,_,none⟩) hb).trans h3⟩
theorem qd6 (h:zq N w lb txt k L (Y.numOf L.T.syms) m)(hT:L.T.Ok k)(hk:k < 1000000000000)(hKB:Y.KB w)(hN:1 < N)(a:Option Addr)(n c:Nat)(ts:List Tok)(hl:ts.length=n)(hn:n≤1048576)(hA:qaf m w a ts)(hz:∀t ∈ ts,t.text.size≤281474976710656) :
  Calls Tryz.prog 109 #[.pointer (some ⟨lb,0,none⟩),.slice a n c,.func (.func 157) #[.pointer (some ⟨m.tq,0,none⟩)] #[]] w (Does N w lb txt m (k + 3 * n) (uy Y.q02 L ts)):=by
 have HI:Hid (zq N w lb txt k L (Y.numOf L.T.syms) m):=h
 have HA:Hid (qaf m w a ts):=hA
 have HL:Hid (ts.length=n):=hl
 have HZ:Hid (∀t ∈ ts,t.text.size≤281474976710656):=hz
 have HG:Hid (Goes N w lb txt m k L (Y.numOf L.T.syms) w):=Goes.same h (Below.refl _ _)
 have HT:Hid (L.T.Ok k):=hT
 have HK:Hid (Y.KB w∧1 < N):=⟨hKB,hN⟩
 obtain⟨tq,htq⟩:∃tq,m.tq=tq:=⟨_,rfl⟩
 have HTQ:Hid (m.tq=tq):=htq
 rw[htq]
 clear h hT hA hl hz hKB hN htq
 go_enter Tryz.func109,Tryz.ntmps109
 go_wp2_with fail
 go_loopw [12] (fun v12 wx=>∃(j:Nat) (L':Ld),j≤n∧v12=.int .i64 j∧Hid (uy Y.q02 L ts=uy Y.q02 L' (ts.drop j))∧Hid (L'.T.Ok (k + 3 * j))∧Hid (Goes N w lb txt m (k + 3 * j) L' (Y.numOf L'.T.syms) wx)) (fun v12 _=>n - (intOf v12).toNat)
 case atStart=>exact⟨0,L,Nat.zero_le _,rfl,rfl,HT.out,HG.out⟩
 case round =>
  clear HG HT
  obtain⟨j,L',hj,rfl,hR,hT,hG⟩:=hrel
  by_cases hlt:j < n
  ·have n1:(j:Int) < (n:Int):=by omega
   obtain⟨t,ht⟩:∃t,ts[j]?=some t:=⟨_,List.getElem?_eq_getElem (by rw[HL.out];exact hlt)⟩
   have hdr:ts.drop j=t :: ts.drop (j + 1):=by
    obtain⟨hlt2,e2⟩:=List.getElem?_eq_some_iff.1 ht
    rw[List.drop_eq_getElem_cons hlt2,e2]
   have hzt:=HZ.out t (List.mem_of_getElem? ht)
   obtain⟨g,off,rfl,y0,y1,y2,y3⟩:=(HA.out.ch hG.out.1) j t ht
   have HR2:Hid (uy Y.q02 L ts=if (Y.q02 L'.T t.text).2.1=0 then uy Y.q02 { L' with T:=(Y.q02 L'.T t.text).2.2 } (ts.drop (j + 1)) else .error (t,((Y.q02 L'.T t.text).2.1:Nat))):=hR.out.trans (by rw[hdr,uy])
   obtain⟨wa,hwa⟩:∃wa,wa=wr.alloc (.cells (gq t) 36):=⟨_,rfl⟩
   have bA:Below wr.heap.size wr wa:=by rw[hwa];exact S.qg _ _
   have hG2:=hG.out
   obtain⟨cG,mr,ir,gr⟩:=hG2
   obtain⟨p1,p2,p3⟩:=HI.out.ptrs cG ir
   rw[HTQ.out] at p2
   have ia:=ir.below bA
   have kbr:Y.KB wr:=q99 HK.out.1 HK.out.2 HI.out cG
   have kba:Y.KB wa:=kbr.kept (bA.block 1 kbr.pos)
   have DC:Hid _:=q4m.run wa mr.bs mr.tq (k + 3 * j) L'.T t.text hT.out (by omega) (by unfold maxLen;omega) kba ia.tab
   rw[p2] at DC
   generalize hq:Y.q02 L'.T t.text=q at *
   have hbox:wa.heap[wr.heap.size]?=some (.cells (gq t) 36 (0,0)):=by rw[hwa];exact World.alloc_heap_new wr _
   -- what is there behind the declaration
   have ST:Hid (∀w1,Y.Now mr.bs wa tq (k + 3 * j) q.2.2 w1→Goes N wr lb txt mr (k + 3 * j + 2) { L' with T:=q.2.2 } (Y.numOf L'.T.syms) w1∧w1.heap[wr.heap.size]?=some (.cells (gq t) 36 (0,0))):=fun w1 hn1=>by
    obtain⟨bs',ht1,hg1⟩:=hn1
    have h1:=ia.qac (k':=k + 3 * j + 2) (by omega) (by rw[p2];exact ht1) hg1
    exact⟨h1.q0q bA,(hg1.turned.block _ (Array.getElem?_eq_some_iff.1 hbox).1 fun hb=>by have:=ir.tab.low _ hb;omega).trans hbox⟩
   have HGr:Hid (Goes N w lb txt m (k + 3 * j) L' (Y.numOf L'.T.syms) wr):=hG.out
   have HIr:Hid (zq N wr lb txt (k + 3 * j) L' (Y.numOf L'.T.syms) mr):=ir
   have HSr:Hid (w.heap.size≤wr.heap.size):=cG.size
   have GR:Hid (∀b,mr.hot b→m.hot b∨w.heap.size≤b):=gr
   have HCr:Hid (S.M.Ch m.hot w wr):=cG
   have HQ:Hid (q.2.1=0→(fun u=>if u=t.text then some q.1 else Y.numOf L'.T.syms u)=Y.numOf q.2.2.syms):=fun e=>by rw[←hq];exact q4m.num L'.T t.text (by rw[hq];exact e)
   have HOk:Hid (q.2.2.Ok (k + 3 * j + 2)):=by show Y.Tab.Ok _ _;rw[←hq];exact q4m.ok L'.T t.text _ hT.out
   have HLe:Hid (q.1≤512):=by show _≤_;rw[←hq];exact q4m.le L'.T t.text _ hT.out
   have HZt:Hid (t.text.size≤281474976710656):=hzt
   clear hG cG ir gr ia p1 p2 p3 kbr kba bA hq hbox hT hR hdr ht hzt
   go_upto_region 3 with fail
   rw[←hwa]
   have z0:wa.cell? ⟨wr.heap.size,0,none⟩=some (.string t.text):=by rw[hwa];exact (World.cell?_alloc_new wr _ 36 0).trans rfl
   clear hwa
   go_wp2_with fail
   refine Calls.mono DC.out ?_
   rintro e w1 ⟨rfl,hnow⟩
   obtain⟨g1,hb1⟩:=ST.out w1 hnow
   have G1:Hid (Goes N wr lb txt mr (k + 3 * j + 2) { L' with T:=q.2.2 } (Y.numOf L'.T.syms) w1):=g1
   have HB1:Hid (w1.heap[wr.heap.size]?=some (.cells (gq t) 36 (0,0))):=hb1
   have u0:w1.cell? ⟨wr.heap.size,0,none⟩=some (.string t.text):=S.M.qc hb1 0
   have u1:w1.cell? ⟨wr.heap.size,1,none⟩=some (.int .i64 t.off):=S.M.qc hb1 1
   have u2:w1.cell? ⟨wr.heap.size,2,none⟩=some (.int .i64 t.line):=S.M.qc hb1 2
   have u3:w1.cell? ⟨wr.heap.size,3,none⟩=some (.int .i64 t.col):=S.M.qc hb1 3
   clear hnow DC ST z0 y0 y1 y2 y3 g1 hb1
   have CK:Hid (Calls Tryz.prog 102 #[S.zn t,.int .i64 (q.2.1:Nat)] w1 (Chk t (q.2.1:Nat) w1)):=check_any w1 t _
   unfold S.zn at CK
   by_cases hc0:q.2.1=0
   ·have HC0:Hid (q.2.1=0):=hc0
    clear hc0
    go_wp2_with fail
    refine Calls.mono CK.out ?_
    rintro e w2 ⟨hb2,he⟩
    rw[if_pos (by rw[HC0.out];rfl)] at he
    subst he
    have G2:Hid (Goes N wr lb txt mr (k + 3 * j + 2) { L' with T:=q.2.2 } (Y.numOf L'.T.syms) w2):=G1.out.jc hb2
    have u0':=yt u0 hb2
    obtain⟨c2,m2,i2,h2⟩:=G2.out
    have I2:Hid (zq N w2 lb txt (k + 3 * j + 2) { L' with T:=q.2.2 } (Y.numOf L'.T.syms) m2):=i2
    have x0:w2.cell? ⟨lb,0,none⟩=some (.pointer (some ⟨m2.Bb,0,none⟩)):=i2.cells.1
    have x2:w2.cell? ⟨m2.Bb,2,none⟩=some (.map (some m2.nb)):=S.M.qc i2.bbox 2
    obtain⟨n2,hn2,hm2⟩:=i2.num
    obtain⟨W3,hmu,hm3,hg3⟩:=(show Y.jd w2.drew m2.nb n2 _ from hm2.kept rfl).put (by unfold maxLen;omega) t.text (by have:=HZt.out;unfold maxLen;omega) q.1 (by have:=HLe.out;omega)
    rw[HQ.out HC0.out] at hm3
    have G3:Hid (Goes N wr lb txt mr (k + 3 * (j + 1)) { L' with T:=q.2.2 } (Y.numOf q.2.2.syms) W3):=by
     have hbd:Below w2.heap.size w2 w2.drew:=S.M.zi (Below.refl _ _) 1
     have h1:=((I2.out.below hbd).numbered (k':=k + 3 * (j + 1)) (by omega) (S.M.Ch.jm hg3) ⟨n2 + 1,by omega,hm3⟩).q0q hbd
     exact q2k c2 h2 h1
    have R2:Hid (uy Y.q02 L ts=uy Y.q02 { L' with T:=q.2.2 } (ts.drop (j + 1))):=HR2.out.trans (if_pos HC0.out)
    have G4:Hid (Goes N w lb txt m (k + 3 * (j + 1)) { L' with T:=q.2.2 } (Y.numOf q.2.2.syms) W3):=by
     exact q2k HCr.out GR.out G3.out
    clear hb2 c2 i2 h2 hm2 hm3 hg3 u0 u1 u2 u3 CK G1 G2 HB1 hn2
    go_upto_region 5 with fail
    go_region
    go_wp2
    exact⟨⟨j + 1,_,by omega,by go_num,R2.out,HOk.out.up (by omega),G4.out⟩,by simp[intOf];omega⟩
   ·have HC0:Hid (¬((q.2.1:Nat):Int)=0):=by show ¬_;omega
    have R2:Hid (uy Y.q02 L ts=.error (t,(q.2.1:Nat))):=HR2.out.trans (if_neg hc0)
    clear hc0
    go_wp2_with fail
    refine Calls.mono CK.out ?_
    rintro e w2 ⟨hb2,he⟩
    rw[if_neg HC0.out] at he
    obtain⟨b,rfl,q2,q3⟩:=he
    refine⟨rfl,q0l R2.out ?_ ⟨b,rfl,q2,?_⟩⟩
    ·exact qae HCr.out GR.out (G1.out.1.trans (S.M.Ch.of_below hb2))
    ·have h1:=HSr.out
     have h2:=G1.out.1.size
     omega
  ·have n1:¬(j:Int) < (n:Int):=by omega
   have hje:j=n:=by omega
   subst hje
   have hall:ts.drop j=[]:=List.drop_eq_nil_of_le (by rw[HL.out];exact Nat.le_refl _)
   have R2:Hid (uy Y.q02 L ts=.ok L'):=hR.out.trans (by rw[hall];rfl)
   clear hall hR hT
   go_wp2
   exact bodyPost_end (results_none rfl _ _ _) rfl (wu R2.out rfl hG.out)
theorem qd7 (h:zq N w lb txt k L (Y.numOf L.T.syms) m)(hT:L.T.Ok k)(hk:k < 1000000000000)(hKB:Y.KB w)(hN:1 < N)(a:Option Addr)(n c:Nat)(ts:List Tok)(hl:ts.length=n)(hn:n≤1048576)(hA:qaf m w a ts)(hz:∀t ∈ ts,t.text.size≤281474976710656) :
  Calls Tryz.prog 109 #[.pointer (some ⟨lb,0,none⟩),.slice a n c,.func (.func 110) #[.pointer (some ⟨m.tq,0,none⟩)] #[]] w (Does N w lb txt m (k + 3 * n) (uy Y.q2v L ts)):=by
 have HI:Hid (zq N w lb txt k L (Y.numOf L.T.syms) m):=h
 have HA:Hid (qaf m w a ts):=hA
 have HL:Hid (ts.length=n):=hl
 have HZ:Hid (∀t ∈ ts,t.text.size≤281474976710656):=hz
 have HG:Hid (Goes N w lb txt m k L (Y.numOf L.T.syms) w):=Goes.same h (Below.refl _ _)
 have HT:Hid (L.T.Ok k):=hT
 have HK:Hid (Y.KB w∧1 < N):=⟨hKB,hN⟩
 obtain⟨tq,htq⟩:∃tq,m.tq=tq:=⟨_,rfl⟩
 have HTQ:Hid (m.tq=tq):=htq
 rw[htq]
 clear h hT hA hl hz hKB hN htq
 go_enter Tryz.func109,Tryz.ntmps109
 go_wp2_with fail
 go_loopw [12] (fun v12 wx=>∃(j:Nat) (L':Ld),j≤n∧v12=.int .i64 j∧Hid (uy Y.q2v L ts=uy Y.q2v L' (ts.drop j))∧Hid (L'.T.Ok (k + 3 * j))∧Hid (Goes N w lb txt m (k + 3 * j) L' (Y.numOf L'.T.syms) wx)) (fun v12 _=>n - (intOf v12).toNat)
 case atStart=>exact⟨0,L,Nat.zero_le _,rfl,rfl,HT.out,HG.out⟩
 case round =>
  clear HG HT
  obtain⟨j,L',hj,rfl,hR,hT,hG⟩:=hrel
  by_cases hlt:j < n
  ·have n1:(j:Int) < (n:Int):=by omega
   obtain⟨t,ht⟩:∃t,ts[j]?=some t:=⟨_,List.getElem?_eq_getElem (by rw[HL.out];exact hlt)⟩
   have hdr:ts.drop j=t :: ts.drop (j + 1):=by
    obtain⟨hlt2,e2⟩:=List.getElem?_eq_some_iff.1 ht
    rw[List.drop_eq_getElem_cons hlt2,e2]
   have hzt:=HZ.out t (List.mem_of_getElem? ht)
   obtain⟨g,off,rfl,y0,y1,y2,y3⟩:=(HA.out.ch hG.out.1) j t ht
   have HR2:Hid (uy Y.q2v L ts=if (Y.q2v L'.T t.text).2.1=0 then uy Y.q2v { L' with T:=(Y.q2v L'.T t.text).2.2 } (ts.drop (j + 1)) else .error (t,((Y.q2v L'.T t.text).2.1:Nat))):=hR.out.trans (by rw[hdr,uy])
   obtain⟨wa,hwa⟩:∃wa,wa=wr.alloc (.cells (gq t) 36):=⟨_,rfl⟩
   have bA:Below wr.heap.size wr wa:=by rw[hwa];exact S.qg _ _
   have hG2:=hG.out
   obtain⟨cG,mr,ir,gr⟩:=hG2
   obtain⟨p1,p2,p3⟩:=HI.out.ptrs cG ir
   rw[HTQ.out] at p2
   have ia:=ir.below bA
   have kbr:Y.KB wr:=q99 HK.out.1 HK.out.2 HI.out cG
   have kba:Y.KB wa:=kbr.kept (bA.block 1 kbr.pos)
   have DC:Hid _:=q6b.run wa mr.bs mr.tq (k + 3 * j) L'.T t.text hT.out (by omega) (by unfold maxLen;omega) kba ia.tab
   rw[p2] at DC
   generalize hq:Y.q2v L'.T t.text=q at *
   have hbox:wa.heap[wr.heap.size]?=some (.cells (gq t) 36 (0,0)):=by rw[hwa];exact World.alloc_heap_new wr _
   -- what is there behind the declaration
   have ST:Hid (∀w1,Y.Now mr.bs wa tq (k + 3 * j) q.2.2 w1→Goes N wr lb txt mr (k + 3 * j + 2) { L' with T:=q.2.2 } (Y.numOf L'.T.syms) w1∧w1.heap[wr.heap.size]?=some (.cells (gq t) 36 (0,0))):=fun w1 hn1=>by
    obtain⟨bs',ht1,hg1⟩:=hn1
    have h1:=ia.qac (k':=k + 3 * j + 2) (by omega) (by rw[p2];exact ht1) hg1
    exact⟨h1.q0q bA,(hg1.turned.block _ (Array.getElem?_eq_some_iff.1 hbox).1 fun hb=>by have:=ir.tab.low _ hb;omega).trans hbox⟩
   have HGr:Hid (Goes N w lb txt m (k + 3 * j) L' (Y.numOf L'.T.syms) wr):=hG.out
   have HIr:Hid (zq N wr lb txt (k + 3 * j) L' (Y.numOf L'.T.syms) mr):=ir
   have HSr:Hid (w.heap.size≤wr.heap.size):=cG.size
   have GR:Hid (∀b,mr.hot b→m.hot b∨w.heap.size≤b):=gr
   have HCr:Hid (S.M.Ch m.hot w wr):=cG
   have HQ:Hid (q.2.1=0→(fun u=>if u=t.text then some q.1 else Y.numOf L'.T.syms u)=Y.numOf q.2.2.syms):=fun e=>by rw[←hq];exact q6b.num L'.T t.text (by rw[hq];exact e)
   have HOk:Hid (q.2.2.Ok (k + 3 * j + 2)):=by show Y.Tab.Ok _ _;rw[←hq];exact q6b.ok L'.T t.text _ hT.out
   have HLe:Hid (q.1≤512):=by show _≤_;rw[←hq];exact q6b.le L'.T t.text _ hT.out
   have HZt:Hid (t.text.size≤281474976710656):=hzt
   clear hG cG ir gr ia p1 p2 p3 kbr kba bA hq hbox hT hR hdr ht hzt
   go_upto_region 3 with fail
   rw[←hwa]
   have z0:wa.cell? ⟨wr.heap.size,0,none⟩=some (.string t.text):=by rw[hwa];exact (World.cell?_alloc_new wr _ 36 0).trans rfl
   clear hwa
   go_wp2_with fail
   refine Calls.mono DC.out ?_
   rintro e w1 ⟨rfl,hnow⟩
   obtain⟨g1,hb1⟩:=ST.out w1 hnow
   have G1:Hid (Goes N wr lb txt mr (k + 3 * j + 2) { L' with T:=q.2.2 } (Y.numOf L'.T.syms) w1):=g1
   have HB1:Hid (w1.heap[wr.heap.size]?=some (.cells (gq t) 36 (0,0))):=hb1
   have u0:w1.cell? ⟨wr.heap.size,0,none⟩=some (.string t.text):=S.M.qc hb1 0
   have u1:w1.cell? ⟨wr.heap.size,1,none⟩=some (.int .i64 t.off):=S.M.qc hb1 1
   have u2:w1.cell? ⟨wr.heap.size,2,none⟩=some (.int .i64 t.line):=S.M.qc hb1 2
   have u3:w1.cell? ⟨wr.heap.size,3,none⟩=some (.int .i64 t.col):=S.M.qc hb1 3
   clear hnow DC ST z0 y0 y1 y2 y3 g1 hb1
   have CK:Hid (Calls Tryz.prog 102 #[S.zn t,.int .i64 (q.2.1:Nat)] w1 (Chk t (q.2.1:Nat) w1)):=check_any w1 t _
   unfold S.zn at CK
   by_cases hc0:q.2.1=0
   ·have HC0:Hid (q.2.1=0):=hc0
    clear hc0
    go_wp2_with fail
    refine Calls.mono CK.out ?_
    rintro e w2 ⟨hb2,he⟩
    rw[if_pos (by rw[HC0.out];rfl)] at he
    subst he
    have G2:Hid (Goes N wr lb txt mr (k + 3 * j + 2) { L' with T:=q.2.2 } (Y.numOf L'.T.syms) w2):=G1.out.jc hb2
    have u0':=yt u0 hb2
    obtain⟨c2,m2,i2,h2⟩:=G2.out
    have I2:Hid (zq N w2 lb txt (k + 3 * j + 2) { L' with T:=q.2.2 } (Y.numOf L'.T.syms) m2):=i2
    have x0:w2.cell? ⟨lb,0,none⟩=some (.pointer (some ⟨m2.Bb,0,none⟩)):=i2.cells.1
    have x2:w2.cell? ⟨m2.Bb,2,none⟩=some (.map (some m2.nb)):=S.M.qc i2.bbox 2
    obtain⟨n2,hn2,hm2⟩:=i2.num
    obtain⟨W3,hmu,hm3,hg3⟩:=(show Y.jd w2.drew m2.nb n2 _ from hm2.kept rfl).put (by unfold maxLen;omega) t.text (by have:=HZt.out;unfold maxLen;omega) q.1 (by have:=HLe.out;omega)
    rw[HQ.out HC0.out] at hm3
    have G3:Hid (Goes N wr lb txt mr (k + 3 * (j + 1)) { L' with T:=q.2.2 } (Y.numOf q.2.2.syms) W3):=by
     have hbd:Below w2.heap.size w2 w2.drew:=S.M.zi (Below.refl _ _) 1
     have h1:=((I2.out.below hbd).numbered (k':=k + 3 * (j + 1)) (by omega) (S.M.Ch.jm hg3) ⟨n2 + 1,by omega,hm3⟩).q0q hbd
     exact q2k c2 h2 h1
    have R2:Hid (uy Y.q2v L ts=uy Y.q2v { L' with T:=q.2.2 } (ts.drop (j + 1))):=HR2.out.trans (if_pos HC0.out)
    have G4:Hid (Goes N w lb txt m (k + 3 * (j + 1)) { L' with T:=q.2.2 } (Y.numOf q.2.2.syms) W3):=by
     exact q2k HCr.out GR.out G3.out
    clear hb2 c2 i2 h2 hm2 hm3 hg3 u0 u1 u2 u3 CK G1 G2 HB1 hn2
    go_upto_region 5 with fail
    go_region
    go_wp2
    exact⟨⟨j + 1,_,by omega,by go_num,R2.out,HOk.out.up (by omega),G4.out⟩,by simp[intOf];omega⟩
   ·have HC0:Hid (¬((q.2.1:Nat):Int)=0):=by show ¬_;omega
    have R2:Hid (uy Y.q2v L ts=.error (t,(q.2.1:Nat))):=HR2.out.trans (if_neg hc0)
    clear hc0
    go_wp2_with fail
    refine Calls.mono CK.out ?_
    rintro e w2 ⟨hb2,he⟩
    rw[if_neg HC0.out] at he
    obtain⟨b,rfl,q2,q3⟩:=he
    refine⟨rfl,q0l R2.out ?_ ⟨b,rfl,q2,?_⟩⟩
    ·exact qae HCr.out GR.out (G1.out.1.trans (S.M.Ch.of_below hb2))
    ·have h1:=HSr.out
     have h2:=G1.out.1.size
     omega
  ·have n1:¬(j:Int) < (n:Int):=by omega
   have hje:j=n:=by omega
   subst hje
   have hall:ts.drop j=[]:=List.drop_eq_nil_of_le (by rw[HL.out];exact Nat.le_refl _)
   have R2:Hid (uy Y.q2v L ts=.ok L'):=hR.out.trans (by rw[hall];rfl)
   clear hall hR hT
   go_wp2
   exact bodyPost_end (results_none rfl _ _ _) rfl (wu R2.out rfl hG.out)
end
end B
namespace B
open Go.RowKit
open S (Tok Stm)
structure Ld.Ok (L:Ld)(k:Nat):Prop where
 tab:L.T.Ok k
 sc1:1≤L.sc.length
 sc2:L.sc.length≤17
 hyl:L.hy.length + L.al.length≤L.T.labels.length
 sub:(uw L.sc).Sublist L.hy
 ex:∀h ∈ L.hy,h.ex.length≤200∧(∀x ∈ h.ex,F.wfN x)∧F.wfN h.var∧h.lab.size≤65536
 ps:(F.uo L.sc).length≤256
 pw:∀p ∈ F.uo L.sc,F.wfP p
 labs:∀s,s ∈ L.hy.map (·.lab)∨s ∈ L.al.map (·.label.text)→s ∈ L.T.labels
theorem Ld.Ok.up {L:Ld}{k k':Nat}(h:L.Ok k)(hk:k≤k'):L.Ok k':=⟨h.tab.up hk,h.sc1,h.sc2,h.hyl,h.sub,h.ex,h.ps,h.pw,h.labs⟩
theorem Ld.Ok.hy1 {L:Ld}{k:Nat}(h:L.Ok k):L.hy.length + L.al.length≤1024:=Nat.le_trans h.hyl h.tab.labels
structure q0w (N:Nat)(m:LdM)(w:World)(s:Stm)(vw vp:Value):Prop where
 ow:w.ownsRow N 36 4 vw s.words.length (S.rowT s.words)
 op:w.ownsRow N 36 4 vp s.proof.length (S.rowT s.proof)
 cw:∀b,vw.ownBlock=some b→¬m.hot b
 cp:∀b,vp.ownBlock=some b→¬m.hot b
 lw:s.words.length≤16384
 lp:s.proof.length≤16384
 zw:∀t ∈ s.words,t.text.size≤65536
 zl:s.label.text.size≤65536
def jw (s:Stm)(vw vp:Value):Array Value:=S.q4g s.kind s.label s.key s.fin s.proving vw vp
def q09 (s:Stm)(vw vp:Value):Value:=.agg (jw s vw vp)
section
variable {N:Nat} {w W':World} {lb:Nat} {txt:ByteArray} {k k':Nat} {L L':Ld} {nf nf':ByteArray→Option Nat} {m m':LdM} {s:Stm} {vw vp:Value}
theorem q0w.words (h:q0w N m w s vw vp):∃a c,vw=.slice a s.words.length c∧qaf m w a s.words:=by
 obtain⟨a,c,e,_,ht⟩:=S.gu h.ow
 refine⟨a,c,e,ht,fun b off eb h0=>?_⟩
 obtain⟨g,c2,e2,_,_,_⟩:=S.M.q0f h.ow h0
 rw[e,eb] at e2
 simp only[Value.slice.injEq,Option.some.injEq,Addr.mk.injEq] at e2
 exact h.cw b (by rw[e,eb,e2.1.2.1];rfl)
theorem q0w.ch {X:Nat→Prop}(h:q0w N m w s vw vp)(hc:S.M.Ch X w W')(hx:∀b,X b→m.hot b)(hh:∀b,m'.hot b→m.hot b∨w.heap.size≤b):q0w N m' W' s vw vp :=
 ⟨S.M.qh h.ow hc fun b e hb=>h.cw b e (hx b hb),S.M.qh h.op hc fun b e hb=>h.cp b e (hx b hb),fun b e hb=>(hh b hb).elim (h.cw b e) fun h2=>by have:=S.M.jl h.ow b e;omega,fun b e hb=>(hh b hb).elim (h.cp b e) fun h2=>by have:=S.M.jl h.op b e;omega,h.lw,h.lp,h.zw,h.zl⟩
theorem q0w.below (h:q0w N m w s vw vp)(hb:Below w.heap.size w W'):q0w N m W' s vw vp:=h.ch (S.M.Ch.of_below (X:=fun _=>False) hb) (fun _ e=>e.elim) fun _=>.inl
theorem Does.q0q {r:Res Ld}{e:Ending}{Wa W2:World}(hb:Below w.heap.size w Wa)(h:Does N Wa lb txt m k r e W2):Does N w lb txt m k r e W2:=by
 cases r with
 | ok L'=>exact⟨h.1,h.2.q0q hb⟩
 | error f=>exact⟨(S.M.Ch.of_below hb).trans h.1,h.2.le hb.size⟩
theorem Does.up {r:Res Ld}{e:Ending}{W2:World}(h:Does N w lb txt m k r e W2)(hk:k≤k'):Does N w lb txt m k' r e W2:=by
 cases r with
 | ok L'=>exact⟨h.1,h.2.up hk⟩
 | error f=>exact h
theorem q53 {w':World}(hb:Below (w.alloc (.cells (jw s vw vp) 95)).heap.size (w.alloc (.cells (jw s vw vp) 95)) w'):∀i,w'.cell? ⟨w.heap.size,i,none⟩=(jw s vw vp)[i]?:=fun i=>by
 by_cases hi:i < 16
 ·have h0:(w.alloc (.cells (jw s vw vp) 95)).cell? ⟨w.heap.size,i,none⟩=(jw s vw vp)[i]?:=World.cell?_alloc_new w (jw s vw vp) 95 i
  rw[←h0]
  exact hb.cell (p:=⟨w.heap.size,i,none⟩) (by show _ < (w.heap.push _).size;simp)
 ·have h0:(w.alloc (.cells (jw s vw vp) 95)).cell? ⟨w.heap.size,i,none⟩=(jw s vw vp)[i]?:=World.cell?_alloc_new w (jw s vw vp) 95 i
  rw[←h0]
  exact hb.cell (p:=⟨w.heap.size,i,none⟩) (by show _ < (w.heap.push _).size;simp)
theorem q0m {G:Prop}(h:G):wpAny Tryz.prog .any #[] (fun _ _ _=>True) 0 #[] { tmps:=#[],defers:=[] } default→G:=fun _=>h
theorem q6c (w:World)(s:Stm)(aw:Option Addr)(nw cw:Nat)(ap:Option Addr)(np cp:Nat):Calls Tryz.prog 165 #[q09 s (.slice aw nw cw) (.slice ap np cp)] w fun e w'=>e=.returned (.bool (q04 s.fin))∧Below w.heap.size w w':=by
 unfold q09 jw S.q4g
 go_enter Tryz.func165,Tryz.ntmps165
 go_wp2
 go_ret
 refine⟨?_,S.qg w _⟩
 show _=Ending.returned (.bool (!s.fin.text.data.toList.isEmpty))
 rw[←ByteArray.toList_eq]
 rfl
theorem qba (h:zq N w lb txt k L (Y.numOf L.T.syms) m)(hO:L.Ok k)(hk:k < 100000000000)(hKB:Y.KB w)(hN:1 < N)(hs:q0w N m w s vw vp):Calls Tryz.prog 108 #[.pointer (some ⟨lb,0,none⟩),q09 s vw vp] w (Does N w lb txt m (k + 49152) (q2y L s)):=by
 obtain⟨aw,cw,rfl,hW⟩:=hs.words
 obtain⟨ap,cp,rfl,_⟩:=S.gu hs.op
 obtain⟨_,x1,_⟩:=h.cells
 have b0:Below w.heap.size w (w.alloc (.cells (jw s (.slice aw s.words.length cw) (.slice ap s.proof.length cp)) 95)):=S.qg _ _
 have B0:Hid (Below w.heap.size w (w.alloc (.cells (jw s (.slice aw s.words.length cw) (.slice ap s.proof.length cp)) 95))):=b0
 have DE:Hid (∀wx,Below w.heap.size w wx→Calls Tryz.prog 156 #[.pointer (some ⟨m.tq,0,none⟩)] wx fun e w'=>e=.returned (.int .i64 L.T.scopes.length)∧w'=wx):=fun wx hb=>Y.q41 wx _ _ _ _ (h.below hb).tab
 have hT:=hO.tab.scopes
 have GU:Hid (∀wx,Calls Tryz.prog 153 #[S.zn s.key,.int .i64 80] wx fun e w'=>Below wx.heap.size wx w'∧Quits s.key 80 wx.heap.size e w'):=fun wx=>q1l wx s.key 80
 have DC:Hid (∀wx,Below w.heap.size w wx→Calls Tryz.prog 109 #[.pointer (some ⟨lb,0,none⟩),.slice aw s.words.length cw,.func (.func 157) #[.pointer (some ⟨m.tq,0,none⟩)] #[]] wx (Does N w lb txt m (k + 49152) (uy Y.q02 L s.words))):=fun wx hb=>by
  have hl:=hs.lw
  refine (qd6 (h.below hb) hO.tab (by omega) (hKB.kept (hb.block 1 hKB.pos)) hN aw _ cw s.words rfl (by omega) ⟨hW.1.under hb,hW.2⟩ (fun t ht=>by have:=hs.zw t ht;omega)).mono fun e w' hd=>?_
  exact (hd.up (by omega)).q0q hb
 have C0:Hid (∀w',Below (w.alloc (.cells (jw s (.slice aw s.words.length cw) (.slice ap s.proof.length cp)) 95)).heap.size (w.alloc (.cells (jw s (.slice aw s.words.length cw) (.slice ap s.proof.length cp)) 95)) w'→∀i,w'.cell? ⟨w.heap.size,i,none⟩=(jw s (.slice aw s.words.length cw) (.slice ap s.proof.length cp))[i]?):=fun w' hb=>q53 hb
 have y1:=yt x1 b0
 have HR:Hid (q2y L s=if 0 < L.T.scopes.length then .error (s.key,80) else uy Y.q02 L s.words):=rfl
 generalize hnl:s.words.length=n at *
 obtain⟨w1,hw1⟩:∃w1,w1=w.alloc (.cells (jw s (.slice aw n cw) (.slice ap s.proof.length cp)) 95):=⟨_,rfl⟩
 rw[←hw1] at B0 C0 y1
 have z:=C0.out w1 (Below.refl _ _)
 have z5:w1.cell? ⟨w.heap.size,5,none⟩=some (.string s.key.text):=z 5
 have z6:w1.cell? ⟨w.heap.size,6,none⟩=some (.int .i64 s.key.off):=z 6
 have z7:w1.cell? ⟨w.heap.size,7,none⟩=some (.int .i64 s.key.line):=z 7
 have z8:w1.cell? ⟨w.heap.size,8,none⟩=some (.int .i64 s.key.col):=z 8
 have z10:w1.cell? ⟨w.heap.size,10,none⟩=some (.slice aw n cw):=z 10
 clear h hO hKB hs hW x1 b0 z
 generalize m.tq=tq at *
 unfold q09 S.zn at *
 by_cases hd:0 < L.T.scopes.length
 ·have n1:(0:Int) < (L.T.scopes.length:Int):=by omega
  have hr2:Hid (q2y L s=.error (s.key,80)):=HR.out.trans (if_pos hd)
  generalize L.T.scopes.length=dl at *
  clear hd DC
  go_enter Tryz.func108,Tryz.ntmps108
  go_upto_region 1 with fail
  rw[←hw1]
  clear hw1
  go_wp2_with fail
  refine Calls.mono (DE.out _ B0.out) ?_
  rintro e wz ⟨rfl,hwz⟩
  subst wz
  go_wp2_with fail
  refine Calls.mono (GU.out _) ?_
  rintro e w' ⟨hb,b,rfl,q2,q3⟩
  have B1:=B0.out
  exact⟨rfl,q0l hr2.out (S.M.Ch.of_below (B1.trans (hb.mono B1.size))) ⟨b,rfl,q2,Nat.le_trans B1.size q3⟩⟩
 ·have n1:¬(0:Int) < (L.T.scopes.length:Int):=by omega
  have hr2:Hid (q2y L s=uy Y.q02 L s.words):=HR.out.trans (if_neg hd)
  generalize L.T.scopes.length=dl at *
  generalize uy Y.q02 L s.words=r at *
  clear hd GU z5 z6 z7 z8
  go_enter Tryz.func108,Tryz.ntmps108
  go_upto_region 1 with fail
  rw[←hw1]
  clear hw1
  go_wp2_with fail
  refine Calls.mono (DE.out _ B0.out) ?_
  rintro e wz ⟨rfl,hwz⟩
  subst wz
  have DC1:Hid _:=DC.out w1.drew (S.M.zi B0.out 1)
  clear DC DE
  cases r with
  | ok L' =>
   go_upto_region 3 with fail
   go_region_law (go_simp;go_at_call 109;refine Calls.mono DC1.out ?_;rintro e w2 ⟨rfl,hg⟩;have HG:Hid (Goes N w lb txt m (k + 49152) L' (Y.numOf L'.T.syms) w2):=hg;clear hg)
   all_goals go_wp2
   all_goals exact bodyPost_end (results_none rfl _ _ _) rfl (wu hr2.out rfl HG.out)
  | error f =>
   go_upto_region 3 with fail
   go_region_law (go_simp;go_at_call 109;refine Calls.mono DC1.out ?_;rintro e w2 ⟨hc,b,rfl,q2,q3⟩;refine q0m (h:=⟨rfl,q0l hr2.out hc ⟨b,rfl,q2,q3⟩⟩) ?_)
   all_goals trivial
end
end B
namespace B
open Go.RowKit
open S (Tok Stm)
theorem qhc (l:List F.HyC)(y:F.HyC):F.yx (l++[y])=F.yx l++F.hyC y:=by unfold F.yx;rw[List.flatMap_append];simp
theorem qky {hy:List F.Hy}{h:F.Hy}(hn:q25 hy h.lab=none):(fun t=>if t=h.lab then some hy.length else q25 hy t)=q25 (hy++[h]):=by
 funext t
 unfold q25 at hn ⊢
 rw[List.findIdx?_append]
 by_cases e:t=h.lab
 ·subst e
  rw[if_pos rfl,hn]
  simp[List.findIdx?_cons]
 ·rw[if_neg e]
  have e2:¬h.lab=t:=fun e'=>e e'.symm
  cases hc:hy.findIdx? (fun x=>decide (x.lab=t)) with
  | some i=>simp
  | none=>simp[List.findIdx?_cons,e2]
section
variable {N:Nat} {w W8:World} {lb:Nat} {txt:ByteArray} {k k':Nat} {L:Ld} {nf:ByteArray→Option Nat} {m:LdM}
theorem zq.kept {vh':Value} {y:F.HyC} (h:zq N w lb txt k L nf m) (hk:k≤k') (hm:∃n,n≤k'∧Y.jd W8 m.hb n (q25 (L.hy++[y.h]))) (hr:W8.ownsRow N 57 4 vh' (m.hs.length + 1) (F.yx (m.hs++[y])))
  (hx:W8.heap[m.Bb]?=some (.cells #[.string txt,.pointer (some ⟨m.tq,0,none⟩),.map (some m.nb),vh',.map (some m.hb),m.va,.map (some m.ab)] 121 (0,0)))
  (hc:S.M.Ch (fun b=>b=m.hb∨b=m.Bb∨m.vh.ownBlock=some b) w W8) (hl:∀b,vh'.ownBlock=some b→m.vh.ownBlock=some b∨w.heap.size≤b) (hy:w.ownsRow N 3 1 y.ve y.h.ex.length (F.zy y.h.ex)) (hyb:∀b,y.ve.ownBlock=some b→¬m.hot b):Goes N w lb txt m k' { L with hy:=L.hy++[y.h] } nf W8:=by
 have hN:=h.ge
 have hq:∀b,(b=m.hb∨b=m.Bb∨m.vh.ownBlock=some b)→m.q b:=fun b hb=>by
  rcases hb with e | e | e
  ·exact .inr (.inr (.inl e))
  ·exact .inl e
  ·exact .inr (.inr (.inr (.inr (.inl e))))
 have hC:S.M.Ch m.hot w W8:=hc.mono fun b hb=>.inr (.inr (hq b hb))
 have hot:∀b,LdM.hot { m with vh:=vh',hs:=m.hs++[y] } b→m.hot b∨w.heap.size≤b:=fun b hb=>by
  rcases hb with hb | hb | hb | hb | hb | hb | hb | hb
  ·exact .inl (.inl hb)
  ·exact .inl (.inr (.inl hb))
  ·exact .inl (.inr (.inr (.inl hb)))
  ·exact .inl (.inr (.inr (.inr (.inl hb))))
  ·exact .inl (.inr (.inr (.inr (.inr (.inl hb)))))
  ·exact .inl (.inr (.inr (.inr (.inr (.inr (.inl hb))))))
  ·exact (hl b hb).imp (fun e=>.inr (.inr (.inr (.inr (.inr (.inr (.inl e))))))) id
  ·exact .inl (.inr (.inr (.inr (.inr (.inr (.inr (.inr hb)))))))
 have no:∀b,b < w.heap.size→¬m.hot b→¬LdM.hot { m with vh:=vh',hs:=m.hs++[y] } b:=fun b hb hn hh=>(hot b hh).elim hn fun e=>by omega
 obtain⟨es,ck,hmap⟩:=(map_lt hm.choose_spec.2).2
 have nc:∀{v:Value} {base e size n:Nat} {xs:List Value},w.ownsRow base e size v n xs→e=123→∀b,v.ownBlock=some b→¬(b=m.hb∨b=m.Bb∨m.vh.ownBlock=some b):=fun ho he b eb e=>by
  obtain⟨cs,hcs⟩:=F.yw ho eb
  subst he
  rcases e with rfl | rfl | e
  ·obtain⟨es,ck,h2⟩:=(map_lt h.hym.choose_spec.2).2
   rw[h2] at hcs
   cases hcs
  ·rw[h.bbox] at hcs
   cases hcs
  ·obtain⟨cs2,h2⟩:=F.yw h.hyr e
   rw[h2] at hcs
   cases hcs
 have nm:∀(b x:Nat),(∃n,n≤k∧∃f,Y.jd w b n f)→b≠m.hb→¬(b=m.hb∨b=m.Bb∨m.vh.ownBlock=some b):=fun b _ hb hne e=>by
  obtain⟨n,_,f,hb⟩:=hb
  obtain⟨_,es,ck,h2⟩:=map_lt hb
  rcases e with e | rfl | e
  ·exact hne e
  ·rw[h.bbox] at h2
   cases h2
  ·obtain⟨cs2,h3⟩:=F.yw h.hyr e
   rw[h2] at h3
   cases h3
 have hcold:=h.cold.ch (m':=m) hC rfl rfl rfl rfl rfl fun _=>.inl
 refine⟨hC,{ m with vh:=vh',hs:=m.hs++[y] },?_,hot⟩
 refine⟨⟨hcold.lbox,no lb (Array.getElem?_eq_some_iff.1 h.cold.lbox).1 h.cold.lh,fun z hz=>?_,fun x hx=>?_⟩,hx,(qab h.tab hc fun b hb e=>(h.qa b (hq b e)).1 hb).up hk,qaa h.stk hc (fun b hb e=>(h.qa b (hq b e)).2 hb),h.sca,q3e (q1f h.num hc (nm _ 0 (h.num.imp fun n hn=>⟨hn.1,_,hn.2⟩) h.ne.1)) hk,?_,?_,hm,S.M.qh h.asr hc (fun b eb=>nc h.asr rfl b eb),h.asa,q3e (q1f h.asm hc (nm _ 0 (h.asm.imp fun n hn=>⟨hn.1,_,hn.2⟩) (fun e=>h.ne.2.2 e.symm))) hk,h.ta,fun b hb=>?_,h.ne,fun b hb=>?_,Nat.le_trans hN hc.size⟩
 ·rcases List.mem_append.1 hz with hz | hz
  ·obtain⟨h1,h2⟩:=h.cold.e z hz
   exact⟨S.M.qh h1 hC h2,fun b eb=>no b (S.M.jl h1 b eb) (h2 b eb)⟩
  ·rw[List.mem_singleton.1 hz]
   exact⟨S.M.qh hy hC hyb,fun b eb=>no b (S.M.jl hy b eb) (hyb b eb)⟩
 ·obtain⟨h1,h2⟩:=h.cold.a x hx
  exact⟨h1.ch hC h2,fun b eb=>no b (h1.lt b eb) (h2 b eb)⟩
 ·show W8.ownsRow N 57 4 vh' (m.hs++[y]).length _
  rw[List.length_append]
  exact hr
 ·show (m.hs++[y]).map (·.h)=L.hy++[y.h]
  rw[List.map_append,h.hya]
  rfl
 ·by_cases hq2:m.q b
  ·exact h.qa b hq2
  ·have hb2:vh'.ownBlock=some b:=by
    rcases hb with hb | hb | hb | hb | hb | hb
    ·exact absurd (.inl hb) hq2
    ·exact absurd (.inr (.inl hb)) hq2
    ·exact absurd (.inr (.inr (.inl hb))) hq2
    ·exact absurd (.inr (.inr (.inr (.inl hb)))) hq2
    ·exact hb
    ·exact absurd (.inr (.inr (.inr (.inr (.inr hb))))) hq2
   have hge:=(hl b hb2).resolve_left fun e=>hq2 (.inr (.inr (.inr (.inr (.inl e)))))
   exact⟨fun hb3=>by have:=h.tab.low b hb3;omega,fun hb3=>by have:=h.stk.lt b hb3;omega⟩
 ·exact (hot b hb).elim (h.low b) fun h2=>by omega
theorem keep_any (h:zq N w lb txt k L nf m)(hy:F.Hy)(a:Option Addr)(c:Nat)(hh:L.hy.length≤1048576)(hk:k < 17592186044414)(hl:hy.lab.size≤281474976710656)(hn:q25 L.hy hy.lab=none)(ho:w.ownsRow N 3 1 (.slice a hy.ex.length c) hy.ex.length (F.zy hy.ex))(hob:∀b,(Value.slice a hy.ex.length c).ownBlock=some b→¬m.hot b) :
  Calls Tryz.prog 170 #[.pointer (some ⟨lb,0,none⟩),.agg #[.string hy.lab,.bool hy.fl,.int .i64 hy.var,.slice a hy.ex.length c]] w fun e w'=>e=.returned (.tuple #[])∧Goes N w lb txt m (k + 1) { L with hy:=L.hy++[hy] } nf w':=by
 obtain⟨iH,hiH,iHz,iHs,iHb⟩:=info_parts F.q9q
 obtain⟨w1,hw1⟩:∃w1,w1=w.alloc (.cells #[.string hy.lab,.bool hy.fl,.int .i64 hy.var,.slice a hy.ex.length c] 57):=⟨_,rfl⟩
 have hb1:Below w.heap.size w w1:=by rw[hw1];exact S.qg _ _
 have hX1:w1.heap[w.heap.size]?=some (.cells #[.string hy.lab,.bool hy.fl,.int .i64 hy.var,.slice a hy.ex.length c] 57 (0,0)):=by rw[hw1];exact World.alloc_heap_new w _
 have h1:=h.below hb1
 obtain⟨x0,_,_⟩:=h1.cells
 obtain⟨av,cv,hva,_⟩:=S.M.zx h1.hyr
 have hlen:m.hs.length=L.hy.length:=by rw[←h.hya,List.length_map]
 have b3:w1.cell? ⟨m.Bb,3,none⟩=some m.vh:=S.M.qc h1.bbox 3
 have b4:w1.cell? ⟨m.Bb,4,none⟩=some (.map (some m.hb)):=S.M.qc h1.bbox 4
 rw[hva] at b3
 have z0:w1.cell? ⟨w.heap.size,0,none⟩=some (.string hy.lab):=S.M.qc hX1 0
 obtain⟨n1,hn1,hm1⟩:=h1.hym
 obtain⟨W2,hmu,hm2,hg2⟩:=(show Y.jd w1.drew m.hb n1 _ from hm1.kept rfl).put (by unfold maxLen;omega) hy.lab (by unfold maxLen;omega) L.hy.length (by omega)
 rw[qky hn] at hm2
 rw[←hlen] at hmu
 have hbd:Below w.heap.size w w1.drew:=S.M.zi hb1 1
 have hs1:w1.drew.heap.size=w1.heap.size:=rfl
 have hnB:m.Bb≠m.hb:=fun e=>by
  obtain⟨_,es,ck,h2⟩:=map_lt hm1
  rw[←e,h1.bbox] at h2
  cases h2
 have hnl:lb≠m.hb:=fun e=>h.cold.lh (e ▸ .inr (.inr (.inr (.inr (.inl rfl)))))
 have hlt:=h1.lt
 have hXh:w.heap.size≠m.hb:=fun e=>by have:=h.lt m.hb (.inr (.inr (.inr (.inr (.inl rfl)))));omega
 have hX2:W2.heap[w.heap.size]?=some (.cells #[.string hy.lab,.bool hy.fl,.int .i64 hy.var,.slice a hy.ex.length c] 57 (0,0)):=(hg2.block _ (Array.getElem?_eq_some_iff.1 hX1).1 (fun e=>hXh (Option.some.inj e))).trans hX1
 have hB2:W2.heap[m.Bb]?=some (.cells #[.string txt,.pointer (some ⟨m.tq,0,none⟩),.map (some m.nb),m.vh,.map (some m.hb),m.va,.map (some m.ab)] 121 (0,0)):=(hg2.block _ (Array.getElem?_eq_some_iff.1 h1.bbox).1 (fun e=>hnB (Option.some.inj e))).trans h1.bbox
 have hL2:W2.heap[lb]?=some (.cells #[.pointer (some ⟨m.Bb,0,none⟩),.pointer (some ⟨m.tq,0,none⟩),.pointer (some ⟨m.P,0,none⟩)] 106 (0,0)):=(hg2.block _ (Array.getElem?_eq_some_iff.1 h1.cold.lbox).1 (fun e=>hnl (Option.some.inj e))).trans h1.cold.lbox
 have hR2:W2.ownsRow N 57 4 m.vh m.hs.length (F.yx m.hs):=S.M.zo h1.hyr fun g eg=>hg2.block g (S.M.jl h1.hyr g eg) fun e=>by
  obtain⟨cs,h2⟩:=F.yw h1.hyr eg
  obtain⟨_,es,ck,h3⟩:=map_lt hm1
  cases e
  rw[h2] at h3
  cases h3
 have q0:W2.cell? ⟨lb,0,none⟩=some (.pointer (some ⟨m.Bb,0,none⟩)):=S.M.qc hL2 0
 have q3:W2.cell? ⟨m.Bb,3,none⟩=some m.vh:=S.M.qc hB2 3
 rw[hva] at q3
 have r0:W2.cell? ⟨w.heap.size,0,none⟩=some (.string hy.lab):=S.M.qc hX2 0
 have r1:W2.cell? ⟨w.heap.size,1,none⟩=some (.bool hy.fl):=S.M.qc hX2 1
 have r2:W2.cell? ⟨w.heap.size,2,none⟩=some (.int .i64 hy.var):=S.M.qc hX2 2
 have r3:W2.cell? ⟨w.heap.size,3,none⟩=some (.slice a hy.ex.length c):=S.M.qc hX2 3
 obtain⟨n,hnn⟩:∃n,m.hs.length=n:=⟨_,rfl⟩
 have HNN:Hid (m.hs.length=n):=hnn
 rw[hnn] at hva hmu q3 hR2 b3 hlen
 have hsz2:w.heap.size < W2.heap.size:=(Array.getElem?_eq_some_iff.1 hX2).1
 have HB2:Hid _:=hB2
 have HL2:Hid _:=hL2
 have HX2:Hid _:=hX2
 have HR2:Hid (W2.ownsRow N 57 4 (.slice av n cv) n (F.yx m.hs)):=by rw[←hva];exact hR2
 have HS2:Hid (N≤W2.heap.size∧w.heap.size < W2.heap.size∧m.Bb < w.heap.size):=⟨by have:=h.ge;omega,hsz2,h.lt m.Bb (.inr (.inr (.inl rfl)))⟩
 have step:Hid (∀(gg cap':Nat) (w3:World),w3.ownsRow N 57 4 (.slice (some ⟨gg,0,none⟩) (n + 1) cap') (n + 1) (F.yx m.hs++[.string hy.lab,.bool hy.fl,.int .i64 hy.var,.slice a hy.ex.length c])→(W2.alloc (.cells #[.string hy.lab,.bool hy.fl,.int .i64 hy.var,.slice a hy.ex.length c] 57)).drew.grownBy w3 (Value.slice av n cv).ownBlock→((Value.slice av n cv).ownBlock=some gg∨gg=W2.heap.size + 1) →
   w3.cell? ⟨lb,0,none⟩=some (.pointer (some ⟨m.Bb,0,none⟩))∧w3.cell? ⟨m.Bb,3,none⟩=some (.slice av n cv)∧w3.frozen? ⟨m.Bb,3,none⟩=false∧Goes N w lb txt m (k + 1) { L with hy:=L.hy++[hy] } nf (w3.setCell ⟨m.Bb,3,none⟩ (.slice (some ⟨gg,0,none⟩) (n + 1) cap'))):=by
  intro gg cap' w3 hown hgrow hat
  have hsA:(W2.alloc (.cells #[.string hy.lab,.bool hy.fl,.int .i64 hy.var,.slice a hy.ex.length c] 57)).drew.heap.size=W2.heap.size + 1:=by simp
  have hBlt:m.Bb < W2.heap.size:=(Array.getElem?_eq_some_iff.1 hB2).1
  have nB:∀b,m.vh.ownBlock=some b→b≠m.Bb:=fun b eb e=>by
   obtain⟨cs,h2⟩:=F.yw h1.hyr eb
   rw[e,h1.bbox] at h2
   cases h2
  have keep:∀i,i < W2.heap.size→m.vh.ownBlock≠some i→w3.heap[i]?=W2.heap[i]?:=fun i hi hne=>(hgrow.block i (by rw[hsA];omega) (fun e=>hne (by rw[hva];exact e.symm))).trans (Below.heap_alloc W2 _ i hi)
  have hB3:w3.heap[m.Bb]?=some (.cells #[.string txt,.pointer (some ⟨m.tq,0,none⟩),.map (some m.nb),m.vh,.map (some m.hb),m.va,.map (some m.ab)] 121 (0,0)):=(keep _ hBlt fun e=>nB _ e rfl).trans hB2
  have c3:w3.cell? ⟨m.Bb,3,none⟩=some m.vh:=S.M.qc hB3 3
  rw[hva] at c3
  have hLlt:lb < W2.heap.size:=(Array.getElem?_eq_some_iff.1 hL2).1
  have hL3:=(keep _ hLlt fun e=>h.cold.lh (.inr (.inr (.inr (.inr (.inr (.inr (.inl e)))))))).trans hL2
  refine⟨S.M.qc hL3 0,c3,by simp[World.frozen?,hB3],?_⟩
  have hgB:gg≠m.Bb:=by
   rcases hat with e | e
   ·exact nB gg (by rw[hva];exact e)
   ·omega
  refine h.kept (vh':=.slice (some ⟨gg,0,none⟩) (n + 1) cap') (y:=⟨hy,.slice a hy.ex.length c⟩) (by omega) ⟨n1 + 1,by omega,hm2.kept ?_⟩ ?_ ?_ ?_ ?_ ho hob
  ·refine (Below.heap_setCell _ _ _ _ (fun e=>hnB e.symm)).trans (keep _ (map_lt hm2).1 fun e=>?_)
   obtain⟨cs,h2⟩:=F.yw h1.hyr e
   obtain⟨_,es,ck,h3⟩:=map_lt hm1
   rw[h2] at h3
   cases h3
  ·rw[qhc,HNN.out]
   exact S.M.zo hown fun g e=>by cases e;exact Below.heap_setCell _ _ _ _ hgB
  ·exact S.M.qj hB3
  ·have hg2s:=hg2.size
   have hsz:w1.drew.heap.size=w1.heap.size:=rfl
   have hg3s:=hgrow.size
   refine⟨?_,?_,?_,?_,fun g hg hne=>?_⟩
   ·exact (hgrow.os.trans hg2.os).trans hbd.os
   ·exact (hgrow.tape.trans hg2.tape).trans hbd.tape
   ·exact (hgrow.output.trans hg2.output).trans hbd.output
   ·simp only[World.setCell,Array.size_modify]
    rw[hsA] at hg3s
    omega
   ·have n1':g≠m.hb:=fun e=>hne (.inl e)
    have n2':g≠m.Bb:=fun e=>hne (.inr (.inl e))
    have n3':m.vh.ownBlock≠some g:=fun e=>hne (.inr (.inr e))
    refine (Below.heap_setCell _ _ _ _ n2').trans ((keep g (by omega) n3').trans ((hg2.block g (by rw[hsz];have:=hb1.size;omega) fun e=>n1' (Option.some.inj e)).trans (hbd.block g hg)))
  ·intro b eb
   cases eb
   rcases hat with e | e
   ·exact .inl (by rw[hva];exact e)
   ·exact .inr (by show w.heap.size≤gg;omega)
 have hn6:n≤1048576:=by omega
 clear hlen
 clear h h1 hb1 hX1 hbd hs1 hlt hm1 hm2 hg2 hB2 hL2 hX2 hR2 hn ho hob hsz2 hnB hnl hXh hva hl hh
 go_enter Tryz.func170,Tryz.ntmps170
 go_upto_region 1 with fail
 rw[←hw1]
 clear hw1
 go_region
 go_upto_region 2 with fail
 have bA:Below W2.heap.size W2 (W2.alloc (.cells #[.string hy.lab,.bool hy.fl,.int .i64 hy.var,.slice a hy.ex.length c] 57)):=S.qg _ _
 have e0:=yt q0 bA
 have e3:=yt q3 bA
 clear bA
 go_region_law (refine step_append_lies _ (by rfl) _ _ _ (by rfl) N 57 iH _ 4 56 Tryz.underlying44 hiH iHz iHs iHb rfl (by omega) _ n (F.yx m.hs) (by rfl) (by exact (S.M.zk HR2.out _)) ⟨W2.heap.size,0,none⟩ 1 1 [.string hy.lab,.bool hy.fl,.int .i64 hy.var,.slice a hy.ex.length c] (by rfl) (by rfl) (World.news_of_block (cs:=#[.string hy.lab,.bool hy.fl,.int .i64 hy.var,.slice a hy.ex.length c]) (t:=57) (fr:=(0,0)) (World.alloc_heap_new W2 _)) (by simp[Value.oneCell']) (by omega) (by unfold maxLen;omega) (by omega) (by have:=HS2.out.1;simp;omega) (W2.heap.size + 1) (by simp) ?_;intro gg cap' w3 hown3 hgrow hat hlt3;obtain⟨d0,d3,f3,hgo⟩:=step.out gg cap' w3 hown3 hgrow hat;have GO:Hid _:=hgo;clear hgo hgrow hat hown3 hlt3)
 all_goals go_wp2
 all_goals exact bodyPost_end (results_none rfl _ _ _) rfl ⟨rfl,GO.out⟩
end
end B
namespace B
open Go.RowKit
open S (Tok Stm)
theorem qc7 {L:Ld}{t:Tok}{n:Int}(hT:L.T.syms.length≤4611686018427387904)(h:q0e L t=.ok n):F.wfN n:=by
 unfold q0e at h
 cases hs:q3q L t with
 | error f=>rw[hs] at h;cases h
 | ok j =>
  rw[hs] at h
  simp only at h
  split at h
  ·cases h
  ·cases h;exact q7e hT hs
theorem qkz {L:Ld}{t:Tok}{n:Int}(hT:L.T.syms.length≤4611686018427387904)(h:q1m L t=.ok n):F.wfN n:=by
 unfold q1m at h
 cases hs:q3q L t with
 | error f=>rw[hs] at h;cases h
 | ok j =>
  rw[hs] at h
  simp only at h
  split at h
  ·cases h
  ·cases h;exact q7e hT hs
theorem q7f {L:Ld}(hT:L.T.syms.length≤4611686018427387904):∀(ts:List Tok) (acc e:List Int),uh L acc ts=.ok e→(∀x ∈ acc,F.wfN x)→acc.length≤200→(∀x ∈ e,F.wfN x)∧e.length≤200∧e.length=acc.length + ts.length
 | [],acc,e,h,h1,h2=>by
  cases h
  exact⟨h1,h2,rfl⟩
 | t :: ts,acc,e,h,h1,h2=>by
  unfold uh at h
  by_cases h3:200≤acc.length
  ·rw[if_pos h3] at h;cases h
  ·rw[if_neg h3] at h
   cases hr:(if acc.length=0 then q0e L t else q1m L t) with
   | error f=>rw[hr] at h;cases h
   | ok n =>
    rw[hr] at h
    have hn:F.wfN n:=by
     split at hr
     ·exact qc7 hT hr
     ·exact qkz hT hr
    obtain⟨i1,i2,i3⟩:=q7f hT ts (acc++[n]) e h (fun x hx=>(List.mem_append.1 hx).elim (h1 x) fun hx=>by rw[List.mem_singleton.1 hx];exact hn) (by simp;omega)
    exact⟨i1,i2,by rw[i3];simp;omega⟩
section
variable {N:Nat} {w W':World} {lb:Nat} {txt:ByteArray} {k k':Nat} {L L':Ld} {nf nf':ByteArray→Option Nat} {m m':LdM} {s:Stm} {vw vp:Value}
theorem zq.vars (h:zq N w lb txt k L nf m)(hT:L.T.syms.length≤4611686018427387904):F.q2w m.tq (xk L.T) w:=fun wx n hb=>h.isv hT wx hb n
theorem zq.decl {E:Int}{l:List F.Sa}{e:Ending}(h:zq N w lb txt k L nf m)(hd:F.Decl (tq:=m.tq) m.O w m.P E l e W'):e=.returned (.int .i64 E)∧Goes N w lb txt m k { L with sc:=l } nf W':=by
 obtain⟨he,vS',xs',h1,h2,h3⟩:=hd
 subst h2
 exact⟨he,h.stacked h1 h3⟩
theorem sc_hs {sx:List F.ScC}{x:F.ScC}(hx:x ∈ sx):x.hs.length≤(uw (sx.map F.jk)).length:=by
 induction sx with
 | nil=>cases hx
 | cons y r ih =>
  unfold uw
  rw[List.map_cons,List.flatMap_cons,List.length_append]
  rcases List.mem_cons.1 hx with rfl | hx
  ·show _≤(x.hs.map (·.h)).length + _
   rw[List.length_map]
   omega
  ·have:=ih hx
   unfold uw at this
   omega
theorem zq.qnl (h:zq N w lb txt k L nf m)(hO:L.Ok k'):∀x ∈ m.sx,x.hs.length≤1048576:=fun x hx=>by
 have h1:=sc_hs hx
 rw[h.sca] at h1
 have h2:=hO.sub.length_le
 have h3:=hO.hy1
 omega
theorem Ld.Ok.q3u (h:L.Ok k):L.T.syms.length≤4611686018427387904:=by have:=h.tab.syms;omega
theorem Ld.Ok.scN (h:L.Ok k):L.sc.length≤1048576:=by have:=h.sc2;omega
theorem qcx (h:zq N w lb txt k L (Y.numOf L.T.syms) m)(hO:L.Ok k)(hk:k < 100000000000)(hs:q0w N m w s vw vp)(hn:q25 L.hy s.label.text=none):Calls Tryz.prog 113 #[.pointer (some ⟨lb,0,none⟩),q09 s vw vp] w (Does N w lb txt m (k + 1) (q6p L s)):=by
 obtain⟨aw,cw,rfl,hW⟩:=hs.words
 obtain⟨ap,cp,rfl,_⟩:=S.gu hs.op
 have b0:Below w.heap.size w (w.alloc (.cells (jw s (.slice aw s.words.length cw) (.slice ap s.proof.length cp)) 95)):=S.qg _ _
 have hlw:=hs.lw
 have HI:Hid (zq N w lb txt k L (Y.numOf L.T.syms) m):=h
 have HO:Hid (L.Ok k):=hO
 have EX:Hid (∀wx,Below w.heap.size w wx→Calls Tryz.prog 171 #[.pointer (some ⟨lb,0,none⟩),.slice aw s.words.length cw] wx (Lists wx.heap.size wx (uh L [] s.words))):=fun wx hb=>q61 (h.below hb) hO.q3u hO.scN aw _ cw s.words rfl (by omega) (hW.1.under hb) fun t ht=>by have:=hs.zw t ht;unfold maxLen;omega
 have EN:Hid (∀wx,Calls Tryz.prog 165 #[q09 s (.slice aw s.words.length cw) (.slice ap s.proof.length cp)] wx fun e w'=>e=.returned (.bool (q04 s.fin))∧Below wx.heap.size wx w'):=fun wx=>q6c wx s aw _ cw ap _ cp
 have HR:Hid (q6p L s=match uh L [] s.words with | .ok e=>if q04 s.fin=true then jh s.fin (F.yg (isV:=xk L.T) L.sc e) { L with sc:=F.q4h (isV:=xk L.T) L.sc s.label.text e,hy:=L.hy++[⟨s.label.text,false,-1,e⟩] } else .ok L | .error f=>.error f):=by unfold q6p;cases uh L [] s.words <;> rfl
 have HE:Hid (∀e,uh L [] s.words=.ok e→(∀x ∈ e,F.wfN x)∧e.length≤200):=fun e he=>by
  obtain⟨h1,h2,_⟩:=q7f hO.q3u s.words [] e he (fun x hx=>by cases hx) (by simp)
  exact⟨h1,h2⟩
 have C0:Hid (∀w',Below (w.alloc (.cells (jw s (.slice aw s.words.length cw) (.slice ap s.proof.length cp)) 95)).heap.size (w.alloc (.cells (jw s (.slice aw s.words.length cw) (.slice ap s.proof.length cp)) 95)) w'→∀i,w'.cell? ⟨w.heap.size,i,none⟩=(jw s (.slice aw s.words.length cw) (.slice ap s.proof.length cp))[i]?):=fun w' hb=>q53 hb
 have HZ:Hid (s.label.text.size≤281474976710656):=by have:=hs.zl;show _≤_;omega
 have HN:Hid (q25 L.hy s.label.text=none):=hn
 obtain⟨w1,hw1⟩:∃w1,w1=w.alloc (.cells (jw s (.slice aw s.words.length cw) (.slice ap s.proof.length cp)) 95):=⟨_,rfl⟩
 have HS1:Hid (w.heap.size < w1.heap.size):=by rw[hw1];show _ < (w.heap.push _).size;simp
 have HX1:Hid (w1.heap[w.heap.size]?=some (.cells (jw s (.slice aw s.words.length cw) (.slice ap s.proof.length cp)) 95 (0,0))):=by show _=_;rw[hw1];exact World.alloc_heap_new w _
 generalize hnw:s.words.length=nw at *
 generalize hnp:s.proof.length=np at *
 rw[←hw1] at b0 C0
 have B0:Hid (Below w.heap.size w w1):=b0
 have z10:w1.cell? ⟨w.heap.size,10,none⟩=some (.slice aw nw cw):=C0.out w1 (Below.refl _ _) 10
 generalize hr:uh L [] s.words=r at *
 replace HR:=show Hid _ from HR.out
 clear h hO hs hW b0 hn hnw hnp hr
 unfold q09 at EN ⊢
 cases r with
 | error f =>
  clear EN HE
  go_enter Tryz.func113,Tryz.ntmps113
  go_upto_region 1 with fail
  rw[←hw1]
  clear hw1
  go_wp2_with fail
  refine Calls.mono (EX.out _ B0.out) ?_
  rintro e w2 ⟨hb2,b,rfl,q2,q3⟩
  have B1:=B0.out
  exact⟨rfl,q0l HR.out (S.M.Ch.of_below (B1.trans (hb2.mono B1.size))) ⟨b,rfl,q2,Nat.le_trans B1.size q3⟩⟩
 | ok e =>
  have EX1:Hid _:=EX.out w1 B0.out
  clear EX
  go_enter Tryz.func113,Tryz.ntmps113
  go_upto_region 1 with fail
  rw[←hw1]
  clear hw1
  go_wp2_with fail
  refine Calls.mono EX1.out ?_
  rintro ee w2 ⟨hb2,v,rfl,hv⟩
  have HV:Hid (w2.ownsRow w1.heap.size 3 1 v e.length (F.zy e)):=hv
  have hB2:Hid (Below w1.heap.size w1 w2):=hb2
  have z:=C0.out w2 hb2
  have z0:w2.cell? ⟨w.heap.size,0,none⟩=some (.int .i64 s.kind):=z 0
  have z1:w2.cell? ⟨w.heap.size,1,none⟩=some (.string s.label.text):=z 1
  have z2:w2.cell? ⟨w.heap.size,2,none⟩=some (.int .i64 s.label.off):=z 2
  have z3:w2.cell? ⟨w.heap.size,3,none⟩=some (.int .i64 s.label.line):=z 3
  have z4:w2.cell? ⟨w.heap.size,4,none⟩=some (.int .i64 s.label.col):=z 4
  have z5:w2.cell? ⟨w.heap.size,5,none⟩=some (.string s.key.text):=z 5
  have z6:w2.cell? ⟨w.heap.size,6,none⟩=some (.int .i64 s.key.off):=z 6
  have z7:w2.cell? ⟨w.heap.size,7,none⟩=some (.int .i64 s.key.line):=z 7
  have z8:w2.cell? ⟨w.heap.size,8,none⟩=some (.int .i64 s.key.col):=z 8
  have z9:w2.cell? ⟨w.heap.size,9,none⟩=some (.bool s.proving):=z 9
  have z10':w2.cell? ⟨w.heap.size,10,none⟩=some (.slice aw nw cw):=z 10
  have z11:w2.cell? ⟨w.heap.size,11,none⟩=some (.slice ap np cp):=z 11
  have z12:w2.cell? ⟨w.heap.size,12,none⟩=some (.string s.fin.text):=z 12
  have z13:w2.cell? ⟨w.heap.size,13,none⟩=some (.int .i64 s.fin.off):=z 13
  have z14:w2.cell? ⟨w.heap.size,14,none⟩=some (.int .i64 s.fin.line):=z 14
  have z15:w2.cell? ⟨w.heap.size,15,none⟩=some (.int .i64 s.fin.col):=z 15
  clear hb2 hv EX1 z10 z
  have EN2:Hid _:=EN.out w2
  unfold jw S.q4g at EN2
  go_wp2_with fail
  refine Calls.mono EN2.out ?_
  rintro ee w3 ⟨rfl,hb3⟩
  clear z0 z1 z2 z3 z4 z5 z6 z7 z8 z9 z10' z11 z12 z13 z14 z15 EN EN2
  have B3:Hid (Below w1.heap.size w1 w3):=hB2.out.trans (hb3.mono hB2.out.size)
  have HV3:Hid (w3.ownsRow w1.heap.size 3 1 v e.length (F.zy e)):=S.M.qh HV.out (S.M.Ch.of_below (X:=fun _=>False) hb3) fun _ _ e=>e
  clear hb3 HV hB2
  cases he:q04 s.fin with
  | false =>
   have R2:Hid (q6p L s=.ok L):=HR.out.trans (by rw[he];rfl)
   go_wp2
   have B4:Below w.heap.size w w3:=B0.out.trans (B3.out.mono B0.out.size)
   exact bodyPost_end (results_none rfl _ _ _) rfl (wu R2.out rfl ((Goes.same HI.out B4).up (by omega)))
  | true =>
   have R2:Hid (q6p L s=jh s.fin (F.yg (isV:=xk L.T) L.sc e) { L with sc:=F.q4h (isV:=xk L.T) L.sc s.label.text e,hy:=L.hy++[⟨s.label.text,false,-1,e⟩] }):=HR.out.trans (by rw[he];rfl)
   clear HR he
   obtain⟨av,cv,rfl,hcv,_⟩:=S.M.zx HV3.out
   have BD:Hid (Below w.heap.size w w3.drew):=S.M.zi (B0.out.trans (B3.out.mono B0.out.size)) 1
   have BD1:Hid (Below w1.heap.size w1 w3.drew):=S.M.zi B3.out 1
   have ID:Hid (zq N w3.drew lb txt k L (Y.numOf L.T.syms) m):=HI.out.below BD.out
   have ES:Hid (Calls Tryz.prog 172 #[.pointer (some ⟨m.P,0,none⟩),.string s.label.text,.slice av e.length cv] w3.drew fun ee w'=>ee=.returned (.int .i64 (F.yg (isV:=xk L.T) L.sc e))∧Goes N w3.drew lb txt m k { L with sc:=F.q4h (isV:=xk L.T) L.sc s.label.text e } (Y.numOf L.T.syms) w'):=by
    have h1:=ID.out
    obtain⟨e1,e2⟩:=HE.out e rfl
    obtain⟨a',c',eq,_,hA⟩:=F.q3o HV3.out
    cases eq
    have h2:=F.qmz (isV:=xk L.T) w3.drew m.O m.P m.vS m.sx s.label.text av e.length cv e h1.stk (h1.vars HO.out.q3u) (by rw[h1.q3r];exact HO.out.sc1) (by rw[h1.q3r];exact HO.out.scN) (h1.qnl HO.out) HZ.out rfl (by omega) (hA.under (S.M.zi (Below.refl _ _) 1)) e1
    rw[h1.sca] at h2
    exact h2.mono fun ee w' hd=>h1.decl hd
   have x2:w3.drew.cell? ⟨lb,2,none⟩=some (.pointer (some ⟨m.P,0,none⟩)):=ID.out.cells.2.2
   have z:=C0.out w3.drew BD1.out
   have z1:w3.drew.cell? ⟨w.heap.size,1,none⟩=some (.string s.label.text):=z 1
   have z12:w3.drew.cell? ⟨w.heap.size,12,none⟩=some (.string s.fin.text):=z 12
   have z13:w3.drew.cell? ⟨w.heap.size,13,none⟩=some (.int .i64 s.fin.off):=z 13
   have z14:w3.drew.cell? ⟨w.heap.size,14,none⟩=some (.int .i64 s.fin.line):=z 14
   have z15:w3.drew.cell? ⟨w.heap.size,15,none⟩=some (.int .i64 s.fin.col):=z 15
   have ZB:Hid (w3.drew.heap[w.heap.size]?=some (.cells (jw s (.slice aw nw cw) (.slice ap np cp)) 95 (0,0))∧¬m.hot w.heap.size):=⟨(BD1.out.block _ HS1.out).trans HX1.out,fun hh=>by have:=HI.out.lt _ hh;omega⟩
   clear z
   have CK:Hid (∀wx,Calls Tryz.prog 102 #[S.zn s.fin,.int .i64 (F.yg (isV:=xk L.T) L.sc e)] wx (Chk s.fin (F.yg (isV:=xk L.T) L.sc e) wx)):=fun wx=>check_any wx s.fin _
   have KP:Hid (∀w5,Goes N w3.drew lb txt m k { L with sc:=F.q4h (isV:=xk L.T) L.sc s.label.text e } (Y.numOf L.T.syms) w5→w5.cell? ⟨w.heap.size,1,none⟩=some (.string s.label.text)∧Calls Tryz.prog 170 #[.pointer (some ⟨lb,0,none⟩),.agg #[.string s.label.text,.bool false,.int .i64 (-1),.slice av e.length cv]] w5 fun ee w'=>ee=.returned (.tuple #[])∧Goes N w lb txt m (k + 1) { L with sc:=F.q4h (isV:=xk L.T) L.sc s.label.text e,hy:=L.hy++[⟨s.label.text,false,-1,e⟩] } (Y.numOf L.T.syms) w'):=fun w5 hg=>by
    obtain⟨c5,m5,i5,g5⟩:=hg
    have hb0:=B0.out
    have hlt0:∀b,m.hot b→b < w.heap.size:=HI.out.lt
    have hge:∀b,(Value.slice av e.length cv).ownBlock=some b→w1.heap.size≤b∧b < w3.heap.size:=fun b eb=>⟨S.M.zf HV3.out b eb,S.M.jl HV3.out b eb⟩
    have hs1:=HS1.out
    have hD:w3.drew.ownsRow w1.heap.size 3 1 (.slice av e.length cv) e.length (F.zy e):=S.M.qh HV3.out (S.M.Ch.of_below (X:=fun _=>False) (S.M.zi (Below.refl _ _) 1)) fun _ _ e=>e
    have ho:=S.M.qp (S.M.qh hD c5 fun b eb hh=>by have:=hlt0 b hh;have:=hge b eb;omega) (base':=N) (by have:=HI.out.ge;omega)
    refine⟨S.M.qc ((c5.block _ (Array.getElem?_eq_some_iff.1 ZB.out.1).1 ZB.out.2).trans ZB.out.1) 1,?_⟩
    refine (keep_any i5 ⟨s.label.text,false,-1,e⟩ av cv (by have:=HO.out.hy1;show L.hy.length≤_;omega) (by omega) HZ.out HN.out ho fun b eb hh=>?_).mono fun ee w' hk=>⟨hk.1,(q2k c5 g5 hk.2).q0q BD.out⟩
    have h3:=hge b eb
    rcases g5 b hh with h4 | h4
    ·have:=hlt0 b h4;omega
    ·have h5:w3.drew.heap.size=w3.heap.size:=rfl
     omega
   have ST:Hid (∀w4,Goes N w3.drew lb txt m k { L with sc:=F.q4h (isV:=xk L.T) L.sc s.label.text e } (Y.numOf L.T.syms) w4→w4.heap[w.heap.size]?=some (.cells (jw s (.slice aw nw cw) (.slice ap np cp)) 95 (0,0))):=fun w4 hg=>(hg.1.block _ (Array.getElem?_eq_some_iff.1 ZB.out.1).1 ZB.out.2).trans ZB.out.1
   have DN:Hid (∀w4 w5,Goes N w3.drew lb txt m k { L with sc:=F.q4h (isV:=xk L.T) L.sc s.label.text e } (Y.numOf L.T.syms) w4→Below w4.heap.size w4 w5→S.M.Ch m.hot w w5∧w.heap.size≤w4.heap.size):=fun w4 w5 hg hb=>⟨(S.M.Ch.of_below BD.out).trans (hg.1.trans (S.M.Ch.of_below hb)),Nat.le_trans BD.out.size hg.1.size⟩
   unfold S.zn at CK
   generalize F.yg (isV:=xk L.T) L.sc e=J at *
   clear ID HE HV3 B3
   by_cases hJ:J=0
   ·have HJ:Hid (J=0):=hJ
    have R3:Hid (q6p L s=.ok { L with sc:=F.q4h (isV:=xk L.T) L.sc s.label.text e,hy:=L.hy++[⟨s.label.text,false,-1,e⟩] }):=R2.out.trans (if_pos hJ)
    clear hJ R2
    go_upto_region 3 with fail
    go_region_law (first
     | (go_simp;go_at_call 172;refine Calls.mono ES.out ?_;rintro ee w4 ⟨rfl,hg⟩;have GG:Hid (Goes N w3.drew lb txt m k { L with sc:=F.q4h (isV:=xk L.T) L.sc s.label.text e } (Y.numOf L.T.syms) w4):=hg;have hbx:=ST.out w4 hg;have u12:w4.cell? ⟨w.heap.size,12,none⟩=some (.string s.fin.text):=S.M.qc hbx 12;have u13:w4.cell? ⟨w.heap.size,13,none⟩=some (.int .i64 s.fin.off):=S.M.qc hbx 13;have u14:w4.cell? ⟨w.heap.size,14,none⟩=some (.int .i64 s.fin.line):=S.M.qc hbx 14;have u15:w4.cell? ⟨w.heap.size,15,none⟩=some (.int .i64 s.fin.col):=S.M.qc hbx 15;clear hg hbx)
     | (go_simp;go_at_call 102;refine Calls.mono (CK.out _) ?_;rintro ee w5 ⟨hb5,he5⟩;rw[if_pos HJ.out] at he5;subst he5;have G5:Hid (Goes N w3.drew lb txt m k { L with sc:=F.q4h (isV:=xk L.T) L.sc s.label.text e } (Y.numOf L.T.syms) w5):=GG.out.jc hb5;clear hb5))
    all_goals obtain⟨k1,KP1⟩:=KP.out _ G5.out
    all_goals have KP2:Hid _:=KP1
    all_goals clear KP1
    all_goals go_wp2_with fail
    all_goals refine Calls.mono KP2.out ?_
    all_goals rintro ee w6 ⟨rfl,hg6⟩
    all_goals have G6:Hid (Goes N w lb txt m (k + 1) { L with sc:=F.q4h (isV:=xk L.T) L.sc s.label.text e,hy:=L.hy++[⟨s.label.text,false,-1,e⟩] } (Y.numOf L.T.syms) w6):=hg6
    all_goals clear hg6
    all_goals go_wp2
    all_goals exact bodyPost_end (results_none rfl _ _ _) rfl (wu R3.out rfl G6.out)
   ·have HJ:Hid (¬J=0):=hJ
    have R3:Hid (q6p L s=.error (s.fin,J)):=R2.out.trans (if_neg hJ)
    clear hJ R2 KP
    go_upto_region 3 with fail
    go_region_law (first
     | (go_simp;go_at_call 172;refine Calls.mono ES.out ?_;rintro ee w4 ⟨rfl,hg⟩;have GG:Hid (Goes N w3.drew lb txt m k { L with sc:=F.q4h (isV:=xk L.T) L.sc s.label.text e } (Y.numOf L.T.syms) w4):=hg;have hbx:=ST.out w4 hg;have u12:w4.cell? ⟨w.heap.size,12,none⟩=some (.string s.fin.text):=S.M.qc hbx 12;have u13:w4.cell? ⟨w.heap.size,13,none⟩=some (.int .i64 s.fin.off):=S.M.qc hbx 13;have u14:w4.cell? ⟨w.heap.size,14,none⟩=some (.int .i64 s.fin.line):=S.M.qc hbx 14;have u15:w4.cell? ⟨w.heap.size,15,none⟩=some (.int .i64 s.fin.col):=S.M.qc hbx 15;clear hg hbx)
     | (go_simp;go_at_call 102;refine Calls.mono (CK.out _) ?_;rintro ee w5 ⟨hb5,he5⟩;rw[if_neg HJ.out] at he5;obtain⟨b,rfl,q2,q3⟩:=he5;obtain⟨d1,d2⟩:=DN.out _ _ GG.out hb5;refine q0m (h:=⟨rfl,q0l R3.out d1 ⟨b,rfl,q2,Nat.le_trans d2 q3⟩⟩) ?_))
    all_goals trivial
end
end B
namespace B
open Go.RowKit
open S (Tok Stm)
theorem qnm {sx:List F.ScC}{x:F.ScC}{y:F.HyC}(hx:x ∈ sx)(hy:y ∈ x.hs):y.h ∈ uw (sx.map F.jk):=by
 rw[←q60]
 exact List.mem_map.2 ⟨y,List.mem_flatMap.2 ⟨x,hx,hy⟩,rfl⟩
theorem q7g {L:Ld}{k:Nat}(hO:L.Ok k):(uw L.sc).length≤1024:=by
 have h2:=hO.sub.length_le
 have h3:=hO.hy1
 omega
theorem ess_len {L:Ld}{k:Nat}(hO:L.Ok k):(qey (uw L.sc)).length≤204800:=by
 have h1:=q7g hO
 have h2:∀h ∈ uw L.sc,h.ex.length≤200:=fun h hh=>(hO.ex h (hO.sub.subset hh)).1
 revert h1 h2
 generalize uw L.sc=l
 intro h1 h2
 have h3:(qey l).length≤l.length * 200:=by
  clear h1
  induction l with
  | nil=>simp[qey]
  | cons a r ih =>
   have i:=ih fun h hh=>h2 h (List.mem_cons_of_mem _ hh)
   have ha:=h2 a (by simp)
   unfold qey at i ⊢
   rw[List.flatMap_cons,List.length_append,List.length_cons]
   have:(if a.fl=true then ([]:List Int) else a.ex).length≤200:=by split <;> simp[ha]
   omega
 omega
section
variable {N:Nat} {w W':World} {lb:Nat} {txt:ByteArray} {k k':Nat} {L L':Ld} {nf nf':ByteArray→Option Nat} {m m':LdM}
theorem zq.qnn (h:zq N w lb txt k L nf m)(hO:L.Ok k'):∀x ∈ m.sx,∀y ∈ x.hs,y.h.ex.length≤17592186044416:=fun x hx y hy=>by
 have h1:=qnm hx hy
 rw[h.sca] at h1
 have:=(hO.ex _ (hO.sub.subset h1)).1
 omega
theorem zq.qnp (h:zq N w lb txt k L nf m)(hO:L.Ok k'):(F.jq m.sx).length≤1024:=by
 have h1:=congrArg List.length (q60 m.sx)
 rw[List.length_map,h.sca] at h1
 rw[h1]
 exact q7g hO
theorem zq.aps (h:zq N w lb txt k L nf m):F.q0j m.sx=F.uo L.sc:=by rw[F.qcz,h.sca]
theorem zq.scope (h:zq N w lb txt k L nf m)(hO:L.Ok k')(wx:World)(hb:Below w.heap.size w wx):Calls Tryz.prog 161 #[.pointer (some ⟨m.P,0,none⟩)] wx fun e w'=>Below wx.heap.size wx w'∧∃vh vp ts,e=.returned (.agg #[vh,vp])∧F.jr wx.heap.size w' vh ts∧ts.map (·.h)=uw L.sc∧w'.ownsRow wx.heap.size 130 2 vp (uz (F.uo L.sc)).length (F.je (uz (F.uo L.sc))):=by
 have hx:=h.below hb
 have h1:=F.qkp wx m.O m.P m.vS m.sx hx.stk (by rw[hx.q3r];exact hO.scN) (by have:=hx.qnp hO;omega) (hx.qnn hO) (by rw[hx.aps];have:=hO.ps;omega) (by rw[hx.aps];exact hO.pw)
 refine h1.mono ?_
 rintro e w' ⟨h2,vh,vp,ts,mm,rfl,hs⟩
 have hm:=norm_eq hs.n
 rw[hx.aps] at hm
 subst hm
 exact⟨h2,vh,vp,ts,rfl,hs.t,by rw[hs.h,q60,hx.sca],hs.p⟩
structure Needs (N1:Nat)(W:World)(L:Ld)(goal:List Int)(vh vp vg:Value)(ts:List F.HyC):Prop where
 t:F.jr N1 W vh ts
 h:ts.map (·.h)=q4b L.T L.sc goal
 p:W.ownsRow N1 130 2 vp (q6o L.T L.sc goal).length (F.je (q6o L.T L.sc goal))
theorem zq.frame (h:zq N w lb txt k L nf m)(hO:L.Ok k')(wx:World)(hb:Below w.heap.size w wx)(a:Option Addr)(n c:Nat)(goal:List Int)(hl:goal.length=n)(h2:n≤200)(hA:F.q1a wx a goal)(hw:∀x ∈ goal,F.wfN x) :
  Calls Tryz.prog 173 #[.pointer (some ⟨m.P,0,none⟩),.slice a n c] wx fun e w'=>Below wx.heap.size wx w'∧∃vh vp vg,e=.returned (.tuple #[.agg #[vh,vp,vg],.int .i64 (F.yg (isV:=xk L.T) L.sc goal)])∧(∃a1 n1 c1 a2 n2 c2 a3 n3 c3,vh=.slice a1 n1 c1∧vp=.slice a2 n2 c2∧vg=.slice a3 n3 c3)∧(F.yg (isV:=xk L.T) L.sc goal=0→∃ts,Needs wx.heap.size w' L goal vh vp vg ts):=by
 have hx:=h.below hb
 have hess:F.q0c (F.jq m.sx)=qey (uw L.sc):=by rw[ess_abs,q60,hx.sca]
 have h1:=F.qkq (isV:=xk L.T) wx m.O m.P m.vS m.sx a n c goal hx.stk (hx.vars hO.q3u) (by rw[hx.q3r];exact hO.scN) (by have:=hx.qnp hO;omega) (hx.qnn hO) (by rw[hx.aps];have:=hO.ps;omega) (by rw[hx.aps];exact hO.pw) hl hA hw (by rw[hess];have:=ess_len hO;omega)
 refine h1.mono ?_
 rintro e w' ⟨h3,h4⟩
 rw[hx.sca] at h4
 rcases h4 with ⟨hne,rfl⟩ | ⟨he,vh,vp,vg,ts,mv,mm,rfl,hf⟩
 ·exact⟨h3,_,_,_,rfl,⟨_,_,_,_,_,_,_,_,_,rfl,rfl,rfl⟩,fun h0=>absurd h0 hne⟩
 ·have hv:∀x,mv.contains x=qez L.T L.sc goal x:=fun x=>by
   rw[Bool.eq_iff_iff]
   unfold qez
   rw[List.contains_iff_mem,hf.v.mem,hess,Bool.and_eq_true,List.contains_iff_mem]
   exact And.comm
  have hm:=norm_eq hf.n
  rw[hx.aps] at hm
  have hm2:mm=q6o L.T L.sc goal:=by
   rw[hm]
   unfold F.q1j q6o
   congr 1
   exact List.filter_congr fun p _=>by rw[hv,hv]
  refine⟨h3,vh,vp,vg,by rw[he],?_,fun _=>⟨ts,hf.t,?_,by rw[←hm2];exact hf.p⟩⟩
  ·obtain⟨a1,c1,e1,_⟩:=S.M.zx hf.t.own
   obtain⟨a2,c2,e2,_⟩:=S.M.zx hf.p
   obtain⟨a3,c3,e3,_⟩:=S.M.zx hf.g
   exact⟨_,_,_,_,_,_,_,_,_,e1,e2,e3⟩
  ·rw[hf.h]
   unfold F.q06 q4b
   rw[q60,hx.sca]
   exact List.filter_congr fun y _=>by dsimp only;rw[hv]
theorem zq.distC (h:zq N w lb txt k L nf m)(hO:L.Ok k')(a:Option Addr)(n c:Nat)(vs:List Int)(hl:vs.length=n)(h2:n≤1048576)(hA:F.q1a w a vs) :
  Calls Tryz.prog 166 #[.pointer (some ⟨m.P,0,none⟩),.slice a n c] w fun e w'=>e=.returned (.int .i64 (F.q1h (isV:=xk L.T) L.sc vs))∧Goes N w lb txt m k { L with sc:=F.q1i (isV:=xk L.T) L.sc vs } nf w':=by
 have h1:=F.qku (isV:=xk L.T) w m.O m.P m.vS m.sx a n c vs h.stk (h.vars hO.q3u) (by rw[h.q3r];exact hO.sc1) (by rw[h.q3r];exact hO.scN) (by rw[h.aps];have:=hO.ps;omega) hl h2 hA
 rw[h.sca] at h1
 exact h1.mono fun ee w' hd=>h.decl hd
end
end B
end Go.Proofs.YtbancemhfjjmlaaGreatDoor
