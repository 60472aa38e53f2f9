/- Laid together. -/
import Derived.Test.YtbancemhfjjmlaaGreatDoorQF17
import Derived.Test.YtbancemhfjjmlaaGreatDoorQF14
import Derived.Defers
import Derived.Lib.SmallJoins
set_option maxRecDepth 100000
set_option maxHeartbeats 32000000
namespace Go.Proofs.YtbancemhfjjmlaaGreatDoor
namespace B
open Go.RowKit
open S (Tok Stm)
theorem qe3:∀(l:List S.Itm) (i j:Nat) (x:S.Itm),l[i]?=some x→j < 16→(S.q3w l)[i * 16 + j]?=(S.q5q x)[j]?
 | [],i,j,x,h,_=>by simp at h
 | y :: r,0,j,x,h,hj=>by
  simp at h;subst h;have e:S.q3w (y :: r)=(S.q5q y).toList++S.q3w r:=rfl;have hlen:(S.q5q y).toList.length=16:=rfl;rw[e,Nat.zero_mul,Nat.zero_add,List.getElem?_append_left (by omega),Array.getElem?_toList]
 | y :: r,i + 1,j,x,h,hj=>by
  have e:S.q3w (y :: r)=(S.q5q y).toList++S.q3w r:=rfl;have hlen:(S.q5q y).toList.length=16:=rfl;have h2:r[i]?=some x:=by simpa using h
  rw[e,List.getElem?_append_right (by omega)];have e2:(i + 1) * 16 + j - (S.q5q y).toList.length=i * 16 + j:=by omega
  rw[e2];exact qe3 r i j x h2 hj
structure qit (txt:ByteArray):Prop where
 len:(S.q1h txt).1.l.length≤16384
 each:∀s ∈ (S.q1h txt).1.l,q1a s∧s.label.text.size≤65536∧s.words.length≤16384∧s.proof.length≤16384∧∀t ∈ s.words,t.text.size≤65536
theorem qe4 (txt:ByteArray):qit txt:=⟨(q9z txt).1,fun s hs=>by
 obtain⟨h1,h2,h3⟩:=(q9z txt).2 s hs
 exact⟨⟨h1.lab,fun e he=>(h1.two e).2 he⟩,h1.ls,h2,h3,h1.ws⟩⟩
def Loaded (w:World)(txt:ByteArray)(e:Ending)(w':World):Prop:=Below w.heap.size w w'∧match q2t txt with
 | .ok L=>∃lb m,e=.returned (.tuple #[.pointer (some ⟨m.Bb,0,none⟩),.pointer none])∧xk w.heap.size w' lb txt 1000000000 L (Y.numOf L.T.syms) m
 | .error f=>∃B,e=.returned (.tuple #[.pointer none,.pointer (some ⟨B,0,none⟩)])∧w.heap.size≤B∧w'.heap[B]?=some (.cells (q56 f.1 f.2) 31 (0,0))
theorem frz {W:World}{b T:Nat}{cs:Array Value}(h:W.heap[b]?=some (.cells cs T (0,0))):W.frozen? ⟨b,0,none⟩=false:=by
 unfold World.frozen?;simp[h]
theorem qgg {X:Nat→Prop}{N:Nat}{w w2 w3:World}(h:Below N w w2)(hN:N≤w2.heap.size)(hc:S.M.Ch X w2 w3)(hX:∀b,X b→N≤b):Below N w w3 :=
 ⟨hc.os.trans h.os,hc.tape.trans h.tape,hc.output.trans h.output,nLt h.size hc.size,fun b hb=>(hc.block b (by omega) fun hh=>by have:=hX b hh;omega).trans (h.block b hb)⟩
theorem qbk {W:World}{A B:Nat}{x y:Value}(hAB:A≠B)(hA:W.cell? ⟨A,0,none⟩=some x)(hB:W.cell? ⟨B,0,none⟩=some y)(u v:Value):((W.setCell ⟨A,0,none⟩ u).setCell ⟨B,0,none⟩ v).cell? ⟨A,0,none⟩=some u∧((W.setCell ⟨A,0,none⟩ u).setCell ⟨B,0,none⟩ v).cell? ⟨B,0,none⟩=some v:=by
 have hBA:B≠A:=fun e=>hAB e.symm
 constructor <;> simp[go_sem,hA,hB]
theorem qbl {w w6:World}(hb:Below w.heap.size w w6)(u v:Value):Below w.heap.size w ((w6.setCell ⟨w.heap.size,0,none⟩ u).setCell ⟨w.heap.size + 1,0,none⟩ v):=(hb.setCell (p:=⟨w.heap.size,0,none⟩) (Nat.le_refl _) u).setCell (p:=⟨w.heap.size + 1,0,none⟩) (Nat.le_succ _) v
theorem qd5 {w w6:World}{txt:ByteArray}{b:Nat}{f:Tok × Int}(hF:q2t txt=.error f)(hb:Below w.heap.size w w6)(hlt:w.heap.size + 2≤b)(q:w6.heap[b]?=some (.cells (q56 f.1 f.2) 31 (0,0))):Loaded w txt (.returned (.tuple #[.pointer none,.pointer (some ⟨b,0,none⟩)])) ((w6.setCell ⟨w.heap.size,0,none⟩ (.pointer none)).setCell ⟨w.heap.size + 1,0,none⟩ (.pointer (some ⟨b,0,none⟩))):=by
 unfold Loaded;rw[hF];refine⟨qbl hb _ _,b,rfl,by omega,?_⟩;rw[Below.heap_setCell _ _ _ _ (by show b≠w.heap.size + 1;omega),Below.heap_setCell _ _ _ _ (by show b≠w.heap.size;omega)];exact q
theorem qfq.down {N N':Nat}{W:World}{lb:Nat}{m:LdM}(h:qfq N W lb m)(hN:N'≤N):qfq N' W lb m :=
 ⟨h.lbox,h.lh,fun y hy=>⟨S.M.qw (h.e y hy).1 hN,(h.e y hy).2⟩,fun x hx=>⟨⟨S.M.qw (h.a x hx).1.g hN,S.M.qw (h.a x hx).1.n hN,S.M.qw (h.a x hx).1.p hN,S.M.qw (h.a x hx).1.a hN,S.M.qw (h.a x hx).1.q hN,S.M.qw (h.a x hx).1.f hN⟩,(h.a x hx).2⟩⟩
theorem xk.down {N N':Nat}{W:World}{lb:Nat}{txt:ByteArray}{k:Nat}{L:Ld}{nf:ByteArray→Option Nat}{m:LdM}(h:xk N W lb txt k L nf m)(hN:N'≤N):xk N' W lb txt k L nf m :=
 ⟨h.cold.down hN,h.bbox,h.tab,h.stk,h.sca,h.num,S.M.qw h.hyr hN,h.hya,h.hym,S.M.qw h.asr hN,h.asa,h.asm,h.ta,h.qa,h.ne,fun b hb=>nLt hN (h.low b hb),nLt hN h.ge⟩
theorem item_at {w0 w1 w2:World}{v fv:Value}{its:List S.Itm}{P:S.PS}{f:Option (Tok × Int)}{N:Nat}{m:LdM}(h:S.qae w0 w1 v fv its P f)(hN:N≤w0.heap.size)(hb:Below w1.heap.size w1 w2)(hm:∀b,m.hot b→w1.heap.size≤b){x:S.Itm}(hx:x ∈ its)(hz:x.s.label.text.size≤65536∧x.s.words.length≤16384∧x.s.proof.length≤16384∧∀t ∈ x.s.words,t.text.size≤65536):q17 N m w2 x.s x.vw x.vp:=by
 have hI:=h.all x hx;refine⟨S.M.qw (S.M.qh hI.ow (S.M.Ch.oB (X:=fun _=>False) hb) fun _ _ e=>e) hN,S.M.qw (S.M.qh hI.op (S.M.Ch.oB (X:=fun _=>False) hb) fun _ _ e=>e) hN,fun b e hh=>?_,fun b e hh=>?_,hz.2.1,hz.2.2.1,hz.2.2.2,hz.1⟩
 ·have h1:=S.M.vk hI.ow b e;have h2:=hm b hh;omega
 ·have h1:=S.M.vk hI.op b e;have h2:=hm b hh;omega
theorem ld0_ok:Ld.Ok ld0 0:=by
 refine⟨?_,Nat.le_refl _,by decide,Nat.zero_le _,List.Sublist.refl _,(fun h hh=>by cases hh),Nat.zero_le _,(fun p hp=>by cases hp),?_⟩
 ·exact⟨Nat.zero_le _,Nat.zero_le _,Nat.zero_le _,(fun p hp=>by cases hp),List.nodup_nil,(fun n hn=>by cases hn),(fun l hl=>by cases hl),fun l hl=>by cases hl⟩
 ·rintro s (h | h) <;> cases h
theorem qiu {w0 w1 w2 wr:World}{v fv:Value}{its:List S.Itm}{P:S.PS}{f:Option (Tok × Int)}{N lb k:Nat}{txt:ByteArray}{m:LdM}{L:Ld}{nf:ByteArray→Option Nat}{k0:Nat}{L0:Ld}{nf0:ByteArray→Option Nat}(h:S.qae w0 w1 v fv its P f)(hN:N≤w0.heap.size)(hN1:1 < N)(hb:Below w1.heap.size w1 w2)(hm:∀b,m.hot b→w1.heap.size≤b)(h0:xk N w2 lb txt k0 L0 nf0 m)(hKB:Y.KB w2)(hG:Goes N w2 lb txt m k L nf wr){x:S.Itm}(hx:x ∈ its)(hz:x.s.label.text.size≤65536∧x.s.words.length≤16384∧x.s.proof.length≤16384∧∀t ∈ x.s.words,t.text.size≤65536) :
  ∃m',xk N wr lb txt k L nf m'∧q17 N m' wr x.s x.vw x.vp∧Y.KB wr∧S.M.Ch m.hot w2 wr∧∀b,m'.hot b→m.hot b∨w2.heap.size≤b:=by
 obtain⟨c,m',i,g⟩:=hG;exact⟨m',i,(item_at h hN hb hm hx hz).ch c (fun _=>id) g,q9x hKB hN1 h0 c,c,g⟩
theorem qbm {P:Program}{fn:Func}{t t':Array Value}{R:Ending→World→Prop}(h:results fn t=results fn t'):∀ds:List Deferred,Leaves P fn t R ds=Leaves P fn t' R ds
 | []=>by
  funext u w
  cases u <;> simp only[Leaves,h]
 | d :: ds=>by
  funext u w
  simp only[Leaves,qbm h ds]
theorem res9 (t:Array Value)(d:Nat)(v:Value)(h:3 < d):results Tryz.f9 (t.setIfInBounds d v)=results Tryz.f9 t:=by
 have h2:d≠2:=by omega
 have h3:d≠3:=by omega
 simp[results,Tryz.results9,h2,h3,Array.getElem?_setIfInBounds]
theorem qpb {R:Ending→World→Prop}{K K1:Act→World→Prop}{c:List PanicEntry}{a:Act}{w:World}{d:Nat}{v:Value}(hd:3 < d)(h:Exit.then K (Exit.then K1 (bodyPostD Tryz.prog Tryz.f9 R)) (.panic c) (a.put (some d) v) w):Exit.then K (Exit.then K1 (bodyPostD Tryz.prog Tryz.f9 R)) (.panic c) a w:=by
 show Leaves Tryz.prog Tryz.f9 a.tmps R a.defers (.panicking c) w
 have h':Leaves Tryz.prog Tryz.f9 (a.tmps.setIfInBounds d v) R a.defers (.panicking c) w:=h
 rwa [qbm (res9 a.tmps d v hd)] at h'
theorem qbn (w:World)(txt:ByteArray)(hz:txt.size≤281474976710656)(hR:S.RdW w)(hOk:qit txt):Calls Tryz.prog 9 #[.string txt] w (Loaded w txt):=by
 have hmf:∀(fn:Fn) (first cap:Array Value) (w:World),(Instr.makeFunc fn first cap).run Tryz.prog w=.ok (.func fn first cap) w:=fun _ _ _ _=>rfl
 obtain⟨w0,hw0⟩:=eXb ((w.alloc (.cells #[.pointer none] 22)).alloc (.cells #[.pointer none] 23));have HW0:=hid hw0;have B0:Hid (Below w.heap.size w w0):=by show Below _ _ _;rw[←hw0];exact (S.qg _ _).trans ((S.qg _ _).mono (by simp))
 have RD:Hid (Calls Tryz.prog 54 #[.string txt] w0 (S.q0m w0 txt)):=S.qnq w0 txt hz (hR.under B0.out);have NW:Hid (∀wx,Calls Tryz.prog 55 #[.string txt] wx fun e w'=>∃lb,e=.returned (.pointer (some ⟨lb,0,none⟩))∧qk3 wx txt lb w'):=fun wx=>qcb wx txt (by omega)
 have HK:Hid (S.RdW w∧qit txt):=⟨hR,hOk⟩;have HZ:=hid hz;have X0:Hid (w0.heap[w.heap.size]?=some (.cells #[.pointer none] 22 (0,0))∧w0.heap[w.heap.size + 1]?=some (.cells #[.pointer none] 23 (0,0))∧w0.heap.size=w.heap.size + 2):=by
  show _∧_∧_
  rw[←hw0];refine⟨?_,?_,by simp⟩
  ·exact ((S.qg (w.alloc (.cells #[.pointer none] 22)) (.cells #[.pointer none] 23)).block _ (by simp)).trans (World.alloc_heap_new w _)
  ·have:=World.alloc_heap_new (w.alloc (.cells #[.pointer none] 22)) (.cells #[.pointer none] 23)
   simpa using this
 clear hR hOk hz
 go_enter_defers Tryz.func9,Tryz.ntmps9
 go_wp2_with fail;clear hw0;refine cMo RD.out ?_;rintro e w1 ⟨v,fv,its,rfl,hRI⟩;have RI:=hid hRI;obtain⟨av,cv,rfl,_⟩:=S.ql hRI.own;clear hRI RD;go_wp2_with fail;refine cMo (NW.out w1) ?_;rintro e w2 ⟨lb,rfl,hN⟩;obtain⟨⟨m,hm⟩,hlb,hb2⟩:=hN;have HM:Hid (xk w0.heap.size w2 lb txt 0 ld0 (Y.numOf ld0.T.syms) m∧(∀b,m.hot b→w1.heap.size≤b)∧Below w1.heap.size w1 w2):=⟨hm.down RI.out.bel.size,hm.low,hb2⟩;have HLB:=hid hlb;clear hm hlb hb2 NW;have LN:Hid (its.map (·.s)=(S.q1h txt).1.l):=RI.out.l;have hn:its.length≤16384:=by have h1:=HK.out.2.len;rw[←LN.out,lMa] at h1;exact h1
 obtain⟨n,hnn⟩:=eXb its.length;have HL:=hid hnn;rw[hnn] at hn;have HS:Hid (Below w.heap.size w w1):=B0.out.trans (RI.out.bel.mono B0.out.size);have K2:Hid (Y.KB w2∧1 < w0.heap.size):=by
  have h1:Y.KB w:=HK.out.1.kb;have h2:=h1.pos;exact⟨(h1.kept (HS.out.block 1 h2)).kept (HM.out.2.2.block 1 (by have:=HS.out.size;omega)),by have:=X0.out.2.2;omega⟩
 go_wp2_with fail;clear hnn
 go_loopw [21] (fun v21 wr=>∃(j:Nat) (L:Ld),j≤n∧v21=.int .i64 j∧Hid (q0a ld0 (its.map (·.s))=q0a L ((its.drop j).map (·.s)))∧Hid (L.Ok (60000 * j))∧Hid (Goes w0.heap.size w2 lb txt m (60000 * j) L (Y.numOf L.T.syms) wr)) (fun v21 _=>n - (intOf v21).toNat)
 case atStart=>exact⟨0,ld0,Nat.zero_le _,rfl,rfl,ld0_ok,Goes.same HM.out.1 bRf⟩
 case round =>
  obtain⟨j,L,hj,rfl,hR,HO,HG⟩:=hrel
  by_cases hlt:j < n
  ·have n1:(j:Int) < (n:Int):=by omega
   obtain⟨x,hx⟩:∃x,its[j]?=some x:=⟨_,gEq (by rw[HL.out];exact hlt)⟩;have hdr:its.drop j=x :: its.drop (j + 1):=by
    obtain⟨hlt2,e2⟩:=List.getElem?_eq_some_iff.1 hx;rw[List.drop_eq_getElem_cons hlt2,e2]
   have hmem:x ∈ its:=mGe hx;have hsx:=HK.out.2.each x.s (by rw[←LN.out];exact List.mem_map_of_mem hmem);obtain⟨m1,i1,s1,kb1,c1,g1⟩:=qiu RI.out (Nat.le_refl _) K2.out.2 HM.out.2.2 HM.out.2.1 HM.out.1 K2.out.1 HG.out hmem hsx.2;obtain⟨aw,cw,ew,_⟩:=s1.words;obtain⟨ap,cp,ep,_⟩:=S.uy s1.op;have R2:Hid (q0a ld0 (its.map (·.s))=match qp L x.s with | .ok L1=>q0a L1 ((its.drop (j + 1)).map (·.s)) | .error f=>.error f):=hR.out.trans (by rw[hdr,List.map_cons,q0a] <;> cases qp L x.s <;> rfl);have HI:Hid (xk w0.heap.size wr lb txt (60000 * j) L (Y.numOf L.T.syms) m1∧q17 w0.heap.size m1 wr x.s x.vw x.vp∧Y.KB wr∧S.M.Ch m.hot w2 wr∧(∀b,m1.hot b→m.hot b∨w2.heap.size≤b)∧q1a x.s∧x.s.label.text.size≤65536∧x.s.words.length≤16384):=⟨i1,s1,kb1,c1,g1,hsx.1,hsx.2.1,hsx.2.2.1⟩;obtain⟨av',cv',eav,_,hcell⟩:=S.M.xq RI.out.own
   cases eav;obtain⟨g,had,_⟩:=hcell (j * 16 + 0) _ (qe3 its j 0 x hx (by omega));subst had;have y:∀i,i < 16→wr.cell? ⟨g,j * 16 + i,none⟩=(S.q5q x)[i]?:=fun i hi=>by
    obtain⟨u,hu⟩:∃u,(S.q5q x)[i]?=some u:=⟨_,Array.getElem?_eq_getElem (show i < 16 from hi)⟩;obtain⟨g2,e2,h2⟩:=hcell (j * 16 + i) u ((qe3 its j i x hx hi).trans hu)
    cases e2;rw[hu];have hlt:=bLt h2;have hk:=HM.out.2.2.cell (p:=⟨g,j * 16 + i,none⟩) hlt;refine (World.cell?_of_block (a:=⟨g,j * 16 + i,none⟩) ?_).trans (hk.trans h2);refine c1.block _ (by have:=HM.out.2.2.size;omega) fun hh=>?_
    have:=HM.out.2.1 _ hh
    omega
   have y0:wr.cell? ⟨g,j * 16,none⟩=some (.int .i64 x.s.kind):=(y 0 (by omega)).trans rfl;have y1:wr.cell? ⟨g,j * 16 + 1,none⟩=some (.string x.s.label.text):=(y 1 (by omega)).trans rfl;have y2:wr.cell? ⟨g,j * 16 + 2,none⟩=some (.int .i64 x.s.label.off):=(y 2 (by omega)).trans rfl;have y3:wr.cell? ⟨g,j * 16 + 3,none⟩=some (.int .i64 x.s.label.line):=(y 3 (by omega)).trans rfl;have y4:wr.cell? ⟨g,j * 16 + 4,none⟩=some (.int .i64 x.s.label.col):=(y 4 (by omega)).trans rfl;have y5:wr.cell? ⟨g,j * 16 + 5,none⟩=some (.string x.s.key.text):=(y 5 (by omega)).trans rfl;have y6:wr.cell? ⟨g,j * 16 + 6,none⟩=some (.int .i64 x.s.key.off):=(y 6 (by omega)).trans rfl;have y7:wr.cell? ⟨g,j * 16 + 7,none⟩=some (.int .i64 x.s.key.line):=(y 7 (by omega)).trans rfl;have y8:wr.cell? ⟨g,j * 16 + 8,none⟩=some (.int .i64 x.s.key.col):=(y 8 (by omega)).trans rfl;have y9:wr.cell? ⟨g,j * 16 + 9,none⟩=some (.bool x.s.proving):=(y 9 (by omega)).trans rfl;have y10:wr.cell? ⟨g,j * 16 + 10,none⟩=some (.slice aw x.s.words.length cw):=(y 10 (by omega)).trans (by show _=some _;rw[←ew];rfl);have y11:wr.cell? ⟨g,j * 16 + 11,none⟩=some (.slice ap x.s.proof.length cp):=(y 11 (by omega)).trans (by show _=some _;rw[←ep];rfl);have y12:wr.cell? ⟨g,j * 16 + 12,none⟩=some (.string x.s.fin.text):=(y 12 (by omega)).trans rfl;have y13:wr.cell? ⟨g,j * 16 + 13,none⟩=some (.int .i64 x.s.fin.off):=(y 13 (by omega)).trans rfl;have y14:wr.cell? ⟨g,j * 16 + 14,none⟩=some (.int .i64 x.s.fin.line):=(y 14 (by omega)).trans rfl;have y15:wr.cell? ⟨g,j * 16 + 15,none⟩=some (.int .i64 x.s.fin.col):=(y 15 (by omega)).trans rfl;have hba:Below wr.heap.size wr (wr.alloc (.cells #[.int .i64 x.s.kind,.string x.s.label.text,.int .i64 x.s.label.off,.int .i64 x.s.label.line,.int .i64 x.s.label.col,.string x.s.key.text,.int .i64 x.s.key.off,.int .i64 x.s.key.line,.int .i64 x.s.key.col,.bool x.s.proving,.slice aw x.s.words.length cw,.slice ap x.s.proof.length cp,.string x.s.fin.text,.int .i64 x.s.fin.off,.int .i64 x.s.fin.line,.int .i64 x.s.fin.col] 95)):=S.qg _ _
   have BA:=hid hba;have TK:Hid (Calls Tryz.prog 56 #[.pointer (some ⟨lb,0,none⟩),.agg #[.int .i64 x.s.kind,.string x.s.label.text,.int .i64 x.s.label.off,.int .i64 x.s.label.line,.int .i64 x.s.label.col,.string x.s.key.text,.int .i64 x.s.key.off,.int .i64 x.s.key.line,.int .i64 x.s.key.col,.bool x.s.proving,.slice aw x.s.words.length cw,.slice ap x.s.proof.length cp,.string x.s.fin.text,.int .i64 x.s.fin.off,.int .i64 x.s.fin.line,.int .i64 x.s.fin.col]] (wr.alloc (.cells #[.int .i64 x.s.kind,.string x.s.label.text,.int .i64 x.s.label.off,.int .i64 x.s.label.line,.int .i64 x.s.label.col,.string x.s.key.text,.int .i64 x.s.key.off,.int .i64 x.s.key.line,.int .i64 x.s.key.col,.bool x.s.proving,.slice aw x.s.words.length cw,.slice ap x.s.proof.length cp,.string x.s.fin.text,.int .i64 x.s.fin.off,.int .i64 x.s.fin.line,.int .i64 x.s.fin.col] 95)) (Does w0.heap.size (wr.alloc (.cells #[.int .i64 x.s.kind,.string x.s.label.text,.int .i64 x.s.label.off,.int .i64 x.s.label.line,.int .i64 x.s.label.col,.string x.s.key.text,.int .i64 x.s.key.off,.int .i64 x.s.key.line,.int .i64 x.s.key.col,.bool x.s.proving,.slice aw x.s.words.length cw,.slice ap x.s.proof.length cp,.string x.s.fin.text,.int .i64 x.s.fin.off,.int .i64 x.s.fin.line,.int .i64 x.s.fin.col] 95)) lb txt m1 (60000 * j + 60000) (qp L x.s))):=by
    have s2:=s1.below hba;rw[ew,ep] at s2;exact take_any (i1.below hba) HO.out (by omega) (kb1.kept (hba.block 1 kb1.pos)) K2.out.2 s2 hsx.1
   have AB:Hid (∀w6,S.M.Ch m1.hot (wr.alloc (.cells #[.int .i64 x.s.kind,.string x.s.label.text,.int .i64 x.s.label.off,.int .i64 x.s.label.line,.int .i64 x.s.label.col,.string x.s.key.text,.int .i64 x.s.key.off,.int .i64 x.s.key.line,.int .i64 x.s.key.col,.bool x.s.proving,.slice aw x.s.words.length cw,.slice ap x.s.proof.length cp,.string x.s.fin.text,.int .i64 x.s.fin.off,.int .i64 x.s.fin.line,.int .i64 x.s.fin.col] 95)) w6→w6.heap[w.heap.size]?=some (.cells #[.pointer none] 22 (0,0))∧w6.heap[w.heap.size + 1]?=some (.cells #[.pointer none] 23 (0,0))∧S.M.Ch m.hot w2 w6):=fun w6 hc=>by
    have hc2:S.M.Ch m.hot w2 w6:=qba c1 g1 ((S.M.Ch.oB hba).trans hc);obtain⟨x1,x2,x3⟩:=X0.out;have z1:=RI.out.bel;have z2:=HM.out.2.2;have z3:=z1.size;have z4:=z2.size;have old:∀b,b < w0.heap.size→w6.heap[b]?=w0.heap[b]?:=fun b hb=>by
     refine (hc2.block b (by omega) fun hh=>by have:=HM.out.2.1 b hh;omega).trans ((z2.block b (by omega)).trans (z1.block b hb))
    exact⟨(old _ (by omega)).trans x1,(old _ (by omega)).trans x2,hc2⟩
   have KO:Hid (∀L1,qp L x.s=.ok L1→L1.Ok (60000 * j + 60000)):=fun L1 h1=>qd1 HO.out hsx.1 hsx.2.1 hsx.2.2.1 h1
   clear y hcell hdr hx hmem hsx i1 s1 kb1 c1 hR HO HG hba
   cases hT:qp L x.s with
   | ok L1 =>
    rw[hT] at TK;have R3:Hid (q0a ld0 (its.map (·.s))=q0a L1 ((its.drop (j + 1)).map (·.s))):=R2.out.trans (by rw[hT]);have O1:Hid (L1.Ok (60000 * (j + 1))):=(KO.out L1 hT).up (by omega);clear R2 KO hT;go_wp2_with fail;refine cMo TK.out ?_;rintro ee w6 ⟨rfl,hg6⟩;have G6:Hid (Goes w0.heap.size w2 lb txt m (60000 * (j + 1)) L1 (Y.numOf L1.T.syms) w6):=(q38 HI.out.2.2.2.1 g1 (hg6.q0y BA.out)).up (by omega);clear hg6 TK AB BA HI g1
    go_wp2
    exact⟨⟨j + 1,L1,by omega,by go_num,R3.out,O1.out,G6.out⟩,by simp[intOf];omega⟩
   | error f =>
    rw[hT] at TK;have R3:Hid (q0a ld0 (its.map (·.s))=.error f):=R2.out.trans (by rw[hT]);clear R2 KO hT;go_wp2_with fail;refine cMo TK.out ?_;rintro ee w6 ⟨hc6,b,rfl,q2,q3⟩;obtain⟨a1,a2,a3⟩:=AB.out w6 hc6;have FIN:Hid (Loaded w txt (.returned (.tuple #[.pointer none,.pointer (some ⟨b,0,none⟩)])) ((w6.setCell ⟨w.heap.size,0,none⟩ (.pointer none)).setCell ⟨w.heap.size + 1,0,none⟩ (.pointer (some ⟨b,0,none⟩)))):=by
     have hF:q2t txt=.error f:=by unfold q2t;rw[←LN.out,R3.out]
     have bw:Below w.heap.size w w6:=qgg (HS.out.trans (HM.out.2.2.mono HS.out.size)) (by have:=HS.out.size;have:=HM.out.2.2.size;omega) a3 fun b hb=>by have:=HM.out.2.1 b hb;have:=HS.out.size;omega
     have hq:w2.heap.size≤(wr.alloc (.cells #[.int .i64 x.s.kind,.string x.s.label.text,.int .i64 x.s.label.off,.int .i64 x.s.label.line,.int .i64 x.s.label.col,.string x.s.key.text,.int .i64 x.s.key.off,.int .i64 x.s.key.line,.int .i64 x.s.key.col,.bool x.s.proving,.slice aw x.s.words.length cw,.slice ap x.s.proof.length cp,.string x.s.fin.text,.int .i64 x.s.fin.off,.int .i64 x.s.fin.line,.int .i64 x.s.fin.col] 95)).heap.size:=nLt HI.out.2.2.2.1.size BA.out.size;have h5:=HM.out.2.2.size;have h6:=RI.out.bel.size;have h7:=X0.out.2.2;exact qd5 hF bw (by omega) q2
    have cA:w6.cell? ⟨w.heap.size,0,none⟩=some (.pointer none):=S.M.qc a1 0;have cB:w6.cell? ⟨w.heap.size + 1,0,none⟩=some (.pointer none):=S.M.qc a2 0;have zA:w6.frozen? ⟨w.heap.size,0,none⟩=false:=frz a1;have zB:w6.frozen? ⟨w.heap.size + 1,0,none⟩=false:=frz a2;obtain⟨f1,f2⟩:=qbk (by omega:w.heap.size≠w.heap.size + 1) cA cB (.pointer none) (.pointer (some ⟨b,0,none⟩));clear TK AB BA HI g1 hc6 q2 q3 a1 a2 a3 R3;refine leaves_cons (f:=52) (args:=#[.pointer (some ⟨w.heap.size,0,none⟩),.pointer (some ⟨w.heap.size + 1,0,none⟩)]) (by simp) (by simp[go_sem]) ?_;refine (qgf w.heap.size (w.heap.size + 1) b (by omega) [] w6 none none cA cB zA zB).mono ?_;rintro e u' w'' ⟨rfl,rfl,rfl⟩;simp[Leaves,settle,results,Tryz.results9,go_sem,f1,f2];exact FIN.out
  ·have n1:¬(j:Int) < (n:Int):=by omega
   have hjn:j=n:=by omega
   subst hjn;have R2:Hid (q0a ld0 (its.map (·.s))=.ok L):=hR.out.trans (by rw[List.drop_eq_nil_of_le (by rw[HL.out];exact Nat.le_refl _)];rfl);clear hR;obtain⟨c9,m9,i9,g9⟩:=HG.out;have hz1:=RI.out.bel.size;have hz2:=HM.out.2.2.size;have hz0:=X0.out.2.2;have hz9:=c9.size;have old:∀b,b < w0.heap.size→wr.heap[b]?=w0.heap[b]?:=fun b hb=>(c9.block b (by omega) fun hh=>by have:=HM.out.2.1 b hh;omega).trans ((HM.out.2.2.block b (by omega)).trans (RI.out.bel.block b hb))
   have a1:=(old _ (by omega)).trans X0.out.1;have a2:=(old _ (by omega)).trans X0.out.2.1;have BW:Hid (Below w.heap.size w wr):=qgg (HS.out.trans (HM.out.2.2.mono HS.out.size)) (by have:=HS.out.size;omega) c9 fun b hb=>by have:=HM.out.2.1 b hb;have:=HS.out.size;omega
   have cA:wr.cell? ⟨w.heap.size,0,none⟩=some (.pointer none):=S.M.qc a1 0;have cB:wr.cell? ⟨w.heap.size + 1,0,none⟩=some (.pointer none):=S.M.qc a2 0;have zA:wr.frozen? ⟨w.heap.size,0,none⟩=false:=frz a1;have zB:wr.frozen? ⟨w.heap.size + 1,0,none⟩=false:=frz a2;have hft:=RI.out.ft
   cases hrf:(S.q1h txt).2 with
   | some f =>
    rw[hrf] at hft;obtain⟨b,rfl,q3,q2⟩:=hft;have hB2:(wr.setCell ⟨w.heap.size,0,none⟩ (.pointer none)).cell? ⟨w.heap.size + 1,0,none⟩=some (.pointer none):=by simp[go_sem,cB]
    obtain⟨f1,f2⟩:=qbk (by omega:w.heap.size≠w.heap.size + 1) cA cB (.pointer none) (.pointer (some ⟨b,0,none⟩));have FIN:Hid (Loaded w txt (.returned (.tuple #[.pointer none,.pointer (some ⟨b,0,none⟩)])) ((wr.setCell ⟨w.heap.size,0,none⟩ (.pointer none)).setCell ⟨w.heap.size + 1,0,none⟩ (.pointer (some ⟨b,0,none⟩)))):=by
     have hF:q2t txt=.error f:=by unfold q2t;rw[←LN.out,R2.out];dsimp only;rw[hrf]
     have hblt:=(aIx q2);refine qd5 hF BW.out (by omega) ?_;exact (c9.block b (by omega) fun hh=>by have:=HM.out.2.1 b hh;omega).trans ((HM.out.2.2.block b hblt).trans q2)
    clear q2 q3 a1 a2 old c9 i9 g9 hz1 hz2 hz0 hz9 hrf;go_wp2_with fail;refine leaves_cons (f:=52) (args:=#[.pointer (some ⟨w.heap.size,0,none⟩),.pointer (some ⟨w.heap.size + 1,0,none⟩)]) (by simp) (by simp[go_sem]) ?_;refine (catch_idle ⟨w.heap.size,0,none⟩ ⟨w.heap.size + 1,0,none⟩ _).mono ?_;rintro e u' w'' ⟨rfl,rfl,rfl⟩;simp[Leaves,settle,results,Tryz.results9,go_sem,f1,f2];exact FIN.out
   | none =>
    rw[hrf] at hft;have hfv:fv=.pointer none:=hft;subst hfv;obtain⟨x0,_,x2⟩:=i9.cells;have hsl:m9.sx.length=L.sc.length:=by rw[←i9.sca,lMa]
    have h17:=HO.out.sc2;have DP:Hid (Calls Tryz.prog 57 #[.pointer (some ⟨m9.P,0,none⟩)] wr fun e w'=>e=.returned (.int .i64 ((L.sc.length:Int) - 1))∧w'=wr):=by
     have h1:=F.q4g wr m9.O m9.P m9.vS m9.sx i9.stk (by omega);rw[hsl] at h1;exact h1
    by_cases hd:1 < L.sc.length
    ·have n2:(0:Int) < (L.sc.length:Int) - 1:=by omega
     have hF:Hid (q2t txt=.error (S.q3l txt,23)):=by show _=_;unfold q2t;rw[←LN.out,R2.out];dsimp only;rw[hrf];dsimp only;rw[if_pos hd]
     have PL:Hid (Calls Tryz.prog 58 #[.string txt,.int .i64 (txt.size:Nat)] wr fun e w'=>e=.returned (.tuple #[S.K.qgx txt txt.size,.bool true])∧Below wr.heap.size wr w'):=S.K.qen txt txt.size wr HZ.out (Nat.le_refl _);have IA:Hid (wr.cell? ⟨w.heap.size,0,none⟩=some (.pointer none)∧wr.cell? ⟨w.heap.size + 1,0,none⟩=some (.pointer none)∧wr.heap[w.heap.size]?=some (.cells #[.pointer none] 22 (0,0))∧wr.heap[w.heap.size + 1]?=some (.cells #[.pointer none] 23 (0,0))):=⟨cA,cB,a1,a2⟩;obtain⟨p1,hp1⟩:=eXb (S.K.q3d (txt.data.toList.take txt.size));obtain⟨p2,hp2⟩:=eXb (S.K.q78 (txt.data.toList.take txt.size));have HE:Hid (S.q3l txt=⟨⟨#[]⟩,txt.size,p1,p2⟩):=by show _=_;unfold S.q3l;rw[hp1,hp2]
     unfold S.K.qgx at PL;rw[hp1,hp2] at PL;clear a1 a2 old c9 i9 g9 hz1 hz2 hz0 hz9 hrf hsl h17 hd hp1 hp2 cA cB zA zB x0;go_wp2_with fail;refine cMo DP.out ?_;rintro e wz ⟨rfl,hwz⟩;subst wz;go_wp2_with fail;refine cMo PL.out ?_;rintro e w6 ⟨rfl,hb6⟩;have B6:=hid hb6;clear hb6 PL DP;go_upto_region 13 with fail;obtain⟨w7,hw7⟩:=eXb (w6.alloc (.cells #[.int .i64 (txt.size:Nat),.int .i64 p1,.int .i64 p2] 28));rw[hw7];have b67:Below w6.heap.size w6 w7:=by rw[←hw7];exact S.qg _ _
     obtain⟨D,hD⟩:=eXb w7.drew;have eD:D.heap[w6.heap.size]?=some (.cells #[.int .i64 (txt.size:Nat),.int .i64 p1,.int .i64 p2] 28 (0,0)):=by rw[←hD];show w7.heap[w6.heap.size]?=_;rw[←hw7];exact World.alloc_heap_new _ _
     have b7:Below wr.heap.size wr D:=by rw[←hD];exact (B6.out.trans (b67.mono B6.out.size)).trans (S.M.zo bRf 1)
     have i3:=IA.out.2.2.1;have i4:=IA.out.2.2.2;have lA:=(aIx i3);have lB:=(aIx i4);have l6:=B6.out.size;have eA:D.heap[w.heap.size]?=some (.cells #[.pointer none] 22 (0,0)):=(b7.block _ lA).trans i3;have eB:D.heap[w.heap.size + 1]?=some (.cells #[.pointer none] 23 (0,0)):=(b7.block _ lB).trans i4;have l6D:=(aIx eD);have bw:Below w.heap.size w D:=BW.out.trans (b7.mono BW.out.size);have other:∀(W:World) (c b:Nat) (v:Value),b≠c→(W.setCell ⟨c,0,none⟩ v).heap[b]?=W.heap[b]?:=fun W c b v h=>Below.heap_setCell W ⟨c,0,none⟩ v b h
     have SC:Hid (∀W:World,W.heap[w6.heap.size]?=some (.cells #[.int .i64 (txt.size:Nat),.int .i64 p1,.int .i64 p2] 28 (0,0))→(fun w'=>w'.cell? ⟨w6.heap.size,0,none⟩=some (.int .i64 (txt.size:Nat))∧w'.cell? ⟨w6.heap.size,1,none⟩=some (.int .i64 p1)∧w'.cell? ⟨w6.heap.size,2,none⟩=some (.int .i64 p2)) W):=fun W h=>⟨S.M.qc h 0,S.M.qc h 1,S.M.qc h 2⟩
     have box:∀W:World,W.heap[w6.heap.size]?=some (.cells #[.int .i64 (txt.size:Nat),.int .i64 p1,.int .i64 p2] 28 (0,0))→w6.heap.size < W.heap.size→(W.alloc (.cells #[.int .i64 (txt.size:Nat),.int .i64 p1,.int .i64 p2,.string ⟨#[]⟩,.int .i64 23] 31)).heap[W.heap.size]?=some (.cells (q56 (S.q3l txt) 23) 31 (0,0)):=fun W _ _=>by rw[HE.out];exact World.alloc_heap_new W _
     -- the box ahead
     obtain⟨W1,hW1⟩:=eXa (D.alloc (.cells #[.int .i64 (txt.size:Nat),.int .i64 p1,.int .i64 p2,.string ⟨#[]⟩,.int .i64 23] 31));have bW1:Below D.heap.size D W1:=by rw[hW1];exact S.qg _ _
     have e1:=(bW1.block _ l6D).trans eD;have eA1:=(bW1.block _ (by omega)).trans eA;have eB1:=(bW1.block _ (by omega)).trans eB;have q1:W1.heap[D.heap.size]?=some (.cells (q56 (S.q3l txt) 23) 31 (0,0)):=by rw[hW1];exact box D eD l6D
     obtain⟨W2,hW2⟩:=eXa (W1.setCell ⟨w.heap.size,0,none⟩ (.pointer none));have e2:W2.heap[w6.heap.size]?=some (.cells #[.int .i64 (txt.size:Nat),.int .i64 p1,.int .i64 p2] 28 (0,0)):=by rw[hW2];exact (other W1 _ _ _ (by omega)).trans e1
     have eA2:W2.heap[w.heap.size]?=some (.cells #[.pointer none] 22 (0,0)):=by rw[hW2];exact S.M.qj eA1
     have eB2:W2.heap[w.heap.size + 1]?=some (.cells #[.pointer none] 23 (0,0)):=by rw[hW2];exact (other W1 _ _ _ (by omega)).trans eB1
     have q2:W2.heap[D.heap.size]?=some (.cells (q56 (S.q3l txt) 23) 31 (0,0)):=by rw[hW2];exact (other W1 _ _ _ (by omega)).trans q1
     obtain⟨W3,hW3⟩:=eXa (W2.setCell ⟨w.heap.size + 1,0,none⟩ (.pointer (some ⟨D.heap.size,0,none⟩)));have e3:W3.heap[w6.heap.size]?=some (.cells #[.int .i64 (txt.size:Nat),.int .i64 p1,.int .i64 p2] 28 (0,0)):=by rw[hW3];exact (other W2 _ _ _ (by omega)).trans e2
     have eA3:W3.heap[w.heap.size]?=some (.cells #[.pointer none] 22 (0,0)):=by rw[hW3];exact (other W2 _ _ _ (by omega)).trans eA2
     have eB3:W3.heap[w.heap.size + 1]?=some (.cells #[.pointer (some ⟨D.heap.size,0,none⟩)] 23 (0,0)):=by rw[hW3];exact S.M.qj eB2
     have q3:W3.heap[D.heap.size]?=some (.cells (q56 (S.q3l txt) 23) 31 (0,0)):=by rw[hW3];exact (other W2 _ _ _ (by omega)).trans q2
     have bw3:Below w.heap.size w W3:=by
      rw[hW3,hW2];exact ((bw.trans (bW1.mono bw.size)).setCell (p:=⟨w.heap.size,0,none⟩) (Nat.le_refl _) _).setCell (p:=⟨w.heap.size + 1,0,none⟩) (Nat.le_succ _) _
     have FIN:Hid (Loaded w txt (.returned (.tuple #[.pointer none,.pointer (some ⟨D.heap.size,0,none⟩)])) W3):=by
      show Loaded _ _ _ _
      unfold Loaded;rw[hF.out];exact⟨bw3,D.heap.size,rfl,bw.size,q3⟩
     -- the first store ahead
     obtain⟨U1,hU1⟩:=eXa (D.setCell ⟨w.heap.size,0,none⟩ (.pointer none));have sU1:U1.heap.size=D.heap.size:=by rw[hU1];simp
     have d1:U1.heap[w6.heap.size]?=some (.cells #[.int .i64 (txt.size:Nat),.int .i64 p1,.int .i64 p2] 28 (0,0)):=by rw[hU1];exact (other D _ _ _ (by omega)).trans eD
     have dA1:U1.heap[w.heap.size]?=some (.cells #[.pointer none] 22 (0,0)):=by rw[hU1];exact S.M.qj eA
     have dB1:U1.heap[w.heap.size + 1]?=some (.cells #[.pointer none] 23 (0,0)):=by rw[hU1];exact (other D _ _ _ (by omega)).trans eB
     obtain⟨U2,hU2⟩:=eXa (U1.alloc (.cells #[.int .i64 (txt.size:Nat),.int .i64 p1,.int .i64 p2,.string ⟨#[]⟩,.int .i64 23] 31));have bU2:Below U1.heap.size U1 U2:=by rw[hU2];exact S.qg _ _
     have d2:=(bU2.block _ (by omega)).trans d1;have dA2:=(bU2.block _ (by omega)).trans dA1;have dB2:=(bU2.block _ (by omega)).trans dB1;have r2:U2.heap[U1.heap.size]?=some (.cells (q56 (S.q3l txt) 23) 31 (0,0)):=by rw[hU2];exact box U1 d1 (by omega)
     obtain⟨U3,hU3⟩:=eXa (U2.setCell ⟨w.heap.size + 1,0,none⟩ (.pointer (some ⟨U1.heap.size,0,none⟩)));have d3:U3.heap[w6.heap.size]?=some (.cells #[.int .i64 (txt.size:Nat),.int .i64 p1,.int .i64 p2] 28 (0,0)):=by rw[hU3];exact (other U2 _ _ _ (by omega)).trans d2
     have dA3:U3.heap[w.heap.size]?=some (.cells #[.pointer none] 22 (0,0)):=by rw[hU3];exact (other U2 _ _ _ (by omega)).trans dA2
     have dB3:U3.heap[w.heap.size + 1]?=some (.cells #[.pointer (some ⟨U1.heap.size,0,none⟩)] 23 (0,0)):=by rw[hU3];exact S.M.qj dB2
     have r3:U3.heap[U1.heap.size]?=some (.cells (q56 (S.q3l txt) 23) 31 (0,0)):=by rw[hU3];exact (other U2 _ _ _ (by omega)).trans r2
     have bwU1:Below w.heap.size w U1:=by rw[hU1];exact bw.setCell (p:=⟨w.heap.size,0,none⟩) (Nat.le_refl _) _
     have bu3:Below w.heap.size w U3:=by
      rw[hU3];exact (bwU1.trans (bU2.mono bwU1.size)).setCell (p:=⟨w.heap.size + 1,0,none⟩) (Nat.le_succ _) _
     have FINU:Hid (Loaded w txt (.returned (.tuple #[.pointer none,.pointer (some ⟨U1.heap.size,0,none⟩)])) U3):=by
      show Loaded _ _ _ _
      unfold Loaded;rw[hF.out];exact⟨bu3,U1.heap.size,rfl,bwU1.size,r3⟩
     have HW1:=hid hW1;have HW2:=hid hW2;have HW3:=hid hW3;have HU1:=hid hU1;have HU2:=hid hU2;have HU3:=hid hU3;have HS:Hid (((fun w'=>w'.cell? ⟨w6.heap.size,0,none⟩=some (.int .i64 (txt.size:Nat))∧w'.cell? ⟨w6.heap.size,1,none⟩=some (.int .i64 p1)∧w'.cell? ⟨w6.heap.size,2,none⟩=some (.int .i64 p2)) D∧(fun w'=>w'.cell? ⟨w6.heap.size,0,none⟩=some (.int .i64 (txt.size:Nat))∧w'.cell? ⟨w6.heap.size,1,none⟩=some (.int .i64 p1)∧w'.cell? ⟨w6.heap.size,2,none⟩=some (.int .i64 p2)) W1∧(fun w'=>w'.cell? ⟨w6.heap.size,0,none⟩=some (.int .i64 (txt.size:Nat))∧w'.cell? ⟨w6.heap.size,1,none⟩=some (.int .i64 p1)∧w'.cell? ⟨w6.heap.size,2,none⟩=some (.int .i64 p2)) W2∧(fun w'=>w'.cell? ⟨w6.heap.size,0,none⟩=some (.int .i64 (txt.size:Nat))∧w'.cell? ⟨w6.heap.size,1,none⟩=some (.int .i64 p1)∧w'.cell? ⟨w6.heap.size,2,none⟩=some (.int .i64 p2)) W3)∧(fun w'=>w'.cell? ⟨w6.heap.size,0,none⟩=some (.int .i64 (txt.size:Nat))∧w'.cell? ⟨w6.heap.size,1,none⟩=some (.int .i64 p1)∧w'.cell? ⟨w6.heap.size,2,none⟩=some (.int .i64 p2)) U1∧(fun w'=>w'.cell? ⟨w6.heap.size,0,none⟩=some (.int .i64 (txt.size:Nat))∧w'.cell? ⟨w6.heap.size,1,none⟩=some (.int .i64 p1)∧w'.cell? ⟨w6.heap.size,2,none⟩=some (.int .i64 p2)) U2∧(fun w'=>w'.cell? ⟨w6.heap.size,0,none⟩=some (.int .i64 (txt.size:Nat))∧w'.cell? ⟨w6.heap.size,1,none⟩=some (.int .i64 p1)∧w'.cell? ⟨w6.heap.size,2,none⟩=some (.int .i64 p2)) U3):=⟨⟨SC.out _ eD,SC.out _ e1,SC.out _ e2,SC.out _ e3⟩,SC.out _ d1,SC.out _ d2,SC.out _ d3⟩;have cAD:D.cell? ⟨w.heap.size,0,none⟩=some (.pointer none):=S.M.qc eA 0;have zAD:D.frozen? ⟨w.heap.size,0,none⟩=false:=frz eA;have cA1:W1.cell? ⟨w.heap.size,0,none⟩=some (.pointer none):=S.M.qc eA1 0;have zA1:W1.frozen? ⟨w.heap.size,0,none⟩=false:=frz eA1;have cB2:W2.cell? ⟨w.heap.size + 1,0,none⟩=some (.pointer none):=S.M.qc eB2 0;have zB2:W2.frozen? ⟨w.heap.size + 1,0,none⟩=false:=frz eB2
     have cBU:U2.cell? ⟨w.heap.size + 1,0,none⟩=some (.pointer none):=S.M.qc dB2 0;have zBU:U2.frozen? ⟨w.heap.size + 1,0,none⟩=false:=frz dB2;have f1:W3.cell? ⟨w.heap.size,0,none⟩=some (.pointer none):=S.M.qc eA3 0;have f2:W3.cell? ⟨w.heap.size + 1,0,none⟩=some (.pointer (some ⟨D.heap.size,0,none⟩)):=S.M.qc eB3 0;have g1:U3.cell? ⟨w.heap.size,0,none⟩=some (.pointer none):=S.M.qc dA3 0;have g2:U3.cell? ⟨w.heap.size + 1,0,none⟩=some (.pointer (some ⟨U1.heap.size,0,none⟩)):=S.M.qc dB3 0;clear hw7 b67 eD b7 i3 i4 lA lB l6 eA eB l6D bw other SC box hW1 bW1 e1 eA1 eB1 q1 hW2 e2 eA2 eB2 q2 hW3 e3 eA3 eB3 q3 bw3 hU1 sU1 d1 dA1 dB1 hU2 bU2 d2 dA2 dB2 r2 hU3 d3 dA3 dB3 r3 bwU1 bu3;refine wp_region_held_drew (S:=fun w'=>w'.cell? ⟨w6.heap.size,0,none⟩=some (.int .i64 (txt.size:Nat))∧w'.cell? ⟨w6.heap.size,1,none⟩=some (.int .i64 p1)∧w'.cell? ⟨w6.heap.size,2,none⟩=some (.int .i64 p2)) (by kernel_rfl) ?_ (fun hZ=>?_)
     ·rw[hD];exact HS.out.1.1
     rw[hD] at hZ ⊢;clear hD;refine wpAnyH_take (i:=0) (oi:={ dst:=some 45,op:=Op.load 28 (Operand.tmp 9),type:=28,pos:= "base.go:42",after:=#[],guard:=none }) (v:=?_) rfl (by kernel_rfl) (by kernel_rfl) (by kernel_rfl) (fun _ _ _ h=>qpb (by decide) h) (Or.inl ⟨by rfl,?_⟩) hZ ?_;rotate_left
     ·(intro w hSw;(try dsimp only at hSw);go_simp;try with_reducible rfl)
     try simp only[Act.put,List.setIfInBounds_toArray,List.set_cons_zero,List.set_cons_succ]
     refine wpAnyH_take (i:=1) (oi:={ dst:=some 46,op:=Op.build 31 #[(0,Operand.tmp 45),(2,Operand.const (Value.int IntKind.i64 23))],type:=31,pos:= "base.go:42",after:=#[{ on:=0,ground:=Ground.data }],guard:=none }) (v:=?_) rfl (by kernel_rfl) (by kernel_rfl) (by kernel_rfl) (fun _ _ _ h=>qpb (by decide) h) (Or.inl ⟨by rfl,?_⟩) hZ ?_;rotate_left
     ·(intro w hSw;(try dsimp only at hSw);go_simp;try with_reducible rfl)
     try simp only[Act.put,List.setIfInBounds_toArray,List.set_cons_zero,List.set_cons_succ]
     refine wpAnyH_ready (rs:=[2,3]) (by kernel_rfl) (by simp) ?_;refine AllReadyH.cons rfl (fun K hK=>?_) (AllReadyH.cons rfl (fun K hK=>?_) AllReadyH.nil)
     ·go_simp;rw[←HW1.out];refine aQq hK ?_ fun hZ_2=>?_
      ·exact HS.out.1.2.1
      clear hK K;refine rkq 3 fun K hK=>?_
      go_simp;rw[←HW2.out];refine aQq hK ?_ fun hZ_3=>?_
      ·exact HS.out.1.2.2.1
      clear hK K;refine rkq 4 fun K hK=>?_
      go_simp;rw[←HW3.out];refine aQq hK ?_ fun hZ_4=>?_
      ·exact HS.out.1.2.2.2
      clear hK K;refine wpAnyH_done (by kernel_rfl) ?_ _;go_wp2_with fail;refine leaves_cons (f:=52) (args:=#[.pointer (some ⟨w.heap.size,0,none⟩),.pointer (some ⟨w.heap.size + 1,0,none⟩)]) (by simp) (by simp[go_sem]) ?_;refine (catch_idle ⟨w.heap.size,0,none⟩ ⟨w.heap.size + 1,0,none⟩ _).mono ?_;rintro e u' w'' ⟨rfl,rfl,rfl⟩;simp[Leaves,settle,results,Tryz.results9,go_sem,f1,f2];exact FIN.out
     ·go_simp;rw[←HU1.out];refine aQq hK ?_ fun hZ_3=>?_
      ·exact HS.out.2.1
      clear hK K;refine rkq 2 fun K hK=>?_
      go_simp;rw[←HU2.out];refine aQq hK ?_ fun hZ_2=>?_
      ·exact HS.out.2.2.1
      clear hK K;refine rkq 4 fun K hK=>?_
      go_simp;rw[←HU3.out];refine aQq hK ?_ fun hZ_4=>?_
      ·exact HS.out.2.2.2
      clear hK K;refine wpAnyH_done (by kernel_rfl) ?_ _;go_wp2_with fail;refine leaves_cons (f:=52) (args:=#[.pointer (some ⟨w.heap.size,0,none⟩),.pointer (some ⟨w.heap.size + 1,0,none⟩)]) (by simp) (by simp[go_sem]) ?_;refine (catch_idle ⟨w.heap.size,0,none⟩ ⟨w.heap.size + 1,0,none⟩ _).mono ?_;rintro e u' w'' ⟨rfl,rfl,rfl⟩;simp[Leaves,settle,results,Tryz.results9,go_sem,g1,g2];exact FINU.out
    ·have n2:¬(0:Int) < (L.sc.length:Int) - 1:=by omega
     have hB2:(wr.setCell ⟨w.heap.size,0,none⟩ (.pointer (some ⟨m9.Bb,0,none⟩))).cell? ⟨w.heap.size + 1,0,none⟩=some (.pointer none):=by simp[go_sem,cB]
     obtain⟨f1,f2⟩:=qbk (by omega:w.heap.size≠w.heap.size + 1) cA cB (.pointer (some ⟨m9.Bb,0,none⟩)) (.pointer none);have FIN:Hid (Loaded w txt (.returned (.tuple #[.pointer (some ⟨m9.Bb,0,none⟩),.pointer none])) ((wr.setCell ⟨w.heap.size,0,none⟩ (.pointer (some ⟨m9.Bb,0,none⟩))).setCell ⟨w.heap.size + 1,0,none⟩ (.pointer none))):=by
      have hF:q2t txt=.ok L:=by unfold q2t;rw[←LN.out,R2.out];dsimp only;rw[hrf];dsimp only;rw[if_neg hd]
      unfold Loaded;rw[hF];have hl:=HLB.out;refine⟨qbl BW.out _ _,lb,m9,rfl,((i9.low_ch (by omega) ?_).down (by omega)).up (by omega)⟩;refine⟨rfl,rfl,rfl,by simp,fun b _ hb=>?_⟩;rw[Below.heap_setCell _ _ _ _ (by show b≠w.heap.size + 1;omega),Below.heap_setCell _ _ _ _ (by show b≠w.heap.size;omega)]
     clear a1 a2 old c9 i9 g9 hz1 hz2 hz0 hz9 hrf hsl h17 hd;go_wp2_with fail;refine cMo DP.out ?_;rintro e wz ⟨rfl,hwz⟩;subst wz;go_wp2_with fail;refine leaves_cons (f:=52) (args:=#[.pointer (some ⟨w.heap.size,0,none⟩),.pointer (some ⟨w.heap.size + 1,0,none⟩)]) (by simp) (by simp[go_sem]) ?_;refine (catch_idle ⟨w.heap.size,0,none⟩ ⟨w.heap.size + 1,0,none⟩ _).mono ?_;rintro e u' w'' ⟨rfl,rfl,rfl⟩;simp[Leaves,settle,results,Tryz.results9,go_sem,f1,f2];exact FIN.out
end B
namespace S
open Go.RowKit
structure q55 (w:World)(P:Nat)(v:Value)(bs:List UInt8):Prop where
 box:∃p,(p=.pointer none∨p=.pointer (some ⟨P,0,none⟩))∧w.heap[P]?=some (.cells #[p,v] 137 (0,0))
 own:w.ownsRow (P + 1) 5 1 v bs.length (bs.map q0t)
 nil:bs=[]→v=.slice none 0 0
theorem q55.down {w w':World}{P:Nat}{v:Value}{bs:List UInt8}(h:q55 w P v bs)(hb:Below w.heap.size w w'):q55 w' P v bs:=by
 obtain⟨p,hp,hk⟩:=h.box;exact⟨⟨p,hp,(hb.block P (aIx hk)).trans hk⟩,M.qh h.own (M.Ch.oB (X:=fun _=>False) hb) (fun _ _ e=>e),h.nil⟩
theorem q55.lt {w:World}{P:Nat}{v:Value}{bs:List UInt8}(h:q55 w P v bs):P < w.heap.size:=by
 obtain⟨p,hp,hk⟩:=h.box;exact (aIx hk)
theorem Pg.under {P N:Nat}{a b:World}{u v:Value}{bs:List UInt8}(h:Pg P a u b v)(hp:q55 a P u bs)(hN:N≤P):Below N a b :=
 h.ch.below (by have:=hp.lt;omega) fun g e=>e.elim (fun e=>by omega) fun e=>by have:=M.zh hp.own g e;omega
theorem qd6 (w:World)(P:Nat)(v:Value)(p:Value)(hp:p=.pointer none∨p=.pointer (some ⟨P,0,none⟩))(hk:w.heap[P]?=some (.cells #[p,v] 137 (0,0))) :
  Calls Tryz.prog 147 #[.pointer (some ⟨P,0,none⟩)] w fun e w'=>e=.returned (.tuple #[])∧w'.heap[P]?=some (.cells #[.pointer (some ⟨P,0,none⟩),v] 137 (0,0))∧M.Ch (fun g=>g=P) w w':=by
 obtain⟨j,hj,hjs⟩:∃j,Tryz.prog.info? 137=some j∧j.size=2:=Option.map_eq_some_iff.1 (show (Tryz.prog.info? 137).map (·.size)=some 2 by kernel_rfl);have h0:w.cell? ⟨P,0,none⟩=some p:=M.qc hk 0;have hfz:w.frozen? ⟨P,0,none⟩=false:=by simp[World.frozen?,hk]
 have hsh:w.shape? P=some (137,2):=by simp[World.shape?,hk]
 have HK:=hid hk;clear hk;rcases hp with rfl | rfl
 ·go_enter Tryz.func147,Tryz.ntmps147
  go_wp2
  rw[Lib.run_to_unsafe _ ⟨P,0,none⟩ Tryz.underlying135 Tryz.underlying255 hj (by rw[hjs];decide) hsh (by show 0 < 2;omega)];simp only[Result.andThen];rw[Oper.upon_value]
  go_wp2
  rw[run_callFunc_extern Tryz.func207 (by kernel_rfl) (by kernel_rfl) (by kernel_rfl) (e:=Extern.AbiNoEscape.same) (by kernel_rfl)];rw[Lib.run_noEscape];simp only[Result.andThen];rw[Oper.upon_value]
  go_wp2
  rw[Lib.run_from_unsafe _ ⟨P,0,none⟩ Tryz.underlying255 Tryz.underlying135 hj hsh (by kernel_rfl)];simp only[Result.andThen];rw[Oper.upon_value]
  go_wp2
  go_end0
  exact⟨rfl,M.qj HK.out,M.zx _ _ _ _⟩
 ·go_enter Tryz.func147,Tryz.ntmps147
  go_wp2
  rw[Lib.run_neq_ptr_same _ _ Tryz.underlying135 hj]
  go_wp2
  go_end0
  exact⟨rfl,HK.out,M.Ch.refl _ _⟩
theorem qbo (w:World)(P:Nat)(v p:Value)(bs:List UInt8)(word:ByteArray)(hp:p=.pointer none∨p=.pointer (some ⟨P,0,none⟩))(hk:w.heap[P]?=some (.cells #[p,v] 137 (0,0)))(hown:w.ownsRow (P + 1) 5 1 v bs.length (bs.map q0t))(hlen:bs.length + word.size≤1099511627776) :
  Calls Tryz.prog 94 #[.pointer (some ⟨P,0,none⟩),.string word] w fun e w'=>e=.returned (.tuple #[.int .i64 word.size,.nilIface])∧∃v',w'.heap[P]?=some (.cells #[.pointer (some ⟨P,0,none⟩),v'] 137 (0,0))∧w'.ownsRow (P + 1) 5 1 v' (bs++word.data.toList).length ((bs++word.data.toList).map q0t)∧Pg P w v w' v':=by
 obtain⟨i0,hi0,hz0,hz1,hz3⟩:=info_parts qj5;obtain⟨m,hm⟩:=eXb bs.length;rw[hm] at hown hlen;obtain⟨a,c,rfl,hc,_⟩:=M.xq hown;have CC:Hid _:=qd6 w P (.slice a m c) p hp hk;have HO:=hid hown;have HP:Hid (P < w.heap.size):=(aIx hk);have HM:=hid hm;clear hp hk hown hm;go_enter Tryz.func94,Tryz.ntmps94;go_wp2_with fail;refine cMo CC.out ?_;rintro e w1 ⟨rfl,hk1,hc1⟩;have HO1:Hid (w1.ownsRow (P + 1) 5 1 (.slice a m c) m (bs.map q0t)):=M.qh HO.out hc1 fun g e hx=>by have h1:=M.zh HO.out g e;omega
 have C1:=hid hc1;have c1:w1.cell? ⟨P,1,none⟩=some (.slice a m c):=M.qc hk1 1;have HK1:=hid hk1;clear hk1 hc1 CC HO
 go_wp2_with (at_builtin;refine q4y (w:=w1) rfl _ _ _ _ rfl (P + 1) 5 i0 Tryz.underlying133 Tryz.underlying9 hi0 hz0 hz1 hz3 _ m (bs.map q0t) (by rfl) (by exact HO1.out) word (by rfl) (by unfold maxLen;omega) (by omega) (by have h1:=C1.out.size;have h2:=HP.out;omega) ?_;intro a2 c2 w2 ho2 hg2 hl2;have HO2:=hid ho2;have HG2:=hid hg2;have HL2:=hid hl2;clear ho2 hg2 hl2;have HK2:Hid (w2.heap[P]?=some (.cells #[.pointer (some ⟨P,0,none⟩),.slice a m c] 137 (0,0))):=(HG2.out.block P (by have h1:=C1.out.size;have h2:=HP.out;omega) (fun e=>by have h1:=M.zh HO1.out P e.symm;omega)).trans HK1.out;have c2':w2.cell? ⟨P,1,none⟩=some (.slice a m c):=M.qc HK2.out 1;have f2':w2.frozen? ⟨P,1,none⟩=false:=by simp[World.frozen?,HK2.out])
 go_ret2
 refine⟨rfl,.slice a2 (m + word.size) c2,M.qj HK2.out,?_,Pg.qj6 C1.out HG2.out HL2.out _⟩;rw[lAp,HM.out,q4f,List.map_append];exact M.qh HO2.out (M.zx w2 P 1 _) fun g e hx=>by have h1:=M.zh HO2.out g e;omega
theorem qmq (w:World)(P:Nat)(v p:Value)(bs:List UInt8)(ch:UInt8)(ci:Int)(hci:(ch.toNat:Int)=ci)(hp:p=.pointer none∨p=.pointer (some ⟨P,0,none⟩))(hk:w.heap[P]?=some (.cells #[p,v] 137 (0,0)))(hown:w.ownsRow (P + 1) 5 1 v bs.length (bs.map q0t))(hlen:bs.length≤1099511627776) :
  Calls Tryz.prog 93 #[.pointer (some ⟨P,0,none⟩),.int .u8 ci] w fun e w'=>e=.returned .nilIface∧∃v',w'.heap[P]?=some (.cells #[.pointer (some ⟨P,0,none⟩),v'] 137 (0,0))∧w'.ownsRow (P + 1) 5 1 v' (bs++[ch]).length ((bs++[ch]).map q0t)∧Pg P w v w' v':=by
 obtain⟨i0,hi0,hz0,hz1,hz3⟩:=info_parts qj5;obtain⟨m,hm⟩:=eXb bs.length;rw[hm] at hown hlen;obtain⟨a,c,rfl,hc,_⟩:=M.xq hown;have CC:Hid _:=qd6 w P (.slice a m c) p hp hk;have HO:=hid hown;have HP:Hid (P < w.heap.size):=(aIx hk);have HM:=hid hm;have HCI:=hid hci;clear hp hk hown hm hci;go_enter Tryz.func93,Tryz.ntmps93;go_wp2_with fail;refine cMo CC.out ?_;rintro e w1 ⟨rfl,hk1,hc1⟩;have HO1:Hid (w1.ownsRow (P + 1) 5 1 (.slice a m c) m (bs.map q0t)):=M.qh HO.out hc1 fun g e hx=>by have h1:=M.zh HO.out g e;omega
 have C1:=hid hc1;have c1:w1.cell? ⟨P,1,none⟩=some (.slice a m c):=M.qc hk1 1;have HK1:=hid hk1;clear hk1 hc1 CC HO
 go_wp2_with (at_builtin;refine wpList_append_lies (w:=w1.alloc (.cells #[.int .u8 ci] 5)) rfl _ _ _ rfl (P + 1) 5 i0 (.int .u8 0) 1 1 Tryz.underlying133 hi0 hz0 hz1 hz3 rfl (by decide) _ m (bs.map q0t) (by rfl) (by exact M.zk HO1.out _) ⟨w1.heap.size,0,none⟩ 1 1 [.int .u8 ci] (by rfl) (by rfl) (fun j' u hu=>World.news_of_block (cs:=#[.int .u8 ci]) (t:=5) (fr:=(0,0)) (heap_alloc_new w1 _) j' u hu) (by simp[Value.oneCell']) (by omega) (by unfold maxLen;omega) (by omega) (by have h1:=C1.out.size;have h2:=HP.out;simp;omega) _ rfl ?_;intro g2 c2 w2 ho2 hg2 hl2 _;have HO2:=hid ho2;have HG2:=hid hg2;have HL2:=hid hl2;clear ho2 hg2 hl2;have HK2:Hid (w2.heap[P]?=some (.cells #[.pointer (some ⟨P,0,none⟩),.slice a m c] 137 (0,0))):=(HG2.out.block P (by have h1:=C1.out.size;have h2:=HP.out;simp;omega) (fun e=>by have h1:=M.zh HO1.out P e.symm;omega)).trans (((qg w1 _).block P (by have h1:=C1.out.size;have h2:=HP.out;omega)).trans HK1.out);have c2':w2.cell? ⟨P,1,none⟩=some (.slice a m c):=M.qc HK2.out 1;have f2':w2.frozen? ⟨P,1,none⟩=false:=by simp[World.frozen?,HK2.out])
 go_ret
 refine⟨rfl,.slice (some ⟨g2,0,none⟩) (m + 1) c2,M.qj HK2.out,?_,?_⟩
 ·rw[lAp,HM.out,List.map_append];have h3:w2.ownsRow (P + 1) 5 1 (.slice (some ⟨g2,0,none⟩) (m + 1) c2) (m + 1) (bs.map q0t++[ch].map q0t):=by
   have h:=HO2.out;rw[←HCI.out] at h;exact h
  exact M.qh h3 (M.zx w2 P 1 _) fun g e hx=>by have h1:=M.zh HO2.out g e;omega
 ·refine Pg.trans (Pg.of_below (P:=P) (Below.refl _ w)) ?_;have hc3:M.Ch (fun g=>g=P) w (w1.alloc (.cells #[.int .u8 ci] 5)):=C1.out.trans (M.Ch.oB (qg w1 _));exact Pg.qj6 hc3 HG2.out (M.q4k HL2.out) _
theorem qpc (w:World)(P:Nat)(v:Value)(bs:List UInt8)(h:q55 w P v bs):Calls Tryz.prog 78 #[.pointer (some ⟨P,0,none⟩)] w fun e w'=>e=.returned (.string ⟨bs.toArray⟩)∧Below (P + 1) w w':=by
 obtain⟨p,hp,hbk⟩:=h.box
 by_cases h0:bs=[]
 ·have hv:=h.nil h0;subst hv;rw[h0];have hUS:=Lib.run_unsafeString_none (P:=Tryz.prog) (w:=w.drew) 210 3 9;have c1:w.drew.cell? ⟨P,1,none⟩=some (.slice none 0 0):=M.qc hbk 1;have hSD:(Builtin.unsafeSliceData_ #[133] 210 #[.slice none 0 0]).run Tryz.prog w.drew=.ok (.pointer none) w.drew:=rfl;have mixed:Tryz.prog.follows Departure.mixedOrders=true:=by kernel_rfl
  clear h hbk hp h0;go_enter Tryz.func78,Tryz.ntmps78
  go_wp2
  go_region_o
  all_goals (go_wp2;go_ret;exact⟨rfl,Below.drew (Below.refl _ w)⟩)
 ·have hown:=h.own;have hl0:bs.length≠0:=by simpa using h0
  obtain⟨g,cap,cur,rfl,hbg,hg,hnc,hcm,hcs,htake⟩:∃g cap cur,v=.slice (some ⟨g,0,none⟩) bs.length cap∧P + 1≤g∧w.heap[g]?=some (.cells cur 5 (0,0))∧bs.length≤cap∧cap≤maxLen∧cur.size=cap * 1∧cur.toList.take (bs.length * 1)=bs.map q0t:=by
   rcases hown.2 with ⟨_,hz⟩ | ⟨g,cap,cur,hv,r⟩
   ·exact absurd hz hl0
   ·exact⟨g,cap,cur,hv,r⟩
  have c1:w.drew.cell? ⟨P,1,none⟩=some (.slice (some ⟨g,0,none⟩) bs.length cap):=M.qc hbk 1;have hSD:(Builtin.unsafeSliceData_ #[133] 210 #[.slice (some ⟨g,0,none⟩) bs.length cap]).run Tryz.prog w.drew=.ok (.pointer (some ⟨g,0,none⟩)) w.drew:=Lib.run_unsafeSliceData_row _ _ _ _ _ _ (by omega);have hUS:(Builtin.unsafeString_ #[210,3] 9 #[.pointer (some ⟨g,0,none⟩),.int .i64 bs.length]).run Tryz.prog w.drew=.ok (.string ⟨bs.toArray⟩) (w.drew.freeze ⟨g,0,none⟩ bs.length):=by
   refine Lib.run_unsafeString_row w.drew 210 3 9 5 Tryz.underlying210 (by kernel_rfl) g cur.size (by have hg':w.drew.heap[g]?=some (.cells cur 5 (0,0)):=hg;simp[World.shape?,hg']) bs h0 (by omega) (by unfold maxLen at hcm;omega) ?_;intro j x hx;have:=hown.cells (g:=g) rfl j (.int .u8 x.toNat) (by simp[hx,q0t])
   exact this
  have mixed:Tryz.prog.follows Departure.mixedOrders=true:=by kernel_rfl
  clear h hbk hp htake hown;go_enter Tryz.func78,Tryz.ntmps78
  go_wp2
  go_region_o
  all_goals (go_wp2;go_ret;exact⟨rfl,Lib.below_freeze (Below.drew (Below.refl _ w)) (p:=⟨g,0,none⟩) hbg _⟩)
end S
namespace B
open Go.RowKit
open S (Tok Stm)
def q2g (T:Y.Tab)(n:Int):ByteArray:=if (q48 T n).data.toList.isEmpty=true then ⟨#[63]⟩ else q48 T n
theorem qgh (T:Y.Tab)(n:Int):(q2g T n).data.toList≠[]:=by
 unfold q2g
 split
 ·simp
 ·rename_i h
  exact fun e=>h (by rw[e];rfl)
def q3c (T:Y.Tab):List Int→List UInt8
 | []=>[]
 | x :: r=>(q2g T x).data.toList++r.flatMap fun y=>32 :: (q2g T y).data.toList
theorem qgi (T:Y.Tab)(x:Int):∀l:List Int,q3c T (l++[x])=if l.length=0 then (q2g T x).data.toList else q3c T l++32 :: (q2g T x).data.toList
 | []=>by simp[q3c]
 | y :: r=>by simp[q3c]
theorem qiv {T:Y.Tab}(h:∀n,(q2g T n).size≤65536):∀l:List Int,(q3c T l).length≤65537 * l.length
 | []=>by simp[q3c]
 | x :: r=>by
  have hr:(r.flatMap fun y=>32 :: (q2g T y).data.toList).length≤65537 * r.length:=by
   induction r with
   | nil=>simp
   | cons y r ih =>
    have h1:=h y;rw[←S.q4f] at h1;simp only[List.flatMap_cons,lAp,List.length_cons];omega
  have h1:=h x;rw[←S.q4f] at h1;simp only[q3c,lAp,List.length_cons];omega
section
variable {N:Nat} {w:World} {lb:Nat} {txt:ByteArray} {k:Nat} {L:Ld} {nf:ByteArray→Option Nat} {m:LdM}
theorem qpd (h:xk N w lb txt k L nf m)(hT:L.T.syms.length≤4611686018427387904)(n:Int):Calls Tryz.prog 95 #[.pointer (some ⟨m.Bb,0,none⟩),.int .i64 n] w fun e w'=>e=.returned (.string (q2g L.T n))∧Below w.heap.size w w':=by
 have NM:Hid _:=qcy h hT n;have HW:Hid (q2g L.T n=if (q48 L.T n).data.toList.isEmpty=true then ⟨#[63]⟩ else q48 L.T n):=rfl;generalize q48 L.T n=s at *;generalize q2g L.T n=t at *;clear h
 cases he:s.data.toList.isEmpty with
 | true =>
  have hl:(!s.toList.isEmpty)=false:=by rw[ByteArray.toList_eq,he];rfl
  have HT:Hid (t=⟨#[63]⟩):=HW.out.trans (if_pos he);clear he HW;go_enter Tryz.func95,Tryz.ntmps95;go_wp2_with fail;refine cMo NM.out ?_;rintro e w1 ⟨rfl,hb⟩;clear NM
  go_wp2
  go_ret
  exact⟨by rw[HT.out];rfl,hb⟩
 | false =>
  have hl:(!s.toList.isEmpty)=true:=by rw[ByteArray.toList_eq,he];rfl
  have HT:Hid (t=s):=HW.out.trans (if_neg (by rw[he];exact Bool.false_ne_true));clear he HW;go_enter Tryz.func95,Tryz.ntmps95;go_wp2_with fail;refine cMo NM.out ?_;rintro e w1 ⟨rfl,hb⟩;clear NM
  go_wp2
  go_ret
  exact⟨by rw[HT.out];rfl,hb⟩
theorem print_any (h:xk N w lb txt k L nf m)(hT:L.T.syms.length≤4611686018427387904)(hm:∀n,(q2g L.T n).size≤65536)(a:Option Addr)(n c:Nat)(l:List Int)(hl:l.length=n)(hn:n≤1048576)(hA:F.jr w a l) :
  Calls Tryz.prog 48 #[.pointer (some ⟨m.Bb,0,none⟩),.slice a n c] w fun e w'=>e=.returned (.string ⟨(q3c L.T l).toArray⟩)∧Below w.heap.size w w':=by
 obtain⟨N0,hN⟩:∃N,w.heap.size=N:=⟨_,rfl⟩;have HN:=hid hN;have WD:Hid (∀wx,Below N0 w wx→∀x:Int,Calls Tryz.prog 95 #[.pointer (some ⟨m.Bb,0,none⟩),.int .i64 x] wx fun e w'=>e=.returned (.string (q2g L.T x))∧Below wx.heap.size wx w'):=fun wx hb x=>qpd (h.below (by rw[hN];exact hb)) hT x
 have HL:=hid hl;have HA:=hid hA;have HM:=hid hm;have HW:Hid (Below N0 w (w.alloc (.cells #[.pointer none,.slice none 0 0] 137))∧S.q55 (w.alloc (.cells #[.pointer none,.slice none 0 0] 137)) N0 (.slice none 0 0) []):=by
  refine⟨by rw[←hN];exact S.qg _ _,⟨_,.inl rfl,by rw[←hN];exact World.alloc_heap_new w _⟩,World.ownsRow_nil _ _ _ _,fun _=>rfl⟩
 rw[hN];generalize m.Bb=Bb at *;generalize L.T=T at *;clear h hl hA hm;go_enter Tryz.func48,Tryz.ntmps48;go_wp2_with fail;clear hN
 go_loopw [10] (fun v10 wx=>∃(j:Nat) (v:Value) (bs:List UInt8),j≤n∧v10=.int .i64 j∧Hid (S.q55 wx N0 v bs)∧Hid (bs=q3c T (l.take j))∧Hid (Below N0 w wx)) (fun v10 _=>n - (intOf v10).toNat)
 case atStart=>exact⟨0,_,[],Nat.zero_le _,rfl,HW.out.2,rfl,HW.out.1⟩
 case round =>
  obtain⟨j,v,bs,hj,rfl,hU,hE,hB⟩:=hrel;have HNr:Hid (N0≤wr.heap.size):=by have h1:=hB.out.size;have h2:=HN.out;show N0≤_;omega
  by_cases hlt:j < n
  ·have n1:(j:Int) < (n:Int):=by omega
   obtain⟨x,hx⟩:∃x,l[j]?=some x:=⟨_,gEq (by rw[HL.out];exact hlt)⟩;obtain⟨g,off,rfl,y0⟩:=HA.out j x hx;replace y0:=ug y0 HN.out hB.out;have hlen:Hid (bs.length≤68720525312):=by
    have h1:=qiv HM.out (l.take j);rw[←hE.out,List.length_take] at h1
    show _≤_
    omega
   have HS:Hid (q3c T (l.take (j + 1))=if (l.take j).length=0 then (q2g T x).data.toList else q3c T (l.take j)++32 :: (q2g T x).data.toList):=by
    show _=_
    rw[List.take_add_one,hx,Option.toList_some];exact qgi T x _
   have HTL:Hid ((l.take j).length=j):=by show _=_;rw[List.length_take,HL.out];omega
   clear hx
   by_cases hz:j=0
   ·have nz:¬(0:Int) < (j:Int):=by omega
    have E2:Hid (bs++(q2g T x).data.toList=q3c T (l.take (j + 1))):=by
     show _=_
     rw[HS.out,if_pos (by rw[HTL.out];exact hz),hE.out,hz]
     rfl
    clear hz;have WW:Hid _:=WD.out wr hB.out x;go_wp2_with fail;refine cMo WW.out ?_;rintro e w1 ⟨rfl,hb1⟩;have BU1:Hid (S.q55 w1 N0 v bs):=(hU.out).down hb1;have HB1:Hid (Below N0 w w1):=hB.out.trans (hb1.mono HNr.out);obtain⟨p,hp,hk⟩:=BU1.out.box;have WT:Hid _:=S.qbo w1 N0 v p bs (q2g T x) hp hk BU1.out.own (by have h1:=hlen.out;have h2:=HM.out x;omega);clear hb1 hp hk WW;go_wp2_with fail;refine cMo WT.out ?_;rintro e w2 ⟨rfl,v2,hk2,ho2,hg2⟩;have BU2:Hid (S.q55 w2 N0 v2 (bs++(q2g T x).data.toList)):=⟨⟨_,.inr rfl,hk2⟩,ho2,fun e=>absurd (List.append_eq_nil_iff.1 e).2 (qgh T x)⟩;have HB2:Hid (Below N0 w w2):=HB1.out.trans (hg2.under BU1.out (Nat.le_refl _));clear hk2 ho2 hg2 WT
    go_wp2
    exact⟨⟨j + 1,v2,_,by omega,by go_num,BU2.out,E2.out,HB2.out⟩,by simp[intOf];omega⟩
   ·have nz:(0:Int) < (j:Int):=by omega
    have E2:Hid ((bs++[32])++(q2g T x).data.toList=q3c T (l.take (j + 1))):=by
     show _=_
     rw[HS.out,if_neg (by rw[HTL.out];exact hz),hE.out,List.append_assoc]
     rfl
    clear hz;obtain⟨p0,hp0,hk0⟩:=hU.out.box;have BY:Hid _:=S.qmq wr N0 v p0 bs 32 32 rfl hp0 hk0 hU.out.own (by have h1:=hlen.out;omega);clear hp0 hk0;go_wp2_with fail;refine cMo BY.out ?_;rintro e w3 ⟨rfl,v3,hk3,ho3,hg3⟩;have BU3:Hid (S.q55 w3 N0 v3 (bs++[32])):=⟨⟨_,.inr rfl,hk3⟩,ho3,fun e=>by simp at e⟩;have HB3:Hid (Below N0 w w3):=hB.out.trans (hg3.under hU.out (Nat.le_refl _));have HN3:Hid (N0≤w3.heap.size):=by have h1:=HB3.out.size;have h2:=HN.out;show N0≤_;omega
    clear hk3 ho3 hg3 BY;have WW:Hid _:=WD.out w3 HB3.out x;go_wp2_with fail;refine cMo WW.out ?_;rintro e w1 ⟨rfl,hb1⟩;have BU1:Hid (S.q55 w1 N0 v3 (bs++[32])):=(BU3.out).down hb1;have HB1:Hid (Below N0 w w1):=HB3.out.trans (hb1.mono HN3.out);obtain⟨p,hp,hk⟩:=BU1.out.box;have WT:Hid _:=S.qbo w1 N0 v3 p (bs++[32]) (q2g T x) hp hk BU1.out.own (by have h1:=(show (bs++[32]).length≤68720525313 by have h1:=hlen.out;simp;omega);have h2:=HM.out x;omega);clear hb1 hp hk WW;go_wp2_with fail;refine cMo WT.out ?_;rintro e w2 ⟨rfl,v2,hk2,ho2,hg2⟩;have BU2:Hid (S.q55 w2 N0 v2 ((bs++[32])++(q2g T x).data.toList)):=⟨⟨_,.inr rfl,hk2⟩,ho2,fun e=>absurd (List.append_eq_nil_iff.1 e).2 (qgh T x)⟩;have HB2:Hid (Below N0 w w2):=HB1.out.trans (hg2.under BU1.out (Nat.le_refl _));clear hk2 ho2 hg2 WT
    go_wp2
    exact⟨⟨j + 1,v2,_,by omega,by go_num,BU2.out,E2.out,HB2.out⟩,by simp[intOf];omega⟩
  ·have n1:¬(j:Int) < (n:Int):=by omega
   have hall:l.take j=l:=List.take_of_length_le (by rw[HL.out];omega);have E2:Hid (bs=q3c T l):=by have h:=hE.out;rw[hall] at h;exact h
   have ST:Hid _:=S.qpc wr N0 v bs hU.out;clear hall hE;go_wp2_with fail;refine cMo ST.out ?_;rintro e w4 ⟨rfl,hb4⟩;have HB4:Hid (Below N0 w w4):=hB.out.trans (hb4.mono (Nat.le_succ _));clear hb4 ST
   go_wp2
   go_ret
   exact⟨by rw[E2.out];rfl,HB4.out⟩
end
end B
namespace S.K
open Go.RowKit
end S.K
namespace B
open Go.RowKit
open S (Tok Stm)
theorem qgj:∀(a b:List Stm) (L:Ld),q0a L (a++b)=match q0a L a with | .ok L1=>q0a L1 b | .error f=>.error f
 | [],b,L=>rfl
 | s :: a,b,L=>by
  rw[List.cons_append,q0a,q0a]
  cases qp L s with
  | ok L1=>exact qgj a b L1
  | error f=>rfl
def qpe (s:ByteArray)(i:Nat)(f:Tok × Int):Prop:=∀(s':ByteArray) (rest:List Tok),S.q3k s'=(S.q3k s).take (i + 1)++rest→q2t s'=.error f
theorem qpe.up {s:ByteArray}{i j:Nat}{f:Tok × Int}(h:qpe s i f)(hij:i≤j):qpe s j f:=fun s' rest e=>by
 refine h s' (((S.q3k s).take (j + 1)).drop (i + 1)++rest) ?_;rw[e,←List.append_assoc]
 congr 1
 have:=List.take_append_drop (i + 1) ((S.q3k s).take (j + 1))
 rw[List.take_take,Nat.min_eq_left (by omega)] at this;exact this.symm
def q7l:ByteArray:=⟨#[36,99,32,40,32,45,62,32,124,45,32,119,102,102,32,36,46,32,36,118,32,112,32,113,32,36,46,32,119,112,32,36,102,32,119,102,102,32,112,32,36,46,32,119,113,32,36,102,32,119,102,102,32,113,32,36,46,32,119,105,32,36,97,32,119,102,102,32,40,32,112,32,45,62,32,113,32,36,46,32,36,123,32,109,110,32,36,101,32,124,45,32,112,32,36,46,32,36,100,32,112,32,113,32,36,46,32,109,112,32,36,97,32,124,45,32,40,32,112,32,45,62,32,113,32,36,46,32,36,125,32,105,100,32,36,112,32,124,45,32,112,32,36,61,32,119,112,32,36,46]⟩
def qiw:ByteArray:=⟨#[36,99,32,97,32,97,32,36,46]⟩
def q7m:List Stm:=(S.q1h q7l).1.l
def getL (r:Res Ld):Ld:=match r with
 | .ok L=>L
 | .error _=>ld0
def L7:Ld:=getL (q0a ld0 (q7m.take 7))
def s8:Stm:=match q7m.drop 7 with
 | s :: _=>s
 | []=>S.newS 0 S.q2l S.q2l
def qpf:List Stm:=q7m.drop 8
def L8:Ld:={ L7 with sc:=F.q19 (fun a=>⟨a.hs,a.ps++(F.q6i [4,5]).filter fun p=>!F.q3r (F.uq L7.sc) p⟩) L7.sc }
def LS:Ld:=getL (q0a L8 qpf)
def aS:As:=match LS.al.drop 1 with
 | a :: _=>a
 | []=>⟨S.q2l,false,[],[],[],[],[],[],S.q2l⟩
set_option maxRecDepth 1000000
theorem qix:(S.q1h q7l).2=none:=by kernel_rfl
theorem qgk:q7m=q7m.take 7++s8 :: qpf:=by kernel_rfl
theorem qgl:q0a ld0 (q7m.take 7)=.ok L7:=by kernel_rfl
theorem qmr:q4t L7 s8.label=.ok L7:=by kernel_rfl
theorem qiy:jd L7 s8=q36 L7 s8:=by kernel_rfl
theorem qiz:q1u L7 [] (q04 (F.uq L7.sc)) s8.words=.ok [4,5]:=by kernel_rfl
theorem qms:q0i s8.fin=true:=by kernel_rfl
theorem qpg:([4,5]:List Int).filter (zu L7.T)=[4,5]:=by kernel_rfl
theorem ms45:([4,5]:List Int).mergeSort (fun x y=>decide (x≤y))=[4,5]:=by
 simp[List.mergeSort]
theorem cp45:Lib.compact ([4,5]:List Int)=[4,5]:=by kernel_rfl
theorem qph:F.varsOf (isV:=zu L7.T) [4,5]=[4,5]:=by
 unfold F.varsOf;rw[qpg,ms45,cp45]
theorem qbp:F.q1t (isV:=zu L7.T) L7.sc [4,5]=0:=by
 unfold F.q1t F.q2s;rw[qph]
 kernel_rfl
theorem qgm:qp L7 s8=.ok L8:=by
 unfold qp;rw[qmr];dsimp only;rw[qiy];unfold q36;rw[qiz];dsimp only;rw[if_pos qms,qbp];unfold uh;rw[if_pos rfl];unfold F.q1j;rw[if_pos qbp];unfold F.q2s;rw[qph]
 rfl
theorem qj0:q0a L8 qpf=.ok LS:=by kernel_rfl
theorem qj1:¬1 < LS.sc.length:=by
 have h:decide (1 < LS.sc.length)=false:=by kernel_rfl
 exact of_decide_eq_false h
theorem qpi:q2t q7l=.ok LS:=by
 have hl:q0a ld0 (S.q1h q7l).1.l=.ok LS:=by
  show q0a ld0 q7m=_
  rw[qgk,qgj,qgl];dsimp only;rw[q0a,qgm];exact qj0
 unfold q2t;rw[hl];dsimp only;rw[qix];dsimp only;rw[if_neg qj1]
theorem qpj:q2t qiw=.error (⟨⟨#[97]⟩,5,1,6⟩,20):=by kernel_rfl
theorem qgn:LS.al.length=3:=by kernel_rfl
theorem qd7:LS.T.syms.length=6:=by kernel_rfl
theorem qpk:LS.al[1]?=some aS:=by kernel_rfl
theorem qgo:aS.label.text=⟨#[109,112]⟩:=by kernel_rfl
theorem qmt:aS.thm=false:=by kernel_rfl
theorem q8c:aS.needed.length=3:=by kernel_rfl
theorem q9l:aS.apart.length=1:=by kernel_rfl
theorem qj2:q3c LS.T aS.goal=[124,45,32,40,32,112,32,45,62,32,113]:=by kernel_rfl
theorem q9b:aS.goal.length=5:=by kernel_rfl
def qe5 (hy:List F.Hy)(l:List Int):Bool:=l.all fun p=>decide (0≤p) && decide (p.toNat < hy.length)
theorem qd8 {hy:List F.Hy}{l:List Int}(h:qe5 hy l=true):∀p ∈ l,∃i:Nat,p=i∧i < hy.length:=fun p hp=>by
 have h1:=List.all_eq_true.1 h p hp;rw[Bool.and_eq_true] at h1;have h2:=of_decide_eq_true h1.1;exact⟨p.toNat,by omega,of_decide_eq_true h1.2⟩
theorem qpl:qi7 LS.hy aS:=by
 have h1:decide (aS.active.length≤1048576)=true:=by kernel_rfl
 have h2:qe5 LS.hy aS.needed=true:=by kernel_rfl
 have h3:qe5 LS.hy aS.active=true:=by kernel_rfl
 have h4:decide (aS.pairs.length≤1048576)=true:=by kernel_rfl
 have h5:decide (aS.proof.length≤1048576)=true:=by kernel_rfl
 have h6:(LS.hy.all fun y=>decide (y.ex.length≤17592186044416))=true:=by kernel_rfl
 exact⟨by rw[q9b];omega,⟨by rw[q8c];omega,qd8 h2⟩,by rw[q9l];omega,⟨of_decide_eq_true h1,qd8 h3⟩,of_decide_eq_true h4,of_decide_eq_true h5,fun y hy=>of_decide_eq_true (List.all_eq_true.1 h6 y hy)⟩
theorem qgp:∀n,(q2g LS.T n).size≤65536:=fun n=>by
 have h:(LS.T.syms.all fun p=>decide (p.1.size≤65536))=true:=by kernel_rfl
 have hn:(q48 LS.T n).size≤65536:=by
  unfold q48 Y.q2w
  split
  ·cases hs:LS.T.syms[n.toNat]? with
   | none=>exact Nat.zero_le _
   | some p=>exact of_decide_eq_true (List.all_eq_true.1 h p (mGe hs))
  ·exact Nat.zero_le _
 unfold q2g
 split
 ·decide
 ·exact hn
end B
end Go.Proofs.YtbancemhfjjmlaaGreatDoor
