/- Laid together. -/
import Derived.Test.YtbancemhfjjmlaaGreatDoorQB16
import Derived.Test.YtbancemhfjjmlaaGreatDoorQB14
import Derived.Defers
import Derived.Great.BuildSlice
set_option maxRecDepth 100000
set_option maxHeartbeats 32000000
namespace Go.Proofs.YtbancemhfjjmlaaGreatDoor
namespace B
open Go.RowKit
open S (Tok Stm)
theorem q8h:∀(l:List S.Itm) (i j:Nat) (x:S.Itm),l[i]?=some x→j < 16→(S.q42 l)[i * 16 + j]?=(S.q5b x)[j]?
 | [],i,j,x,h,_=>by simp at h
 | y :: r,0,j,x,h,hj=>by
  simp at h;subst h;have e:S.q42 (y :: r)=(S.q5b y).toList++S.q42 r:=rfl;have hlen:(S.q5b y).toList.length=16:=rfl;rw[e,Nat.zero_mul,Nat.zero_add,List.getElem?_append_left (by omega),Array.getElem?_toList]
 | y :: r,i + 1,j,x,h,hj=>by
  have e:S.q42 (y :: r)=(S.q5b y).toList++S.q42 r:=rfl;have hlen:(S.q5b y).toList.length=16:=rfl;have h2:r[i]?=some x:=by simpa using h
  rw[e,List.getElem?_append_right (by omega)];have e2:(i + 1) * 16 + j - (S.q5b y).toList.length=i * 16 + j:=by omega
  rw[e2];exact q8h r i j x h2 hj
structure qjw (txt:ByteArray):Prop where
 len:(S.je txt).1.l.length≤16384
 each:∀s ∈ (S.je txt).1.l,q1e s∧s.label.text.size≤65536∧s.words.length≤16384∧s.proof.length≤16384∧∀t ∈ s.words,t.text.size≤65536
theorem q7c (txt:ByteArray):qjw txt:=⟨(qaf txt).1,fun s hs=>by
 obtain⟨h1,h2,h3⟩:=(qaf txt).2 s hs
 exact⟨⟨h1.lab,fun e he=>(h1.two e).2 he⟩,h1.ls,h2,h3,h1.ws⟩⟩
def Loaded (w:World)(txt:ByteArray)(e:Ending)(w':World):Prop:=Below w.heap.size w w'∧match q1j txt with
 | .ok L=>∃lb m,e=.returned (.tuple #[.pointer (some ⟨m.Bb,0,none⟩),.pointer none])∧xg w.heap.size w' lb txt 1000000000 L (Y.numOf L.T.syms) m
 | .error f=>∃B,e=.returned (.tuple #[.pointer none,.pointer (some ⟨B,0,none⟩)])∧w.heap.size≤B∧w'.heap[B]?=some (.cells (q58 f.1 f.2) 31 (0,0))
theorem frz {W:World}{b T:Nat}{cs:Array Value}(h:W.heap[b]?=some (.cells cs T (0,0))):W.frozen? ⟨b,0,none⟩=false:=by
 unfold World.frozen?;simp[h]
theorem qhf {X:Nat→Prop}{N:Nat}{w w2 w3:World}(h:Below N w w2)(hN:N≤w2.heap.size)(hc:S.M.Ch X w2 w3)(hX:∀b,X b→N≤b):Below N w w3 :=
 ⟨hc.os.trans h.os,hc.tape.trans h.tape,hc.output.trans h.output,nLt h.size hc.size,fun b hb=>(hc.block b (by omega) fun hh=>by have:=hX b hh;omega).trans (h.block b hb)⟩
theorem qcc {W:World}{A B:Nat}{x y:Value}(hAB:A≠B)(hA:W.cell? ⟨A,0,none⟩=some x)(hB:W.cell? ⟨B,0,none⟩=some y)(u v:Value):((W.setCell ⟨A,0,none⟩ u).setCell ⟨B,0,none⟩ v).cell? ⟨A,0,none⟩=some u∧((W.setCell ⟨A,0,none⟩ u).setCell ⟨B,0,none⟩ v).cell? ⟨B,0,none⟩=some v:=by
 have hBA:B≠A:=fun e=>hAB e.symm
 constructor <;> simp[go_sem,hA,hB]
theorem qcd {w w6:World}(hb:Below w.heap.size w w6)(u v:Value):Below w.heap.size w ((w6.setCell ⟨w.heap.size,0,none⟩ u).setCell ⟨w.heap.size + 1,0,none⟩ v):=(hb.setCell (p:=⟨w.heap.size,0,none⟩) (Nat.le_refl _) u).setCell (p:=⟨w.heap.size + 1,0,none⟩) (Nat.le_succ _) v
theorem qdu {w w6:World}{txt:ByteArray}{b:Nat}{f:Tok × Int}(hF:q1j txt=.error f)(hb:Below w.heap.size w w6)(hlt:w.heap.size + 2≤b)(q:w6.heap[b]?=some (.cells (q58 f.1 f.2) 31 (0,0))):Loaded w txt (.returned (.tuple #[.pointer none,.pointer (some ⟨b,0,none⟩)])) ((w6.setCell ⟨w.heap.size,0,none⟩ (.pointer none)).setCell ⟨w.heap.size + 1,0,none⟩ (.pointer (some ⟨b,0,none⟩))):=by
 unfold Loaded;rw[hF];refine⟨qcd hb _ _,b,rfl,by omega,?_⟩;rw[Below.heap_setCell _ _ _ _ (by show b≠w.heap.size + 1;omega),Below.heap_setCell _ _ _ _ (by show b≠w.heap.size;omega)];exact q
theorem qgm.down {N N':Nat}{W:World}{lb:Nat}{m:LdM}(h:qgm N W lb m)(hN:N'≤N):qgm N' W lb m :=
 ⟨h.lbox,h.lh,fun y hy=>⟨S.M.qp (h.e y hy).1 hN,(h.e y hy).2⟩,fun x hx=>⟨⟨S.M.qp (h.a x hx).1.g hN,S.M.qp (h.a x hx).1.n hN,S.M.qp (h.a x hx).1.p hN,S.M.qp (h.a x hx).1.a hN,S.M.qp (h.a x hx).1.q hN,S.M.qp (h.a x hx).1.f hN⟩,(h.a x hx).2⟩⟩
theorem xg.down {N N':Nat}{W:World}{lb:Nat}{txt:ByteArray}{k:Nat}{L:Ld}{nf:ByteArray→Option Nat}{m:LdM}(h:xg N W lb txt k L nf m)(hN:N'≤N):xg N' W lb txt k L nf m :=
 ⟨h.cold.down hN,h.bbox,h.tab,h.stk,h.sca,h.num,S.M.qp h.hyr hN,h.hya,h.hym,S.M.qp h.asr hN,h.asa,h.asm,h.ta,h.qa,h.ne,fun b hb=>nLt hN (h.low b hb),nLt hN h.ge⟩
theorem item_at {w0 w1 w2:World}{v fv:Value}{its:List S.Itm}{P:S.PS}{f:Option (Tok × Int)}{N:Nat}{m:LdM}(h:S.q8w w0 w1 v fv its P f)(hN:N≤w0.heap.size)(hb:Below w1.heap.size w1 w2)(hm:∀b,m.hot b→w1.heap.size≤b){x:S.Itm}(hx:x ∈ its)(hz:x.s.label.text.size≤65536∧x.s.words.length≤16384∧x.s.proof.length≤16384∧∀t ∈ x.s.words,t.text.size≤65536):q1a N m w2 x.s x.vw x.vp:=by
 have hI:=h.all x hx;refine⟨S.M.qp (S.M.qh hI.ow (S.M.Ch.oB (X:=fun _=>False) hb) fun _ _ e=>e) hN,S.M.qp (S.M.qh hI.op (S.M.Ch.oB (X:=fun _=>False) hb) fun _ _ e=>e) hN,fun b e hh=>?_,fun b e hh=>?_,hz.2.1,hz.2.2.1,hz.2.2.2,hz.1⟩
 ·have h1:=S.M.jr hI.ow b e;have h2:=hm b hh;omega
 ·have h1:=S.M.jr hI.op b e;have h2:=hm b hh;omega
theorem ld0_ok:Ld.Ok ld0 0:=by
 refine⟨?_,Nat.le_refl _,by decide,Nat.zero_le _,List.Sublist.refl _,(fun h hh=>by cases hh),Nat.zero_le _,(fun p hp=>by cases hp),?_⟩
 ·exact⟨Nat.zero_le _,Nat.zero_le _,Nat.zero_le _,(fun p hp=>by cases hp),List.nodup_nil,(fun n hn=>by cases hn),(fun l hl=>by cases hl),fun l hl=>by cases hl⟩
 ·rintro s (h | h) <;> cases h
theorem qjx {w0 w1 w2 wr:World}{v fv:Value}{its:List S.Itm}{P:S.PS}{f:Option (Tok × Int)}{N lb k:Nat}{txt:ByteArray}{m:LdM}{L:Ld}{nf:ByteArray→Option Nat}{k0:Nat}{L0:Ld}{nf0:ByteArray→Option Nat}(h:S.q8w w0 w1 v fv its P f)(hN:N≤w0.heap.size)(hN1:1 < N)(hb:Below w1.heap.size w1 w2)(hm:∀b,m.hot b→w1.heap.size≤b)(h0:xg N w2 lb txt k0 L0 nf0 m)(hKB:Y.KB w2)(hG:Goes N w2 lb txt m k L nf wr){x:S.Itm}(hx:x ∈ its)(hz:x.s.label.text.size≤65536∧x.s.words.length≤16384∧x.s.proof.length≤16384∧∀t ∈ x.s.words,t.text.size≤65536) :
  ∃m',xg N wr lb txt k L nf m'∧q1a N m' wr x.s x.vw x.vp∧Y.KB wr∧S.M.Ch m.hot w2 wr∧∀b,m'.hot b→m.hot b∨w2.heap.size≤b:=by
 obtain⟨c,m',i,g⟩:=hG;exact⟨m',i,(item_at h hN hb hm hx hz).ch c (fun _=>id) g,qae hKB hN1 h0 c,c,g⟩
theorem qce {P:Program}{fn:Func}{t t':Array Value}{R:Ending→World→Prop}(h:results fn t=results fn t'):∀ds:List Deferred,Leaves P fn t R ds=Leaves P fn t' R ds
 | []=>by
  funext u w
  cases u <;> simp only[Leaves,h]
 | d :: ds=>by
  funext u w
  simp only[Leaves,qce h ds]
theorem res9 (t:Array Value)(d:Nat)(v:Value)(h:3 < d):results Tryz.f9 (t.setIfInBounds d v)=results Tryz.f9 t:=by
 have h2:d≠2:=by omega
 have h3:d≠3:=by omega
 simp[results,Tryz.results9,h2,h3,Array.getElem?_setIfInBounds]
theorem qr4 {R:Ending→World→Prop}{K K1:Act→World→Prop}{c:List PanicEntry}{a:Act}{w:World}{d:Nat}{v:Value}(hd:3 < d)(h:Exit.then K (Exit.then K1 (bodyPostD Tryz.prog Tryz.f9 R)) (.panic c) (a.put (some d) v) w):Exit.then K (Exit.then K1 (bodyPostD Tryz.prog Tryz.f9 R)) (.panic c) a w:=by
 show Leaves Tryz.prog Tryz.f9 a.tmps R a.defers (.panicking c) w
 have h':Leaves Tryz.prog Tryz.f9 (a.tmps.setIfInBounds d v) R a.defers (.panicking c) w:=h
 rwa [qce (res9 a.tmps d v hd)] at h'
theorem qcf (w:World)(txt:ByteArray)(hz:txt.size≤281474976710656)(hR:S.RdW w)(hOk:qjw txt):Calls Tryz.prog 9 #[.string txt] w (Loaded w txt):=by
 have hmf:∀(fn:Fn) (first cap:Array Value) (w:World),(Instr.makeFunc fn first cap).run Tryz.prog w=.ok (.func fn first cap) w:=fun _ _ _ _=>rfl
 obtain⟨w0,hw0⟩:=eXb ((w.alloc (.cells #[.pointer none] 22)).alloc (.cells #[.pointer none] 23));have HW0:=hid hw0;have B0:Hid (Below w.heap.size w w0):=by show Below _ _ _;rw[←hw0];exact (S.qg _ _).trans ((S.qg _ _).mono (by simp))
 have RD:Hid (Calls Tryz.prog 54 #[.string txt] w0 (S.q0q w0 txt)):=S.qff w0 txt hz (hR.under B0.out);have NW:Hid (∀wx,Calls Tryz.prog 55 #[.string txt] wx fun e w'=>∃lb,e=.returned (.pointer (some ⟨lb,0,none⟩))∧qlc wx txt lb w'):=fun wx=>qcw wx txt (by omega)
 have HK:Hid (S.RdW w∧qjw txt):=⟨hR,hOk⟩;have HZ:=hid hz;have X0:Hid (w0.heap[w.heap.size]?=some (.cells #[.pointer none] 22 (0,0))∧w0.heap[w.heap.size + 1]?=some (.cells #[.pointer none] 23 (0,0))∧w0.heap.size=w.heap.size + 2):=by
  show _∧_∧_
  rw[←hw0];refine⟨?_,?_,by simp⟩
  ·exact ((S.qg (w.alloc (.cells #[.pointer none] 22)) (.cells #[.pointer none] 23)).block _ (by simp)).trans (World.alloc_heap_new w _)
  ·have:=World.alloc_heap_new (w.alloc (.cells #[.pointer none] 22)) (.cells #[.pointer none] 23)
   simpa using this
 clear hR hOk hz
 go_enter_defers Tryz.func9,Tryz.ntmps9
 go_wp2_with fail;clear hw0;refine cMo RD.out ?_;rintro e w1 ⟨v,fv,its,rfl,hRI⟩;have RI:=hid hRI;obtain⟨av,cv,rfl,_⟩:=S.ql hRI.own;clear hRI RD;go_wp2_with fail;refine cMo (NW.out w1) ?_;rintro e w2 ⟨lb,rfl,hN⟩;obtain⟨⟨m,hm⟩,hlb,hb2⟩:=hN;have HM:Hid (xg w0.heap.size w2 lb txt 0 ld0 (Y.numOf ld0.T.syms) m∧(∀b,m.hot b→w1.heap.size≤b)∧Below w1.heap.size w1 w2):=⟨hm.down RI.out.bel.size,hm.low,hb2⟩;have HLB:=hid hlb;clear hm hlb hb2 NW;have LN:Hid (its.map (·.s)=(S.je txt).1.l):=RI.out.l;have hn:its.length≤16384:=by have h1:=HK.out.2.len;rw[←LN.out,lMa] at h1;exact h1
 obtain⟨n,hnn⟩:=eXb its.length;have HL:=hid hnn;rw[hnn] at hn;have HS:Hid (Below w.heap.size w w1):=B0.out.trans (RI.out.bel.mono B0.out.size);have K2:Hid (Y.KB w2∧1 < w0.heap.size):=by
  have h1:Y.KB w:=HK.out.1.kb;have h2:=h1.pos;exact⟨(h1.kept (HS.out.block 1 h2)).kept (HM.out.2.2.block 1 (by have:=HS.out.size;omega)),by have:=X0.out.2.2;omega⟩
 go_wp2_with fail;clear hnn
 go_loopw [21] (fun v21 wr=>∃(j:Nat) (L:Ld),j≤n∧v21=.int .i64 j∧Hid (wu ld0 (its.map (·.s))=wu L ((its.drop j).map (·.s)))∧Hid (L.Ok (60000 * j))∧Hid (Goes w0.heap.size w2 lb txt m (60000 * j) L (Y.numOf L.T.syms) wr)) (fun v21 _=>n - (intOf v21).toNat)
 case atStart=>exact⟨0,ld0,Nat.zero_le _,rfl,rfl,ld0_ok,Goes.same HM.out.1 bRf⟩
 case round =>
  obtain⟨j,L,hj,rfl,hR,HO,HG⟩:=hrel
  by_cases hlt:j < n
  ·have n1:(j:Int) < (n:Int):=by omega
   obtain⟨x,hx⟩:∃x,its[j]?=some x:=⟨_,gEq (by rw[HL.out];exact hlt)⟩;have hdr:its.drop j=x :: its.drop (j + 1):=by
    obtain⟨hlt2,e2⟩:=List.getElem?_eq_some_iff.1 hx;rw[List.drop_eq_getElem_cons hlt2,e2]
   have hmem:x ∈ its:=mGe hx;have hsx:=HK.out.2.each x.s (by rw[←LN.out];exact List.mem_map_of_mem hmem);obtain⟨m1,i1,s1,kb1,c1,g1⟩:=qjx RI.out (Nat.le_refl _) K2.out.2 HM.out.2.2 HM.out.2.1 HM.out.1 K2.out.1 HG.out hmem hsx.2;obtain⟨aw,cw,ew,_⟩:=s1.words;obtain⟨ap,cp,ep,_⟩:=S.wo s1.op;have R2:Hid (wu ld0 (its.map (·.s))=match qm L x.s with | .ok L1=>wu L1 ((its.drop (j + 1)).map (·.s)) | .error f=>.error f):=hR.out.trans (by rw[hdr,List.map_cons,wu] <;> cases qm L x.s <;> rfl);have HI:Hid (xg w0.heap.size wr lb txt (60000 * j) L (Y.numOf L.T.syms) m1∧q1a w0.heap.size m1 wr x.s x.vw x.vp∧Y.KB wr∧S.M.Ch m.hot w2 wr∧(∀b,m1.hot b→m.hot b∨w2.heap.size≤b)∧q1e x.s∧x.s.label.text.size≤65536∧x.s.words.length≤16384):=⟨i1,s1,kb1,c1,g1,hsx.1,hsx.2.1,hsx.2.2.1⟩;obtain⟨av',cv',eav,_,hcell⟩:=S.M.xq RI.out.own
   cases eav;obtain⟨g,had,_⟩:=hcell (j * 16 + 0) _ (q8h its j 0 x hx (by omega));subst had;have y:∀i,i < 16→wr.cell? ⟨g,j * 16 + i,none⟩=(S.q5b x)[i]?:=fun i hi=>by
    obtain⟨u,hu⟩:∃u,(S.q5b x)[i]?=some u:=⟨_,Array.getElem?_eq_getElem (show i < 16 from hi)⟩;obtain⟨g2,e2,h2⟩:=hcell (j * 16 + i) u ((q8h its j i x hx hi).trans hu)
    cases e2;rw[hu];have hlt:=bLt h2;have hk:=HM.out.2.2.cell (p:=⟨g,j * 16 + i,none⟩) hlt;refine (World.cell?_of_block (a:=⟨g,j * 16 + i,none⟩) ?_).trans (hk.trans h2);refine c1.block _ (by have:=HM.out.2.2.size;omega) fun hh=>?_
    have:=HM.out.2.1 _ hh
    omega
   have y0:wr.cell? ⟨g,j * 16,none⟩=some (.int .i64 x.s.kind):=(y 0 (by omega)).trans rfl;have y1:wr.cell? ⟨g,j * 16 + 1,none⟩=some (.string x.s.label.text):=(y 1 (by omega)).trans rfl;have y2:wr.cell? ⟨g,j * 16 + 2,none⟩=some (.int .i64 x.s.label.off):=(y 2 (by omega)).trans rfl;have y3:wr.cell? ⟨g,j * 16 + 3,none⟩=some (.int .i64 x.s.label.line):=(y 3 (by omega)).trans rfl;have y4:wr.cell? ⟨g,j * 16 + 4,none⟩=some (.int .i64 x.s.label.col):=(y 4 (by omega)).trans rfl;have y5:wr.cell? ⟨g,j * 16 + 5,none⟩=some (.string x.s.key.text):=(y 5 (by omega)).trans rfl;have y6:wr.cell? ⟨g,j * 16 + 6,none⟩=some (.int .i64 x.s.key.off):=(y 6 (by omega)).trans rfl;have y7:wr.cell? ⟨g,j * 16 + 7,none⟩=some (.int .i64 x.s.key.line):=(y 7 (by omega)).trans rfl;have y8:wr.cell? ⟨g,j * 16 + 8,none⟩=some (.int .i64 x.s.key.col):=(y 8 (by omega)).trans rfl;have y9:wr.cell? ⟨g,j * 16 + 9,none⟩=some (.bool x.s.proving):=(y 9 (by omega)).trans rfl;have y10:wr.cell? ⟨g,j * 16 + 10,none⟩=some (.slice aw x.s.words.length cw):=(y 10 (by omega)).trans (by show _=some _;rw[←ew];rfl);have y11:wr.cell? ⟨g,j * 16 + 11,none⟩=some (.slice ap x.s.proof.length cp):=(y 11 (by omega)).trans (by show _=some _;rw[←ep];rfl);have y12:wr.cell? ⟨g,j * 16 + 12,none⟩=some (.string x.s.fin.text):=(y 12 (by omega)).trans rfl;have y13:wr.cell? ⟨g,j * 16 + 13,none⟩=some (.int .i64 x.s.fin.off):=(y 13 (by omega)).trans rfl;have y14:wr.cell? ⟨g,j * 16 + 14,none⟩=some (.int .i64 x.s.fin.line):=(y 14 (by omega)).trans rfl;have y15:wr.cell? ⟨g,j * 16 + 15,none⟩=some (.int .i64 x.s.fin.col):=(y 15 (by omega)).trans rfl;have hba:Below wr.heap.size wr (wr.alloc (.cells #[.int .i64 x.s.kind,.string x.s.label.text,.int .i64 x.s.label.off,.int .i64 x.s.label.line,.int .i64 x.s.label.col,.string x.s.key.text,.int .i64 x.s.key.off,.int .i64 x.s.key.line,.int .i64 x.s.key.col,.bool x.s.proving,.slice aw x.s.words.length cw,.slice ap x.s.proof.length cp,.string x.s.fin.text,.int .i64 x.s.fin.off,.int .i64 x.s.fin.line,.int .i64 x.s.fin.col] 95)):=S.qg _ _
   have BA:=hid hba;have TK:Hid (Calls Tryz.prog 56 #[.pointer (some ⟨lb,0,none⟩),.agg #[.int .i64 x.s.kind,.string x.s.label.text,.int .i64 x.s.label.off,.int .i64 x.s.label.line,.int .i64 x.s.label.col,.string x.s.key.text,.int .i64 x.s.key.off,.int .i64 x.s.key.line,.int .i64 x.s.key.col,.bool x.s.proving,.slice aw x.s.words.length cw,.slice ap x.s.proof.length cp,.string x.s.fin.text,.int .i64 x.s.fin.off,.int .i64 x.s.fin.line,.int .i64 x.s.fin.col]] (wr.alloc (.cells #[.int .i64 x.s.kind,.string x.s.label.text,.int .i64 x.s.label.off,.int .i64 x.s.label.line,.int .i64 x.s.label.col,.string x.s.key.text,.int .i64 x.s.key.off,.int .i64 x.s.key.line,.int .i64 x.s.key.col,.bool x.s.proving,.slice aw x.s.words.length cw,.slice ap x.s.proof.length cp,.string x.s.fin.text,.int .i64 x.s.fin.off,.int .i64 x.s.fin.line,.int .i64 x.s.fin.col] 95)) (Does w0.heap.size (wr.alloc (.cells #[.int .i64 x.s.kind,.string x.s.label.text,.int .i64 x.s.label.off,.int .i64 x.s.label.line,.int .i64 x.s.label.col,.string x.s.key.text,.int .i64 x.s.key.off,.int .i64 x.s.key.line,.int .i64 x.s.key.col,.bool x.s.proving,.slice aw x.s.words.length cw,.slice ap x.s.proof.length cp,.string x.s.fin.text,.int .i64 x.s.fin.off,.int .i64 x.s.fin.line,.int .i64 x.s.fin.col] 95)) lb txt m1 (60000 * j + 60000) (qm L x.s))):=by
    have s2:=s1.below hba;rw[ew,ep] at s2;exact take_any (i1.below hba) HO.out (by omega) (kb1.kept (hba.block 1 kb1.pos)) K2.out.2 s2 hsx.1
   have AB:Hid (∀w6,S.M.Ch m1.hot (wr.alloc (.cells #[.int .i64 x.s.kind,.string x.s.label.text,.int .i64 x.s.label.off,.int .i64 x.s.label.line,.int .i64 x.s.label.col,.string x.s.key.text,.int .i64 x.s.key.off,.int .i64 x.s.key.line,.int .i64 x.s.key.col,.bool x.s.proving,.slice aw x.s.words.length cw,.slice ap x.s.proof.length cp,.string x.s.fin.text,.int .i64 x.s.fin.off,.int .i64 x.s.fin.line,.int .i64 x.s.fin.col] 95)) w6→w6.heap[w.heap.size]?=some (.cells #[.pointer none] 22 (0,0))∧w6.heap[w.heap.size + 1]?=some (.cells #[.pointer none] 23 (0,0))∧S.M.Ch m.hot w2 w6):=fun w6 hc=>by
    have hc2:S.M.Ch m.hot w2 w6:=qbu c1 g1 ((S.M.Ch.oB hba).trans hc);obtain⟨x1,x2,x3⟩:=X0.out;have z1:=RI.out.bel;have z2:=HM.out.2.2;have z3:=z1.size;have z4:=z2.size;have old:∀b,b < w0.heap.size→w6.heap[b]?=w0.heap[b]?:=fun b hb=>by
     refine (hc2.block b (by omega) fun hh=>by have:=HM.out.2.1 b hh;omega).trans ((z2.block b (by omega)).trans (z1.block b hb))
    exact⟨(old _ (by omega)).trans x1,(old _ (by omega)).trans x2,hc2⟩
   have KO:Hid (∀L1,qm L x.s=.ok L1→L1.Ok (60000 * j + 60000)):=fun L1 h1=>qdo HO.out hsx.1 hsx.2.1 hsx.2.2.1 h1
   clear y hcell hdr hx hmem hsx i1 s1 kb1 c1 hR HO HG hba
   cases hT:qm L x.s with
   | ok L1 =>
    rw[hT] at TK;have R3:Hid (wu ld0 (its.map (·.s))=wu L1 ((its.drop (j + 1)).map (·.s))):=R2.out.trans (by rw[hT]);have O1:Hid (L1.Ok (60000 * (j + 1))):=(KO.out L1 hT).up (by omega);clear R2 KO hT;go_wp2_with fail;refine cMo TK.out ?_;rintro ee w6 ⟨rfl,hg6⟩;have G6:Hid (Goes w0.heap.size w2 lb txt m (60000 * (j + 1)) L1 (Y.numOf L1.T.syms) w6):=(q34 HI.out.2.2.2.1 g1 (hg6.q18 BA.out)).up (by omega);clear hg6 TK AB BA HI g1
    go_wp2
    exact⟨⟨j + 1,L1,by omega,by go_num,R3.out,O1.out,G6.out⟩,by simp[intOf];omega⟩
   | error f =>
    rw[hT] at TK;have R3:Hid (wu ld0 (its.map (·.s))=.error f):=R2.out.trans (by rw[hT]);clear R2 KO hT;go_wp2_with fail;refine cMo TK.out ?_;rintro ee w6 ⟨hc6,b,rfl,q2,q3⟩;obtain⟨a1,a2,a3⟩:=AB.out w6 hc6;have FIN:Hid (Loaded w txt (.returned (.tuple #[.pointer none,.pointer (some ⟨b,0,none⟩)])) ((w6.setCell ⟨w.heap.size,0,none⟩ (.pointer none)).setCell ⟨w.heap.size + 1,0,none⟩ (.pointer (some ⟨b,0,none⟩)))):=by
     have hF:q1j txt=.error f:=by unfold q1j;rw[←LN.out,R3.out]
     have bw:Below w.heap.size w w6:=qhf (HS.out.trans (HM.out.2.2.mono HS.out.size)) (by have:=HS.out.size;have:=HM.out.2.2.size;omega) a3 fun b hb=>by have:=HM.out.2.1 b hb;have:=HS.out.size;omega
     have hq:w2.heap.size≤(wr.alloc (.cells #[.int .i64 x.s.kind,.string x.s.label.text,.int .i64 x.s.label.off,.int .i64 x.s.label.line,.int .i64 x.s.label.col,.string x.s.key.text,.int .i64 x.s.key.off,.int .i64 x.s.key.line,.int .i64 x.s.key.col,.bool x.s.proving,.slice aw x.s.words.length cw,.slice ap x.s.proof.length cp,.string x.s.fin.text,.int .i64 x.s.fin.off,.int .i64 x.s.fin.line,.int .i64 x.s.fin.col] 95)).heap.size:=nLt HI.out.2.2.2.1.size BA.out.size;have h5:=HM.out.2.2.size;have h6:=RI.out.bel.size;have h7:=X0.out.2.2;exact qdu hF bw (by omega) q2
    have cA:w6.cell? ⟨w.heap.size,0,none⟩=some (.pointer none):=S.M.qc a1 0;have cB:w6.cell? ⟨w.heap.size + 1,0,none⟩=some (.pointer none):=S.M.qc a2 0;have zA:w6.frozen? ⟨w.heap.size,0,none⟩=false:=frz a1;have zB:w6.frozen? ⟨w.heap.size + 1,0,none⟩=false:=frz a2;obtain⟨f1,f2⟩:=qcc (by omega:w.heap.size≠w.heap.size + 1) cA cB (.pointer none) (.pointer (some ⟨b,0,none⟩));clear TK AB BA HI g1 hc6 q2 q3 a1 a2 a3 R3;refine leaves_cons (f:=52) (args:=#[.pointer (some ⟨w.heap.size,0,none⟩),.pointer (some ⟨w.heap.size + 1,0,none⟩)]) (by simp) (by simp[go_sem]) ?_;refine (qhe w.heap.size (w.heap.size + 1) b (by omega) [] w6 none none cA cB zA zB).mono ?_;rintro e u' w'' ⟨rfl,rfl,rfl⟩;simp[Leaves,settle,results,Tryz.results9,go_sem,f1,f2];exact FIN.out
  ·have n1:¬(j:Int) < (n:Int):=by omega
   have hjn:j=n:=by omega
   subst hjn;have R2:Hid (wu ld0 (its.map (·.s))=.ok L):=hR.out.trans (by rw[List.drop_eq_nil_of_le (by rw[HL.out];exact Nat.le_refl _)];rfl);clear hR;obtain⟨c9,m9,i9,g9⟩:=HG.out;have hz1:=RI.out.bel.size;have hz2:=HM.out.2.2.size;have hz0:=X0.out.2.2;have hz9:=c9.size;have old:∀b,b < w0.heap.size→wr.heap[b]?=w0.heap[b]?:=fun b hb=>(c9.block b (by omega) fun hh=>by have:=HM.out.2.1 b hh;omega).trans ((HM.out.2.2.block b (by omega)).trans (RI.out.bel.block b hb))
   have a1:=(old _ (by omega)).trans X0.out.1;have a2:=(old _ (by omega)).trans X0.out.2.1;have BW:Hid (Below w.heap.size w wr):=qhf (HS.out.trans (HM.out.2.2.mono HS.out.size)) (by have:=HS.out.size;omega) c9 fun b hb=>by have:=HM.out.2.1 b hb;have:=HS.out.size;omega
   have cA:wr.cell? ⟨w.heap.size,0,none⟩=some (.pointer none):=S.M.qc a1 0;have cB:wr.cell? ⟨w.heap.size + 1,0,none⟩=some (.pointer none):=S.M.qc a2 0;have zA:wr.frozen? ⟨w.heap.size,0,none⟩=false:=frz a1;have zB:wr.frozen? ⟨w.heap.size + 1,0,none⟩=false:=frz a2;have hft:=RI.out.ft
   cases hrf:(S.je txt).2 with
   | some f =>
    rw[hrf] at hft;obtain⟨b,rfl,q3,q2⟩:=hft;have hB2:(wr.setCell ⟨w.heap.size,0,none⟩ (.pointer none)).cell? ⟨w.heap.size + 1,0,none⟩=some (.pointer none):=by simp[go_sem,cB]
    obtain⟨f1,f2⟩:=qcc (by omega:w.heap.size≠w.heap.size + 1) cA cB (.pointer none) (.pointer (some ⟨b,0,none⟩));have FIN:Hid (Loaded w txt (.returned (.tuple #[.pointer none,.pointer (some ⟨b,0,none⟩)])) ((wr.setCell ⟨w.heap.size,0,none⟩ (.pointer none)).setCell ⟨w.heap.size + 1,0,none⟩ (.pointer (some ⟨b,0,none⟩)))):=by
     have hF:q1j txt=.error f:=by unfold q1j;rw[←LN.out,R2.out];dsimp only;rw[hrf]
     have hblt:=(aIx q2);refine qdu hF BW.out (by omega) ?_;exact (c9.block b (by omega) fun hh=>by have:=HM.out.2.1 b hh;omega).trans ((HM.out.2.2.block b hblt).trans q2)
    clear q2 q3 a1 a2 old c9 i9 g9 hz1 hz2 hz0 hz9 hrf;go_wp2_with fail;refine leaves_cons (f:=52) (args:=#[.pointer (some ⟨w.heap.size,0,none⟩),.pointer (some ⟨w.heap.size + 1,0,none⟩)]) (by simp) (by simp[go_sem]) ?_;refine (catch_idle ⟨w.heap.size,0,none⟩ ⟨w.heap.size + 1,0,none⟩ _).mono ?_;rintro e u' w'' ⟨rfl,rfl,rfl⟩;simp[Leaves,settle,results,Tryz.results9,go_sem,f1,f2];exact FIN.out
   | none =>
    rw[hrf] at hft;have hfv:fv=.pointer none:=hft;subst hfv;obtain⟨x0,_,x2⟩:=i9.cells;have hsl:m9.sx.length=L.sc.length:=by rw[←i9.sca,lMa]
    have h17:=HO.out.sc2;have DP:Hid (Calls Tryz.prog 57 #[.pointer (some ⟨m9.P,0,none⟩)] wr fun e w'=>e=.returned (.int .i64 ((L.sc.length:Int) - 1))∧w'=wr):=by
     have h1:=F.q4i wr m9.O m9.P m9.vS m9.sx i9.stk (by omega);rw[hsl] at h1;exact h1
    by_cases hd:1 < L.sc.length
    ·have n2:(0:Int) < (L.sc.length:Int) - 1:=by omega
     have hF:Hid (q1j txt=.error (S.q3l txt,23)):=by show _=_;unfold q1j;rw[←LN.out,R2.out];dsimp only;rw[hrf];dsimp only;rw[if_pos hd]
     have PL:Hid (Calls Tryz.prog 58 #[.string txt,.int .i64 (txt.size:Nat)] wr fun e w'=>e=.returned (.tuple #[S.K.qhz txt txt.size,.bool true])∧Below wr.heap.size wr w'):=S.K.qfe txt txt.size wr HZ.out (Nat.le_refl _);have IA:Hid (wr.cell? ⟨w.heap.size,0,none⟩=some (.pointer none)∧wr.cell? ⟨w.heap.size + 1,0,none⟩=some (.pointer none)∧wr.heap[w.heap.size]?=some (.cells #[.pointer none] 22 (0,0))∧wr.heap[w.heap.size + 1]?=some (.cells #[.pointer none] 23 (0,0))):=⟨cA,cB,a1,a2⟩;obtain⟨p1,hp1⟩:=eXb (S.K.q3e (txt.data.toList.take txt.size));obtain⟨p2,hp2⟩:=eXb (S.K.q7i (txt.data.toList.take txt.size));have HE:Hid (S.q3l txt=⟨⟨#[]⟩,txt.size,p1,p2⟩):=by show _=_;unfold S.q3l;rw[hp1,hp2]
     unfold S.K.qhz at PL;rw[hp1,hp2] at PL;clear a1 a2 old c9 i9 g9 hz1 hz2 hz0 hz9 hrf hsl h17 hd hp1 hp2 cA cB zA zB x0;go_wp2_with fail;refine cMo DP.out ?_;rintro e wz ⟨rfl,hwz⟩;subst wz;go_wp2_with fail;refine cMo PL.out ?_;rintro e w6 ⟨rfl,hb6⟩;have B6:=hid hb6;clear hb6 PL DP;go_upto_region 13 with fail;obtain⟨w7,hw7⟩:=eXb (w6.alloc (.cells #[.int .i64 (txt.size:Nat),.int .i64 p1,.int .i64 p2] 28));rw[hw7];have b67:Below w6.heap.size w6 w7:=by rw[←hw7];exact S.qg _ _
     obtain⟨D,hD⟩:=eXb w7.drew;have eD:D.heap[w6.heap.size]?=some (.cells #[.int .i64 (txt.size:Nat),.int .i64 p1,.int .i64 p2] 28 (0,0)):=by rw[←hD];show w7.heap[w6.heap.size]?=_;rw[←hw7];exact World.alloc_heap_new _ _
     have b7:Below wr.heap.size wr D:=by rw[←hD];exact (B6.out.trans (b67.mono B6.out.size)).trans (S.M.zi bRf 1)
     have i3:=IA.out.2.2.1;have i4:=IA.out.2.2.2;have lA:=(aIx i3);have lB:=(aIx i4);have l6:=B6.out.size;have eA:D.heap[w.heap.size]?=some (.cells #[.pointer none] 22 (0,0)):=(b7.block _ lA).trans i3;have eB:D.heap[w.heap.size + 1]?=some (.cells #[.pointer none] 23 (0,0)):=(b7.block _ lB).trans i4;have l6D:=(aIx eD);have bw:Below w.heap.size w D:=BW.out.trans (b7.mono BW.out.size);have other:∀(W:World) (c b:Nat) (v:Value),b≠c→(W.setCell ⟨c,0,none⟩ v).heap[b]?=W.heap[b]?:=fun W c b v h=>Below.heap_setCell W ⟨c,0,none⟩ v b h
     have SC:Hid (∀W:World,W.heap[w6.heap.size]?=some (.cells #[.int .i64 (txt.size:Nat),.int .i64 p1,.int .i64 p2] 28 (0,0))→(fun w'=>w'.cell? ⟨w6.heap.size,0,none⟩=some (.int .i64 (txt.size:Nat))∧w'.cell? ⟨w6.heap.size,1,none⟩=some (.int .i64 p1)∧w'.cell? ⟨w6.heap.size,2,none⟩=some (.int .i64 p2)) W):=fun W h=>⟨S.M.qc h 0,S.M.qc h 1,S.M.qc h 2⟩
     have box:∀W:World,W.heap[w6.heap.size]?=some (.cells #[.int .i64 (txt.size:Nat),.int .i64 p1,.int .i64 p2] 28 (0,0))→w6.heap.size < W.heap.size→(W.alloc (.cells #[.int .i64 (txt.size:Nat),.int .i64 p1,.int .i64 p2,.string ⟨#[]⟩,.int .i64 23] 31)).heap[W.heap.size]?=some (.cells (q58 (S.q3l txt) 23) 31 (0,0)):=fun W _ _=>by rw[HE.out];exact World.alloc_heap_new W _
     -- the box ahead
     obtain⟨W1,hW1⟩:=eXa (D.alloc (.cells #[.int .i64 (txt.size:Nat),.int .i64 p1,.int .i64 p2,.string ⟨#[]⟩,.int .i64 23] 31));have bW1:Below D.heap.size D W1:=by rw[hW1];exact S.qg _ _
     have e1:=(bW1.block _ l6D).trans eD;have eA1:=(bW1.block _ (by omega)).trans eA;have eB1:=(bW1.block _ (by omega)).trans eB;have q1:W1.heap[D.heap.size]?=some (.cells (q58 (S.q3l txt) 23) 31 (0,0)):=by rw[hW1];exact box D eD l6D
     obtain⟨W2,hW2⟩:=eXa (W1.setCell ⟨w.heap.size,0,none⟩ (.pointer none));have e2:W2.heap[w6.heap.size]?=some (.cells #[.int .i64 (txt.size:Nat),.int .i64 p1,.int .i64 p2] 28 (0,0)):=by rw[hW2];exact (other W1 _ _ _ (by omega)).trans e1
     have eA2:W2.heap[w.heap.size]?=some (.cells #[.pointer none] 22 (0,0)):=by rw[hW2];exact S.M.qj eA1
     have eB2:W2.heap[w.heap.size + 1]?=some (.cells #[.pointer none] 23 (0,0)):=by rw[hW2];exact (other W1 _ _ _ (by omega)).trans eB1
     have q2:W2.heap[D.heap.size]?=some (.cells (q58 (S.q3l txt) 23) 31 (0,0)):=by rw[hW2];exact (other W1 _ _ _ (by omega)).trans q1
     obtain⟨W3,hW3⟩:=eXa (W2.setCell ⟨w.heap.size + 1,0,none⟩ (.pointer (some ⟨D.heap.size,0,none⟩)));have e3:W3.heap[w6.heap.size]?=some (.cells #[.int .i64 (txt.size:Nat),.int .i64 p1,.int .i64 p2] 28 (0,0)):=by rw[hW3];exact (other W2 _ _ _ (by omega)).trans e2
     have eA3:W3.heap[w.heap.size]?=some (.cells #[.pointer none] 22 (0,0)):=by rw[hW3];exact (other W2 _ _ _ (by omega)).trans eA2
     have eB3:W3.heap[w.heap.size + 1]?=some (.cells #[.pointer (some ⟨D.heap.size,0,none⟩)] 23 (0,0)):=by rw[hW3];exact S.M.qj eB2
     have q3:W3.heap[D.heap.size]?=some (.cells (q58 (S.q3l txt) 23) 31 (0,0)):=by rw[hW3];exact (other W2 _ _ _ (by omega)).trans q2
     have bw3:Below w.heap.size w W3:=by
      rw[hW3,hW2];exact ((bw.trans (bW1.mono bw.size)).setCell (p:=⟨w.heap.size,0,none⟩) (Nat.le_refl _) _).setCell (p:=⟨w.heap.size + 1,0,none⟩) (Nat.le_succ _) _
     have FIN:Hid (Loaded w txt (.returned (.tuple #[.pointer none,.pointer (some ⟨D.heap.size,0,none⟩)])) W3):=by
      show Loaded _ _ _ _
      unfold Loaded;rw[hF.out];exact⟨bw3,D.heap.size,rfl,bw.size,q3⟩
     -- the first store ahead
     obtain⟨U1,hU1⟩:=eXa (D.setCell ⟨w.heap.size,0,none⟩ (.pointer none));have sU1:U1.heap.size=D.heap.size:=by rw[hU1];simp
     have d1:U1.heap[w6.heap.size]?=some (.cells #[.int .i64 (txt.size:Nat),.int .i64 p1,.int .i64 p2] 28 (0,0)):=by rw[hU1];exact (other D _ _ _ (by omega)).trans eD
     have dA1:U1.heap[w.heap.size]?=some (.cells #[.pointer none] 22 (0,0)):=by rw[hU1];exact S.M.qj eA
     have dB1:U1.heap[w.heap.size + 1]?=some (.cells #[.pointer none] 23 (0,0)):=by rw[hU1];exact (other D _ _ _ (by omega)).trans eB
     obtain⟨U2,hU2⟩:=eXa (U1.alloc (.cells #[.int .i64 (txt.size:Nat),.int .i64 p1,.int .i64 p2,.string ⟨#[]⟩,.int .i64 23] 31));have bU2:Below U1.heap.size U1 U2:=by rw[hU2];exact S.qg _ _
     have d2:=(bU2.block _ (by omega)).trans d1;have dA2:=(bU2.block _ (by omega)).trans dA1;have dB2:=(bU2.block _ (by omega)).trans dB1;have r2:U2.heap[U1.heap.size]?=some (.cells (q58 (S.q3l txt) 23) 31 (0,0)):=by rw[hU2];exact box U1 d1 (by omega)
     obtain⟨U3,hU3⟩:=eXa (U2.setCell ⟨w.heap.size + 1,0,none⟩ (.pointer (some ⟨U1.heap.size,0,none⟩)));have d3:U3.heap[w6.heap.size]?=some (.cells #[.int .i64 (txt.size:Nat),.int .i64 p1,.int .i64 p2] 28 (0,0)):=by rw[hU3];exact (other U2 _ _ _ (by omega)).trans d2
     have dA3:U3.heap[w.heap.size]?=some (.cells #[.pointer none] 22 (0,0)):=by rw[hU3];exact (other U2 _ _ _ (by omega)).trans dA2
     have dB3:U3.heap[w.heap.size + 1]?=some (.cells #[.pointer (some ⟨U1.heap.size,0,none⟩)] 23 (0,0)):=by rw[hU3];exact S.M.qj dB2
     have r3:U3.heap[U1.heap.size]?=some (.cells (q58 (S.q3l txt) 23) 31 (0,0)):=by rw[hU3];exact (other U2 _ _ _ (by omega)).trans r2
     have bwU1:Below w.heap.size w U1:=by rw[hU1];exact bw.setCell (p:=⟨w.heap.size,0,none⟩) (Nat.le_refl _) _
     have bu3:Below w.heap.size w U3:=by
      rw[hU3];exact (bwU1.trans (bU2.mono bwU1.size)).setCell (p:=⟨w.heap.size + 1,0,none⟩) (Nat.le_succ _) _
     have FINU:Hid (Loaded w txt (.returned (.tuple #[.pointer none,.pointer (some ⟨U1.heap.size,0,none⟩)])) U3):=by
      show Loaded _ _ _ _
      unfold Loaded;rw[hF.out];exact⟨bu3,U1.heap.size,rfl,bwU1.size,r3⟩
     have HW1:=hid hW1;have HW2:=hid hW2;have HW3:=hid hW3;have HU1:=hid hU1;have HU2:=hid hU2;have HU3:=hid hU3;have HS:Hid (((fun w'=>w'.cell? ⟨w6.heap.size,0,none⟩=some (.int .i64 (txt.size:Nat))∧w'.cell? ⟨w6.heap.size,1,none⟩=some (.int .i64 p1)∧w'.cell? ⟨w6.heap.size,2,none⟩=some (.int .i64 p2)) D∧(fun w'=>w'.cell? ⟨w6.heap.size,0,none⟩=some (.int .i64 (txt.size:Nat))∧w'.cell? ⟨w6.heap.size,1,none⟩=some (.int .i64 p1)∧w'.cell? ⟨w6.heap.size,2,none⟩=some (.int .i64 p2)) W1∧(fun w'=>w'.cell? ⟨w6.heap.size,0,none⟩=some (.int .i64 (txt.size:Nat))∧w'.cell? ⟨w6.heap.size,1,none⟩=some (.int .i64 p1)∧w'.cell? ⟨w6.heap.size,2,none⟩=some (.int .i64 p2)) W2∧(fun w'=>w'.cell? ⟨w6.heap.size,0,none⟩=some (.int .i64 (txt.size:Nat))∧w'.cell? ⟨w6.heap.size,1,none⟩=some (.int .i64 p1)∧w'.cell? ⟨w6.heap.size,2,none⟩=some (.int .i64 p2)) W3)∧(fun w'=>w'.cell? ⟨w6.heap.size,0,none⟩=some (.int .i64 (txt.size:Nat))∧w'.cell? ⟨w6.heap.size,1,none⟩=some (.int .i64 p1)∧w'.cell? ⟨w6.heap.size,2,none⟩=some (.int .i64 p2)) U1∧(fun w'=>w'.cell? ⟨w6.heap.size,0,none⟩=some (.int .i64 (txt.size:Nat))∧w'.cell? ⟨w6.heap.size,1,none⟩=some (.int .i64 p1)∧w'.cell? ⟨w6.heap.size,2,none⟩=some (.int .i64 p2)) U2∧(fun w'=>w'.cell? ⟨w6.heap.size,0,none⟩=some (.int .i64 (txt.size:Nat))∧w'.cell? ⟨w6.heap.size,1,none⟩=some (.int .i64 p1)∧w'.cell? ⟨w6.heap.size,2,none⟩=some (.int .i64 p2)) U3):=⟨⟨SC.out _ eD,SC.out _ e1,SC.out _ e2,SC.out _ e3⟩,SC.out _ d1,SC.out _ d2,SC.out _ d3⟩;have cAD:D.cell? ⟨w.heap.size,0,none⟩=some (.pointer none):=S.M.qc eA 0;have zAD:D.frozen? ⟨w.heap.size,0,none⟩=false:=frz eA;have cA1:W1.cell? ⟨w.heap.size,0,none⟩=some (.pointer none):=S.M.qc eA1 0;have zA1:W1.frozen? ⟨w.heap.size,0,none⟩=false:=frz eA1;have cB2:W2.cell? ⟨w.heap.size + 1,0,none⟩=some (.pointer none):=S.M.qc eB2 0;have zB2:W2.frozen? ⟨w.heap.size + 1,0,none⟩=false:=frz eB2
     have cBU:U2.cell? ⟨w.heap.size + 1,0,none⟩=some (.pointer none):=S.M.qc dB2 0;have zBU:U2.frozen? ⟨w.heap.size + 1,0,none⟩=false:=frz dB2;have f1:W3.cell? ⟨w.heap.size,0,none⟩=some (.pointer none):=S.M.qc eA3 0;have f2:W3.cell? ⟨w.heap.size + 1,0,none⟩=some (.pointer (some ⟨D.heap.size,0,none⟩)):=S.M.qc eB3 0;have g1:U3.cell? ⟨w.heap.size,0,none⟩=some (.pointer none):=S.M.qc dA3 0;have g2:U3.cell? ⟨w.heap.size + 1,0,none⟩=some (.pointer (some ⟨U1.heap.size,0,none⟩)):=S.M.qc dB3 0;clear hw7 b67 eD b7 i3 i4 lA lB l6 eA eB l6D bw other SC box hW1 bW1 e1 eA1 eB1 q1 hW2 e2 eA2 eB2 q2 hW3 e3 eA3 eB3 q3 bw3 hU1 sU1 d1 dA1 dB1 hU2 bU2 d2 dA2 dB2 r2 hU3 d3 dA3 dB3 r3 bwU1 bu3;refine wp_region_held_drew (S:=fun w'=>w'.cell? ⟨w6.heap.size,0,none⟩=some (.int .i64 (txt.size:Nat))∧w'.cell? ⟨w6.heap.size,1,none⟩=some (.int .i64 p1)∧w'.cell? ⟨w6.heap.size,2,none⟩=some (.int .i64 p2)) (by kernel_rfl) ?_ (fun hZ=>?_)
     ·rw[hD];exact HS.out.1.1
     rw[hD] at hZ ⊢;clear hD;refine wpAnyH_take (i:=0) (oi:={ dst:=some 45,op:=Op.load 28 (Operand.tmp 9),type:=28,pos:= "base.go:42",after:=#[],guard:=none }) (v:=?_) rfl (by kernel_rfl) (by kernel_rfl) (by kernel_rfl) (fun _ _ _ h=>qr4 (by decide) h) (Or.inl ⟨by rfl,?_⟩) hZ ?_;rotate_left
     ·(intro w hSw;(try dsimp only at hSw);go_simp;try with_reducible rfl)
     try simp only[Act.put,List.setIfInBounds_toArray,List.set_cons_zero,List.set_cons_succ]
     refine wpAnyH_take (i:=1) (oi:={ dst:=some 46,op:=Op.build 31 #[(0,Operand.tmp 45),(2,Operand.const (Value.int IntKind.i64 23))],type:=31,pos:= "base.go:42",after:=#[{ on:=0,ground:=Ground.data }],guard:=none }) (v:=?_) rfl (by kernel_rfl) (by kernel_rfl) (by kernel_rfl) (fun _ _ _ h=>qr4 (by decide) h) (Or.inl ⟨by rfl,?_⟩) hZ ?_;rotate_left
     ·(intro w hSw;(try dsimp only at hSw);go_simp;try with_reducible rfl)
     try simp only[Act.put,List.setIfInBounds_toArray,List.set_cons_zero,List.set_cons_succ]
     refine wpAnyH_ready (rs:=[2,3]) (by kernel_rfl) (by simp) ?_;refine AllReadyH.cons rfl (fun K hK=>?_) (AllReadyH.cons rfl (fun K hK=>?_) AllReadyH.nil)
     ·go_simp;rw[←HW1.out];refine aQq hK ?_ fun hZ_2=>?_
      ·exact HS.out.1.2.1
      clear hK K;refine rkq 3 fun K hK=>?_
      go_simp;rw[←HW2.out];refine aQq hK ?_ fun hZ_3=>?_
      ·exact HS.out.1.2.2.1
      clear hK K;refine rkq 4 fun K hK=>?_
      go_simp;rw[←HW3.out];refine aQq hK ?_ fun hZ_4=>?_
      ·exact HS.out.1.2.2.2
      clear hK K;refine wpAnyH_done (by kernel_rfl) ?_ _;go_wp2_with fail;refine leaves_cons (f:=52) (args:=#[.pointer (some ⟨w.heap.size,0,none⟩),.pointer (some ⟨w.heap.size + 1,0,none⟩)]) (by simp) (by simp[go_sem]) ?_;refine (catch_idle ⟨w.heap.size,0,none⟩ ⟨w.heap.size + 1,0,none⟩ _).mono ?_;rintro e u' w'' ⟨rfl,rfl,rfl⟩;simp[Leaves,settle,results,Tryz.results9,go_sem,f1,f2];exact FIN.out
     ·go_simp;rw[←HU1.out];refine aQq hK ?_ fun hZ_3=>?_
      ·exact HS.out.2.1
      clear hK K;refine rkq 2 fun K hK=>?_
      go_simp;rw[←HU2.out];refine aQq hK ?_ fun hZ_2=>?_
      ·exact HS.out.2.2.1
      clear hK K;refine rkq 4 fun K hK=>?_
      go_simp;rw[←HU3.out];refine aQq hK ?_ fun hZ_4=>?_
      ·exact HS.out.2.2.2
      clear hK K;refine wpAnyH_done (by kernel_rfl) ?_ _;go_wp2_with fail;refine leaves_cons (f:=52) (args:=#[.pointer (some ⟨w.heap.size,0,none⟩),.pointer (some ⟨w.heap.size + 1,0,none⟩)]) (by simp) (by simp[go_sem]) ?_;refine (catch_idle ⟨w.heap.size,0,none⟩ ⟨w.heap.size + 1,0,none⟩ _).mono ?_;rintro e u' w'' ⟨rfl,rfl,rfl⟩;simp[Leaves,settle,results,Tryz.results9,go_sem,g1,g2];exact FINU.out
    ·have n2:¬(0:Int) < (L.sc.length:Int) - 1:=by omega
     have hB2:(wr.setCell ⟨w.heap.size,0,none⟩ (.pointer (some ⟨m9.Bb,0,none⟩))).cell? ⟨w.heap.size + 1,0,none⟩=some (.pointer none):=by simp[go_sem,cB]
     obtain⟨f1,f2⟩:=qcc (by omega:w.heap.size≠w.heap.size + 1) cA cB (.pointer (some ⟨m9.Bb,0,none⟩)) (.pointer none);have FIN:Hid (Loaded w txt (.returned (.tuple #[.pointer (some ⟨m9.Bb,0,none⟩),.pointer none])) ((wr.setCell ⟨w.heap.size,0,none⟩ (.pointer (some ⟨m9.Bb,0,none⟩))).setCell ⟨w.heap.size + 1,0,none⟩ (.pointer none))):=by
      have hF:q1j txt=.ok L:=by unfold q1j;rw[←LN.out,R2.out];dsimp only;rw[hrf];dsimp only;rw[if_neg hd]
      unfold Loaded;rw[hF];have hl:=HLB.out;refine⟨qcd BW.out _ _,lb,m9,rfl,((i9.low_ch (by omega) ?_).down (by omega)).up (by omega)⟩;refine⟨rfl,rfl,rfl,by simp,fun b _ hb=>?_⟩;rw[Below.heap_setCell _ _ _ _ (by show b≠w.heap.size + 1;omega),Below.heap_setCell _ _ _ _ (by show b≠w.heap.size;omega)]
     clear a1 a2 old c9 i9 g9 hz1 hz2 hz0 hz9 hrf hsl h17 hd;go_wp2_with fail;refine cMo DP.out ?_;rintro e wz ⟨rfl,hwz⟩;subst wz;go_wp2_with fail;refine leaves_cons (f:=52) (args:=#[.pointer (some ⟨w.heap.size,0,none⟩),.pointer (some ⟨w.heap.size + 1,0,none⟩)]) (by simp) (by simp[go_sem]) ?_;refine (catch_idle ⟨w.heap.size,0,none⟩ ⟨w.heap.size + 1,0,none⟩ _).mono ?_;rintro e u' w'' ⟨rfl,rfl,rfl⟩;simp[Leaves,settle,results,Tryz.results9,go_sem,f1,f2];exact FIN.out
open S (Tok q0i Stm)
theorem sts_of {w0 w1:World}{v fv:Value}{its:List S.Itm}{P:S.PS}{f:Option (Tok × Int)}(h:S.q8w w0 w1 v fv its P f):∃a c,v=.slice a P.l.length c∧q46 w1 a P.l:=by
 obtain⟨a,c,rfl,_,hcell⟩:=S.M.xq h.own;rw[←h.l,lMa];refine⟨a,c,rfl,fun j s hj=>?_⟩;rw[List.getElem?_map] at hj;obtain⟨x,hx,rfl⟩:=Option.map_eq_some_iff.1 hj;have hI:=h.all x (mGe hx);obtain⟨aw,cw,ew,_,hw⟩:=S.wo hI.ow;obtain⟨ap,cp,ep,_,hp⟩:=S.wo hI.op;obtain⟨g,rfl,_⟩:=hcell (j * 16 + 0) _ (q8h its j 0 x hx (by omega));have y:∀i k,i < 16→k=j * 16 + i→∀u,(S.q5b x)[i]?=some u→w1.cell? ⟨g,k,none⟩=some u:=fun i k hi hk u hu=>by
  subst hk;obtain⟨g2,e2,h2⟩:=hcell (j * 16 + i) u ((q8h its j i x hx hi).trans hu)
  cases e2;exact h2
 exact⟨g,0,aw,cw,ap,cp,rfl,⟨y 0 _ (by omega) (by omega) _ rfl,y 1 _ (by omega) (by omega) _ rfl,y 2 _ (by omega) (by omega) _ rfl,y 3 _ (by omega) (by omega) _ rfl,y 4 _ (by omega) (by omega) _ rfl,y 5 _ (by omega) (by omega) _ rfl,y 6 _ (by omega) (by omega) _ rfl,y 7 _ (by omega) (by omega) _ rfl,y 8 _ (by omega) (by omega) _ rfl,y 9 _ (by omega) (by omega) _ rfl,
  y 10 _ (by omega) (by omega) _ (by show some x.vw=_;rw[ew]),y 11 _ (by omega) (by omega) _ (by show some x.vp=_;rw[ep]),y 12 _ (by omega) (by omega) _ rfl,y 13 _ (by omega) (by omega) _ rfl,y 14 _ (by omega) (by omega) _ rfl,y 15 _ (by omega) (by omega) _ rfl⟩,hw,hp⟩
theorem qdv {N:Nat}{w:World}{lb:Nat}{txt:ByteArray}{k:Nat}{L:Ld}{nf:ByteArray→Option Nat}{m:LdM}(h:xg N w lb txt k L nf m)(hR:S.RdW w)(ht:txt.size≤281474976710656) :
  Calls Tryz.prog 34 #[.pointer (some ⟨m.Bb,0,none⟩)] w fun e w'=>Below w.heap.size w w'∧∃a c,e=.returned (.slice a (S.je txt).1.l.length c)∧q46 w' a (S.je txt).1.l:=by
 obtain⟨b0,_⟩:=h.base;have RD:Hid (Calls Tryz.prog 54 #[.string txt] w (S.q0q w txt)):=S.qff w txt ht hR;generalize m.Bb=Bb at *;clear h hR ht;go_enter Tryz.func34,Tryz.ntmps34;go_wp2_with fail;refine cMo RD.out ?_;rintro e w1 ⟨v,fv,its,rfl,hI⟩;have HI:Hid (Below w.heap.size w w1∧∃a c,v=.slice a (S.je txt).1.l.length c∧q46 w1 a (S.je txt).1.l):=⟨hI.bel,sts_of hI⟩;clear hI RD b0;go_wp2_with fail
 go_ret
 obtain⟨hb,a,c,e,hs⟩:=HI.out;exact⟨hb,a,c,by rw[e];rfl,hs⟩
open Go.Maps Go.RowKit Go.WideMaps
theorem qdw {o:Oper} {a:Act} {w:World} {K:Act→World→Prop} {Q:Exit→Act→World→Prop} (x y z:Operand) (ho:o.op=.buildSlice 32 3 #[(0,x),(1,y),(2,z)]) (t u v:Tok) (hx:a.eval x=S.zo t) (hy:a.eval y=S.zo u) (hz:a.eval z=S.zo v)
  (h:K (a.put o.dst (.slice (some ⟨w.heap.size,0,none⟩) 3 3)) (w.alloc (.cells #[.string t.text,.int .i64 t.off,.int .i64 t.line,.int .i64 t.col,.string u.text,.int .i64 u.off,.int .i64 u.line,.int .i64 u.col,.string v.text,.int .i64 v.off,.int .i64 v.line,.int .i64 v.col] 36))):o.wp Tryz.prog a w K Q:=by
 obtain⟨ie,hie,hq⟩:=Option.map_eq_some_iff.1 S.qk7;simp only[Prod.mk.injEq] at hq;obtain⟨hz0,hs,_⟩:=hq;have hf:=Great.fill_whole (s:=4) (by decide) [S.zo t,S.zo u,S.zo v] ((Array.range (3 * 4)).map fun k=>(Value.agg #[.string ⟨#[]⟩,.int .i64 0,.int .i64 0,.int .i64 0]).cells[k % (Value.agg #[.string ⟨#[]⟩,.int .i64 0,.int .i64 0,.int .i64 0]).cells.size]!) (fun v hv=>by simp only[List.mem_cons,List.not_mem_nil,or_false] at hv;rcases hv with rfl | rfl | rfl <;> rfl) (by simp);refine wp_buildSlice 32 36 3 _ ho _ ie _ Tryz.underlying32 hie hz0 (by rw[hs];decide) (by rw[hs];decide) ?_ h;rw[hs,Array.toList_map];simp only[List.map_cons,List.map_nil,hx,hy,hz];exact hf
theorem qhg (w:World)(a b:Option Addr)(n c d:Nat)(p:Bool)(l m:List Stm)(hl:l.length=n)(hm:m.length=n)(hn:n≤1048576)(hq:∀(j:Nat) (s u:Stm),l[j]?=some s→m[j]?=some u→q68 p s u)(hA:q46 w a l)(hB:q46 w b m) :
  Yes 64 #[.slice a n c,.slice b n d,.bool p] w:=by
 have HA:=hid hA;have HB:=hid hB;have HL:Hid (l.length=n∧m.length=n∧∀(j:Nat) (s u:Stm),l[j]?=some s→m[j]?=some u→q68 p s u):=⟨hl,hm,hq⟩;clear hA hB hl hm hq;go_enter Tryz.func64,Tryz.ntmps64;go_wp2_with fail
 go_loopw [7] (fun v7 wx=>∃j:Nat,j≤n∧v7=.int .i64 j∧Hid (Below w.heap.size w wx)) (fun v7 _=>n - (intOf v7).toNat)
 case atStart=>exact⟨0,Nat.zero_le _,rfl,bRf⟩
 case round =>
  obtain⟨j,hj,rfl,hB0⟩:=hrel
  by_cases hlt:j < n
  ·as_aux_lemma =>
   have n1:(j:Int) < (n:Int):=by omega
   obtain⟨s,hs⟩:∃x,l[j]?=some x:=⟨_,gEq (by rw[HL.out.1];exact hlt)⟩;obtain⟨u,hu⟩:∃x,m[j]?=some x:=⟨_,gEq (by rw[HL.out.2.1];exact hlt)⟩;have EQ:Hid (q68 p s u):=HL.out.2.2 j s u hs hu;have RA:Hid (q46 wr a l):=HA.out.under hB0.out;have RB:Hid (q46 wr b m):=HB.out.under hB0.out;obtain⟨ga,oa,aw1,cw1,ap1,cp1,ea,hca,hwa,hpa⟩:=RA.out j s hs;obtain⟨gb,ob,aw2,cw2,ap2,cp2,eb,hcb,hwb,hpb⟩:=RB.out j u hu;subst ea;subst eb;have la:ga < wr.heap.size:=bLt hca.1;have lb:gb < wr.heap.size:=bLt hcb.1;have CA:Hid (∀W,Below wr.heap.size wr W→W.cell? ⟨ga,oa + j * 16,none⟩=some (.int .i64 s.kind)∧W.cell? ⟨ga,oa + j * 16 + 1,none⟩=some (.string s.label.text)∧W.cell? ⟨ga,oa + j * 16 + 1 + 1,none⟩=some (.int .i64 s.label.off)∧W.cell? ⟨ga,oa + j * 16 + 1 + 2,none⟩=some (.int .i64 s.label.line)∧W.cell? ⟨ga,oa + j * 16 + 1 + 3,none⟩=some (.int .i64 s.label.col)∧W.cell? ⟨ga,oa + j * 16 + 5,none⟩=some (.string s.key.text)∧W.cell? ⟨ga,oa + j * 16 + 5 + 1,none⟩=some (.int .i64 s.key.off)∧W.cell? ⟨ga,oa + j * 16 + 5 + 2,none⟩=some (.int .i64 s.key.line)∧W.cell? ⟨ga,oa + j * 16 + 5 + 3,none⟩=some (.int .i64 s.key.col)∧W.cell? ⟨ga,oa + j * 16 + 9,none⟩=some (.bool s.proving)∧W.cell? ⟨ga,oa + j * 16 + 10,none⟩=some (.slice aw1 s.words.length cw1)∧W.cell? ⟨ga,oa + j * 16 + 11,none⟩=some (.slice ap1 s.proof.length cp1)∧W.cell? ⟨ga,oa + j * 16 + 12,none⟩=some (.string s.fin.text)∧W.cell? ⟨ga,oa + j * 16 + 12 + 1,none⟩=some (.int .i64 s.fin.off)∧W.cell? ⟨ga,oa + j * 16 + 12 + 2,none⟩=some (.int .i64 s.fin.line)∧W.cell? ⟨ga,oa + j * 16 + 12 + 3,none⟩=some (.int .i64 s.fin.col)):=fun W hW=>by
    have q:∀i,W.cell? ⟨ga,i,none⟩=wr.cell? ⟨ga,i,none⟩:=fun i=>hW.cell (p:=⟨ga,i,none⟩) la
    simp only[q];exact hca
   have CB:Hid (∀W,Below wr.heap.size wr W→W.cell? ⟨gb,ob + j * 16,none⟩=some (.int .i64 u.kind)∧W.cell? ⟨gb,ob + j * 16 + 1,none⟩=some (.string u.label.text)∧W.cell? ⟨gb,ob + j * 16 + 1 + 1,none⟩=some (.int .i64 u.label.off)∧W.cell? ⟨gb,ob + j * 16 + 1 + 2,none⟩=some (.int .i64 u.label.line)∧W.cell? ⟨gb,ob + j * 16 + 1 + 3,none⟩=some (.int .i64 u.label.col)∧W.cell? ⟨gb,ob + j * 16 + 5,none⟩=some (.string u.key.text)∧W.cell? ⟨gb,ob + j * 16 + 5 + 1,none⟩=some (.int .i64 u.key.off)∧W.cell? ⟨gb,ob + j * 16 + 5 + 2,none⟩=some (.int .i64 u.key.line)∧W.cell? ⟨gb,ob + j * 16 + 5 + 3,none⟩=some (.int .i64 u.key.col)∧W.cell? ⟨gb,ob + j * 16 + 9,none⟩=some (.bool u.proving)∧W.cell? ⟨gb,ob + j * 16 + 10,none⟩=some (.slice aw2 u.words.length cw2)∧W.cell? ⟨gb,ob + j * 16 + 11,none⟩=some (.slice ap2 u.proof.length cp2)∧W.cell? ⟨gb,ob + j * 16 + 12,none⟩=some (.string u.fin.text)∧W.cell? ⟨gb,ob + j * 16 + 12 + 1,none⟩=some (.int .i64 u.fin.off)∧W.cell? ⟨gb,ob + j * 16 + 12 + 2,none⟩=some (.int .i64 u.fin.line)∧W.cell? ⟨gb,ob + j * 16 + 12 + 3,none⟩=some (.int .i64 u.fin.col)):=fun W hW=>by
    have q:∀i,W.cell? ⟨gb,i,none⟩=wr.cell? ⟨gb,i,none⟩:=fun i=>hW.cell (p:=⟨gb,i,none⟩) lb
    simp only[q];exact hcb
   have WW:Hid (∀W,Below wr.heap.size wr W→Yes 75 #[.slice aw1 s.words.length cw1,.slice aw2 u.words.length cw2,.bool p] W):=fun W hW=>q4e ⟨aw1,aw2,s.words.length,cw1,cw2,s.words,u.words,rfl,by rw[EQ.out.words.1],rfl,EQ.out.few.1,EQ.out.words,hwa.under hW,hwb.under hW⟩
   have WP:Hid (∀W,Below wr.heap.size wr W→Yes 75 #[.slice ap1 s.proof.length cp1,.slice ap2 u.proof.length cp2,.bool p] W):=fun W hW=>q4e ⟨ap1,ap2,s.proof.length,cp1,cp2,s.proof,u.proof,rfl,by rw[EQ.out.proof.1],rfl,EQ.out.few.2,EQ.out.proof,hpa.under hW,hpb.under hW⟩
   clear hs hu la lb hca hcb hwa hwb hpa hpb RA RB HA HB HL;go_upto_region 6 with fail;have BRd:Hid (Below wr.heap.size wr wr.drew):=S.below_drewN bRf 1;refine wp_region_held_drew (S:=fun w'=>w'.cell? ⟨ga,oa + j * 16,none⟩=some (.int .i64 s.kind)∧w'.cell? ⟨ga,oa + j * 16 + 1,none⟩=some (.string s.label.text)∧w'.cell? ⟨ga,oa + j * 16 + 1 + 1,none⟩=some (.int .i64 s.label.off)∧w'.cell? ⟨ga,oa + j * 16 + 1 + 2,none⟩=some (.int .i64 s.label.line)∧w'.cell? ⟨ga,oa + j * 16 + 1 + 3,none⟩=some (.int .i64 s.label.col)∧w'.cell? ⟨ga,oa + j * 16 + 5,none⟩=some (.string s.key.text)∧w'.cell? ⟨ga,oa + j * 16 + 5 + 1,none⟩=some (.int .i64 s.key.off)∧w'.cell? ⟨ga,oa + j * 16 + 5 + 2,none⟩=some (.int .i64 s.key.line)∧w'.cell? ⟨ga,oa + j * 16 + 5 + 3,none⟩=some (.int .i64 s.key.col)∧w'.cell? ⟨ga,oa + j * 16 + 9,none⟩=some (.bool s.proving)∧w'.cell? ⟨ga,oa + j * 16 + 10,none⟩=some (.slice aw1 s.words.length cw1)∧w'.cell? ⟨ga,oa + j * 16 + 11,none⟩=some (.slice ap1 s.proof.length cp1)∧w'.cell? ⟨ga,oa + j * 16 + 12,none⟩=some (.string s.fin.text)∧w'.cell? ⟨ga,oa + j * 16 + 12 + 1,none⟩=some (.int .i64 s.fin.off)∧w'.cell? ⟨ga,oa + j * 16 + 12 + 2,none⟩=some (.int .i64 s.fin.line)∧w'.cell? ⟨ga,oa + j * 16 + 12 + 3,none⟩=some (.int .i64 s.fin.col)) (by kernel_rfl) ?_ (fun hZ=>?_)
   ·exact CA.out _ BRd.out
   refine tkr 0 hZ ?_;refine tkr 1 hZ ?_;refine tkr 2 hZ ?_;refine tkr 3 hZ ?_;refine tkr 4 hZ ?_;refine tkr 5 hZ ?_;refine tkr 6 hZ ?_;refine tkr 7 hZ ?_;refine tkr 8 hZ ?_;refine tkr 9 hZ ?_;refine tkr 10 hZ ?_;refine tkr 11 hZ ?_;refine tkr 12 hZ ?_;refine tkr 13 hZ ?_;refine tkr 14 hZ ?_;refine rkq 15 fun K hK=>?_
   rw[if_pos (by kernel_rfl)];refine qdw _ _ _ rfl s.label s.key s.fin rfl rfl rfl ?_;refine aQq hK ?_ fun hZ_15=>?_
   ·exact CA.out _ (BRd.out.trans (S.qg _ _ |>.mono BRd.out.size))
   clear hK K;refine tkr 16 hZ_15 ?_;refine wpAnyH_done (by kernel_rfl) ?_ _;obtain⟨wx,hwx⟩:=eXa (wr.drew.alloc (.cells #[.string s.label.text,.int .i64 s.label.off,.int .i64 s.label.line,.int .i64 s.label.col,.string s.key.text,.int .i64 s.key.off,.int .i64 s.key.line,.int .i64 s.key.col,.string s.fin.text,.int .i64 s.fin.off,.int .i64 s.fin.line,.int .i64 s.fin.col] 36));have bx:Below wr.heap.size wr wx:=by rw[hwx];exact BRd.out.alloc (Nat.le_refl _) _
   have kx:wx.heap[wr.heap.size]?=some (.cells #[.string s.label.text,.int .i64 s.label.off,.int .i64 s.label.line,.int .i64 s.label.col,.string s.key.text,.int .i64 s.key.off,.int .i64 s.key.line,.int .i64 s.key.col,.string s.fin.text,.int .i64 s.fin.off,.int .i64 s.fin.line,.int .i64 s.fin.col] 36 (0,0)):=by rw[hwx];exact World.alloc_heap_new _ _
   have BX:=hid bx;obtain⟨X,hX⟩:=eXb wr.heap.size;rw[hX] at kx;have TX:Hid (∀W,Below wx.heap.size wx W→q0i W (some ⟨X,0,none⟩) [s.label,s.key,s.fin]):=fun W hW=>(toks3 kx).under hW
   clear hZ hZ_15 bx kx
   try rw[←hwx]
   try rw[show (wr.alloc (.cells #[.string s.label.text,.int .i64 s.label.off,.int .i64 s.label.line,.int .i64 s.label.col,.string s.key.text,.int .i64 s.key.off,.int .i64 s.key.line,.int .i64 s.key.col,.string s.fin.text,.int .i64 s.fin.off,.int .i64 s.fin.line,.int .i64 s.fin.col] 36)).drew=wx by rw[hwx];rfl]
   try rw[hX]
   clear hwx hX
   as_aux_lemma =>
    go_upto_region 7 with fail;have BXd:Hid (Below wr.heap.size wr wx.drew):=S.below_drewN BX.out 1;refine wp_region_held_drew (S:=fun w'=>w'.cell? ⟨gb,ob + j * 16,none⟩=some (.int .i64 u.kind)∧w'.cell? ⟨gb,ob + j * 16 + 1,none⟩=some (.string u.label.text)∧w'.cell? ⟨gb,ob + j * 16 + 1 + 1,none⟩=some (.int .i64 u.label.off)∧w'.cell? ⟨gb,ob + j * 16 + 1 + 2,none⟩=some (.int .i64 u.label.line)∧w'.cell? ⟨gb,ob + j * 16 + 1 + 3,none⟩=some (.int .i64 u.label.col)∧w'.cell? ⟨gb,ob + j * 16 + 5,none⟩=some (.string u.key.text)∧w'.cell? ⟨gb,ob + j * 16 + 5 + 1,none⟩=some (.int .i64 u.key.off)∧w'.cell? ⟨gb,ob + j * 16 + 5 + 2,none⟩=some (.int .i64 u.key.line)∧w'.cell? ⟨gb,ob + j * 16 + 5 + 3,none⟩=some (.int .i64 u.key.col)∧w'.cell? ⟨gb,ob + j * 16 + 9,none⟩=some (.bool u.proving)∧w'.cell? ⟨gb,ob + j * 16 + 10,none⟩=some (.slice aw2 u.words.length cw2)∧w'.cell? ⟨gb,ob + j * 16 + 11,none⟩=some (.slice ap2 u.proof.length cp2)∧w'.cell? ⟨gb,ob + j * 16 + 12,none⟩=some (.string u.fin.text)∧w'.cell? ⟨gb,ob + j * 16 + 12 + 1,none⟩=some (.int .i64 u.fin.off)∧w'.cell? ⟨gb,ob + j * 16 + 12 + 2,none⟩=some (.int .i64 u.fin.line)∧w'.cell? ⟨gb,ob + j * 16 + 12 + 3,none⟩=some (.int .i64 u.fin.col)) (by kernel_rfl) ?_ (fun hZ=>?_)
    ·exact CB.out _ BXd.out
    refine tkr 0 hZ ?_;refine tkr 1 hZ ?_;refine tkr 2 hZ ?_;refine tkr 3 hZ ?_;refine tkr 4 hZ ?_;refine tkr 5 hZ ?_;refine tkr 6 hZ ?_;refine tkr 7 hZ ?_;refine tkr 8 hZ ?_;refine tkr 9 hZ ?_;refine tkr 10 hZ ?_;refine tkr 11 hZ ?_;refine tkr 12 hZ ?_;refine tkr 13 hZ ?_;refine tkr 14 hZ ?_;refine rkq 15 fun K hK=>?_
    rw[if_pos (by kernel_rfl)];refine qdw _ _ _ rfl u.label u.key u.fin rfl rfl rfl ?_;refine aQq hK ?_ fun hZ_15=>?_
    ·exact CB.out _ (BXd.out.trans (S.qg _ _ |>.mono BXd.out.size))
    clear hK K;refine tkr 16 hZ_15 ?_;refine wpAnyH_done (by kernel_rfl) ?_ _;obtain⟨wy,hwy⟩:=eXa (wx.drew.alloc (.cells #[.string u.label.text,.int .i64 u.label.off,.int .i64 u.label.line,.int .i64 u.label.col,.string u.key.text,.int .i64 u.key.off,.int .i64 u.key.line,.int .i64 u.key.col,.string u.fin.text,.int .i64 u.fin.off,.int .i64 u.fin.line,.int .i64 u.fin.col] 36));have bxy:Below wx.heap.size wx wy:=by rw[hwy];exact (S.below_drewN (Below.refl _ wx) 1).alloc (Nat.le_refl _) _
    have ky:wy.heap[wx.heap.size]?=some (.cells #[.string u.label.text,.int .i64 u.label.off,.int .i64 u.label.line,.int .i64 u.label.col,.string u.key.text,.int .i64 u.key.off,.int .i64 u.key.line,.int .i64 u.key.col,.string u.fin.text,.int .i64 u.fin.off,.int .i64 u.fin.line,.int .i64 u.fin.col] 36 (0,0)):=by rw[hwy];exact World.alloc_heap_new _ _
    have BY:=bTr BX bxy;obtain⟨Y,hY⟩:=eXb wx.heap.size;rw[hY] at ky;have WK:Hid (∀W,Below wy.heap.size wy W→Yes 75 #[.slice (some ⟨X,0,none⟩) 3 3,.slice (some ⟨Y,0,none⟩) 3 3,.bool p] W):=fun W hW=>q4e ⟨_,_,3,3,3,[s.label,s.key,s.fin],[u.label,u.key,u.fin],rfl,rfl,rfl,by decide,qqk EQ.out.lab EQ.out.key EQ.out.fin,(TX.out wy bxy).under hW,(toks3 ky).under hW⟩
    have UY:Hid (∀W,Below wy.heap.size wy W→Below wr.heap.size wr W):=fun W hW=>BY.out.trans (hW.mono BY.out.size)
    have k1:s.kind=u.kind:=EQ.out.kind;have k2:s.proving=u.proving:=EQ.out.prov;clear hZ hZ_15 bxy ky TX EQ BX BXd BRd
    try rw[←hwy]
    try rw[show (wx.alloc (.cells #[.string u.label.text,.int .i64 u.label.off,.int .i64 u.label.line,.int .i64 u.label.col,.string u.key.text,.int .i64 u.key.off,.int .i64 u.key.line,.int .i64 u.key.col,.string u.fin.text,.int .i64 u.fin.off,.int .i64 u.fin.line,.int .i64 u.fin.col] 36)).drew=wy by rw[hwy];rfl]
    try rw[hY]
    clear hwy hY
    as_aux_lemma =>
     go_upto_region 8 with fail;replace CB:Hid (∀W,Below wr.heap.size wr W→W.cell? ⟨gb,ob + j * 16,none⟩=some (.int .i64 s.kind)∧W.cell? ⟨gb,ob + j * 16 + 1,none⟩=some (.string u.label.text)∧W.cell? ⟨gb,ob + j * 16 + 1 + 1,none⟩=some (.int .i64 u.label.off)∧W.cell? ⟨gb,ob + j * 16 + 1 + 2,none⟩=some (.int .i64 u.label.line)∧W.cell? ⟨gb,ob + j * 16 + 1 + 3,none⟩=some (.int .i64 u.label.col)∧W.cell? ⟨gb,ob + j * 16 + 5,none⟩=some (.string u.key.text)∧W.cell? ⟨gb,ob + j * 16 + 5 + 1,none⟩=some (.int .i64 u.key.off)∧W.cell? ⟨gb,ob + j * 16 + 5 + 2,none⟩=some (.int .i64 u.key.line)∧W.cell? ⟨gb,ob + j * 16 + 5 + 3,none⟩=some (.int .i64 u.key.col)∧W.cell? ⟨gb,ob + j * 16 + 9,none⟩=some (.bool s.proving)∧W.cell? ⟨gb,ob + j * 16 + 10,none⟩=some (.slice aw2 u.words.length cw2)∧W.cell? ⟨gb,ob + j * 16 + 11,none⟩=some (.slice ap2 u.proof.length cp2)∧W.cell? ⟨gb,ob + j * 16 + 12,none⟩=some (.string u.fin.text)∧W.cell? ⟨gb,ob + j * 16 + 12 + 1,none⟩=some (.int .i64 u.fin.off)∧W.cell? ⟨gb,ob + j * 16 + 12 + 2,none⟩=some (.int .i64 u.fin.line)∧W.cell? ⟨gb,ob + j * 16 + 12 + 3,none⟩=some (.int .i64 u.fin.col)):=fun W hW=>by (have h9:=CB.out W hW);(rw[←k1,←k2] at h9);exact h9
     have BYd:Hid (Below wy.heap.size wy wy.drew):=S.below_drewN bRf 1;refine wp_region_held_drew (S:=fun w'=>(w'.cell? ⟨ga,oa + j * 16,none⟩=some (.int .i64 s.kind)∧w'.cell? ⟨ga,oa + j * 16 + 1,none⟩=some (.string s.label.text)∧w'.cell? ⟨ga,oa + j * 16 + 1 + 1,none⟩=some (.int .i64 s.label.off)∧w'.cell? ⟨ga,oa + j * 16 + 1 + 2,none⟩=some (.int .i64 s.label.line)∧w'.cell? ⟨ga,oa + j * 16 + 1 + 3,none⟩=some (.int .i64 s.label.col)∧w'.cell? ⟨ga,oa + j * 16 + 5,none⟩=some (.string s.key.text)∧w'.cell? ⟨ga,oa + j * 16 + 5 + 1,none⟩=some (.int .i64 s.key.off)∧w'.cell? ⟨ga,oa + j * 16 + 5 + 2,none⟩=some (.int .i64 s.key.line)∧w'.cell? ⟨ga,oa + j * 16 + 5 + 3,none⟩=some (.int .i64 s.key.col)∧w'.cell? ⟨ga,oa + j * 16 + 9,none⟩=some (.bool s.proving)∧w'.cell? ⟨ga,oa + j * 16 + 10,none⟩=some (.slice aw1 s.words.length cw1)∧w'.cell? ⟨ga,oa + j * 16 + 11,none⟩=some (.slice ap1 s.proof.length cp1)∧w'.cell? ⟨ga,oa + j * 16 + 12,none⟩=some (.string s.fin.text)∧w'.cell? ⟨ga,oa + j * 16 + 12 + 1,none⟩=some (.int .i64 s.fin.off)∧w'.cell? ⟨ga,oa + j * 16 + 12 + 2,none⟩=some (.int .i64 s.fin.line)∧w'.cell? ⟨ga,oa + j * 16 + 12 + 3,none⟩=some (.int .i64 s.fin.col))∧w'.cell? ⟨gb,ob + j * 16,none⟩=some (.int .i64 s.kind)∧w'.cell? ⟨gb,ob + j * 16 + 1,none⟩=some (.string u.label.text)∧w'.cell? ⟨gb,ob + j * 16 + 1 + 1,none⟩=some (.int .i64 u.label.off)∧w'.cell? ⟨gb,ob + j * 16 + 1 + 2,none⟩=some (.int .i64 u.label.line)∧w'.cell? ⟨gb,ob + j * 16 + 1 + 3,none⟩=some (.int .i64 u.label.col)∧w'.cell? ⟨gb,ob + j * 16 + 5,none⟩=some (.string u.key.text)∧w'.cell? ⟨gb,ob + j * 16 + 5 + 1,none⟩=some (.int .i64 u.key.off)∧w'.cell? ⟨gb,ob + j * 16 + 5 + 2,none⟩=some (.int .i64 u.key.line)∧w'.cell? ⟨gb,ob + j * 16 + 5 + 3,none⟩=some (.int .i64 u.key.col)∧w'.cell? ⟨gb,ob + j * 16 + 9,none⟩=some (.bool s.proving)∧w'.cell? ⟨gb,ob + j * 16 + 10,none⟩=some (.slice aw2 u.words.length cw2)∧w'.cell? ⟨gb,ob + j * 16 + 11,none⟩=some (.slice ap2 u.proof.length cp2)∧w'.cell? ⟨gb,ob + j * 16 + 12,none⟩=some (.string u.fin.text)∧w'.cell? ⟨gb,ob + j * 16 + 12 + 1,none⟩=some (.int .i64 u.fin.off)∧w'.cell? ⟨gb,ob + j * 16 + 12 + 2,none⟩=some (.int .i64 u.fin.line)∧w'.cell? ⟨gb,ob + j * 16 + 12 + 3,none⟩=some (.int .i64 u.fin.col)) (by kernel_rfl) ?_ (fun hZ=>?_)
     ·exact⟨CA.out _ (UY.out _ BYd.out),CB.out _ (UY.out _ BYd.out)⟩
     refine tkr 0 hZ ?_;refine tkr 1 hZ ?_;refine tkr 2 hZ ?_;refine tkr 3 hZ ?_;refine tkr 4 hZ ?_;refine tkr 5 hZ ?_;refine tkr 6 hZ ?_;refine tkr 7 hZ ?_;refine tkr 8 hZ ?_;refine tkr 9 hZ ?_;refine tkr 10 hZ ?_;refine tkr 11 hZ ?_;refine tkr 12 hZ ?_
     as_aux_lemma =>
      refine tkr 13 hZ ?_;refine tkr 14 hZ ?_;refine tkr 15 hZ ?_;refine tkr 16 hZ ?_;refine tkr 17 hZ ?_;refine tkr 18 hZ ?_;refine tkr 19 hZ ?_;refine tkr 20 hZ ?_;refine tkr 21 hZ ?_;refine tkr 22 hZ ?_;refine tkr 23 hZ ?_;refine tkr 24 hZ ?_;refine tkr 25 hZ ?_;refine tkr 26 hZ ?_;refine tkr 27 hZ ?_;refine rkq 28 fun K hK=>?_
      go_simp;go_at_call 75;refine cMo (WK.out _ BYd.out) ?_;rintro e q1 ⟨rfl,hbq⟩;have D1:=bTr BYd hbq;clear hbq
      try go_wp2_with fail
      refine aQq hK ?_ fun hZ_28=>?_
      ·exact⟨CA.out _ (UY.out _ D1.out),CB.out _ (UY.out _ D1.out)⟩
      clear hK K
      as_aux_lemma =>
       refine tkr 29 hZ_28 ?_;refine tkr 30 hZ_28 ?_;refine tkr 31 hZ_28 ?_;refine tkr 32 hZ_28 ?_;refine tkr 33 hZ_28 ?_;refine tkr 34 hZ_28 ?_;refine tkr 35 hZ_28 ?_;refine tkr 36 hZ_28 ?_;refine tkr 37 hZ_28 ?_;refine tkr 38 hZ_28 ?_;refine tkr 39 hZ_28 ?_;refine tkr 40 hZ_28 ?_;refine tkr 41 hZ_28 ?_;refine tkr 42 hZ_28 ?_;refine rkq 43 fun K hK=>?_
       go_simp;go_at_call 75;refine cMo (WW.out _ (UY.out _ D1.out)) ?_;rintro e q2 ⟨rfl,hbq⟩;have D2:=bTr D1 hbq;clear hbq
       try go_wp2_with fail
       refine aQq hK ?_ fun hZ_43=>?_
       ·exact⟨CA.out _ (UY.out _ D2.out),CB.out _ (UY.out _ D2.out)⟩
       clear hK K
       as_aux_lemma =>
        refine tkr 44 hZ_43 ?_;refine tkr 45 hZ_43 ?_;refine tkr 46 hZ_43 ?_;refine tkr 47 hZ_43 ?_;refine tkr 48 hZ_43 ?_;refine tkr 49 hZ_43 ?_;refine tkr 50 hZ_43 ?_;refine tkr 51 hZ_43 ?_;refine tkr 52 hZ_43 ?_;refine tkr 53 hZ_43 ?_;refine tkr 54 hZ_43 ?_;refine tkr 55 hZ_43 ?_;refine tkr 56 hZ_43 ?_;refine tkr 57 hZ_43 ?_;refine rkq 58 fun K hK=>?_
        go_simp;go_at_call 75;refine cMo (WP.out _ (UY.out _ D2.out)) ?_;rintro e q3 ⟨rfl,hbq⟩;have D3:=bTr D2 hbq;clear hbq
        try go_wp2_with fail
        refine aQq hK ?_ fun hZ_58=>?_
        ·exact⟨CA.out _ (UY.out _ D3.out),CB.out _ (UY.out _ D3.out)⟩
        clear hK K;refine tkr 59 hZ_58 ?_;refine tkr 60 hZ_58 ?_;refine wpAnyH_done (by kernel_rfl) ?_ _;have BE:Hid (Below w.heap.size w q3):=hB0.out.trans ((UY.out _ D3.out).mono hB0.out.size);clear hZ hZ_28 hZ_43 hZ_58 CA CB WK WW WP UY D1 D2 D3 BYd
        go_wp2
        exact⟨⟨j + 1,by omega,by go_num,BE.out⟩,by simp[intOf];omega⟩
  ·have n1:¬(j:Int) < (n:Int):=by omega
   go_wp2
   go_ret
   exact⟨rfl,hB0.out⟩
end B
end Go.Proofs.YtbancemhfjjmlaaGreatDoor
