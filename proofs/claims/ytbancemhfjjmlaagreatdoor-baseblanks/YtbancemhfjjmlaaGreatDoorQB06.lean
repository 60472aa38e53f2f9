/- Laid together. -/
import Derived.Test.YtbancemhfjjmlaaGreatDoorQB05
set_option maxRecDepth 100000
set_option maxHeartbeats 32000000
namespace Go.Proofs.YtbancemhfjjmlaaGreatDoor
namespace F
open S (ql)
open Go.Maps Go.RowKit Go.WideMaps
variable {tq:Nat} {isV:Int→Bool}
theorem qiz (w:World) (MB:Nat) (F:Bool→Int→Bool) (O:Nat→Prop) (T N:Nat) (x:ScC) (v:Value) (ts:List HyC) (hx:q6l O w x) (hc:w.cell? ⟨T,0,none⟩=some x.vl) (hN:N≤w.heap.size) (hO:∀g,O g→g < N) (ht:jq N w v ts) (hn:ts.length + x.hs.length≤1048576) (hlen:∀y ∈ x.hs,y.h.ex.length≤17592186044416)
  (hF:∀W,Below N w W→∀(lab:ByteArray) (fl:Bool) (var:Int) (a:Option Addr) (n c:Nat),Calls Tryz.prog 234 #[.agg #[.string lab,.bool fl,.int .i64 var,.slice a n c],.pointer (some ⟨MB,0,none⟩)] W fun e W'=>e=.returned (.bool (F fl var))∧Below W.heap.size W W') :
  Calls Tryz.prog 248 #[.pointer (some ⟨T,0,none⟩),v,.func (.func 234) #[] #[.pointer (some ⟨MB,0,none⟩)]] w fun e w'=>Below N w w'∧∃v' ts',e=.returned v'∧jq N w' v' ts'∧ts'.map (·.h)=ts.map (·.h)++q0g F x.hs:=by
 obtain⟨iH,hiH,iHz,iHs,iHb⟩:=info_parts qaw;have hl:=hx.l;obtain⟨al,cl,el,_⟩:=ql hl;rw[el] at hc hl;obtain⟨nh,hnh⟩:=eXb x.hs.length;rw[hnh] at hc hl hn;have HL:Hid (w.ownsRow 0 57 4 (.slice al nh cl) nh (uf x.hs)∧∀g,(Value.slice al nh cl).ownBlock=some g→g < N):=⟨hl,fun g e=>hO g (hx.lo g (by rw[el,hnh];exact e))⟩;have HE:Hid (∀y ∈ x.hs,w.ownsRow 0 3 1 y.ve y.h.ex.length (xw y.h.ex)∧y.h.ex.length≤17592186044416∧∀g,y.ve.ownBlock=some g→g < N):=fun y hy=>⟨(hx.e y hy).1,hlen y hy,fun g e=>hO g ((hx.e y hy).2 g e)⟩
 have HH:=hid hnh;have HF:Hid _:=hF;have HT:=hid ht;have HN:=hid hN;have HM:=hid hn;have hnb:nh≤1048576:=nLt (Nat.le_add_left _ _) hn;clear hl hnh hF ht hN hx hO hlen el hn;go_enter Tryz.func248,Tryz.ntmps248;go_wp2_with fail
 go_loopw [1,14] (fun v1 v14 wx=>∃(j:Nat) (us:List HyC),j≤nh∧v14=.int .i64 j∧Hid (jq N wx v1 us)∧Hid (us.map (·.h)=ts.map (·.h)++q0g F (x.hs.take j)∧us.length≤ts.length + j)∧Hid (Below N w wx)) (fun _ v14 _=>nh - (intOf v14).toNat)
 case atStart=>exact⟨0,ts,Nat.zero_le _,rfl,HT.out,⟨by simp[q0g],Nat.le_refl _⟩,bRf⟩
 case round =>
  obtain⟨j,us,hj,rfl,hU,hS,hB⟩:=hrel
  by_cases hlt:j < nh
  ·have n1:(j:Int) < (nh:Int):=by omega
   obtain⟨y,hy⟩:∃y,x.hs[j]?=some y:=⟨_,gEq (by rw[HH.out];exact hlt)⟩;have hrow:wr.ownsRow 0 57 4 (.slice al nh cl) nh (uf x.hs):=S.M.qh HL.out.1 (q4q hB.out) fun g e h=>by have:=HL.out.2 g e;omega
   obtain⟨g,c',e,_,_,_⟩:=S.M.q0h hrow (by omega)
   cases e;obtain⟨y0,y1,y2,y3⟩:=qb9 hrow j y hy;obtain⟨he1,he2,he3⟩:=HE.out y (mGe hy);have her:wr.ownsRow 0 3 1 y.ve y.h.ex.length (xw y.h.ex):=S.M.qh he1 (q4q hB.out) fun g e h=>by have:=he3 g e;omega
   obtain⟨ae,ce,ee,_,hns⟩:=q3n her;obtain⟨ne,hne⟩:=eXb y.h.ex.length;rw[ee,hne] at y3;have WT:=qba (F:=F) hy;obtain⟨⟨lab,fl,var,ex⟩,ve⟩:=y;dsimp only at *;obtain⟨wa,hwa⟩:=eXa (wr.alloc (.cells #[.string lab,.bool fl,.int .i64 var,.slice ae ne ce] 57));have HWA:=hid hwa;have ba:Below wr.heap.size wr wa:=by rw[hwa];exact qo _ _
   have hNr:N≤wr.heap.size:=nLt HN.out hB.out.size;obtain⟨Bx,hBx⟩:=eXb wr.heap.size;have ka:wa.heap[Bx]?=some (.cells #[.string lab,.bool fl,.int .i64 var,.slice ae ne ce] 57 (0,0)):=by rw[hwa,←hBx];exact heap_alloc_new wr _
   have z0:wa.cell? ⟨Bx,0,none⟩=some (.string lab):=S.M.qc ka 0;have z1:wa.cell? ⟨Bx,1,none⟩=some (.bool fl):=S.M.qc ka 1;have z2:wa.cell? ⟨Bx,2,none⟩=some (.int .i64 var):=S.M.qc ka 2;have z3:wa.cell? ⟨Bx,3,none⟩=some (.slice ae ne ce):=S.M.qc ka 3;have BA:Hid (Below N w wa):=hB.out.trans (ba.mono hNr);have CF:Hid _:=HF.out wa BA.out lab fl var ae ne ce;have KA:Hid (wa.heap[Bx]?=some (.cells #[.string lab,.bool fl,.int .i64 var,.slice ae ne ce] 57 (0,0))∧Bx < wa.heap.size):=⟨ka,(aIx ka)⟩;have HB:=hid hBx;have BR:Hid (Below Bx wr wa):=by rw[←hBx];exact ba
   have HNS:Hid (uj wa ae ex∧ex.length=ne∧ne≤17592186044416):=⟨hns.under ba,hne,by rw[←hne];exact he2⟩;have HWT:=hid WT;have HNr:Hid (N≤Bx):=by rw[←hBx];exact hNr
   clear hrow her hns ee hne WT hwa ba hNr ka he1 he2 he3 hy hBx;go_upto_region 4 with fail;rw[←HWA.out,HB.out];clear HWA y0 y1 y2 y3
   cases hFv:F fl var with
   | false =>
    rw[hFv] at CF HWT;go_wp2_with fail;refine cMo CF.out ?_;rintro e w2 ⟨rfl,hb2⟩;have U2:Hid (jq N w2 u1 us):=(hU.out.below (by rw[HB.out];exact BR.out)).below hb2;have B2:Hid (Below N w w2):=BA.out.trans (hb2.mono (nLt HNr.out (Nat.le_of_lt KA.out.2)));have S2:Hid (us.map (·.h)=ts.map (·.h)++q0g F (x.hs.take (j + 1))∧us.length≤ts.length + (j + 1)):=⟨by rw[hS.out.1,HWT.out];simp,by have:=hS.out.2;omega⟩;clear hb2 hU hS hFv HWT
    go_wp2
    exact⟨⟨j + 1,us,by omega,by go_num,U2.out,S2.out,B2.out⟩,by simp[intOf];omega⟩
   | true =>
    rw[hFv] at CF HWT;go_wp2_with fail;refine cMo CF.out ?_;rintro e w2 ⟨rfl,hb2⟩;have k2:w2.heap[Bx]?=some (.cells #[.string lab,.bool fl,.int .i64 var,.slice ae ne ce] 57 (0,0)):=(hb2.block Bx KA.out.2).trans KA.out.1;have q3:w2.cell? ⟨Bx,3,none⟩=some (.slice ae ne ce):=S.M.qc k2 3;have B2:Hid (Below Bx wr w2):=BR.out.trans (hb2.mono (Nat.le_of_lt KA.out.2));have CL:Hid _:=clone_any w2 ae ne ce ex HNS.out.2.1 HNS.out.2.2 (HNS.out.1.under hb2);have K2:Hid (w2.heap[Bx]?=some (.cells #[.string lab,.bool fl,.int .i64 var,.slice ae ne ce] 57 (0,0))∧Bx < w2.heap.size):=⟨k2,(aIx k2)⟩;clear hb2 k2 z0 z1 z2 z3 CF KA BR;go_wp2_with fail;refine cMo CL.out ?_;rintro e w3 ⟨v',rfl,hv',hb3⟩;obtain⟨a3,c3,rfl,_⟩:=ql hv';have k3:w3.heap[Bx]?=some (.cells #[.string lab,.bool fl,.int .i64 var,.slice ae ne ce] 57 (0,0)):=(hb3.block Bx K2.out.2).trans K2.out.1;have p3:w3.cell? ⟨Bx,3,none⟩=some (.slice ae ne ce):=S.M.qc k3 3;have f3:w3.frozen? ⟨Bx,3,none⟩=false:=by simp[World.frozen?,k3]
    obtain⟨w4,hw4⟩:=eXa (w3.setCell ⟨Bx,3,none⟩ (.slice a3 ne c3));have HW4:=hid hw4;have ch4:S.M.Ch (fun b=>b=Bx) w3 w4:=by rw[hw4];exact S.M.jc w3 Bx 3 _
    have K4:Hid (w4.heap[Bx]?=some (.cells #[.string lab,.bool fl,.int .i64 var,.slice a3 ne c3] 57 (0,0))):=by show _=_;rw[hw4];exact S.M.qj k3
    have hB3:Below Bx wr w3:=B2.out.trans (hb3.mono (Nat.le_of_lt K2.out.2));have B4:Hid (Below Bx wr w4):=hB3.trans (ch4.below (by have h1:=hB3.size;have h2:=HB.out;omega) fun b e=>by omega);have V4:Hid (w4.ownsRow Bx 3 1 (.slice a3 ne c3) ne (xw ex)):=S.M.qp (S.M.qh hv' ch4 fun b hb e=>own_ne hv' k3 (by decide) (by rw[hb,e])) (Nat.le_of_lt K2.out.2);clear hv' hb3 k3 hw4 ch4 hB3 CL q3 B2;go_upto_region 6 with fail;rw[←HW4.out];clear HW4 p3 f3;have q0:w4.cell? ⟨Bx,0,none⟩=some (.string lab):=S.M.qc K4.out 0;have q1:w4.cell? ⟨Bx,1,none⟩=some (.bool fl):=S.M.qc K4.out 1;have q2:w4.cell? ⟨Bx,2,none⟩=some (.int .i64 var):=S.M.qc K4.out 2;have q3:w4.cell? ⟨Bx,3,none⟩=some (.slice a3 ne c3):=S.M.qc K4.out 3;have hul:us.length≤1048575:=by have h1:=hS.out.2;have h2:=HM.out;omega
    obtain⟨ku,hku⟩:=eXb us.length;rw[hku] at hul;have HKU:=hid hku;have U4:Hid (jq N w4 u1 us):=hU.out.below (by rw[HB.out];exact B4.out);have O4:Hid (w4.ownsRow N 57 4 u1 ku (uf us)):=by have h:=U4.out.own;rw[HKU.out] at h;exact h
    have HN4:Hid (N≤w4.heap.size):=nLt HNr.out (Nat.le_of_lt (aIx K4.out));clear hku
    go_wp2_with (at_builtin;refine wpList_append_lies (w:=w4.alloc (.cells #[.string lab,.bool fl,.int .i64 var,.slice a3 ne c3] 57)) rfl _ _ 44 rfl N 57 iH _ 4 56 Tryz.underlying44 hiH iHz iHs iHb rfl (by decide) _ ku (uf us) (by rfl) (S.M.zk O4.out _) ⟨w4.heap.size,0,none⟩ 1 1 [.string lab,.bool fl,.int .i64 var,.slice a3 ne c3] (by rfl) (by rfl) (World.news_of_block (cs:=#[.string lab,.bool fl,.int .i64 var,.slice a3 ne c3]) (t:=57) (fr:=(0,0)) (heap_alloc_new w4 _)) (by simp[Value.oneCell']) (by omega) (by unfold maxLen;omega) (by omega) (nLt HN4.out (qo w4 _).size) _ rfl ?_;intro gg cap' w8 hown8 hgrow hat hlt8;have O8:=hid hown8;have C8:Hid (S.M.Ch (fun b=>Value.ownBlock u1=some b) w4 w8):=((S.M.Ch.oB (qo w4 _)).trans (S.M.Ch.jw hgrow));clear hown8 hgrow hat hlt8)
    have hT8:Hid (jq N w8 (.slice (some ⟨gg,0,none⟩) (ku + 1) cap') (us++[⟨⟨lab,fl,var,ex⟩,.slice a3 ne c3⟩])):=by
     show jq _ _ _ _
     refine⟨?_,fun z hz=>?_,List.pairwise_append.2 ⟨hU.out.ap,by simp,fun z hz z' hz'=>?_⟩⟩
     ·rw[lAp,HKU.out,q3m];exact O8.out
     ·rcases mAp.1 hz with hz | hz
      ·have h1:=U4.out.e z hz;exact S.M.qh h1 C8.out fun b hb e=>q00 h1 U4.out.own (by decide) b hb e
      ·rw[mSg.1 hz]
       show w8.ownsRow N 3 1 (.slice a3 ne c3) ex.length (xw ex)
       rw[HNS.out.2.1];exact S.M.qp (S.M.qh V4.out C8.out fun b hb e=>q00 V4.out U4.out.own (by decide) b hb e) HNr.out
     ·rw[mSg.1 hz'];intro b hb e;have h1:=S.M.jr (hU.out.e z hz) b hb;have h2:=S.M.zf V4.out b e;have h3:=HB.out;omega
    have hB8:Below N w w8:=hB.out.trans ((B4.out.mono HNr.out).trans (C8.out.below HN4.out fun b e=>S.M.zf U4.out.own b e));exact⟨⟨j + 1,us++[HyC.mk (Hy.mk lab fl var ex) (Value.slice a3 ne c3)],by omega,by go_num,hT8.out,⟨by rw[List.map_append,hS.out.1,HWT.out];simp,by rw[lAp];have:=hS.out.2;simp;omega⟩,hB8⟩,by simp[intOf];omega⟩
  ·have n1:¬(j:Int) < (nh:Int):=by omega
   have hall:x.hs.take j=x.hs:=List.take_of_length_le (by rw[HH.out];omega);have HS2:Hid (us.map (·.h)=ts.map (·.h)++q0g F x.hs):=by have h:=hS.out.1;rw[hall] at h;exact h
   clear hall hS
   go_wp2
   go_ret
   exact⟨hB.out,_,rfl,us,hU.out,HS2.out⟩
def vk (xs:List ScC):List HyC:=xs.flatMap (·.hs)
theorem q4j {xs:List ScC}{j:Nat}{x:ScC}(h:xs[j]?=some x):vk (xs.take (j + 1))=vk (xs.take j)++x.hs:=by unfold vk;rw[List.take_add_one,h,List.flatMap_append];simp
theorem qel (xs:List ScC)(j:Nat):(vk (xs.take j)).length≤(vk xs).length:=by
 unfold vk
 conv=>rhs;rw[←List.take_append_drop j xs,List.flatMap_append,lAp]
 omega
theorem q87 (F:Bool→Int→Bool)(l m:List HyC):q0g F (l++m)=q0g F l++q0g F m:=by unfold q0g;rw[List.map_append,List.filter_append]
theorem qga (F:Bool→Int→Bool)(l:List HyC):(q0g F l).length≤l.length:=by
 unfold q0g;exact nLt (List.length_filter_le _ _) (by rw[lMa];exact Nat.le_refl _)
theorem qj0 (w:World) (F:Bool→Int→Bool) (O:Nat→Prop) (P:Nat) (vS:Value) (xs:List ScC) (h:qw tq O w P vS xs) (hn:xs.length≤1048576) (hp:(vk xs).length≤1048576) (hlen:∀x ∈ xs,∀y ∈ x.hs,y.h.ex.length≤17592186044416)
  (hF:∀W,Below w.heap.size w W→∀(lab:ByteArray) (fl:Bool) (var:Int) (a:Option Addr) (n c:Nat),Calls Tryz.prog 214 #[.agg #[.string lab,.bool fl,.int .i64 var,.slice a n c]] W fun e W'=>e=.returned (.bool (F fl var))∧Below W.heap.size W W') :
  Calls Tryz.prog 215 #[.pointer (some ⟨P,0,none⟩),.func (.func 214) #[] #[]] w fun e w'=>Below w.heap.size w w'∧∃v' ts',e=.returned v'∧jq w.heap.size w' v' ts'∧ts'.map (·.h)=q0g F (vk xs):=by
 obtain⟨a,c,rfl,_⟩:=ql h.row;have x1:=h.cells.2;obtain⟨n,hl⟩:=eXb xs.length;rw[hl] at x1 hn;have HL:=hid hl;have HS:Hid (qw tq O w P (.slice a n c) xs):=by have h':=h;rw[hl] at h';exact h'
 have HP:Hid ((vk xs).length≤1048576∧∀x ∈ xs,∀y ∈ x.hs,y.h.ex.length≤17592186044416):=⟨hp,hlen⟩;obtain⟨N,hN⟩:=eXb w.heap.size;have HN:=hid hN;rw[hN] at hF ⊢;have HF:Hid _:=hF;clear h hl hp hlen hN hF;go_enter Tryz.func215,Tryz.ntmps215;go_wp2_with fail
 go_loopw [5,13] (fun v5 v13 wx=>∃(j:Nat) (us:List HyC),j≤n∧v13=.int .i64 j∧Hid (us.map (·.h)=q0g F (vk (xs.take j)))∧Hid (jq N wx v5 us)∧Hid (Below N w wx)) (fun _ v13 _=>n - (intOf v13).toNat)
 case atStart=>exact⟨0,[],Nat.zero_le _,rfl,rfl,jq.nil _ _,bRf⟩
 case round =>
  obtain⟨j,us,hj,rfl,hU,hT,hB⟩:=hrel;have B0:Hid (Below w.heap.size w wr):=by show Below _ _ _;rw[HN.out];exact hB.out
  by_cases hlt:j < n
  ·have n1:(j:Int) < (n:Int):=by omega
   obtain⟨x,hx⟩:∃x,xs[j]?=some x:=⟨_,gEq (by rw[HL.out];exact hlt)⟩;have hS:=HS.out.below B0.out;have hrow:=hS.row;rw[HL.out] at hrow;obtain⟨g,c',e,_,_,_⟩:=S.M.q0h hrow (by omega)
   cases e;obtain⟨y0,y1,y2⟩:=q8z hrow j x hx;obtain⟨wa,hwa⟩:=eXa (wr.alloc (.cells #[x.vl,.map (some x.mb),x.vp] 225));have ba:Below wr.heap.size wr wa:=by rw[hwa];exact qo _ _
   have ka:wa.heap[wr.heap.size]?=some (.cells #[x.vl,.map (some x.mb),x.vp] 225 (0,0)):=by rw[hwa];exact heap_alloc_new wr _
   have BA:Hid (Below N w wa):=hB.out.trans (ba.mono (by have h1:=hB.out.size;have h2:=HN.out;omega));have hSa:qw tq O wa P (.slice (some ⟨g,0,none⟩) n c) xs:=HS.out.below (by rw[HN.out];exact BA.out);have hok:=hSa.each x (mGe hx);have hul:us.length≤(vk (xs.take j)).length:=by
    have h1:=qga F (vk (xs.take j));rw[←hU.out,lMa] at h1;exact h1
   have TL:Hid _:=qiq wa F O wr.heap.size N x u5 us hok (S.M.qc ka 0) (by have h1:=BA.out.size;have h2:=HN.out;omega) (fun b hb=>by have h1:=HS.out.lt b hb;have h2:=HN.out;omega) (hT.out.below ba) (by
    have h1:=qel xs (j + 1)
    rw[q4j hx,lAp] at h1
    have h2:=HP.out.1
    omega) (HP.out.2 x (mGe hx)) (fun W hW=>HF.out W (BA.out.trans hW))
   have WT:Hid (q0g F (vk (xs.take (j + 1)))=us.map (·.h)++q0g F x.hs):=by show _=_;rw[q4j hx,q87,hU.out]
   obtain⟨al,cl,el,_⟩:=ql (hS.each x (mGe hx)).l;obtain⟨ap,cp,ep,_⟩:=ql (hS.each x (mGe hx)).p;rw[el] at y0 hwa;rw[ep] at y2 hwa;obtain⟨nh,hnh⟩:=eXb x.hs.length;obtain⟨np,hnp⟩:=eXb x.ps.length;obtain⟨mb,hmb⟩:=eXb x.mb;rw[hnh] at y0 hwa;rw[hmb] at y1 hwa;rw[hnp] at y2 hwa;have HWA:=hid hwa;obtain⟨Bx,hBx⟩:=eXb wr.heap.size;have HBX:=hid hBx;rw[hBx] at TL;clear hS hrow hok hx ba ka hwa el ep hnh hnp hmb hB hBx hSa hul hU hT;go_upto_region 5 with fail;rw[←HWA.out,HBX.out];clear HWA y0 y1 y2;go_wp2_with fail;refine cMo TL.out ?_;rintro e w2 ⟨hb2,v',ts',rfl,hT',hm'⟩;have T2:=hid hT';have U2:Hid (ts'.map (·.h)=q0g F (vk (xs.take (j + 1)))):=hm'.trans WT.out.symm;have B2:Hid (Below N w w2):=BA.out.trans hb2;clear hb2 hT' hm' TL WT
   go_wp2
   exact⟨⟨j + 1,ts',by omega,by go_num,U2.out,T2.out,B2.out⟩,by simp[intOf];omega⟩
  ·have n1:¬(j:Int) < (n:Int):=by omega
   have hall:xs.take j=xs:=List.take_of_length_le (by rw[HL.out];omega);have U2:Hid (us.map (·.h)=q0g F (vk xs)):=by have h:=hU.out;rw[hall] at h;exact h
   clear hall hU
   go_wp2
   go_ret
   exact⟨hB.out,_,rfl,us,hT.out,U2.out⟩
theorem qj1 (w:World) (MB:Nat) (F:Bool→Int→Bool) (O:Nat→Prop) (P:Nat) (vS:Value) (xs:List ScC) (h:qw tq O w P vS xs) (hn:xs.length≤1048576) (hp:(vk xs).length≤1048576) (hlen:∀x ∈ xs,∀y ∈ x.hs,y.h.ex.length≤17592186044416)
  (hF:∀W,Below w.heap.size w W→∀(lab:ByteArray) (fl:Bool) (var:Int) (a:Option Addr) (n c:Nat),Calls Tryz.prog 234 #[.agg #[.string lab,.bool fl,.int .i64 var,.slice a n c],.pointer (some ⟨MB,0,none⟩)] W fun e W'=>e=.returned (.bool (F fl var))∧Below W.heap.size W W') :
  Calls Tryz.prog 215 #[.pointer (some ⟨P,0,none⟩),.func (.func 234) #[] #[.pointer (some ⟨MB,0,none⟩)]] w fun e w'=>Below w.heap.size w w'∧∃v' ts',e=.returned v'∧jq w.heap.size w' v' ts'∧ts'.map (·.h)=q0g F (vk xs):=by
 obtain⟨a,c,rfl,_⟩:=ql h.row;have x1:=h.cells.2;obtain⟨n,hl⟩:=eXb xs.length;rw[hl] at x1 hn;have HL:=hid hl;have HS:Hid (qw tq O w P (.slice a n c) xs):=by have h':=h;rw[hl] at h';exact h'
 have HP:Hid ((vk xs).length≤1048576∧∀x ∈ xs,∀y ∈ x.hs,y.h.ex.length≤17592186044416):=⟨hp,hlen⟩;obtain⟨N,hN⟩:=eXb w.heap.size;have HN:=hid hN;rw[hN] at hF ⊢;have HF:Hid _:=hF;clear h hl hp hlen hN hF;go_enter Tryz.func215,Tryz.ntmps215;go_wp2_with fail
 go_loopw [5,13] (fun v5 v13 wx=>∃(j:Nat) (us:List HyC),j≤n∧v13=.int .i64 j∧Hid (us.map (·.h)=q0g F (vk (xs.take j)))∧Hid (jq N wx v5 us)∧Hid (Below N w wx)) (fun _ v13 _=>n - (intOf v13).toNat)
 case atStart=>exact⟨0,[],Nat.zero_le _,rfl,rfl,jq.nil _ _,bRf⟩
 case round =>
  obtain⟨j,us,hj,rfl,hU,hT,hB⟩:=hrel;have B0:Hid (Below w.heap.size w wr):=by show Below _ _ _;rw[HN.out];exact hB.out
  by_cases hlt:j < n
  ·have n1:(j:Int) < (n:Int):=by omega
   obtain⟨x,hx⟩:∃x,xs[j]?=some x:=⟨_,gEq (by rw[HL.out];exact hlt)⟩;have hS:=HS.out.below B0.out;have hrow:=hS.row;rw[HL.out] at hrow;obtain⟨g,c',e,_,_,_⟩:=S.M.q0h hrow (by omega)
   cases e;obtain⟨y0,y1,y2⟩:=q8z hrow j x hx;obtain⟨wa,hwa⟩:=eXa (wr.alloc (.cells #[x.vl,.map (some x.mb),x.vp] 225));have ba:Below wr.heap.size wr wa:=by rw[hwa];exact qo _ _
   have ka:wa.heap[wr.heap.size]?=some (.cells #[x.vl,.map (some x.mb),x.vp] 225 (0,0)):=by rw[hwa];exact heap_alloc_new wr _
   have BA:Hid (Below N w wa):=hB.out.trans (ba.mono (by have h1:=hB.out.size;have h2:=HN.out;omega));have hSa:qw tq O wa P (.slice (some ⟨g,0,none⟩) n c) xs:=HS.out.below (by rw[HN.out];exact BA.out);have hok:=hSa.each x (mGe hx);have hul:us.length≤(vk (xs.take j)).length:=by
    have h1:=qga F (vk (xs.take j));rw[←hU.out,lMa] at h1;exact h1
   have TL:Hid _:=qiz wa MB F O wr.heap.size N x u5 us hok (S.M.qc ka 0) (by have h1:=BA.out.size;have h2:=HN.out;omega) (fun b hb=>by have h1:=HS.out.lt b hb;have h2:=HN.out;omega) (hT.out.below ba) (by
    have h1:=qel xs (j + 1)
    rw[q4j hx,lAp] at h1
    have h2:=HP.out.1
    omega) (HP.out.2 x (mGe hx)) (fun W hW=>HF.out W (BA.out.trans hW))
   have WT:Hid (q0g F (vk (xs.take (j + 1)))=us.map (·.h)++q0g F x.hs):=by show _=_;rw[q4j hx,q87,hU.out]
   obtain⟨al,cl,el,_⟩:=ql (hS.each x (mGe hx)).l;obtain⟨ap,cp,ep,_⟩:=ql (hS.each x (mGe hx)).p;rw[el] at y0 hwa;rw[ep] at y2 hwa;obtain⟨nh,hnh⟩:=eXb x.hs.length;obtain⟨np,hnp⟩:=eXb x.ps.length;obtain⟨mb,hmb⟩:=eXb x.mb;rw[hnh] at y0 hwa;rw[hmb] at y1 hwa;rw[hnp] at y2 hwa;have HWA:=hid hwa;obtain⟨Bx,hBx⟩:=eXb wr.heap.size;have HBX:=hid hBx;rw[hBx] at TL;clear hS hrow hok hx ba ka hwa el ep hnh hnp hmb hB hBx hSa hul hU hT;go_upto_region 5 with fail;rw[←HWA.out,HBX.out];clear HWA y0 y1 y2;go_wp2_with fail;refine cMo TL.out ?_;rintro e w2 ⟨hb2,v',ts',rfl,hT',hm'⟩;have T2:=hid hT';have U2:Hid (ts'.map (·.h)=q0g F (vk (xs.take (j + 1)))):=hm'.trans WT.out.symm;have B2:Hid (Below N w w2):=BA.out.trans hb2;clear hb2 hT' hm' TL WT
   go_wp2
   exact⟨⟨j + 1,ts',by omega,by go_num,U2.out,T2.out,B2.out⟩,by simp[intOf];omega⟩
  ·have n1:¬(j:Int) < (n:Int):=by omega
   have hall:xs.take j=xs:=List.take_of_length_le (by rw[HL.out];omega);have U2:Hid (us.map (·.h)=q0g F (vk xs)):=by have h:=hU.out;rw[hall] at h;exact h
   clear hall hU
   go_wp2
   go_ret
   exact⟨hB.out,_,rfl,us,hT.out,U2.out⟩
open S (ql jk)
def q03 (l:List HyC):List Int:=l.flatMap fun y=>if y.h.fl=true then [] else y.h.ex
theorem q99 {l:List HyC}{j:Nat}{y:HyC}(h:l[j]?=some y):q03 (l.take (j + 1))=q03 (l.take j)++if y.h.fl=true then [] else y.h.ex:=by unfold q03;rw[List.take_add_one,h,List.flatMap_append];simp
theorem q6s (l m:List HyC):q03 (l++m)=q03 l++q03 m:=by unfold q03;rw[List.flatMap_append]
theorem qem (l:List HyC)(j:Nat):(q03 (l.take j)).length≤(q03 l).length:=by
 conv=>rhs;rw[←List.take_append_drop j l,q6s,lAp]
 omega
theorem q2o (l m:List Int):xw (l++m)=xw l++xw m:=by unfold xw;rw[List.map_append]
theorem qq4 (l:List Int):∀u ∈ xw l,u.oneCell'=true:=fun u hu=>by
 unfold xw at hu;obtain⟨x,_,rfl⟩:=List.mem_map.1 hu
 rfl
theorem qn2 (w:World)(O:Nat→Prop)(T N:Nat)(x:ScC)(v:Value)(l:List Int)(hx:q6l O w x)(hc:w.cell? ⟨T,0,none⟩=some x.vl)(hN:N≤w.heap.size)(hO:∀g,O g→g < N)(ht:w.ownsRow N 3 1 v l.length (xw l))(hn:x.hs.length≤1048576)(hlen:l.length + (q03 x.hs).length≤17592186043904) :
  Calls Tryz.prog 260 #[.pointer (some ⟨T,0,none⟩),v] w fun e w'=>Below N w w'∧∃v',e=.returned v'∧w'.ownsRow N 3 1 v' (l++q03 x.hs).length (xw (l++q03 x.hs)):=by
 obtain⟨iN,hiN,iNz,iNs,iNb⟩:=info_parts q7l;have hl:=hx.l;obtain⟨al,cl,el,_⟩:=ql hl;rw[el] at hc hl;obtain⟨nh,hnh⟩:=eXb x.hs.length;rw[hnh] at hc hl hn;have HL:Hid (w.ownsRow 0 57 4 (.slice al nh cl) nh (uf x.hs)∧∀g,(Value.slice al nh cl).ownBlock=some g→g < N):=⟨hl,fun g e=>hO g (hx.lo g (by rw[el,hnh];exact e))⟩;have HE:Hid (∀y ∈ x.hs,w.ownsRow 0 3 1 y.ve y.h.ex.length (xw y.h.ex)∧∀g,y.ve.ownBlock=some g→g < N):=fun y hy=>⟨(hx.e y hy).1,fun g e=>hO g ((hx.e y hy).2 g e)⟩
 have HH:=hid hnh;have HT:=hid ht;have HN:=hid hN;have HM:=hid hlen;clear hl hnh ht hN hx hO hlen el;go_enter Tryz.func260,Tryz.ntmps260;go_wp2_with fail
 go_loopw [1,12] (fun v1 v12 wx=>∃(j k:Nat),j≤nh∧v12=.int .i64 j∧k≤17592186043904∧Hid ((l++q03 (x.hs.take j)).length=k)∧Hid (wx.ownsRow N 3 1 v1 k (xw (l++q03 (x.hs.take j))))∧Hid (Below N w wx)) (fun _ v12 _=>nh - (intOf v12).toNat)
 case atStart=>exact⟨0,l.length,Nat.zero_le _,rfl,by have:=HM.out;omega,(by show _=_;have e0:q03 (x.hs.take 0)=[]:=rfl;rw[e0,List.append_nil]),(by simp only[List.take_zero];have:q03 []=[]:=rfl;rw[this,List.append_nil];exact HT.out),bRf⟩
 case round =>
  obtain⟨j,k,hj,rfl,hk,hK,hU,hB⟩:=hrel
  by_cases hlt:j < nh
  ·have n1:(j:Int) < (nh:Int):=by omega
   obtain⟨y,hy⟩:∃y,x.hs[j]?=some y:=⟨_,gEq (by rw[HH.out];exact hlt)⟩;have hrow:wr.ownsRow 0 57 4 (.slice al nh cl) nh (uf x.hs):=S.M.qh HL.out.1 (q4q hB.out) fun g e h=>by have:=HL.out.2 g e;omega
   obtain⟨g,c',e,_,_,_⟩:=S.M.q0h hrow (by omega)
   cases e;obtain⟨y0,y1,y2,y3⟩:=qb9 hrow j y hy;obtain⟨he1,he3⟩:=HE.out y (mGe hy);have her:wr.ownsRow 0 3 1 y.ve y.h.ex.length (xw y.h.ex):=S.M.qh he1 (q4q hB.out) fun g e h=>by have:=he3 g e;omega
   obtain⟨ae,ce,ee,_⟩:=ql her;obtain⟨ne,hne⟩:=eXb y.h.ex.length;rw[ee,hne] at y3 her;have WT:=q99 hy;have hle:=qem x.hs (j + 1);obtain⟨⟨lab,fl,var,ex⟩,ve⟩:=y;dsimp only at *;obtain⟨wa,hwa⟩:=eXa (wr.alloc (.cells #[.string lab,.bool fl,.int .i64 var,.slice ae ne ce] 57));have HWA:=hid hwa;have ba:Below wr.heap.size wr wa:=by rw[hwa];exact qo _ _
   have hNr:N≤wr.heap.size:=nLt HN.out hB.out.size;obtain⟨Bx,hBx⟩:=eXb wr.heap.size;have ka:wa.heap[Bx]?=some (.cells #[.string lab,.bool fl,.int .i64 var,.slice ae ne ce] 57 (0,0)):=by rw[hwa,←hBx];exact heap_alloc_new wr _
   have z1:wa.cell? ⟨Bx,1,none⟩=some (.bool fl):=S.M.qc ka 1;have z3:wa.cell? ⟨Bx,3,none⟩=some (.slice ae ne ce):=S.M.qc ka 3;have BA:Hid (Below N w wa∧N≤wa.heap.size):=⟨hB.out.trans (ba.mono hNr),nLt hNr ba.size⟩;have UA:Hid (wa.ownsRow N 3 1 u1 k (xw (l++q03 (x.hs.take j)))):=S.M.qh hU.out (S.M.Ch.oB (X:=fun _=>False) ba) fun _ _ e=>e
   have EA:Hid (wa.ownsRow 0 3 1 (.slice ae ne ce) ne (xw ex)∧(xw ex).length=ne * 1):=⟨S.M.qh her (S.M.Ch.oB (X:=fun _=>False) ba) (fun _ _ e=>e),by unfold xw;rw[lMa,hne];omega⟩;have HB:=hid hBx;have LK:=HM.out;have KK:=hK.out;rw[lAp] at KK;clear hrow her ee hwa ba hNr ka he1 he3 hy hBx
   cases fl with
   | true =>
    have E2:Hid (q03 (x.hs.take (j + 1))=q03 (x.hs.take j)):=by show _=_;rw[WT];simp
    have U2:Hid (wa.ownsRow N 3 1 u1 k (xw (l++q03 (x.hs.take (j + 1))))∧(l++q03 (x.hs.take (j + 1))).length=k):=by rw[E2.out];exact⟨UA.out,hK.out⟩
    clear WT E2 UA hK KK LK hle EA hne;go_upto_region 4 with fail;rw[←HWA.out,HB.out];clear HWA y0 y1 y2 y3
    go_wp2
    exact⟨⟨j + 1,k,by omega,by go_num,by omega,U2.out.2,U2.out.1,BA.out.1⟩,by simp[intOf];omega⟩
   | false =>
    have E2:Hid (q03 (x.hs.take (j + 1))=q03 (x.hs.take j)++ex):=by show _=_;rw[WT];simp
    have hkn:k + ne≤17592186043904:=by
     rw[E2.out,lAp] at hle;omega
    have K2:Hid ((l++q03 (x.hs.take (j + 1))).length=k + ne):=by show _=_;rw[E2.out,←List.append_assoc,lAp,hK.out,hne]
    have HF:Hid (xw (l++q03 (x.hs.take (j + 1)))=xw (l++q03 (x.hs.take j))++xw ex):=by show _=_;rw[E2.out,←List.append_assoc,q2o]
    clear WT E2 hK KK LK hle hne;go_upto_region 4 with fail;rw[←HWA.out,HB.out];clear HWA y0 y1 y2 y3
    go_wp2_with (at_builtin;refine jk (w:=wa) rfl _ _ 38 rfl N 3 iN _ 1 8 Tryz.underlying38 hiN iNz iNs iNb rfl (by decide) _ k (xw (l++q03 (x.hs.take j))) (by rfl) UA.out ae ne ce (xw ex) (by rfl) EA.out.2 (q29 EA.out.1) (qq4 _) (by unfold maxLen;omega) (by omega) BA.out.2 ?_;intro a8 c8 w8 ho8 hb8;have O8:Hid (w8.ownsRow N 3 1 (.slice a8 (k + ne) c8) (k + ne) (xw (l++q03 (x.hs.take (j + 1))))):=(by show World.ownsRow _ _ _ _ _ _ _;rw[HF.out];exact ho8);have B8:Hid (Below N w w8):=BA.out.1.trans hb8;clear ho8 hb8)
    exact⟨⟨j + 1,k + ne,by omega,by go_num,by omega,K2.out,O8.out,B8.out⟩,by simp[intOf];omega⟩
  ·have n1:¬(j:Int) < (nh:Int):=by omega
   have hall:x.hs.take j=x.hs:=List.take_of_length_le (by rw[HH.out];omega);have U2:Hid (wr.ownsRow N 3 1 u1 (l++q03 x.hs).length (xw (l++q03 x.hs))):=by
    have h:=hU.out;have h2:=hK.out;rw[hall] at h h2;rw[h2];exact h
   clear hall hU hK
   go_wp2
   go_ret
   exact⟨hB.out,_,rfl,by have h:=U2.out;rw[lAp] at h;exact h⟩
theorem qgb {xs:List ScC}{j:Nat}{x:ScC}(h:xs[j]?=some x):q03 (vk (xs.take (j + 1)))=q03 (vk (xs.take j))++q03 x.hs:=by rw[q4j h,q6s]
theorem ess_le (xs:List ScC)(j:Nat):(q03 (vk (xs.take j))).length≤(q03 (vk xs)).length:=by
 conv=>rhs;rw[←List.take_append_drop j xs];unfold vk;rw[List.flatMap_append,q6s,lAp]
 unfold vk;omega
theorem qct (w:World)(O:Nat→Prop)(P:Nat)(vS:Value)(xs:List ScC)(a0:Option Addr)(n0 c0:Nat)(goal:List Int)(h:qw tq O w P vS xs)(hV:q1r tq isV w)(hn:xs.length≤1048576)(hp:(vk xs).length≤1048576)(hg:goal.length=n0)(hA:uj w a0 goal)(hlen:goal.length + (q03 (vk xs)).length≤17592186043904) :
  Calls Tryz.prog 233 #[.pointer (some ⟨P,0,none⟩),.slice a0 n0 c0] w fun e w'=>Below w.heap.size w w'∧∃a2 c2 m,e=.returned (.slice a2 m.length c2)∧uj w' a2 m∧m.length≤c2∧q2c (isV:=isV) (goal++q03 (vk xs)) m:=by
 have CL:Hid _:=clone_any w a0 n0 c0 goal hg (by omega) hA;obtain⟨a,c,rfl,_⟩:=ql h.row;obtain⟨n,hl⟩:=eXb xs.length;rw[hl] at hn;have HL:=hid hl;have HS:Hid (qw tq O w P (.slice a n c) xs):=by have h':=h;rw[hl] at h';exact h'
 have HP:Hid ((vk xs).length≤1048576∧goal.length + (q03 (vk xs)).length≤17592186043904∧goal.length=n0):=⟨hp,hlen,hg⟩;obtain⟨N,hN⟩:=eXb w.heap.size;have HN:=hid hN;rw[hN] at CL ⊢;have HV:=hid hV;clear h hl hp hlen hN hg hA hV;go_enter Tryz.func233,Tryz.ntmps233;go_wp2_with fail;refine cMo CL.out ?_;rintro e w1 ⟨v1,rfl,hv1,hb1⟩;have V1:=hid hv1;have B1:=hid hb1;have S1:Hid (qw tq O w1 P (.slice a n c) xs):=HS.out.below (by rw[HN.out];exact hb1);have x1:=S1.out.cells.2;clear hv1 hb1 CL;go_wp2_with fail
 go_loopw [5,15] (fun v5 v15 wx=>∃(j k:Nat),j≤n∧v15=.int .i64 j∧Hid ((goal++q03 (vk (xs.take j))).length=k)∧Hid (wx.ownsRow N 3 1 v5 k (xw (goal++q03 (vk (xs.take j)))))∧Hid (Below N w wx)) (fun _ v15 _=>n - (intOf v15).toNat)
 case atStart =>
  have e0:q03 (vk (xs.take 0))=[]:=rfl;refine⟨0,n0,Nat.zero_le _,rfl,?_,?_,B1.out⟩
  ·show _=_;rw[e0,List.append_nil];exact HP.out.2.2
  ·show World.ownsRow _ _ _ _ _ _ _;rw[e0,List.append_nil];exact V1.out
 case round =>
  obtain⟨j,k,hj,rfl,hK,hU,hB⟩:=hrel;have B0:Hid (Below w.heap.size w wr):=by show Below _ _ _;rw[HN.out];exact hB.out
  by_cases hlt:j < n
  ·have n1:(j:Int) < (n:Int):=by omega
   obtain⟨x,hx⟩:∃x,xs[j]?=some x:=⟨_,gEq (by rw[HL.out];exact hlt)⟩;have hS:=HS.out.below B0.out;have hrow:=hS.row;rw[HL.out] at hrow;obtain⟨g,c',e,_,_,_⟩:=S.M.q0h hrow (by omega)
   cases e;obtain⟨y0,y1,y2⟩:=q8z hrow j x hx;obtain⟨wa,hwa⟩:=eXa (wr.alloc (.cells #[x.vl,.map (some x.mb),x.vp] 225));have ba:Below wr.heap.size wr wa:=by rw[hwa];exact qo _ _
   have ka:wa.heap[wr.heap.size]?=some (.cells #[x.vl,.map (some x.mb),x.vp] 225 (0,0)):=by rw[hwa];exact heap_alloc_new wr _
   have BA:Hid (Below N w wa):=hB.out.trans (ba.mono (by have h1:=hB.out.size;have h2:=HN.out;omega));have hSa:qw tq O wa P (.slice (some ⟨g,0,none⟩) n c) xs:=HS.out.below (by rw[HN.out];exact BA.out);have hok:=hSa.each x (mGe hx);have UA:wa.ownsRow N 3 1 u5 k (xw (goal++q03 (vk (xs.take j)))):=S.M.qh hU.out (S.M.Ch.oB (X:=fun _=>False) ba) fun _ _ e=>e
   have TL:Hid _:=qn2 wa O wr.heap.size N x u5 (goal++q03 (vk (xs.take j))) hok (S.M.qc ka 0) (by have h1:=BA.out.size;have h2:=HN.out;omega) (fun b hb=>by have h1:=HS.out.lt b hb;have h2:=HN.out;omega) (by rw[hK.out];exact UA) (by
    have h1:=qel xs (j + 1)
    rw[q4j hx,lAp] at h1
    have h2:=HP.out.1
    omega) (by
    have h1:=ess_le xs (j + 1)
    rw[qgb hx,lAp] at h1
    have h2:=HP.out.2.1
    rw[lAp]
    omega)
   have WT:Hid (goal++q03 (vk (xs.take (j + 1)))=goal++q03 (vk (xs.take j))++q03 x.hs):=by show _=_;rw[qgb hx,List.append_assoc]
   obtain⟨al,cl,el,_⟩:=ql (hS.each x (mGe hx)).l;obtain⟨ap,cp,ep,_⟩:=ql (hS.each x (mGe hx)).p;rw[el] at y0 hwa;rw[ep] at y2 hwa;obtain⟨nh,hnh⟩:=eXb x.hs.length;obtain⟨np,hnp⟩:=eXb x.ps.length;obtain⟨mb,hmb⟩:=eXb x.mb;rw[hnh] at y0 hwa;rw[hmb] at y1 hwa;rw[hnp] at y2 hwa;have HWA:=hid hwa;obtain⟨Bx,hBx⟩:=eXb wr.heap.size;have HBX:=hid hBx;rw[hBx,←WT.out] at TL;clear hS hrow hok hx ba ka hwa el ep hnh hnp hmb hB hBx hSa hU hK UA WT;go_upto_region 5 with fail;rw[←HWA.out,HBX.out];clear HWA y0 y1 y2;go_wp2_with fail;refine cMo TL.out ?_;rintro e w2 ⟨hb2,v',rfl,hT'⟩;have T2:=hid hT';have B2:Hid (Below N w w2):=BA.out.trans hb2;clear hb2 hT' TL
   go_wp2
   exact⟨⟨j + 1,_,by omega,by go_num,rfl,T2.out,B2.out⟩,by simp[intOf];omega⟩
  ·have n1:¬(j:Int) < (n:Int):=by omega
   have hall:xs.take j=xs:=List.take_of_length_le (by rw[HL.out];omega);have h1:=hU.out;have h2:=hK.out;rw[hall] at h1 h2;have h3:k≤17592186043904:=by rw[←h2,lAp];exact HP.out.2.1
   obtain⟨a5,c5,rfl,_,hns⟩:=q3n h1;have EV:Hid _:=q5j wr a5 k c5 _ h2 h3 hns (HV.out.up B0.out);have q1:=(HS.out.below B0.out).cells.1;clear hall hU hK h1 h2 hns;unfold q0r at q1 EV;go_wp2_with fail;refine cMo EV.out ?_;rintro e w2 ⟨hb2,a2,c2,m,rfl,hm⟩;have B2:Hid (Below N w w2):=hB.out.trans (hb2.mono (by have h1:=hB.out.size;have h2:=HN.out;omega));have HM:Hid _:=hm;clear hb2 hm EV
   go_wp2
   go_ret
   exact⟨B2.out,a2,c2,m,rfl,HM.out⟩
theorem new_any (w:World):Calls Tryz.prog 101 #[(q0r tq)] w fun e w'=>∃P vS b,e=.returned (.pointer (some ⟨P,0,none⟩))∧qw tq (fun g=>w.heap.size≤g∧g < w'.heap.size) w' P vS [newC b]∧Below w.heap.size w w':=by
 have NS:Hid _:=q7z w;unfold q0r;go_enter Tryz.func101,Tryz.ntmps101;go_wp2_with fail;refine cMo NS.out ?_;rintro e w1 ⟨mb,rfl,hm,hmb,hb⟩;have FI:Hid (qw tq (fun g=>w.heap.size≤g∧g < ((w1.alloc (.cells #[.slice none 0 0,.map (some mb),.slice none 0 0] 225)).alloc (.cells #[(q0r tq),.slice (some ⟨w1.heap.size,0,none⟩) 1 1] 171)).heap.size) ((w1.alloc (.cells #[.slice none 0 0,.map (some mb),.slice none 0 0] 225)).alloc (.cells #[(q0r tq),.slice (some ⟨w1.heap.size,0,none⟩) 1 1] 171)) (w1.heap.size + 1) (.slice (some ⟨w1.heap.size,0,none⟩) 1 1) [newC mb]∧Below w.heap.size w ((w1.alloc (.cells #[.slice none 0 0,.map (some mb),.slice none 0 0] 225)).alloc (.cells #[(q0r tq),.slice (some ⟨w1.heap.size,0,none⟩) 1 1] 171))):=by
  have bA:Below w1.heap.size w1 (w1.alloc (.cells #[.slice none 0 0,.map (some mb),.slice none 0 0] 225)):=qo _ _;have sA:(w1.alloc (.cells #[.slice none 0 0,.map (some mb),.slice none 0 0] 225)).heap.size=w1.heap.size + 1:=by simp
  have rA:(w1.alloc (.cells #[.slice none 0 0,.map (some mb),.slice none 0 0] 225)).ownsRow 0 225 3 (.slice (some ⟨w1.heap.size,0,none⟩) 1 1) 1 (q0a [newC mb]) :=
   ⟨rfl,.inr ⟨_,1,#[.slice none 0 0,.map (some mb),.slice none 0 0],rfl,Nat.zero_le _,heap_alloc_new w1 _,Nat.le_refl _,by decide,rfl,rfl⟩⟩
  generalize hwA:w1.alloc (.cells #[.slice none 0 0,.map (some mb),.slice none 0 0] 225)=wA at bA sA rA ⊢;have bB:Below wA.heap.size wA (wA.alloc (.cells #[(q0r tq),.slice (some ⟨w1.heap.size,0,none⟩) 1 1] 171)):=qo _ _;have kB:=heap_alloc_new wA (.cells #[(q0r tq),.slice (some ⟨w1.heap.size,0,none⟩) 1 1] 171);have sB:(wA.alloc (.cells #[(q0r tq),.slice (some ⟨w1.heap.size,0,none⟩) 1 1] 171)).heap.size=wA.heap.size + 1:=by simp
  have rB:=S.M.zk rA (.cells #[(q0r tq),.slice (some ⟨w1.heap.size,0,none⟩) 1 1] 171);generalize hwB:wA.alloc (.cells #[(q0r tq),.slice (some ⟨w1.heap.size,0,none⟩) 1 1] 171)=wB at bB kB sB rB ⊢;have h1:=hb.size;obtain⟨es,ck,hh⟩:=hm.isM;have hlt:mb < w1.heap.size:=(aIx hh);have bAll:Below w1.heap.size w1 wB:=bA.trans (bB.mono bA.size);have tB:q2l wB mb 0 (fun _=>none):=hm.kept (bAll.block mb hlt);rw[sA] at kB;refine⟨⟨kB,⟨by omega,by omega⟩,rB,fun g e=>by cases e;exact⟨by show _≤w1.heap.size;omega,by show w1.heap.size < _;omega⟩,fun x hx=>?_,List.pairwise_singleton _ _,fun g hg=>hg.2⟩,hb.trans (bAll.mono hb.size)⟩;rw[mSg.1 hx];exact qkn tB ⟨hmb,by omega⟩
 have HP:(w1.alloc (.cells #[.slice none 0 0,.map (some mb),.slice none 0 0] 225)).heap.size=w1.heap.size + 1:=by simp
 clear hm hmb hb NS;unfold q0r at FI
 go_wp2
 go_ret
 exact⟨_,_,mb,rfl,FI.out⟩
structure qkw (N:Nat)(W:World)(xs:List ScC)(vh vp:Value)(ts:List HyC)(m:List Pp):Prop where
 t:jq N W vh ts
 h:ts.map (·.h)=(vk xs).map (·.h)
 n:q3t (q0v xs) m
 p:W.ownsRow N 130 2 vp m.length (jh m)
theorem qn3 (l:List HyC):q0g (fun _ _=>true) l=l.map (·.h):=by unfold q0g;simp
theorem qn4 (w:World)(O:Nat→Prop)(P:Nat)(vS:Value)(xs:List ScC)(h:qw tq O w P vS xs)(hn:xs.length≤1048576)(hp:(vk xs).length≤1048576)(hlen:∀x ∈ xs,∀y ∈ x.hs,y.h.ex.length≤17592186044416)(hq:(q0v xs).length≤1048576)(hw:∀p ∈ q0v xs,wfP p) :
  Calls Tryz.prog 161 #[.pointer (some ⟨P,0,none⟩)] w fun e w'=>Below w.heap.size w w'∧∃vh vp ts m,e=.returned (.agg #[vh,vp])∧qkw w.heap.size w' xs vh vp ts m:=by
 obtain⟨N,hN⟩:=eXb w.heap.size;have HN:=hid hN;rw[hN];obtain⟨wA,hwA⟩:=eXa (w.alloc (.cells #[.slice none 0 0,.slice none 0 0] 49));have HWA:=hid hwA;have bA:Below w.heap.size w wA:=by rw[hwA];exact qo _ _
 have kA:wA.heap[N]?=some (.cells #[.slice none 0 0,.slice none 0 0] 49 (0,0)):=by rw[hwA,←hN];exact heap_alloc_new w _
 have HB:Hid (Below N w wA∧N < wA.heap.size∧wA.heap[N]?=some (.cells #[.slice none 0 0,.slice none 0 0] 49 (0,0))):=⟨by rw[←hN];exact bA,(aIx kA),kA⟩;have SA:Hid (qw tq O wA P vS xs):=h.below bA;have HY:Hid _:=qj0 wA (fun _ _=>true) O P vS xs SA.out hn hp hlen (fun W _ lab fl var a n c=>qip W lab fl var a n c);have HQ:Hid (xs.length≤1048576∧(q0v xs).length≤1048576∧∀p ∈ q0v xs,wfP p):=⟨hn,hq,hw⟩;rw[qn3] at HY;clear hN h hn hp hlen hq hw hwA bA kA;go_enter Tryz.func161,Tryz.ntmps161;go_upto_region 2 with fail;rw[←HWA.out,HN.out];clear HWA;go_wp2_with fail;refine cMo HY.out ?_;rintro e w2 ⟨hb2,vh,ts,rfl,hT2,hm2⟩;have B2:=hid hb2;have T2:Hid (jq wA.heap.size w2 vh ts∧ts.map (·.h)=(vk xs).map (·.h)):=⟨hT2,hm2⟩;have AP:Hid _:=q48 w2 O P vS xs (SA.out.below hb2) HQ.out.1 HQ.out.2.1;clear hb2 hT2 hm2 HY;go_wp2_with fail;refine cMo AP.out ?_;rintro e w3 ⟨hb3,v3,rfl,ho3⟩;obtain⟨a3,c3,rfl,_⟩:=ql ho3;have B3:=hid hb3;have NO:Hid _:=qfy w3 a3 c3 (q0v xs) (q0v xs).length rfl HQ.out.2.1 HQ.out.2.2 (q3v ho3);clear hb3 ho3 AP;generalize (q0v xs).length=na at *;go_wp2_with fail;refine cMo NO.out ?_;rintro e w4 ⟨vp,m,rfl,hnm,ho4,hb4⟩;obtain⟨ah,ch,eh,_⟩:=ql T2.out.1.own;obtain⟨a4,c4,e4,_⟩:=ql ho4;have bAll:Below wA.heap.size wA w4:=B2.out.trans ((B3.out.mono B2.out.size).trans (hb4.mono (nLt B2.out.size B3.out.size)));have k4:w4.heap[N]?=some (.cells #[.slice none 0 0,.slice none 0 0] 49 (0,0)):=(bAll.block N HB.out.2.1).trans HB.out.2.2;have y0:w4.cell? ⟨N,0,none⟩=some (.slice none 0 0):=S.M.qc k4 0;have y1:w4.cell? ⟨N,1,none⟩=some (.slice none 0 0):=S.M.qc k4 1;have f0:w4.frozen? ⟨N,0,none⟩=false:=by simp[World.frozen?,k4]
 have f1:w4.frozen? ⟨N,1,none⟩=false:=by simp[World.frozen?,k4]
 obtain⟨w9,hw9⟩:=eXa ((w4.setCell ⟨N,0,none⟩ vh).setCell ⟨N,1,none⟩ vp);have k9:w9.heap[N]?=some (.cells #[vh,vp] 49 (0,0)):=by rw[hw9];exact S.M.qj (S.M.qj k4)
 have ch9:S.M.Ch (fun b=>b=N) w4 w9:=by rw[hw9];exact (S.M.jc w4 N 0 _).trans (S.M.jc _ N 1 _)
 have FI:Hid (Below N w w9∧qkw N w9 xs vh vp ts m):=by
  have hNA:=HB.out.2.1;have T4:jq wA.heap.size w4 vh ts:=(T2.out.1.below B3.out).below hb4;have h2:=B2.out.size;have h3:=B3.out.size;refine⟨(HB.out.1.trans (bAll.mono (Nat.le_of_lt hNA))).trans (ch9.below (nLt (Nat.le_of_lt hNA) bAll.size) fun b e=>by omega),⟨⟨?_,fun y hy=>?_,T4.ap⟩,T2.out.2,hnm,?_⟩⟩
  ·exact S.M.qp (S.M.qh T4.own ch9 fun b hb e=>by have:=S.M.zf T4.own b hb;omega) (Nat.le_of_lt hNA)
  ·exact S.M.qp (S.M.qh (T4.e y hy) ch9 fun b hb e=>by have:=S.M.zf (T4.e y hy) b hb;omega) (Nat.le_of_lt hNA)
  ·exact S.M.qp (S.M.qh ho4 ch9 fun b hb e=>by have:=S.M.zf ho4 b hb;omega) (by omega)
 have z0:w9.cell? ⟨N,0,none⟩=some vh:=S.M.qc k9 0;have z1:w9.cell? ⟨N,1,none⟩=some vp:=S.M.qc k9 1;rw[eh,e4] at *;have HW9:=hid hw9;clear hw9 k9 ch9 k4 bAll hb4 ho4 hnm eh e4 NO T2 B2 B3 HB SA;go_wp2_with fail;rw[←HW9.out];clear HW9;refine bodyPost_ret (by simp[results,Tryz.results161,go_sem,z0,z1];try rfl) rfl ?_;exact⟨FI.out.1,_,_,ts,m,rfl,FI.out.2⟩
theorem qj2 (w:World)(MB:Nat)(a:Option Addr)(n c:Nat)(l:List Int)(lab:ByteArray)(fl:Bool)(var:Int)(ae:Option Addr)(ne ce:Nat)(hl:l.length=n)(hn:n≤17592186043904)(hs:l.Pairwise (· < ·))(hA:uj w a l)(hc:w.cell? ⟨MB,0,none⟩=some (.slice a n c)) :
  Calls Tryz.prog 234 #[.agg #[.string lab,.bool fl,.int .i64 var,.slice ae ne ce],.pointer (some ⟨MB,0,none⟩)] w fun e w'=>e=.returned (.bool (l.contains var || !fl))∧Below w.heap.size w w':=by
 obtain⟨w1,hw1⟩:=eXa (w.alloc (.cells #[.string lab,.bool fl,.int .i64 var,.slice ae ne ce] 57));obtain⟨T,hT⟩:=eXb w.heap.size;have HW1:=hid hw1;have b1:Below w.heap.size w w1:=by rw[hw1];exact qo _ _
 have k1:w1.heap[T]?=some (.cells #[.string lab,.bool fl,.int .i64 var,.slice ae ne ce] 57 (0,0)):=by rw[hw1,←hT];exact heap_alloc_new w _
 have x2:w1.cell? ⟨T,2,none⟩=some (.int .i64 var):=S.M.qc k1 2;have xm:w1.cell? ⟨MB,0,none⟩=some (.slice a n c):=(b1.cell (p:=⟨MB,0,none⟩) (bLt hc)).trans hc;have SE:Hid _:=q9t w1 a n c l var hl hn (hs.imp fun h=>Int.le_of_lt h) (hA.under b1);have HB:Hid (Below w.heap.size w w1∧w1.heap[T]?=some (.cells #[.string lab,.bool fl,.int .i64 var,.slice ae ne ce] 57 (0,0))):=⟨b1,k1⟩;have HT:=hid hT;clear hw1 b1 k1 hl hn hs hA hc hT;go_enter Tryz.func234,Tryz.ntmps234;go_upto_region 1 with fail;rw[←HW1.out,HT.out];clear HW1;go_wp2_with fail;refine cMo SE.out ?_;rintro e w2 ⟨⟨i,rfl⟩,q,hw2⟩;have B2:Hid (Below w.heap.size w w2):=by show Below _ _ _;rw[hw2];exact xu HB.out.1 q
 have k2:w2.heap[T]?=some (.cells #[.string lab,.bool fl,.int .i64 var,.slice ae ne ce] 57 (0,0)):=by rw[hw2];exact HB.out.2
 have y1:w2.cell? ⟨T,1,none⟩=some (.bool fl):=S.M.qc k2 1;clear hw2 k2 SE HB x2 xm HT;obtain⟨bb,hbb⟩:=eXb (l.contains var);rw[hbb];have HC:=hid hbb;clear hbb
 cases bb with
 | true =>
  go_wp2
  go_ret
  exact⟨by rw[HC.out];rfl,B2.out⟩
 | false =>
  go_wp2
  go_ret
  exact⟨by rw[HC.out];rfl,B2.out⟩
structure qkx (N:Nat)(W:World)(xs:List ScC)(goal:List Int)(vh vp vg:Value)(ts:List HyC)(mv:List Int)(m:List Pp):Prop where
 v:q2c (isV:=isV) (goal++q03 (vk xs)) mv
 t:jq N W vh ts
 h:ts.map (·.h)=q0g (fun fl var=>mv.contains var || !fl) (vk xs)
 n:q3t (q1u (q0v xs) mv) m
 p:W.ownsRow N 130 2 vp m.length (jh m)
 g:W.ownsRow N 3 1 vg goal.length (xw goal)
 ga:∀y ∈ ts,∀b,y.ve.ownBlock=some b→vg.ownBlock≠some b
def zeroFr:Value:=.agg #[.slice none 0 0,.slice none 0 0,.slice none 0 0]
def qdj (w:World)(xs:List ScC)(goal:List Int)(e:Ending)(w':World):Prop:=Below w.heap.size w w'∧((uw (isV:=isV) (xs.map jm) goal≠0∧e=.returned (.tuple #[zeroFr,.int .i64 (uw (isV:=isV) (xs.map jm) goal)]))∨(uw (isV:=isV) (xs.map jm) goal=0∧∃vh vp vg ts mv m,e=.returned (.tuple #[.agg #[vh,vp,vg],.int .i64 0])∧qkx (isV:=isV) w.heap.size w' xs goal vh vp vg ts mv m))
theorem qn5 (w:World)(O:Nat→Prop)(P:Nat)(vS:Value)(xs:List ScC)(a0:Option Addr)(n0 c0:Nat)(goal:List Int)(h:qw tq O w P vS xs)(hV:q1r tq isV w)(hn:xs.length≤1048576)(hp:(vk xs).length≤1048576)(hlen:∀x ∈ xs,∀y ∈ x.hs,y.h.ex.length≤17592186044416)(hq:(q0v xs).length≤1048576)(hw:∀p ∈ q0v xs,wfP p)(hg:goal.length=n0)(hA:uj w a0 goal)(hwg:∀x ∈ goal,wfN x)(hle:goal.length + (q03 (vk xs)).length≤17592186043904) :
  Calls Tryz.prog 173 #[.pointer (some ⟨P,0,none⟩),.slice a0 n0 c0] w (qdj (isV:=isV) w xs goal):=by
 obtain⟨N,hN⟩:=eXb w.heap.size;have HN:=hid hN;unfold qdj;rw[hN];obtain⟨wA,hwA⟩:=eXa (w.alloc (.cells #[.slice none 0 0,.slice none 0 0,.slice none 0 0] 47));have HWA:=hid hwA;have bA:Below w.heap.size w wA:=by rw[hwA];exact qo _ _
 have kA:wA.heap[N]?=some (.cells #[.slice none 0 0,.slice none 0 0,.slice none 0 0] 47 (0,0)):=by rw[hwA,←hN];exact heap_alloc_new w _
 have HB:Hid (Below N w wA∧N < wA.heap.size∧wA.heap[N]?=some (.cells #[.slice none 0 0,.slice none 0 0,.slice none 0 0] 47 (0,0))):=⟨by rw[←hN];exact bA,(aIx kA),kA⟩;have SA:Hid (qw tq O wA P vS xs):=h.below bA;have GA:Hid (uj wA a0 goal):=hA.under bA;have HV:Hid (q1r tq isV wA):=hV.up bA;have JU:Hid _:=qdd wA O P vS xs a0 n0 c0 goal SA.out HV.out hn hg (by omega) GA.out hwg;have HQ:Hid (xs.length≤1048576∧(vk xs).length≤1048576∧(q0v xs).length≤1048576∧goal.length=n0∧goal.length + (q03 (vk xs)).length≤17592186043904):=⟨hn,hp,hq,hg,hle⟩;have HW:Hid ((∀p ∈ q0v xs,wfP p)∧∀x ∈ xs,∀y ∈ x.hs,y.h.ex.length≤17592186044416):=⟨hw,hlen⟩;clear hV hN h hn hp hlen hq hw hwA bA kA hg hA hwg hle;go_enter Tryz.func173,Tryz.ntmps173;go_upto_region 1 with fail;rw[←HWA.out,HN.out];clear HWA;go_wp2_with fail;refine cMo JU.out ?_;rintro e w1 ⟨rfl,hb1⟩;have B1:=hid hb1;clear hb1 JU;obtain⟨E,hJE⟩:=eXb (uw (isV:=isV) (xs.map jm) goal);rw[hJE];have HJ:=hid hJE;clear hJE
 by_cases hE:E=0
 ·subst hE;have MA:Hid _:=qct w1 O P vS xs a0 n0 c0 goal (SA.out.below B1.out) (HV.out.up B1.out) HQ.out.1 HQ.out.2.1 HQ.out.2.2.2.1 (GA.out.under B1.out) HQ.out.2.2.2.2;go_wp2_with fail;refine cMo MA.out ?_;rintro e w2 ⟨hb2,am,cm,mv,rfl,hns,_,hmv⟩;obtain⟨nm,hnm⟩:=eXb mv.length;rw[hnm];have HM:Hid (mv.length=nm∧nm≤17592186043904):=⟨hnm,by rw[←hnm];have h1:=hmv.le;rw[lAp] at h1;have h2:=HQ.out.2.2.2.2;omega⟩;obtain⟨w3,hw3⟩:=eXa (w2.alloc (.cells #[.slice am nm cm] 38));obtain⟨MB,hMB⟩:=eXb w2.heap.size;have HW3:=hid hw3;have HMB:=hid hMB;have b3:Below w2.heap.size w2 w3:=by rw[hw3];exact qo _ _
  have k3:w3.heap[MB]?=some (.cells #[.slice am nm cm] 38 (0,0)):=by rw[hw3,←hMB];exact heap_alloc_new w2 _
  have bA3:Below wA.heap.size wA w3:=B1.out.trans ((hb2.mono B1.out.size).trans (b3.mono (nLt B1.out.size hb2.size)));have BM:Hid (Below wA.heap.size wA w3.drew∧MB < w3.heap.size∧q2c (isV:=isV) (goal++q03 (vk xs)) mv):=⟨xu bA3 1,(aIx k3),hmv⟩;have HX:Hid (N < MB):=by show N < MB;rw[←hMB];have h0:=HB.out.2.1;have h1:=B1.out.size;have h2:=hb2.size;omega
  have NM:Hid (uj w3.drew am mv):=hns.under (xu b3 1);have KM:Hid (∀W,Below w3.heap.size w3.drew W→W.cell? ⟨MB,0,none⟩=some (.slice am nm cm)):=fun W hW=>S.M.qc ((hW.block MB (aIx k3)).trans k3) 0
  have HY:Hid _:=qj1 w3.drew MB (fun fl var=>mv.contains var || !fl) O P vS xs (SA.out.below BM.out.1) HQ.out.1 HQ.out.2.1 HW.out.2 (fun W hW lab fl var a n c=>qj2 W MB am nm cm mv lab fl var a n c HM.out.1 HM.out.2 hmv.up (NM.out.under hW) (KM.out W hW));clear hw3 hMB b3 k3 bA3 hb2 hns hmv MA hnm;go_upto_region 6 with fail;rw[←HW3.out,HMB.out];clear HW3 HMB;refine wp_region_held_drew (S:=fun w'=>w'.cell? ⟨MB,0,none⟩=some (.slice am nm cm)) (by kernel_rfl) ?_ (fun hZ=>?_)
  ·exact KM.out _ bRf
  refine tkq 0 hZ ?_;refine tkq 1 hZ ?_;refine tkq 3 hZ ?_;refine tkq 5 hZ ?_;refine tkq 7 hZ ?_;refine rkq 2 fun K hK=>?_
  go_simp;go_at_call 215;refine cMo HY.out ?_;rintro e w5 ⟨hb5,vh,ts,rfl,hT5,hm5⟩;obtain⟨ah,ch,eh,_⟩:=ql hT5.own;have B5:Hid (Below w3.heap.size w3.drew w5):=hb5;have T5:Hid (jq w3.heap.size w5 vh ts∧ts.map (·.h)=q0g (fun fl var=>mv.contains var || !fl) (vk xs)):=⟨hT5,hm5⟩;have AP:Hid _:=q48 w5 O P vS xs ((SA.out.below BM.out.1).below hb5) HQ.out.1 HQ.out.2.2.1;rw[eh] at T5 ⊢;obtain⟨nt,hnt⟩:=eXb ts.length;rw[hnt] at T5 ⊢;clear hb5 hT5 hm5 HY eh hnt
  try go_wp2_with fail
  refine aQq hK ?_ fun hZ_2=>?_
  ·exact KM.out _ B5.out
  clear hK K;refine rkq 4 fun K hK=>?_
  go_simp;go_at_call 217;refine cMo AP.out ?_;rintro e w6 ⟨hb6,v6,rfl,ho6⟩;obtain⟨a6,c6,rfl,_⟩:=ql ho6;have B6:Hid (Below w3.heap.size w3.drew w6):=B5.out.trans (hb6.mono B5.out.size);have T6:Hid (jq w3.heap.size w6 (.slice ah nt ch) ts):=T5.out.1.below hb6;have ON:Hid _:=qpv w6 a6 am c6 cm (q0v xs) mv (q0v xs).length nm rfl HM.out.1 HQ.out.2.2.1 HM.out.2 HW.out.1 (q3v ho6) (NM.out.under B6.out);clear hb6 ho6 AP;generalize (q0v xs).length=na at *
  try go_wp2_with fail
  refine aQq hK ?_ fun hZ_4=>?_
  ·exact KM.out _ B6.out
  clear hK K;refine rkq 6 fun K hK=>?_
  go_simp;go_at_call 235;refine cMo ON.out ?_;rintro e w7 ⟨vp,m,rfl,hnm,ho7,hb7⟩;obtain⟨a7,c7,e7,_⟩:=ql ho7;obtain⟨np,hnp⟩:=eXb m.length;rw[e7,hnp] at ho7 ⊢;have B7:Hid (Below w3.heap.size w3.drew w7):=B6.out.trans (hb7.mono B6.out.size);have T7:Hid (jq w3.heap.size w7 (.slice ah nt ch) ts):=T6.out.below hb7;have O7:Hid (w7.ownsRow w3.heap.size 130 2 (.slice a7 np c7) np (jh m)∧q3t (q1u (q0v xs) mv) m∧m.length=np):=⟨S.M.qp ho7 B6.out.size,hnm,hnp⟩;have CL:Hid _:=clone_any w7 a0 n0 c0 goal HQ.out.2.2.2.1 (by have h1:=HQ.out.2.2.2.2;have h2:=HQ.out.2.2.2.1;omega) ((GA.out.under BM.out.1).under B7.out);clear hb7 ho7 ON hnm e7 hnp
  try go_wp2_with fail
  refine aQq hK ?_ fun hZ_6=>?_
  ·exact KM.out _ B7.out
  clear hK K;refine rkq 8 fun K hK=>?_
  go_simp;go_at_call 72;refine cMo CL.out ?_;rintro e w8 ⟨v8,rfl,ho8,hb8⟩;obtain⟨a8,c8,rfl,_⟩:=ql ho8;have B8:Hid (Below w3.heap.size w3.drew w8):=B7.out.trans (hb8.mono B7.out.size);have T8:Hid (jq w3.heap.size w8 (.slice ah nt ch) ts):=T7.out.below hb8;have O8:Hid (w8.ownsRow w3.heap.size 130 2 (.slice a7 np c7) np (jh m)):=S.M.qh O7.out.1 (S.M.Ch.oB (X:=fun _=>False) hb8) fun _ _ e=>e
  have G8:Hid (w8.ownsRow w3.heap.size 3 1 (.slice a8 n0 c8) n0 (xw goal)∧∀y ∈ ts,∀b,y.ve.ownBlock=some b→(Value.slice a8 n0 c8).ownBlock≠some b):=⟨S.M.qp ho8 B7.out.size,fun y hy b hb e=>by have h1:=S.M.jr (T7.out.e y hy) b hb;have h2:=S.M.zf ho8 b e;omega⟩;clear hb8 ho8 CL
  try go_wp2_with fail
  refine aQq hK ?_ fun hZ_8=>?_
  ·exact KM.out _ B8.out
  clear hK K;refine tkq 9 hZ_8 ?_;refine rkq 10 fun K hK=>?_
  have bA8:Below wA.heap.size wA w8:=BM.out.1.trans (B8.out.mono BM.out.1.size);have k8:w8.heap[N]?=some (.cells #[.slice none 0 0,.slice none 0 0,.slice none 0 0] 47 (0,0)):=(bA8.block N HB.out.2.1).trans HB.out.2.2;have y0:w8.cell? ⟨N,0,none⟩=some (.slice none 0 0):=S.M.qc k8 0;have y1:w8.cell? ⟨N,1,none⟩=some (.slice none 0 0):=S.M.qc k8 1;have y2:w8.cell? ⟨N,2,none⟩=some (.slice none 0 0):=S.M.qc k8 2;have f0:w8.frozen? ⟨N,0,none⟩=false:=by simp[World.frozen?,k8]
  have f1:w8.frozen? ⟨N,1,none⟩=false:=by simp[World.frozen?,k8]
  have f2:w8.frozen? ⟨N,2,none⟩=false:=by simp[World.frozen?,k8]
  have k9:(((w8.setCell ⟨N,0,none⟩ (.slice ah nt ch)).setCell ⟨N,1,none⟩ (.slice a7 np c7)).setCell ⟨N,2,none⟩ (.slice a8 n0 c8)).heap[N]?=some (.cells #[.slice ah nt ch,.slice a7 np c7,.slice a8 n0 c8] 47 (0,0)):=S.M.qj (S.M.qj (S.M.qj k8));have ch9:S.M.Ch (fun b=>b=N) w8 (((w8.setCell ⟨N,0,none⟩ (.slice ah nt ch)).setCell ⟨N,1,none⟩ (.slice a7 np c7)).setCell ⟨N,2,none⟩ (.slice a8 n0 c8)):=((S.M.jc w8 N 0 _).trans (S.M.jc _ N 1 _)).trans (S.M.jc _ N 2 _);have FI:Hid (Below N w (((w8.setCell ⟨N,0,none⟩ (.slice ah nt ch)).setCell ⟨N,1,none⟩ (.slice a7 np c7)).setCell ⟨N,2,none⟩ (.slice a8 n0 c8))∧qkx (isV:=isV) N (((w8.setCell ⟨N,0,none⟩ (.slice ah nt ch)).setCell ⟨N,1,none⟩ (.slice a7 np c7)).setCell ⟨N,2,none⟩ (.slice a8 n0 c8)) xs goal (.slice ah nt ch) (.slice a7 np c7) (.slice a8 n0 c8) ts mv m):=by
   have hNA:=HB.out.2.1;have h3:=BM.out.1.size;have hN3:N < w3.heap.size:=Nat.lt_of_lt_of_le hNA h3;have rows:∀{e sz k:Nat} {v:Value} {zs:List Value},w8.ownsRow w3.heap.size e sz v k zs→(((w8.setCell ⟨N,0,none⟩ (.slice ah nt ch)).setCell ⟨N,1,none⟩ (.slice a7 np c7)).setCell ⟨N,2,none⟩ (.slice a8 n0 c8)).ownsRow N e sz v k zs:=fun ho=>S.M.qp (S.M.qh ho ch9 fun b hb e=>by have:=S.M.zf ho b hb;omega) (Nat.le_of_lt hN3)
   refine⟨(HB.out.1.trans (bA8.mono (Nat.le_of_lt hNA))).trans (ch9.below (nLt (Nat.le_of_lt hNA) bA8.size) fun b e=>by omega),⟨BM.out.2.2,⟨rows T8.out.own,fun y hy=>rows (T8.out.e y hy),T8.out.ap⟩,T5.out.2,O7.out.2.1,?_,?_,G8.out.2⟩⟩
   ·rw[O7.out.2.2];exact rows O8.out
   ·rw[HQ.out.2.2.2.1];exact rows G8.out.1
  have KS:Hid ((((w8.setCell ⟨N,0,none⟩ (.slice ah nt ch)).setCell ⟨N,1,none⟩ (.slice a7 np c7)).setCell ⟨N,2,none⟩ (.slice a8 n0 c8)).cell? ⟨MB,0,none⟩=some (.slice am nm cm)):=by
   have hc:=KM.out w8 B8.out;have hne:MB≠N:=fun e=>by have h0:=HX.out;omega
   have h1:(((w8.setCell ⟨N,0,none⟩ (.slice ah nt ch)).setCell ⟨N,1,none⟩ (.slice a7 np c7)).setCell ⟨N,2,none⟩ (.slice a8 n0 c8)).heap[MB]?=w8.heap[MB]?:=ch9.block MB (bLt hc) hne
   show _=_
   rw[←hc];unfold World.cell?;simp only[h1]
  have z0:(((w8.setCell ⟨N,0,none⟩ (.slice ah nt ch)).setCell ⟨N,1,none⟩ (.slice a7 np c7)).setCell ⟨N,2,none⟩ (.slice a8 n0 c8)).cell? ⟨N,0,none⟩=some (.slice ah nt ch):=S.M.qc k9 0;have z1:(((w8.setCell ⟨N,0,none⟩ (.slice ah nt ch)).setCell ⟨N,1,none⟩ (.slice a7 np c7)).setCell ⟨N,2,none⟩ (.slice a8 n0 c8)).cell? ⟨N,1,none⟩=some (.slice a7 np c7):=S.M.qc k9 1;have z2:(((w8.setCell ⟨N,0,none⟩ (.slice ah nt ch)).setCell ⟨N,1,none⟩ (.slice a7 np c7)).setCell ⟨N,2,none⟩ (.slice a8 n0 c8)).cell? ⟨N,2,none⟩=some (.slice a8 n0 c8):=S.M.qc k9 2;have HZ:Hid _:=And.intro z0 (And.intro z1 z2);clear k8 k9 ch9 bA8 z0 z1 z2;go_simp;refine aQq hK ?_ fun hZ_10=>?_
  ·exact KS.out
  clear hK K;refine tkq 11 hZ_10 ?_;refine wpAnyH_done (by kernel_rfl) ?_ _;obtain⟨z0,z1,z2⟩:=HZ.out;obtain⟨w9,hw9⟩:=eXa (((w8.setCell ⟨N,0,none⟩ (.slice ah nt ch)).setCell ⟨N,1,none⟩ (.slice a7 np c7)).setCell ⟨N,2,none⟩ (.slice a8 n0 c8));rw[←hw9] at z0 z1 z2 FI ⊢;clear hw9 HZ KS y0 y1 y2 f0 f1 f2;go_wp2_with fail;refine bodyPost_ret (by simp[results,Tryz.results173,go_sem,z0,z1,z2];try rfl) rfl ?_;exact⟨FI.out.1,.inr ⟨HJ.out,_,_,_,ts,mv,m,rfl,FI.out.2⟩⟩
 ·have bA1:=B1.out;have k8:w1.heap[N]?=some (.cells #[.slice none 0 0,.slice none 0 0,.slice none 0 0] 47 (0,0)):=(bA1.block N HB.out.2.1).trans HB.out.2.2;have y0:w1.cell? ⟨N,0,none⟩=some (.slice none 0 0):=S.M.qc k8 0;have y1:w1.cell? ⟨N,1,none⟩=some (.slice none 0 0):=S.M.qc k8 1;have y2:w1.cell? ⟨N,2,none⟩=some (.slice none 0 0):=S.M.qc k8 2;have f0:w1.frozen? ⟨N,0,none⟩=false:=by simp[World.frozen?,k8]
  have f1:w1.frozen? ⟨N,1,none⟩=false:=by simp[World.frozen?,k8]
  have f2:w1.frozen? ⟨N,2,none⟩=false:=by simp[World.frozen?,k8]
  obtain⟨w9,hw9⟩:=eXa (((w1.setCell ⟨N,0,none⟩ (.slice none 0 0)).setCell ⟨N,1,none⟩ (.slice none 0 0)).setCell ⟨N,2,none⟩ (.slice none 0 0));have k9:w9.heap[N]?=some (.cells #[.slice none 0 0,.slice none 0 0,.slice none 0 0] 47 (0,0)):=by rw[hw9];exact S.M.qj (S.M.qj (S.M.qj k8))
  have ch9:S.M.Ch (fun b=>b=N) w1 w9:=by rw[hw9];exact ((S.M.jc w1 N 0 _).trans (S.M.jc _ N 1 _)).trans (S.M.jc _ N 2 _)
  have hNA:=HB.out.2.1;have BF:Hid (Below N w w9):=(HB.out.1.trans (bA1.mono (Nat.le_of_lt hNA))).trans (ch9.below (nLt (Nat.le_of_lt hNA) bA1.size) fun b e=>by omega);have z0:w9.cell? ⟨N,0,none⟩=some (.slice none 0 0):=S.M.qc k9 0;have z1:w9.cell? ⟨N,1,none⟩=some (.slice none 0 0):=S.M.qc k9 1;have z2:w9.cell? ⟨N,2,none⟩=some (.slice none 0 0):=S.M.qc k9 2;have HW9:=hid hw9;clear hw9 k9 ch9 k8 bA1 hNA;go_wp2_with fail;rw[←HW9.out];clear HW9;refine bodyPost_ret (by simp[results,Tryz.results173,go_sem,z0,z1,z2];try rfl) rfl ?_;exact⟨BF.out,.inl ⟨by rw[HJ.out];exact hE,by rw[HJ.out];rfl⟩⟩
theorem qj3 (w:World)(T:Nat)(a:Option Addr)(n c:Nat)(l:List Pp)(p:Pp)(hc:w.cell? ⟨T,2,none⟩=some (.slice a n c))(hl:l.length=n)(hn:n≤1048576)(hA:yw w a l) :
  Calls Tryz.prog 257 #[.pointer (some ⟨T,2,none⟩),.agg #[.int .i64 p.1,.int .i64 p.2]] w fun e w'=>e=.returned (.bool (q3w l p))∧Below w.heap.size w w':=by
 obtain⟨w1,hw1⟩:=eXa (w.alloc (.cells #[.int .i64 p.1,.int .i64 p.2] 130));obtain⟨B,hB⟩:=eXb w.heap.size;have HW1:=hid hw1;have HB:=hid hB;have b1:Below w.heap.size w w1:=by rw[hw1];exact qo _ _
 have k1:w1.heap[B]?=some (.cells #[.int .i64 p.1,.int .i64 p.2] 130 (0,0)):=by rw[hw1,←hB];exact heap_alloc_new w _
 have x0:w1.cell? ⟨B,0,none⟩=some (.int .i64 p.1):=S.M.qc k1 0;have x1:w1.cell? ⟨B,1,none⟩=some (.int .i64 p.2):=S.M.qc k1 1;have x2:w1.cell? ⟨T,2,none⟩=some (.slice a n c):=(b1.cell (p:=⟨T,2,none⟩) (bLt hc)).trans hc;have C:Hid (Calls Tryz.prog 220 #[.slice a n c,.agg #[.int .i64 p.1,.int .i64 p.2]] w1.drew fun e w'=>e=.returned (.bool (q3w l p))∧Below w1.heap.size w1.drew w'):=qkr w1.drew a c n l p hl (by omega) ((hA.under b1).under (xu bRf 1));have B1:=hid b1;have SF:Hid (∀W,Below w1.heap.size w1.drew W→W.cell? ⟨B,0,none⟩=some (.int .i64 p.1)∧W.cell? ⟨B,1,none⟩=some (.int .i64 p.2)∧W.cell? ⟨T,2,none⟩=some (.slice a n c)):=fun W hW =>
  ⟨(hW.cell (p:=⟨B,0,none⟩) (bLt x0)).trans x0,(hW.cell (p:=⟨B,1,none⟩) (bLt x1)).trans x1,(hW.cell (p:=⟨T,2,none⟩) (bLt x2)).trans x2⟩
 clear hw1 hB b1 k1 hc hl hA x0 x1 x2;go_enter Tryz.func257,Tryz.ntmps257;go_upto_region 1 with fail;rw[←HW1.out,HB.out];clear HW1;refine wp_region_held_drew (S:=fun w'=>w'.cell? ⟨B,0,none⟩=some (.int .i64 p.1)∧w'.cell? ⟨B,1,none⟩=some (.int .i64 p.2)∧w'.cell? ⟨T,2,none⟩=some (.slice a n c)) (by kernel_rfl) ?_ (fun hZ=>?_)
 ·exact SF.out _ bRf
 refine tkq 0 hZ ?_;refine tkq 1 hZ ?_;refine tkq 2 hZ ?_;refine tkq 3 hZ ?_;refine tkq 4 hZ ?_;refine rkq 5 fun K hK=>?_
 go_simp;go_at_call 220;refine cMo C.out ?_;rintro e w2 ⟨rfl,hb2⟩;have B2:Hid (Below w1.heap.size w1.drew w2):=hb2;clear hb2 C
 try go_wp2_with fail
 refine aQq hK ?_ fun hZ_5=>?_
 ·exact SF.out _ B2.out
 clear hK K;refine tkq 6 hZ_5 ?_;refine wpAnyH_done (by kernel_rfl) ?_ _;go_wp2_with fail
 go_ret
 exact⟨rfl,B1.out.trans ((show Below w1.heap.size w1 w2 from (xu bRf 1).trans B2.out).mono B1.out.size)⟩
theorem qgc (w:World)(PB:Nat)(al:Option Addr)(nl cl mb:Nat)(a:Option Addr)(n c:Nat)(l:List Pp)(p:Pp)(h0:w.cell? ⟨PB,0,none⟩=some (.int .i64 p.1))(h1:w.cell? ⟨PB,1,none⟩=some (.int .i64 p.2))(hl:l.length=n)(hn:n≤1048576)(hA:yw w a l) :
  Calls Tryz.prog 256 #[.agg #[.slice al nl cl,.map (some mb),.slice a n c],.pointer (some ⟨PB,0,none⟩)] w fun e w'=>e=.returned (.bool (q3w l p))∧Below w.heap.size w w':=by
 obtain⟨w1,hw1⟩:=eXa (w.alloc (.cells #[.slice al nl cl,.map (some mb),.slice a n c] 225));obtain⟨B,hB⟩:=eXb w.heap.size;have HW1:=hid hw1;have HB:=hid hB;have b1:Below w.heap.size w w1:=by rw[hw1];exact qo _ _
 have k1:w1.heap[B]?=some (.cells #[.slice al nl cl,.map (some mb),.slice a n c] 225 (0,0)):=by rw[hw1,←hB];exact heap_alloc_new w _
 have x0:w1.cell? ⟨PB,0,none⟩=some (.int .i64 p.1):=(b1.cell (p:=⟨PB,0,none⟩) (bLt h0)).trans h0;have x1:w1.cell? ⟨PB,1,none⟩=some (.int .i64 p.2):=(b1.cell (p:=⟨PB,1,none⟩) (bLt h1)).trans h1;have C:Hid _:=qj3 w1 B a n c l p (S.M.qc k1 2) hl hn (hA.under b1);have B1:=hid b1;clear hw1 hB b1 k1 h0 h1 hl hA;go_enter Tryz.func256,Tryz.ntmps256;go_upto_region 1 with fail;rw[←HW1.out,HB.out];clear HW1;go_wp2_with fail;refine cMo C.out ?_;rintro e w2 ⟨rfl,hb2⟩;have B2:=bTr B1 hb2;clear hb2 C
 go_wp2
 go_ret
 exact⟨rfl,B2.out⟩
def q3x {α:Type}(p:α→Bool)(l:List α):Int:=match l.findIdx? p with | some i=>i | none=>-1
theorem q5n {α:Type}{p:α→Bool}{l:List α}(h:l.any p=false):q3x p l=-1:=by
 unfold q3x;have:l.findIdx? p=none:=List.findIdx?_eq_none_iff.2 fun x hx=>by
  cases e:p x with
  | false=>rfl
  | true=>rw[List.any_eq_true.2 ⟨x,hx,e⟩] at h;cases h
 rw[this]
theorem q76 {α:Type}{p:α→Bool}{l:List α}{j:Nat}{x:α}(hx:l[j]?=some x)(hp:p x=true)(h:(l.take j).any p=false):q3x p l=j:=by
 unfold q3x;have hj:j < l.length:=(List.getElem?_eq_some_iff.1 hx).1;have he:l[j]=x:=(List.getElem?_eq_some_iff.1 hx).2
 have:l.findIdx? p=some j:=List.findIdx?_eq_some_iff_getElem.2 ⟨hj,by rw[he];exact hp,fun i hi=>by
  rw[List.any_eq_false] at h
  exact h _ (List.mem_iff_getElem.2 ⟨i,by rw[List.length_take];omega,by rw[List.getElem_take]⟩)⟩
 rw[this]
theorem qbg {α:Type}{p:α→Bool}{l:List α}{j:Nat}{x:α}(hx:l[j]?=some x)(hp:p x=false)(h:(l.take j).any p=false):(l.take (j + 1)).any p=false:=by
 rw[List.take_add_one,hx,List.any_append,h];simp[hp]
theorem qbh {α:Type}(p:α→Bool)(l:List α):decide (0≤q3x p l)=l.any p:=by
 cases h:l.any p with
 | false=>rw[q5n h];rfl
 | true =>
  unfold q3x
  cases hf:l.findIdx? p with
  | none =>
   rw[List.findIdx?_eq_none_iff] at hf;obtain⟨x,hx,e⟩:=List.any_eq_true.1 h;rw[hf x hx] at e
   cases e
  | some i=>exact decide_eq_true (by show (0:Int)≤(i:Int);omega)
theorem qgd (w:World) (F:Int→Bool) (PB:Nat) (a:Option Addr) (n c:Nat) (l:List Int) (hl:l.length=n) (hn:n≤17592186043904) (hA:uj w a l)
  (hF:∀W,Below w.heap.size w W→∀x ∈ l,Calls Tryz.prog 222 #[.int .i64 x,.pointer (some ⟨PB,0,none⟩)] W fun e W'=>e=.returned (.bool (F x))∧Below W.heap.size W W') :
  Calls Tryz.prog 252 #[.slice a n c,.func (.func 222) #[] #[.pointer (some ⟨PB,0,none⟩)]] w fun e w'=>e=.returned (.int .i64 (q3x F l))∧Below w.heap.size w w':=by
 have HL:=hid hl;have HA:Hid _:=hA;have HF:Hid _:=hF;clear hl hA hF;go_enter Tryz.func252,Tryz.ntmps252;go_wp2_with fail
 go_loopw [8] (fun v8 wx=>∃j:Nat,j≤n∧v8=.int .i64 j∧Hid ((l.take j).any F=false)∧Hid (Below w.heap.size w wx)) (fun v8 _=>n - (intOf v8).toNat)
 case atStart=>exact⟨0,Nat.zero_le _,rfl,rfl,bRf⟩
 case round =>
  obtain⟨j,hj,rfl,hN,hB⟩:=hrel
  by_cases hlt:j < n
  ·have n1:(j:Int) < (n:Int):=by omega
   obtain⟨x,hx⟩:∃x,l[j]?=some x:=⟨_,gEq (by rw[HL.out];exact hlt)⟩;obtain⟨g,off,rfl,y0⟩:=(uj.under HA.out hB.out) j x hx;have CF:Hid _:=HF.out wr hB.out x (mGe hx)
   cases e1:F x with
   | false =>
    rw[e1] at CF;have N2:Hid ((l.take (j + 1)).any F=false):=qbg hx e1 hN.out;clear hx e1 hN;go_wp2_with fail;refine cMo CF.out ?_;rintro e w2 ⟨rfl,hb2⟩;have B2:=bTr hB hb2;clear hb2 CF
    go_wp2
    exact⟨⟨j + 1,by omega,by go_num,N2.out,B2.out⟩,by simp[intOf];omega⟩
   | true =>
    rw[e1] at CF;have N2:Hid (q3x F l=(j:Int)):=q76 hx e1 hN.out;clear hx e1 hN;go_wp2_with fail;refine cMo CF.out ?_;rintro e w2 ⟨rfl,hb2⟩;have B2:=bTr hB hb2;clear hb2 CF
    go_wp2
    go_ret
    exact⟨by rw[N2.out];rfl,B2.out⟩
  ·have n1:¬(j:Int) < (n:Int):=by omega
   have N2:Hid (q3x F l=-1):=by
    have h:=hN.out;rw[List.take_of_length_le (by rw[HL.out];omega)] at h;exact q5n h
   clear hN
   go_wp2
   go_ret
   exact⟨by rw[N2.out];rfl,hB.out⟩
theorem qbi (w:World) (F:Int→Bool) (PB:Nat) (a:Option Addr) (n c:Nat) (l:List Int) (hl:l.length=n) (hn:n≤17592186043904) (hA:uj w a l)
  (hF:∀W,Below w.heap.size w W→∀x ∈ l,Calls Tryz.prog 222 #[.int .i64 x,.pointer (some ⟨PB,0,none⟩)] W fun e W'=>e=.returned (.bool (F x))∧Below W.heap.size W W') :
  Calls Tryz.prog 221 #[.slice a n c,.func (.func 222) #[] #[.pointer (some ⟨PB,0,none⟩)]] w fun e w'=>e=.returned (.bool (l.any F))∧Below w.heap.size w w':=by
 have CC:Hid _:=qgd w F PB a n c l hl hn hA hF;have HE:Hid (decide (0≤q3x F l)=l.any F):=qbh F l;obtain⟨i,hi⟩:=eXb (q3x F l);rw[hi] at CC HE;clear hl hn hA hF hi;go_enter Tryz.func221,Tryz.ntmps221;go_wp2_with fail;refine cMo CC.out ?_;rintro e w1 ⟨rfl,hb⟩;have HB:=hid hb;clear CC hb
 go_wp2
 go_ret
 exact⟨by rw[←HE.out];rfl,HB.out⟩
theorem qge (w:World) (F:ScC→Bool) (O:Nat→Prop) (PB:Nat) (a:Option Addr) (n c:Nat) (l:List ScC) (hl:l.length=n) (hn:n≤1048576) (hA:w.ownsRow 0 225 3 (.slice a n c) n (q0a l)∧∀x ∈ l,q6l O w x)
  (hF:∀W,Below w.heap.size w W→∀x ∈ l,Calls Tryz.prog 256 #[.agg #[x.vl,.map (some x.mb),x.vp],.pointer (some ⟨PB,0,none⟩)] W fun e W'=>e=.returned (.bool (F x))∧Below W.heap.size W W') :
  Calls Tryz.prog 273 #[.slice a n c,.func (.func 256) #[] #[.pointer (some ⟨PB,0,none⟩)]] w fun e w'=>e=.returned (.int .i64 (q3x F l))∧Below w.heap.size w w':=by
 have HL:=hid hl;have HA:Hid _:=hA;have HF:Hid _:=hF;clear hl hA hF;go_enter Tryz.func273,Tryz.ntmps273;go_wp2_with fail
 go_loopw [8] (fun v8 wx=>∃j:Nat,j≤n∧v8=.int .i64 j∧Hid ((l.take j).any F=false)∧Hid (Below w.heap.size w wx)) (fun v8 _=>n - (intOf v8).toNat)
 case atStart=>exact⟨0,Nat.zero_le _,rfl,rfl,bRf⟩
 case round =>
  obtain⟨j,hj,rfl,hN,hB⟩:=hrel
  by_cases hlt:j < n
  ·have n1:(j:Int) < (n:Int):=by omega
   obtain⟨x,hx⟩:∃x,l[j]?=some x:=⟨_,gEq (by rw[HL.out];exact hlt)⟩;have hrow:wr.ownsRow 0 225 3 (.slice a n c) n (q0a l):=S.M.qh HA.out.1 (S.M.Ch.oB (X:=fun _=>False) hB.out) fun _ _ e=>e
   obtain⟨g,c',e,_,_,_⟩:=S.M.q0h hrow (by omega)
   cases e;obtain⟨y0,y1,y2⟩:=q8z hrow j x hx;have CF:Hid _:=HF.out wr hB.out x (mGe hx);have hok:=HA.out.2 x (mGe hx);obtain⟨al,cl,el,_⟩:=ql hok.l;obtain⟨ap,cp,ep,_⟩:=ql hok.p;rw[el] at y0 CF;rw[ep] at y2 CF;obtain⟨nh,hnh⟩:=eXb x.hs.length;obtain⟨np,hnp⟩:=eXb x.ps.length;obtain⟨mb,hmb⟩:=eXb x.mb;rw[hnh] at y0 CF;rw[hmb] at y1 CF;rw[hnp] at y2 CF;clear hok el ep hnh hnp hmb hrow
   cases e1:F x with
   | false =>
    rw[e1] at CF;have N2:Hid ((l.take (j + 1)).any F=false):=qbg hx e1 hN.out;clear hx e1 hN;go_wp2_with fail;refine cMo CF.out ?_;rintro e w2 ⟨rfl,hb2⟩;have B2:=bTr hB hb2;clear hb2 CF
    go_wp2
    exact⟨⟨j + 1,by omega,by go_num,N2.out,B2.out⟩,by simp[intOf];omega⟩
   | true =>
    rw[e1] at CF;have N2:Hid (q3x F l=(j:Int)):=q76 hx e1 hN.out;clear hx e1 hN;go_wp2_with fail;refine cMo CF.out ?_;rintro e w2 ⟨rfl,hb2⟩;have B2:=bTr hB hb2;clear hb2 CF
    go_wp2
    go_ret
    exact⟨by rw[N2.out];rfl,B2.out⟩
  ·have n1:¬(j:Int) < (n:Int):=by omega
   have N2:Hid (q3x F l=-1):=by
    have h:=hN.out;rw[List.take_of_length_le (by rw[HL.out];omega)] at h;exact q5n h
   clear hN
   go_wp2
   go_ret
   exact⟨by rw[N2.out];rfl,hB.out⟩
theorem qbj (w:World) (F:ScC→Bool) (O:Nat→Prop) (PB:Nat) (a:Option Addr) (n c:Nat) (l:List ScC) (hl:l.length=n) (hn:n≤1048576) (hA:w.ownsRow 0 225 3 (.slice a n c) n (q0a l)∧∀x ∈ l,q6l O w x)
  (hF:∀W,Below w.heap.size w W→∀x ∈ l,Calls Tryz.prog 256 #[.agg #[x.vl,.map (some x.mb),x.vp],.pointer (some ⟨PB,0,none⟩)] W fun e W'=>e=.returned (.bool (F x))∧Below W.heap.size W W') :
  Calls Tryz.prog 255 #[.slice a n c,.func (.func 256) #[] #[.pointer (some ⟨PB,0,none⟩)]] w fun e w'=>e=.returned (.bool (l.any F))∧Below w.heap.size w w':=by
 have CC:Hid _:=qge w F O PB a n c l hl hn hA hF;have HE:Hid (decide (0≤q3x F l)=l.any F):=qbh F l;obtain⟨i,hi⟩:=eXb (q3x F l);rw[hi] at CC HE;clear hl hn hA hF hi;go_enter Tryz.func255,Tryz.ntmps255;go_wp2_with fail;refine cMo CC.out ?_;rintro e w1 ⟨rfl,hb⟩;have HB:=hid hb;clear CC hb
 go_wp2
 go_ret
 exact⟨by rw[←HE.out];rfl,HB.out⟩
theorem qq5 (xs:List ScC)(p:Pp):(xs.any fun x=>q3w x.ps p)=q3w (q0v xs) p:=by
 unfold q3w q0v;rw[List.any_flatMap]
theorem qgf (w:World)(O:Nat→Prop)(P:Nat)(vS:Value)(xs:List ScC)(p:Pp)(h:qw tq O w P vS xs)(hn:xs.length≤1048576)(hq:(q0v xs).length≤1048576) :
  Calls Tryz.prog 225 #[.pointer (some ⟨P,0,none⟩),.agg #[.int .i64 p.1,.int .i64 p.2]] w fun e w'=>e=.returned (.bool (q3w (q0v xs) p))∧Below w.heap.size w w':=by
 obtain⟨w1,hw1⟩:=eXa (w.alloc (.cells #[.int .i64 p.1,.int .i64 p.2] 130));obtain⟨B,hB⟩:=eXb w.heap.size;have HW1:=hid hw1;have HB:=hid hB;have b1:Below w.heap.size w w1:=by rw[hw1];exact qo _ _
 have k1:w1.heap[B]?=some (.cells #[.int .i64 p.1,.int .i64 p.2] 130 (0,0)):=by rw[hw1,←hB];exact heap_alloc_new w _
 have hS:=h.below b1;obtain⟨a,c,rfl,_⟩:=ql h.row;have x1:=hS.cells.2;have c0:w1.cell? ⟨B,0,none⟩=some (.int .i64 p.1):=S.M.qc k1 0;have c1:w1.cell? ⟨B,1,none⟩=some (.int .i64 p.2):=S.M.qc k1 1
 have C:Hid _:=qbj w1 (fun x=>q3w x.ps p) O B a xs.length c xs rfl hn ⟨hS.row,hS.each⟩ (fun W hW x hx=>by
  have hok:=(hS.below hW).each x hx
  obtain⟨al,cl,el,_⟩:=ql hok.l
  obtain⟨ap,cp,ep,_⟩:=ql hok.p
  rw[el,ep]
  refine qgc W B al _ cl x.mb ap _ cp x.ps p ((hW.cell (p:=⟨B,0,none⟩) (bLt c0)).trans c0) ((hW.cell (p:=⟨B,1,none⟩) (bLt c1)).trans c1) rfl ?_ (q3v (by have h:=hok.p;rw[ep] at h;exact h))
  refine nLt ?_ hq
  unfold q0v
  obtain⟨s,t,e⟩:=List.append_of_mem hx
  rw[e,List.flatMap_append,List.flatMap_cons,lAp,lAp]
  omega)
 rw[qq5] at C;have B1:=hid b1;generalize xs.length=n at *;clear hw1 hB b1 k1 h hS hq c0 c1;go_enter Tryz.func225,Tryz.ntmps225;go_upto_region 1 with fail;rw[←HW1.out,HB.out];clear HW1;go_wp2_with fail;refine cMo C.out ?_;rintro e w2 ⟨rfl,hb2⟩;have B2:=bTr B1 hb2;clear hb2 C
 go_wp2
 go_ret
 exact⟨rfl,B2.out⟩
theorem qgg (w:World)(O:Nat→Prop)(P PB:Nat)(vS:Value)(xs:List ScC)(x:Int)(h:qw tq O w P vS xs)(hV:q1r tq isV w)(hp:w.cell? ⟨PB,0,none⟩=some (.pointer (some ⟨P,0,none⟩))) :
  Calls Tryz.prog 222 #[.int .i64 x,.pointer (some ⟨PB,0,none⟩)] w fun e w'=>e=.returned (.bool (!isV x))∧Below w.heap.size w w':=by
 have x0:=h.cells.1;unfold q0r at x0;have V:Hid _:=hV w x bRf;clear h hV;go_enter Tryz.func222,Tryz.ntmps222;go_wp2_with fail;refine cMo V.out ?_;rintro e w2 ⟨rfl,hb2⟩;have B2:=hid hb2;clear hb2
 go_wp2
 go_ret
 exact⟨rfl,B2.out⟩
theorem qen {w:World}{base e size g n c o:Nat}{l:List Value}{v:Value}(h:w.ownsRow base e size (.slice (some ⟨g,0,none⟩) n c) n l):(w.setCell ⟨g,o,none⟩ v).ownsRow base e size (.slice (some ⟨g,0,none⟩) n c) n (l.set o v):=by
 refine⟨by rw[List.length_set];exact h.1,?_⟩;rcases h.2 with ⟨e',_⟩ | ⟨g',cap',cur,hv,hg',hh,hn,hc,hsz,ht⟩
 ·cases e'
 ·simp only[Value.slice.injEq,Option.some.injEq,Addr.mk.injEq] at hv;obtain⟨⟨rfl,_⟩,_,rfl⟩:=hv;refine .inr ⟨g,c,cur.setIfInBounds o v,rfl,hg',S.M.qj hh,hn,hc,by rw[Array.size_setIfInBounds];exact hsz,?_⟩;rw[Array.toList_setIfInBounds,List.take_set,ht]
theorem qbk {base e size g n c:Nat}{l:List Value}:∀(vs:List Value) (o:Nat) (w:World),w.ownsRow base e size (.slice (some ⟨g,0,none⟩) n c) n l→n * size≤o→(w.setCells g o vs).ownsRow base e size (.slice (some ⟨g,0,none⟩) n c) n l
 | [],_,_,h,_=>h
 | v :: vs,o,w,h,ho=>by
  have h1:=qen (o:=o) (v:=v) h;rw[List.set_eq_of_length_le (by rw[h.1];exact ho)] at h1;exact qbk vs (o + 1) _ h1 (by omega)
theorem q77 (g:Nat):∀(vs:List Value) (o:Nat) (w:World),S.M.Ch (fun b=>b=g) w (w.setCells g o vs)
 | [],_,w=>S.M.Ch.oB (Below.refl _ w)
 | v :: vs,o,w=>(S.M.jc w g o v).trans (q77 g vs (o + 1) _)
theorem qbl {w:World}{base e size g n c k:Nat}{l:List Value}(h:w.ownsRow base e size (.slice (some ⟨g,0,none⟩) n c) n l)(hk:k≤n):w.ownsRow base e size (.slice (some ⟨g,0,none⟩) k c) k (l.take (k * size)):=by
 rcases h.2 with ⟨e',_⟩ | ⟨g',cap',cur,hv,hg',hh,hn,hc,hsz,ht⟩
 ·cases e'
 ·simp only[Value.slice.injEq,Option.some.injEq,Addr.mk.injEq] at hv;obtain⟨⟨rfl,_⟩,_,rfl⟩:=hv;have hle:k * size≤n * size:=Nat.mul_le_mul_right _ hk;refine⟨by rw[List.length_take,h.1];omega,.inr ⟨g,c,cur,rfl,hg',hh,by omega,hc,hsz,?_⟩⟩;rw[←ht,List.take_take,Nat.min_eq_left hle]
theorem q6t {P:Program} (w:World) (t e ty:TypeId) (z:Value) (ht:P.underlying t=some (.slice e)) (hv:∀w,(zeroValue e).run P w=.ok z w) (h0:0 < z.cells.size) (h1:∀j,j < z.cells.size→(z.cells[j]!).oneCell'=true) (b o n c:Nat) (hn:0 < n)
  (hc:∀j,j < n * z.cells.size→(w.cell? ⟨b,o + j,none⟩).isSome=true) (hf:∀j,j < n * z.cells.size→w.frozen? ⟨b,o + j,none⟩=false) :
  (Builtin.clear_ #[t] ty #[.slice (some ⟨b,o,none⟩) n c]).run P w=.ok (.tuple #[]) (w.setCells b o (Builtin.zeroCells z.cells n).toList):=by
 have hsz:(Builtin.zeroCells z.cells n).toList.length=n * z.cells.size:=by rw[Array.length_toList,size_zeroCells]
 have hst:=run_storeCells_cells (P:=P) b o (Builtin.zeroCells z.cells n).toList 0 w (by rw[hsz];simpa using hc) (by rw[hsz];simpa using hf) (by
  intro v hv'
  obtain⟨i,hi,rfl⟩:=Array.mem_iff_getElem.1 (Array.mem_toList_iff.1 hv')
  simp only[Builtin.zeroCells,Array.getElem_map]
  exact h1 _ (Nat.mod_lt _ h0))
 simp only[Nat.add_zero] at hst;obtain⟨m,rfl⟩:∃m,n=m + 1:=⟨n - 1,by omega⟩;simp[Builtin.clear_,run_underlying ht,hv,hst]
theorem qw.under {N:Nat}{O:Nat→Prop}{W W':World}{P:Nat}{vS:Value}{xs:List ScC}(h:qw tq O W P vS xs)(hb:Below N W W')(hO:∀g,O g→g < N):qw tq O W' P vS xs:=by
 have hc:=q4q hb;have no:∀g,O g→¬N≤g:=fun g hg=>by have:=hO g hg;omega
 exact⟨(hc.block P (h.lt P h.bo) (no P h.bo)).trans h.box,h.bo,S.M.qh h.row hc fun g e=>no g (h.ro g e),h.ro,fun x hx=>(h.each x hx).ch hc (fun g e=>no g ((h.each x hx).lo g e)) (fun y hy g e=>no g (((h.each x hx).e y hy).2 g e)) (no _ (h.each x hx).mo) (fun g e=>no g ((h.each x hx).po g e)),h.ap,fun g hg=>Nat.lt_of_lt_of_le (h.lt g hg) hb.size⟩
theorem qky:∀(l:List Pp) (i j:Nat) (x:Pp),l[i]?=some x→j < 2→(jh l)[i * 2 + j]?=[Value.int .i64 x.1,.int .i64 x.2][j]?
 | [],i,j,x,h,_=>by simp at h
 | y :: r,0,j,x,h,hj=>by
  simp at h;subst h
  show ([Value.int .i64 y.1,.int .i64 y.2]++jh r)[0 * 2 + j]?=_
  rw[Nat.zero_mul,Nat.zero_add,List.getElem?_append_left (by simp;omega)]
 | y :: r,i + 1,j,x,h,hj=>by
  show ([Value.int .i64 y.1,.int .i64 y.2]++jh r)[(i + 1) * 2 + j]?=_
  rw[List.getElem?_append_right (by simp;omega)];have e:(i + 1) * 2 + j - [Value.int .i64 y.1,.int .i64 y.2].length=i * 2 + j:=by simp;omega
  rw[e];exact qky r i j x (by simpa using h) hj
theorem qq6 {W:World}{base g n cap:Nat}{l:List Pp}(h:W.ownsRow base 130 2 (.slice (some ⟨g,0,none⟩) n cap) n (jh l))(i:Nat)(x:Pp)(hi:l[i]?=some x):W.cell? ⟨g,i * 2,none⟩=some (.int .i64 x.1)∧W.cell? ⟨g,i * 2 + 1,none⟩=some (.int .i64 x.2):=by
 have key:∀j u,[Value.int .i64 x.1,.int .i64 x.2][j]?=some u→j < 2→W.cell? ⟨g,i * 2 + j,none⟩=some u:=fun j u hu hj=>by
  obtain⟨ad,e,h1⟩:=q29 h (i * 2 + j) u ((qky l i j x hi hj).trans hu)
  cases e;rw[Addr.add_lit,Nat.zero_add] at h1;exact h1
 exact⟨key 0 _ rfl (by decide),key 1 _ rfl (by decide)⟩
theorem q62 {W:World}{base e size g n cap:Nat}{l:List Value}(h:W.ownsRow base e size (.slice (some ⟨g,0,none⟩) n cap) n l)(o:Nat):W.frozen? ⟨g,o,none⟩=false:=by
 rcases h.2 with ⟨e',_⟩ | ⟨g',cap',cur,hv,hg',hh,_⟩
 ·cases e'
 ·simp only[Value.slice.injEq,Option.some.injEq,Addr.mk.injEq] at hv;obtain⟨⟨rfl,_⟩,_,rfl⟩:=hv;simp[World.frozen?,hh]
theorem qgh:∀(l:List Pp) (i:Nat) (x:Pp),((jh l).set (i * 2) (.int .i64 x.1)).set (i * 2 + 1) (.int .i64 x.2)=jh (l.set i x)
 | [],i,x=>by simp[jh]
 | y :: r,0,x=>by simp[jh]
 | y :: r,i + 1,x=>by
  show (([Value.int .i64 y.1,.int .i64 y.2]++jh r).set ((i + 1) * 2) _).set ((i + 1) * 2 + 1) _=[Value.int .i64 y.1,.int .i64 y.2]++jh (r.set i x)
  rw[←qgh r i x];have e1:(i + 1) * 2=(i * 2) + 1 + 1:=by omega
  rw[e1]
  rfl
theorem qn6 (l:List Pp)(k:Nat):(jh l).take (k * 2)=jh (l.take k):=by
 induction l generalizing k with
 | nil=>simp[jh]
 | cons y r ih =>
  cases k with
  | zero=>simp[jh]
  | succ k =>
   show ([Value.int .i64 y.1,.int .i64 y.2]++jh r).take ((k + 1) * 2)=[Value.int .i64 y.1,.int .i64 y.2]++jh (r.take k)
   rw[←ih k];have e1:(k + 1) * 2=(k * 2) + 1 + 1:=by omega
   rw[e1]
   rfl
structure q4a {α:Type}(p:α→Bool)(l:List α)(n i j:Nat)(zs:List α):Prop where
 len:zs.length=n
 take:zs.take i=(l.take j).filter p
 drop:zs.drop j=l.drop j
theorem q4a.at {α:Type}{p:α→Bool}{l:List α}{n i j:Nat}{zs:List α}(h:q4a p l n i j zs):zs[j]?=l[j]?:=by
 have:=congrArg (fun r=>r[0]?) h.drop
 simpa using this
theorem q4a.skip {α:Type}{p:α→Bool}{l:List α}{n i j:Nat}{zs:List α}{x:α}(h:q4a p l n i j zs)(hx:l[j]?=some x)(hp:p x=false):q4a p l n i (j + 1) zs:=by
 refine⟨h.len,?_,?_⟩
 ·rw[h.take,List.take_add_one,hx,Option.toList_some,List.filter_append];simp[hp]
 ·have:=congrArg (fun r=>r.drop 1) h.drop
  simpa [List.drop_drop] using this
theorem q4a.keep {α:Type}{p:α→Bool}{l:List α}{n i j:Nat}{zs:List α}{x:α}(h:q4a p l n i j zs)(hx:l[j]?=some x)(hp:p x=true)(hij:i < j)(hjn:j < n):q4a p l n (i + 1) (j + 1) (zs.set i x):=by
 refine⟨by rw[List.length_set];exact h.len,?_,?_⟩
 ·rw[List.take_add_one,List.take_set,List.set_eq_of_length_le (by rw[List.length_take];omega),h.take,List.getElem?_set_self (by rw[h.len];omega),Option.toList_some,List.take_add_one,hx,Option.toList_some,List.filter_append];simp[hp]
 ·rw[List.drop_set,if_pos (by omega)];have:=congrArg (fun r=>r.drop 1) h.drop
  simpa [List.drop_drop] using this
theorem qj4 {α:Type}{p:α→Bool}{l:List α}{n:Nat}(hl:l.length=n):(q3x p l=-1∧l.filter (fun x=>!p x)=l)∨∃j,j < n∧q3x p l=(j:Int)∧q4a (fun x=>!p x) l n j (j + 1) l:=by
 unfold q3x
 cases h:l.findIdx? p with
 | none =>
  rw[List.findIdx?_eq_none_iff] at h;exact .inl ⟨rfl,List.filter_eq_self.2 fun x hx=>by rw[h x hx];rfl⟩
 | some j =>
  rw[List.findIdx?_eq_some_iff_getElem] at h;obtain⟨hj,hp,hbef⟩:=h;refine .inr ⟨j,by omega,rfl,hl,?_,rfl⟩;rw[List.take_add_one,gEq hj,Option.toList_some,List.filter_append];have:(l.take j).filter (fun x=>!p x)=l.take j:=List.filter_eq_self.2 fun x hx=>by
   obtain⟨k,hk,rfl⟩:=List.mem_iff_getElem.1 hx;rw[List.length_take] at hk;rw[List.getElem_take];have:=hbef k (by omega)
   simpa using this
  rw[this];simp[hp]
theorem qgi (w:World) (F:Pp→Bool) (P:Nat) (a:Option Addr) (n c:Nat) (l:List Pp) (hl:l.length=n) (hn:n≤17592186043904) (hA:w.ownsRow 0 130 2 (.slice a n c) n (jh l))
  (hF:∀W,Below w.heap.size w W→∀x ∈ l,Calls Tryz.prog 225 #[.pointer (some ⟨P,0,none⟩),.agg #[.int .i64 x.1,.int .i64 x.2]] W fun e W'=>e=.returned (.bool (F x))∧Below W.heap.size W W') :
  Calls Tryz.prog 254 #[.slice a n c,.func (.func 225) #[.pointer (some ⟨P,0,none⟩)] #[]] w fun e w'=>e=.returned (.int .i64 (q3x F l))∧Below w.heap.size w w':=by
 have HL:=hid hl;have HA:Hid _:=hA;have HF:Hid _:=hF;clear hl hA hF;go_enter Tryz.func254,Tryz.ntmps254;go_wp2_with fail
 go_loopw [8] (fun v8 wx=>∃j:Nat,j≤n∧v8=.int .i64 j∧Hid ((l.take j).any F=false)∧Hid (Below w.heap.size w wx)) (fun v8 _=>n - (intOf v8).toNat)
 case atStart=>exact⟨0,Nat.zero_le _,rfl,rfl,bRf⟩
 case round =>
  obtain⟨j,hj,rfl,hN,hB⟩:=hrel
  by_cases hlt:j < n
  ·have n1:(j:Int) < (n:Int):=by omega
   obtain⟨x,hx⟩:∃x,l[j]?=some x:=⟨_,gEq (by rw[HL.out];exact hlt)⟩;have hrow:wr.ownsRow 0 130 2 (.slice a n c) n (jh l):=S.M.qh HA.out (S.M.Ch.oB (X:=fun _=>False) hB.out) fun _ _ e=>e
   obtain⟨g,c',e,_,_,_⟩:=S.M.q0h hrow (by omega)
   cases e;obtain⟨y0,y1⟩:=qq6 hrow j x hx;have CF:Hid _:=HF.out wr hB.out x (mGe hx);clear hrow
   cases e1:F x with
   | false =>
    rw[e1] at CF;have N2:Hid ((l.take (j + 1)).any F=false):=qbg hx e1 hN.out;clear hx e1 hN;go_wp2_with fail;refine cMo CF.out ?_;rintro e w2 ⟨rfl,hb2⟩;have B2:=bTr hB hb2;clear hb2 CF
    go_wp2
    exact⟨⟨j + 1,by omega,by go_num,N2.out,B2.out⟩,by simp[intOf];omega⟩
   | true =>
    rw[e1] at CF;have N2:Hid (q3x F l=(j:Int)):=q76 hx e1 hN.out;clear hx e1 hN;go_wp2_with fail;refine cMo CF.out ?_;rintro e w2 ⟨rfl,hb2⟩;have B2:=bTr hB hb2;clear hb2 CF
    go_wp2
    go_ret
    exact⟨by rw[N2.out];rfl,B2.out⟩
  ·have n1:¬(j:Int) < (n:Int):=by omega
   have N2:Hid (q3x F l=-1):=by
    have h:=hN.out;rw[List.take_of_length_le (by rw[HL.out];omega)] at h;exact q5n h
   clear hN
   go_wp2
   go_ret
   exact⟨by rw[N2.out];rfl,hB.out⟩
theorem qn7 (w:World) (F:Pp→Bool) (P N:Nat) (a:Option Addr) (n c:Nat) (l:List Pp) (hl:l.length=n) (hn:n≤1048576) (hN:N≤w.heap.size) (hA:w.ownsRow N 130 2 (.slice a n c) n (jh l))
  (hF:∀W,Below N w W→∀x ∈ l,Calls Tryz.prog 225 #[.pointer (some ⟨P,0,none⟩),.agg #[.int .i64 x.1,.int .i64 x.2]] W fun e W'=>e=.returned (.bool (F x))∧Below W.heap.size W W') :
  Calls Tryz.prog 224 #[.slice a n c,.func (.func 225) #[.pointer (some ⟨P,0,none⟩)] #[]] w fun e w'=>Below N w w'∧∃a' n' c',e=.returned (.slice a' n' c')∧(l.filter fun p=>!F p).length=n'∧w'.ownsRow N 130 2 (.slice a' n' c') n' (jh (l.filter fun p=>!F p)):=by
 have HL:=hid hl;have HF:Hid _:=hF;have CI:Hid _:=qgi w F P a n c l hl (by omega) (S.M.qp hA (Nat.zero_le _)) fun W hW x hx=>hF W (hW.mono hN) x hx
 have HA:=hid hA;have ID:Hid _:=qj4 (p:=F) hl;have HN:=hid hN;clear hl hF hA hN;go_enter Tryz.func224,Tryz.ntmps224;go_wp2_with fail;refine cMo CI.out ?_;rintro e w1 ⟨rfl,hb1⟩;rcases ID.out with ⟨hi,hfl⟩ | ⟨j0,hj0,hi,hK⟩
 ·have HB:=hid hb1;have HFL:=hid hfl;rw[hi];clear CI ID hb1 hi hfl
  go_wp2
  go_ret
  refine⟨HB.out.mono HN.out,a,n,c,rfl,by rw[HFL.out,HL.out],?_⟩;rw[HFL.out];exact S.M.qh HA.out (S.M.Ch.oB (X:=fun _=>False) HB.out) fun _ _ e=>e
 ·obtain⟨g,c',e,hnc,hgN,hgw⟩:=S.M.q0h HA.out (by omega)
  cases e;have HT:Hid (Below N w w1∧w1.ownsRow N 130 2 (.slice (some ⟨g,0,none⟩) n c) n (jh l)∧q4a (fun p=>!F p) l n j0 (j0 + 1) l):=⟨hb1.mono HN.out,S.M.qh HA.out (S.M.Ch.oB (X:=fun _=>False) hb1) (fun _ _ e=>e),hK⟩;have e1:IntKind.i64.wrap ((j0:Int) + 1)=((j0 + 1:Nat):Int):=by rw[IntWalk.i64_in _ (by omega)];omega
  have e2:((j0:Int) == -1)=false:=by rw[beq_eq_false_iff_ne];omega
  have HG:Hid (N≤g):=hgN;rw[hi];clear CI ID hb1 hi hK HA hgN hgw;go_wp2_with fail
  go_loopw [5,6] (fun iv jv wx=>∃i j:Nat,i < j∧j≤n∧iv=.int .i64 i∧jv=.int .i64 j∧Hid (∃zs,Below N w wx∧wx.ownsRow N 130 2 (.slice (some ⟨g,0,none⟩) n c) n (jh zs)∧q4a (fun p=>!F p) l n i j zs)) (fun _ jv _=>n - (intOf jv).toNat)
  case atStart=>exact⟨j0,j0 + 1,by omega,by omega,rfl,by go_num,l,HT.out⟩
  case round =>
   obtain⟨i,j,hij,hj,rfl,rfl,HX⟩:=hrel;clear HT e1 e2 hj0;obtain⟨zs,hB,hO,hK⟩:=HX.out;have HK:=hid hK
   by_cases hlt:j < n
   ·have n1:(j:Int) < (n:Int):=by omega
    have n2:(i:Int) < (n:Int):=by omega
    obtain⟨x,hx⟩:∃x,l[j]?=some x:=⟨l[j]'(by rw[HL.out];exact hlt),gEq _⟩;obtain⟨y0,y1⟩:=qq6 hO j x (hK.at.trans hx);obtain⟨wa,hwa⟩:=eXa (wr.alloc (.cells #[.int .i64 x.1,.int .i64 x.2] 130));obtain⟨Bx,hBx⟩:=eXb wr.heap.size;have HWA:=hid hwa;have HBX:=hid hBx;have ba:Below wr.heap.size wr wa:=by rw[hwa];exact qo _ _
    have ka:wa.heap[Bx]?=some (.cells #[.int .i64 x.1,.int .i64 x.2] 130 (0,0)):=by rw[hwa,←hBx];exact heap_alloc_new wr _
    have z0:wa.cell? ⟨Bx,0,none⟩=some (.int .i64 x.1):=S.M.qc ka 0;have z1:wa.cell? ⟨Bx,1,none⟩=some (.int .i64 x.2):=S.M.qc ka 1;have hNr:N≤wr.heap.size:=nLt HN.out hB.size;have BA:Hid (Below N w wa∧N≤wa.heap.size):=⟨hB.trans (ba.mono hNr),nLt hNr ba.size⟩;have OA:Hid (wa.ownsRow N 130 2 (.slice (some ⟨g,0,none⟩) n c) n (jh zs)):=S.M.qh hO (S.M.Ch.oB (X:=fun _=>False) ba) fun _ _ e=>e
    have CC:Hid _:=HF.out wa BA.out.1 x (mGe hx);have KA:Hid (wa.heap[Bx]?=some (.cells #[.int .i64 x.1,.int .i64 x.2] 130 (0,0))∧Bx < wa.heap.size):=⟨ka,(aIx ka)⟩;clear hwa hBx ba ka hNr hB hO;go_upto_region 8 with fail;rw[←HWA.out,HBX.out];clear HWA HBX y0 y1
    cases hp:F x with
    | true =>
     have HK2:Hid (q4a (fun p=>!F p) l n i (j + 1) zs):=hK.skip hx (by rw[hp];rfl);rw[hp] at CC;clear hx hp hK HX HK;go_wp2_with fail;refine cMo CC.out ?_;rintro e w2 ⟨rfl,hb⟩;have HY:Hid (∃zs,Below N w w2∧w2.ownsRow N 130 2 (.slice (some ⟨g,0,none⟩) n c) n (jh zs)∧q4a (fun p=>!F p) l n i (j + 1) zs):=⟨zs,BA.out.1.trans (hb.mono BA.out.2),S.M.qh OA.out (S.M.Ch.oB (X:=fun _=>False) hb) (fun _ _ e=>e),HK2.out⟩;clear CC hb
     go_wp2
     exact⟨⟨i,j + 1,by omega,by omega,rfl,by go_num,HY.out⟩,by simp[intOf];omega⟩
    | false =>
     have HK2:Hid (q4a (fun p=>!F p) l n (i + 1) (j + 1) (zs.set i x)):=hK.keep hx (by rw[hp];rfl) hij hlt;obtain⟨y,hy⟩:∃y,zs[i]?=some y:=⟨zs[i]'(by rw[hK.len];omega),gEq _⟩;have HY0:=hid hy;rw[hp] at CC;clear hx hp hK HX HK hy;go_wp2_with fail;refine cMo CC.out ?_;rintro e w2 ⟨rfl,hb⟩;have O2:w2.ownsRow N 130 2 (.slice (some ⟨g,0,none⟩) n c) n (jh zs):=S.M.qh OA.out (S.M.Ch.oB (X:=fun _=>False) hb) fun _ _ e=>e
     obtain⟨d0,d1⟩:=qq6 O2 i y HY0.out;have f0:w2.frozen? ⟨g,i * 2,none⟩=false:=q62 O2 _;have f1:w2.frozen? ⟨g,i * 2 + 1,none⟩=false:=q62 O2 _;have k2:w2.heap[Bx]?=some (.cells #[.int .i64 x.1,.int .i64 x.2] 130 (0,0)):=(hb.block Bx KA.out.2).trans KA.out.1;have q0:w2.cell? ⟨Bx,0,none⟩=some (.int .i64 x.1):=S.M.qc k2 0;have q1:w2.cell? ⟨Bx,1,none⟩=some (.int .i64 x.2):=S.M.qc k2 1;obtain⟨w9,hw9⟩:=eXa ((w2.setCell ⟨g,i * 2,none⟩ (.int .i64 x.1)).setCell ⟨g,i * 2 + 1,none⟩ (.int .i64 x.2));have HW9:=hid hw9;have HY:Hid (∃zs,Below N w w9∧w9.ownsRow N 130 2 (.slice (some ⟨g,0,none⟩) n c) n (jh zs)∧q4a (fun p=>!F p) l n (i + 1) (j + 1) zs):=by
      have b2:Below N w w2:=BA.out.1.trans (hb.mono BA.out.2);have ch9:S.M.Ch (fun b=>b=g) w2 w9:=by rw[hw9];exact (S.M.jc w2 g _ _).trans (S.M.jc _ g _ _)
      refine⟨zs.set i x,b2.trans (ch9.below (nLt HN.out b2.size) fun b e=>by rw[e];exact HG.out),?_,HK2.out⟩;rw[hw9,←qgh];exact qen (qen O2)
     clear CC hb O2 k2 hw9 HY0;go_upto_region 10 with fail;rw[←HW9.out];clear HW9 d0 d1 f0 f1 q0 q1
     go_wp2
     exact⟨⟨i + 1,j + 1,by omega,by omega,by go_num,by go_num,HY.out⟩,by simp[intOf];omega⟩
   ·have n1:¬(j:Int) < (n:Int):=by omega
    have hjn:j=n:=by omega
    have hQ:zs.take i=l.filter (fun p=>!F p):=by
     have:=hK.take
     rw[List.take_of_length_le (l:=l) (by rw[HL.out];omega)] at this;exact this
    have hI:(l.filter (fun p=>!F p)).length=i:=by
     have h2:=congrArg List.length hQ;rw[List.length_take,hK.len] at h2;omega
    have n2:i≤c:=by omega
    have hz:∀q,q < (n - i) * 2→(wr.cell? ⟨g,i * 2 + q,none⟩).isSome=true∧wr.frozen? ⟨g,i * 2 + q,none⟩=false:=fun q hq=>by
     obtain⟨ad,e,h1⟩:=q29 hO (i * 2 + q) _ (gEq (by rw[hO.1];omega))
     cases e;rw[Addr.add_lit,Nat.zero_add] at h1;exact⟨by rw[h1];rfl,q62 hO _⟩
    have hclr:=q6t (P:=Tryz.prog) wr 45 130 0 (.agg #[.int .i64 0,.int .i64 0]) Tryz.underlying45 (fun w=>by kernel_rfl) (by decide) (by decide) g (i * 2) (n - i) (c - i) (by omega) (fun q hq=>(hz q hq).1) (fun q hq=>(hz q hq).2);obtain⟨Z,hZ⟩:=eXb ((Builtin.zeroCells (Value.agg #[.int .i64 0,.int .i64 0]).cells (n - i)).toList);rw[hZ] at hclr;have HE:Hid (Below N w (wr.setCells g (i * 2) Z)∧(wr.setCells g (i * 2) Z).ownsRow N 130 2 (.slice (some ⟨g,0,none⟩) i c) i (jh (l.filter (fun p=>!F p)))):=by
     refine⟨hB.trans ((q77 g Z _ wr).below (nLt HN.out hB.size) fun b e=>by rw[e];exact HG.out),?_⟩;have h1:=qbl (k:=i) hO (by omega);rw[qn6,hQ] at h1;exact qbk Z _ wr h1 (Nat.le_refl _)
    have HI:=hid hI;clear hz hB hO hK HX HK HF hQ hI hZ
    go_wp2
    go_ret
    exact⟨HE.out.1,_,i,c,rfl,HI.out,HE.out.2⟩
section
variable {P:Program} {w:World}
theorem qcu (t ty:TypeId) (base:Nat) (e:TypeId) (i:TypeInfo) (z:Value) (size bytes:Nat) (ht:P.underlying t=some (.slice e)) (hi:P.info? e=some i) (hz:i.zero=some z)
  (hsize:i.size=size) (hby:i.bytes=bytes) (hzs:z.cells.size=size) (hsz:0 < size)
  (v:Value) (n:Nat) (xs:List Value) (hown:w.ownsRow base e size v n xs)
  (x0:Option Addr) (m c:Nat) (news:List Value) (hl:news.length=m * size) (hnews:∀j u,news[j]?=some u→∃ad,x0=some ad∧w.cell? (ad.add j)=some u) (h1:∀u ∈ news,u.oneCell'=true)
  (h63:n + m≤maxLen) (hbytes:(n + m) * bytes≤140737488355328) (hbase:base≤w.heap.size) :
  ∃a' c' w',(Builtin.append_ #[t,t] ty #[v,.slice x0 m c]).run P w=.ok (.slice a' (n + m) c') w'∧w'.ownsRow base e size (.slice a' (n + m) c') (n + m) (xs++news)∧S.M.Ch (fun b=>v.ownBlock=some b) w w'∧∀b,(Value.slice a' (n + m) c').ownBlock=some b→v.ownBlock=some b∨w.heap.size≤b:=by
 rcases Nat.eq_zero_or_pos m with rfl | hm
 ·have hn0:news=[]:=List.eq_nil_of_length_eq_zero (by rw[hl,Nat.zero_mul]);subst hn0;obtain⟨a',c',rfl,hc⟩:=ql hown;have src:Src P i.size t (.slice x0 0 c) 0 [] w:=by
   cases x0 with
   | none=>exact Src.ofNil w ht c
   | some ad=>exact Src.ofSlice w ht ad 0 c [] (by simp) (fun j u hu=>by simp at hu) (fun u hu=>by simp at hu)
  refine⟨a',c',w,run_append_nothing w t t ty e i ht hi a' n c' hc _ src,?_,S.M.Ch.oB bRf,fun b hb=>.inl hb⟩;rw[List.append_nil];exact hown
 ·have hne:0 < news.length:=by rw[hl];exact Nat.mul_pos hm hsz
  obtain⟨ad,rfl,_⟩:=hnews 0 _ (gEq hne)
  obtain⟨g,cap,w',hr,h2,h3,h4,_⟩:=run_append_lies (P:=P) w t ty base e i z size bytes ht hi hz hsize hby hzs hsz v n xs hown ad m c news hl (fun j u hu=>by
   obtain⟨ad',he,hc⟩:=hnews j u hu
   cases he
   exact hc) h1 hm h63 hbytes hbase w.heap.size rfl
  exact⟨_,_,w',hr,h2,S.M.Ch.jw h3,fun b hb=>S.M.q4k (c:=cap) (n:=n + m) h4 b hb⟩
theorem qeo {o:Oper} {a:Act} {K:Act→World→Prop} {Q:Exit→Act→World→Prop} (s x:Operand) (t:TypeId)
  (ho:o.op=.call { callee:=.builtin .append,args:=#[s,x],argTypes:=#[t,t] })
  (base:Nat) (e:TypeId) (i:TypeInfo) (z:Value) (size bytes:Nat) (ht:P.underlying t=some (.slice e)) (hi:P.info? e=some i) (hz:i.zero=some z)
  (hsize:i.size=size) (hby:i.bytes=bytes) (hzs:z.cells.size=size) (hsz:0 < size)
  (v:Value) (n:Nat) (xs:List Value) (hs:a.eval s=v) (hown:w.ownsRow base e size v n xs)
  (x0:Option Addr) (m c:Nat) (news:List Value) (hx:a.eval x=.slice x0 m c) (hl:news.length=m * size) (hnews:∀j u,news[j]?=some u→∃ad,x0=some ad∧w.cell? (ad.add j)=some u) (h1:∀u ∈ news,u.oneCell'=true)
  (h63:n + m≤maxLen) (hbytes:(n + m) * bytes≤140737488355328) (hbase:base≤w.heap.size)
  (h:∀a' c' w',w'.ownsRow base e size (.slice a' (n + m) c') (n + m) (xs++news)→S.M.Ch (fun b=>v.ownBlock=some b) w w'→(∀b,(Value.slice a' (n + m) c').ownBlock=some b→v.ownBlock=some b∨w.heap.size≤b)→K (a.put o.dst (.slice a' (n + m) c')) w'):o.wp P a w K Q:=by
 obtain⟨a',c',w',hr,h2,h3,h4⟩:=qcu (P:=P) (w:=w) t o.type base e i z size bytes ht hi hz hsize hby hzs hsz v n xs hown x0 m c news hl hnews h1 h63 hbytes hbase;unfold Oper.wp execOp;simp only[ho,resolve,invoke,builtin,Sem.run_bind,Sem.run_pure,Result.andThen_ok,List.map_toArray,List.map_cons,List.map_nil,hs,hx,hr];exact h a' c' w' h2 h3 h4
theorem q9a {ops:Array Oper} {rest:List Oper} {o:Oper} {a:Act} {Q:Exit→Act→World→Prop} (hgd:o.guard=none) (s x:Operand) (t:TypeId)
  (ho:o.op=.call { callee:=.builtin .append,args:=#[s,x],argTypes:=#[t,t] })
  (base:Nat) (e:TypeId) (i:TypeInfo) (z:Value) (size bytes:Nat) (ht:P.underlying t=some (.slice e)) (hi:P.info? e=some i) (hz:i.zero=some z)
  (hsize:i.size=size) (hby:i.bytes=bytes) (hzs:z.cells.size=size) (hsz:0 < size)
  (v:Value) (n:Nat) (xs:List Value) (hs:a.eval s=v) (hown:w.ownsRow base e size v n xs)
  (x0:Option Addr) (m c:Nat) (news:List Value) (hx:a.eval x=.slice x0 m c) (hl:news.length=m * size) (hnews:∀j u,news[j]?=some u→∃ad,x0=some ad∧w.cell? (ad.add j)=some u) (h1:∀u ∈ news,u.oneCell'=true)
  (h63:n + m≤maxLen) (hbytes:(n + m) * bytes≤140737488355328) (hbase:base≤w.heap.size)
  (h:∀a' c' w',w'.ownsRow base e size (.slice a' (n + m) c') (n + m) (xs++news)→S.M.Ch (fun b=>v.ownBlock=some b) w w'→(∀b,(Value.slice a' (n + m) c').ownBlock=some b→v.ownBlock=some b∨w.heap.size≤b)→wpList P ops Q rest (a.put o.dst (.slice a' (n + m) c')) w'):wpList P ops Q (o :: rest) a w :=
 wpList_plain hgd fun _ hK=>qeo s x t ho base e i z size bytes ht hi hz hsize hby hzs hsz v n xs hs hown x0 m c news hx hl hnews h1 h63 hbytes hbase fun a' c' w' h2 h3 h4=>hK _ _ (h a' c' w' h2 h3 h4)
end
structure PutP (w W:World)(g o:Nat)(cs:Array Value)(x:ScC)(vp':Value)(ps':List Pp):Prop where
 blk:W.heap[g]?=some (.cells (cs.setIfInBounds o vp') 225 (0,0))
 own:W.ownsRow 0 130 2 vp' ps'.length (jh ps')
 loc:∀b,vp'.ownBlock=some b→x.vp.ownBlock=some b∨w.heap.size≤b
 ch:S.M.Ch (fun b=>x.vp.ownBlock=some b∨b=g) w W
theorem qbm (w:World)(g o:Nat)(cs:Array Value)(x:ScC)(a:Option Addr)(n c:Nat)(l:List Pp)(hg:w.heap[g]?=some (.cells cs 225 (0,0)))(ho:cs[o]?=some x.vp)(hx:w.ownsRow 0 130 2 x.vp x.ps.length (jh x.ps))(hl:l.length=n)(hA:w.ownsRow 0 130 2 (.slice a n c) n (jh l))(hn:x.ps.length + n≤1048576) :
  Calls Tryz.prog 227 #[.pointer (some ⟨g,o,none⟩),.slice a n c] w fun e w'=>e=.returned (.tuple #[])∧∃vp',PutP w w' g o cs x vp' (x.ps++l):=by
 obtain⟨iQ,hiQ,iQz,iQs,iQb⟩:=info_parts qeb;obtain⟨ap,cp,ep,_⟩:=ql hx;have q:w.cell? ⟨g,o,none⟩=some x.vp:=(S.M.qc hg o).trans ho;obtain⟨np,hnp⟩:=eXb x.ps.length;rw[ep,hnp] at q hx;rw[hnp] at hn;have HX:Hid (w.ownsRow 0 130 2 (.slice ap np cp) np (jh x.ps)∧x.ps.length=np∧x.vp=.slice ap np cp):=⟨hx,hnp,by rw[ep,hnp]⟩;have HG:Hid (w.heap[g]?=some (.cells cs 225 (0,0))∧cs[o]?=some (.slice ap np cp)):=⟨hg,by rw[ho,ep,hnp]⟩;have HA:Hid (w.ownsRow 0 130 2 (.slice a n c) n (jh l)∧l.length=n):=⟨hA,hl⟩;clear hg ho hx hl hA ep hnp;go_enter Tryz.func227,Tryz.ntmps227
 go_wp2_with (at_builtin;refine q9a (w:=w) rfl _ _ 45 rfl 0 130 iQ _ 2 16 Tryz.underlying45 hiQ iQz iQs iQb rfl (by decide) _ np (jh x.ps) (by rfl) HX.out.1 a n c (jh l) (by rfl) (by rw[qaz,HA.out.2]) (q29 HA.out.1) (qb3 _) (by unfold maxLen;omega) (by omega) (Nat.zero_le _) ?_;intro a8 c8 w8 ho8 hc8 hloc8;have g8:w8.heap[g]?=some (.cells cs 225 (0,0)):=((hc8.block g (aIx HG.out.1) (own_ne HX.out.1 HG.out.1 (by decide))).trans HG.out.1);have dL:w8.cell? ⟨g,o,none⟩=some (.slice ap np cp):=((S.M.qc g8 o).trans HG.out.2);have fL:w8.frozen? ⟨g,o,none⟩=false:=(by simp[World.frozen?,g8]);have FI:Hid (PutP w (w8.setCell ⟨g,o,none⟩ (.slice a8 (np + n) c8)) g o cs x (.slice a8 (np + n) c8) (x.ps++l)):=(by
  have c9:=S.M.jc w8 g o (.slice a8 (np + n) c8)
  refine⟨S.M.qj g8,?_,fun b e=>by rw[HX.out.2.2];exact hloc8 b e,?_⟩
  ·rw[lAp,HX.out.2.1,HA.out.2,q6p]
   exact S.M.qh ho8 c9 fun b hb e=>own_ne ho8 g8 (by decide) (by rw[hb,e])
  ·rw[HX.out.2.2]
   exact (hc8.mono fun b e=>.inl e).trans (c9.mono fun b e=>.inr e));clear ho8 hc8 hloc8 g8)
 refine bodyPost_end (results_none rfl _ _ _) rfl ?_;exact⟨rfl,_,FI.out⟩
theorem qw.putp {O:Nat→Prop}{w W:World}{P g n c:Nat}{xs:List ScC}{x:ScC}{cs:Array Value}{vp':Value}{ps':List Pp}(hS:qw tq O w P (.slice (some ⟨g,0,none⟩) n c) (xs++[x]))(hg:w.heap[g]?=some (.cells cs 225 (0,0)))(hp:PutP w W g (xs.length * 3 + 2) cs x vp' ps') :
  qw tq (More O w W) W P (.slice (some ⟨g,0,none⟩) n c) (xs++[{ x with vp:=vp',ps:=ps' }])∧S.M.Ch O w W:=by
 have hxm:x ∈ xs++[x]:=by simp
 have hx:=hS.each x hxm;have hrow:=hS.row;have up:∀b,O b→More O w W b:=fun b hb=>.inl hb
 have XO:∀b,(x.vp.ownBlock=some b∨b=g)→O b:=fun b hb=>by
  rcases hb with hb | rfl
  ·exact hx.po b hb
  ·exact hS.ro _ rfl
 have cG:S.M.Ch O w W:=hp.ch.mono XO;have cells:∀{B:Nat} {cs':Array Value} {t:TypeId},w.heap[B]?=some (.cells cs' t (0,0))→t≠130→t≠225→W.heap[B]?=w.heap[B]?:=fun hB h1 h2=>hp.ch.block _ (aIx hB) fun e=>by
  rcases e with e | rfl
  ·exact own_ne hx.p hB (Ne.symm h1) e
  ·rw[hg] at hB;simp only[Option.some.injEq,Obj.cells.injEq] at hB;exact h2 hB.2.1.symm
 have rows:∀{base e sz k:Nat} {v:Value} {zs:List Value},w.ownsRow base e sz v k zs→e≠130→e≠225→∀b,v.ownBlock=some b→¬(x.vp.ownBlock=some b∨b=g):=fun ho h1 h2 b hb e=>by
  rcases e with e | rfl
  ·exact q00 ho hx.p h1 b hb e
  ·exact own_ne ho hg h2 hb
 have maps:∀{b mn:Nat} {f:Int→Option Int},q2l w b mn f→¬(x.vp.ownBlock=some b∨b=g):=fun hm e=>by
  rcases e with e | e
  ·exact q4o hx.p hm e
  ·exact q4d hg hm e.symm
 obtain⟨hap,_,hall⟩:=List.pairwise_append.1 hS.ap;refine⟨⟨(cells hS.box (by decide) (by decide)).trans hS.box,up _ hS.bo,?_,fun b e=>up b (hS.ro b e),fun y hy=>?_,?_,?_⟩,cG⟩
 ·have hlen:n=(xs++[x]).length:=by obtain⟨_,_,e,_⟩:=ql hrow;cases e;rfl
  have h0:=qfn (o:=xs.length * 3 + 2) (v:=vp') (l':=q0a (xs++[{ x with vp:=vp',ps:=ps' }])) (by rw[←hlen] at hrow;exact hrow) hg hp.blk (qid xs x vp' _);rw[hlen] at h0;rw[hlen]
  simpa using h0
 ·rcases mAp.1 hy with hy | hy
  ·have hyo:=hS.each y (List.mem_append_left _ hy);obtain⟨a1,a2,a3⟩:=hall y hy x (by simp);refine (hyo.ch hp.ch (rows hyo.l (by decide) (by decide)) (fun z hz b hb=>rows (hyo.e z hz).1 (by decide) (by decide) b hb) (maps hyo.m) (fun b hb e=>?_)).mono up;rcases e with e | rfl
   ·exact a3 b hb e
   ·exact own_ne hyo.p hg (by decide) hb
  ·rw[mSg.1 hy];obtain⟨es,ck,h3⟩:=hx.m.isM;refine⟨S.M.qh hx.l hp.ch (rows hx.l (by decide) (by decide)),fun b e=>up b (hx.lo b e),fun z hz=>⟨S.M.qh (hx.e z hz).1 hp.ch (rows (hx.e z hz).1 (by decide) (by decide)),fun b e=>up b ((hx.e z hz).2 b e)⟩,hx.m.kept (hp.ch.block _ (aIx h3) (maps hx.m)),up _ hx.mo,hx.mc,hp.own,fun b e=>?_⟩;rcases hp.loc b e with h1 | h1
   ·exact up b (hx.po b h1)
   ·exact .inr ⟨h1,S.M.jr hp.own b e⟩
 ·refine List.pairwise_append.2 ⟨hap,by simp,fun y hy z hz=>?_⟩;rw[mSg.1 hz];obtain⟨a1,a2,a3⟩:=hall y hy x (by simp);refine⟨a1,a2,fun b hb e=>?_⟩;rcases hp.loc b e with h1 | h1
  ·exact a3 b hb h1
  ·have:=S.M.jr (hS.each y (List.mem_append_left _ hy)).p b hb
   omega
 ·intro b hb;rcases hb with hb | hb
  ·exact Nat.lt_of_lt_of_le (hS.lt b hb) cG.size
  ·exact hb.2
def varsOf (l:List Int):List Int:=Lib.compact ((l.filter isV).mergeSort fun x y=>decide (x≤y))
theorem q9b (l:List Int):q2c (isV:=isV) l (varsOf (isV:=isV) l):=by
 obtain⟨h1,h2⟩:=q2y (q5i (l.filter isV));have hperm:=List.mergeSort_perm (l.filter isV) (fun x y=>decide (x≤y));refine⟨h1,fun x=>(h2 x).trans (hperm.mem_iff.trans List.mem_filter),nLt (q2m _) ?_⟩;rw[hperm.length_eq];exact List.length_filter_le _ _
theorem qj5 {l m:List Int}(h:q2c (isV:=isV) l m):m=varsOf (isV:=isV) l:=q7m h.up (q9b l).up fun x=>(h.mem x).trans ((q9b l).mem x).symm
theorem qn8 {l m:List Int}(hl:l.Pairwise (· < ·))(h:q92 l m):m=l:=q7m h.up hl h.mem
def q2p (l:List Sa)(vs:List Int):List Pp:=(q6r (varsOf (isV:=isV) vs)).filter fun p=>!q3w (uo l) p
def q1w (l:List Sa)(vs:List Int):Int:=if (vs.any fun v=>!isV v)=true then 71 else if (varsOf (isV:=isV) vs).length < vs.length then 50 else if 256 < (varsOf (isV:=isV) vs).length * ((varsOf (isV:=isV) vs).length - 1) / 2 then 22 else if 256 < (uo l).length + (q2p (isV:=isV) l vs).length then 22 else 0
def q1l (l:List Sa)(vs:List Int):List Sa:=if q1w (isV:=isV) l vs=0 then q1c (fun a=>⟨a.hs,a.ps++q2p (isV:=isV) l vs⟩) l else l
theorem q88 {l:List Sa}{vs:List Int}{E:Int}(h:q1w (isV:=isV) l vs=E)(hE:E≠0):q1l (isV:=isV) l vs=l:=by unfold q1l;rw[h,if_neg hE]
theorem qkz (m:List Int):(q6r m).length≤m.length * m.length:=by
 have key:∀i,(q0k m i).length≤i * m.length:=fun i=>by
  induction i with
  | zero=>simp[q0k]
  | succ i ih =>
   rw[q6q,lAp,lMa,List.length_drop,Nat.succ_mul];omega
 exact key m.length
theorem qq7 {k:Nat}(h:¬256 < k * (k - 1) / 2):k≤23:=by
 rcases Nat.lt_or_ge 23 k with h1 | h1
 ·have h2:24 * 23≤k * (k - 1):=Nat.mul_le_mul h1 (by omega);omega
 ·exact h1
theorem qj6 (xs:List ScC)(x:ScC)(vp':Value)(f:List Pp):(xs++[{ x with vp:=vp',ps:=x.ps++f }]).map jm=q1c (fun a=>⟨a.hs,a.ps++f⟩) ((xs++[x]).map jm):=by
 rw[List.map_append,List.map_append]
 show _=q1c _ (List.map jm xs++[jm x])
 rw[q52]
 rfl
theorem qq8 (n:Int)(h1:-9223372036854775808≤n)(h2:n≤9223372036854775807):wrap64 n=n:=by have h:=qd7 n h1 h2;rw[IntKind.wrap_i64] at h;unfold wrap64;omega
theorem qn9 (w:World)(O:Nat→Prop)(P:Nat)(vS:Value)(xs:List ScC)(a:Option Addr)(n c:Nat)(vs:List Int)(h:qw tq O w P vS xs)(hV:q1r tq isV w)(h0:0 < xs.length)(hn:xs.length≤1048576)(hq:(q0v xs).length≤1000000)(hl:vs.length=n)(hnv:n≤1048576)(hA:uj w a vs) :
  Calls Tryz.prog 166 #[.pointer (some ⟨P,0,none⟩),.slice a n c] w (Decl (tq:=tq) O w P (q1w (isV:=isV) (xs.map jm) vs) (q1l (isV:=isV) (xs.map jm) vs)):=by
 obtain⟨w1,hw1⟩:=eXa (w.alloc (.cells #[.pointer (some ⟨P,0,none⟩)] 104));obtain⟨PB,hPB⟩:=eXb w.heap.size;have HW1:=hid hw1;have HPB:=hid hPB;have b1:Below w.heap.size w w1:=by rw[hw1];exact qo _ _
 have k1:w1.heap[PB]?=some (.cells #[.pointer (some ⟨P,0,none⟩)] 104 (0,0)):=by rw[hw1,←hPB];exact heap_alloc_new w _
 have c1:w1.cell? ⟨PB,0,none⟩=some (.pointer (some ⟨P,0,none⟩)):=S.M.qc k1 0;have HS:=hid h;have S1:Hid (qw tq O w1 P vS xs):=h.below b1;have HV:Hid (q1r tq isV w1):=hV.up b1;have HK:Hid (∀W,Below w1.heap.size w1 W→W.cell? ⟨PB,0,none⟩=some (.pointer (some ⟨P,0,none⟩))):=fun W hW=>(hW.cell (p:=⟨PB,0,none⟩) (bLt c1)).trans c1
 have CO:Hid _:=qbi w1 (fun x=>!isV x) PB a n c vs hl (by omega) (hA.under b1) fun W hW x _=>qgg W O P PB vS xs x (S1.out.below hW) (HV.out.up hW) (HK.out W hW)
 have B1:Hid (Below w.heap.size w w1∧PB < w1.heap.size):=⟨b1,(aIx k1)⟩;have HA:Hid (uj w1 a vs):=hA.under b1;have HQ:Hid (0 < xs.length∧xs.length≤1048576∧(q0v xs).length≤1000000∧vs.length=n):=⟨h0,hn,hq,hl⟩;clear hV hw1 hPB b1 k1 c1 h h0 hn hq hl hA;go_enter Tryz.func166,Tryz.ntmps166;go_upto_region 1 with fail;rw[←HW1.out,HPB.out];clear HW1;go_wp2_with fail;refine cMo CO.out ?_;rintro e w2 ⟨rfl,hb2⟩;have B2:=hid hb2;have BW2:Hid (Below w.heap.size w w2):=B1.out.1.trans (hb2.mono B1.out.1.size);clear hb2 CO
 cases e1:vs.any fun v=>!isV v with
 | true =>
  have HE:Hid (q1w (isV:=isV) (xs.map jm) vs=71):=by show _=_;unfold q1w;rw[if_pos e1]
  clear e1
  go_wp2
  go_ret
  rw[q88 HE.out (by decide),HE.out];exact Decl.same HS.out BW2.out
 | false =>
  have HE0:=hid e1;have EV:Hid _:=q5j w2 a n c vs HQ.out.2.2.2 (by omega) (HA.out.under B2.out) (HV.out.up B2.out);have x0:=(S1.out.below B2.out).cells.1;have xb:=HK.out w2 B2.out;unfold q0r at x0 EV;clear e1;go_wp2_with fail;refine cMo EV.out ?_;rintro e w3 ⟨hb3,a3,c3,m,rfl,hns3,hc3,hm3⟩;have hmv:=qj5 hm3;obtain⟨k,hk⟩:=eXb m.length;rw[hk];have hkn:k≤n:=by rw[←hk,←HQ.out.2.2.2];exact hm3.le
  have HM:Hid (m=varsOf (isV:=isV) vs∧m.length=k∧m.Pairwise (· < ·)):=⟨hmv,hk,hm3.up⟩;have N3:=hid hns3;have B3:=bTr B2 hb3;have BW3:Hid (Below w.heap.size w w3):=B1.out.1.trans (B3.out.mono B1.out.1.size);clear EV hb3 hns3 hc3 hm3 hmv hk x0 xb B2 BW2
  by_cases h50:k < n
  ·have n1:(k:Int) < (n:Int):=by omega
   have HE:Hid (q1w (isV:=isV) (xs.map jm) vs=50):=by
    show _=_
    unfold q1w;rw[←HM.out.1,HM.out.2.1,HQ.out.2.2.2,if_neg (by rw[HE0.out];decide),if_pos h50]
   go_wp2
   go_ret
   rw[q88 HE.out (by decide),HE.out];exact Decl.same HS.out BW3.out
  ·have n1:¬(k:Int) < (n:Int):=by omega
   have hkk:k≤1048576:=by omega
   have hpp:k * (k - 1)≤1048576 * 1048576:=Nat.mul_le_mul hkk (by omega);have e27:(k:Int) * ((k:Int) - 1)=((k * (k - 1):Nat):Int):=by
    rcases Nat.eq_zero_or_pos k with h | h
    ·subst h;rfl
    ·obtain⟨j,rfl⟩:∃j,k=j + 1:=⟨k - 1,by omega⟩;have e1:((j + 1:Nat):Int) - 1=(j:Int):=by omega
     have e2:(j + 1) * (j + 1 - 1)=(j + 1) * j:=rfl;rw[e1,e2,Int.natCast_mul]
   have e28:wrap64 ((k:Int) * ((k:Int) - 1))=((k * (k - 1):Nat):Int):=by rw[e27];exact qq8 _ (by omega) (by omega)
   have e29:wrap64 ((wrap64 ((k:Int) * ((k:Int) - 1))).tdiv 2)=((k * (k - 1) / 2:Nat):Int):=by
    rw[e28];have:(((k * (k - 1):Nat):Int)).tdiv 2=((k * (k - 1) / 2:Nat):Int):=rfl
    rw[this];exact qq8 _ (by omega) (by omega)
   by_cases h22:256 < k * (k - 1) / 2
   ·have g1:(256:Int) < wrap64 ((wrap64 ((k:Int) * ((k:Int) - 1))).tdiv 2):=by rw[e29];omega
    have HE:Hid (q1w (isV:=isV) (xs.map jm) vs=22):=by
     show _=_
     unfold q1w;rw[←HM.out.1,HM.out.2.1,HQ.out.2.2.2,if_neg (by rw[HE0.out];decide),if_neg h50,if_pos h22]
    clear e27 e28 e29 hpp
    go_wp2
    go_ret
    rw[q88 HE.out (by decide),HE.out];exact Decl.same HS.out BW3.out
   ·have g1:¬(256:Int) < wrap64 ((wrap64 ((k:Int) * ((k:Int) - 1))).tdiv 2):=by rw[e29];omega
    have hk23:=qq7 h22;have AL:Hid _:=all_any w3 a3 c3 m k HM.out.2.1 (by omega) N3.out;clear e27 e28 e29 hpp;go_wp2_with fail;refine cMo AL.out ?_;rintro e w4 ⟨hb4,hcase⟩;have hnd:m.Nodup:=HM.out.2.2.imp fun h=>Int.ne_of_lt h
    rcases hcase with ⟨hbig,_⟩ | ⟨_,hno,_⟩ | ⟨_,_,v4,m4,ho4,rfl,hown4⟩
    ·rw[HM.out.2.1] at hbig;omega
    ·exact absurd hnd hno
    have hm4:=qn8 HM.out.2.2 ho4;subst hm4;have hal:(q6r m4).length≤1048576:=by have h1:=qkz m4;rw[HM.out.2.1] at h1;have h2:k * k≤23 * 23:=Nat.mul_le_mul hk23 hk23;omega
    obtain⟨a4,c4,e4,_⟩:=ql hown4;obtain⟨n4,hn4⟩:=eXb ((q6r m4).length);rw[e4,hn4] at hown4 ⊢;have BW4:=bTr BW3 hb4;have B4:=bTr B3 hb4;have hO3:∀g,O g→g < w3.heap.size:=fun g hg=>Nat.lt_of_lt_of_le (HS.out.lt g hg) BW3.out.size
    have S4:Hid (qw tq O w4 P vS xs):=HS.out.below BW4.out;have DE:Hid _:=qn7 w4 (fun p=>q3w (q0v xs) p) P w3.heap.size a4 n4 c4 (q6r m4) hn4 (by omega) hb4.size hown4 fun W hW x _=>qgf W O P vS xs x (S4.out.under hW hO3) HQ.out.2.1 (by have:=HQ.out.2.2.1;omega)
    have HO:=hid hO3;have BS:Hid (w3.heap.size≤w4.heap.size):=hb4.size;have xb:=HK.out w4 B4.out;obtain⟨FR,hFR⟩:=eXb (((q6r m4).filter fun p=>!q3w (q0v xs) p));rw[hFR] at DE;have HFR:Hid (q2p (isV:=isV) (xs.map jm) vs=FR):=by
     show _=_
     unfold q2p;rw[←HM.out.1,←qef];exact hFR
    clear hFR hb4 hnd ho4 hown4 e4 hO3 AL N3 hal;go_wp2_with fail;refine cMo DE.out ?_;rintro e w5 ⟨hb5,a5,n5,c5,rfl,hn5,ho5⟩;have S5:Hid (qw tq O w5 P vS xs):=S4.out.under hb5 HO.out;have AP:Hid _:=q48 w5 O P vS xs S5.out HQ.out.2.1 (by have:=HQ.out.2.2.1;omega);have BW5:Hid (Below w.heap.size w w5):=BW4.out.trans (hb5.mono BW3.out.size);have xb5:w5.cell? ⟨PB,0,none⟩=some (.pointer (some ⟨P,0,none⟩)):=(hb5.cell (p:=⟨PB,0,none⟩) (by show PB < w3.heap.size;exact Nat.lt_of_lt_of_le B1.out.2 B3.out.size)).trans xb;have F5:Hid (FR.length=n5∧w5.ownsRow 0 130 2 (.slice a5 n5 c5) n5 (jh FR)):=⟨hn5,S.M.qp ho5 (Nat.zero_le _)⟩;obtain⟨na,hna⟩:=eXb ((q0v xs).length);rw[hna] at AP;have HNA:=hid hna;have hnal:na≤1000000:=by rw[←hna];exact HQ.out.2.2.1
    have hn5l:n5≤529:=by
     have h1:=qkz m4;rw[HM.out.2.1] at h1;have h2:k * k≤23 * 23:=Nat.mul_le_mul hk23 hk23;have h3:FR.length≤(q6r m4).length:=by
      have h4:=HFR.out;unfold q2p at h4;rw[←HM.out.1] at h4;rw[←h4];exact List.length_filter_le _ _
     omega
    clear hb5 ho5 hn5 DE S4 xb hna;go_wp2_with fail;refine cMo AP.out ?_;rintro e w6 ⟨hb6,v6,rfl,ho6⟩;obtain⟨a6,c6,rfl,_⟩:=ql ho6;have BW6:=bTr BW5 hb6;have S6:Hid (qw tq O w6 P vS xs):=S5.out.below hb6;have xb6:w6.cell? ⟨PB,0,none⟩=some (.pointer (some ⟨P,0,none⟩)):=(hb6.cell (p:=⟨PB,0,none⟩) (bLt xb5)).trans xb5;have F6:Hid (FR.length=n5∧w6.ownsRow 0 130 2 (.slice a5 n5 c5) n5 (jh FR)):=⟨F5.out.1,S.M.qh F5.out.2 (S.M.Ch.oB (X:=fun _=>False) hb6) fun _ _ e=>e⟩;clear hb6 ho6 AP xb5 S5 F5;have HD:Hid (q1w (isV:=isV) (xs.map jm) vs=if 256 < na + n5 then 22 else 0):=by
     show _=_
     unfold q1w;rw[HFR.out,←HM.out.1,HM.out.2.1,HQ.out.2.2.2,if_neg (by rw[HE0.out];decide),if_neg h50,if_neg h22,←qef,HNA.out,F6.out.1]
    by_cases hmany:256 < na + n5
    ·have g2:(256:Int) < (na:Int) + (n5:Int):=by omega
     have HE:Hid (q1w (isV:=isV) (xs.map jm) vs=22):=by show _=_;rw[HD.out,if_pos hmany]
     clear HD
     go_wp2
     go_ret
     rw[q88 HE.out (by decide),HE.out];exact Decl.same HS.out BW6.out
    ·have g2:¬(256:Int) < (na:Int) + (n5:Int):=by omega
     have HE:Hid (q1w (isV:=isV) (xs.map jm) vs=0):=by show _=_;rw[HD.out,if_neg hmany]
     obtain⟨ys,x,hxs⟩:∃ys x,xs=ys++[x]:=by
      rcases List.eq_nil_or_concat xs with h | ⟨ys,x,h⟩
      ·have:=HQ.out.1;rw[h] at this;simp at this
      ·exact⟨ys,x,by rw[h,List.concat_eq_append]⟩
     obtain⟨g,cS,cs,eS,hgb,hcs⟩:=S6.out.shape HQ.out.1;obtain⟨nx,hnx⟩:=eXb xs.length;have hys:nx - 1=ys.length:=by rw[←hnx,hxs,lAp];rfl
     rw[hnx] at eS;have IN:Hid _:=q91 w6 O P g nx cS xs hnx (by rw[←hnx];exact HQ.out.1) (by rw[←hnx];exact HQ.out.2.1) (by have h:=S6.out;rw[eS] at h;exact h)
     have HX:Hid (xs=ys++[x]∧vS=.slice (some ⟨g,0,none⟩) nx cS∧w6.heap[g]?=some (.cells cs 225 (0,0))∧cs[ys.length * 3 + 2]?=some x.vp):=⟨hxs,eS,hgb,by
      have h1:=hcs ys.length 2 x (by rw[hxs,List.getElem?_append_right (Nat.le_refl _)];simp) (by decide)
      exact h1⟩
     rw[hys] at IN;clear HD hxs eS hgb hcs hnx hys;go_wp2_with fail;refine cMo IN.out ?_;rintro e w7 ⟨rfl,q,hw7⟩;have b7:Below w6.heap.size w6 w7:=by rw[hw7];exact xu bRf q
     have S7:Hid (qw tq O w7 P (.slice (some ⟨g,0,none⟩) nx cS) (ys++[x])):=by
      have h:=S6.out.below b7;rw[HX.out.2.1,HX.out.1] at h;exact h
     have G7:Hid (w7.heap[g]?=some (.cells cs 225 (0,0))):=(b7.block g (aIx HX.out.2.2.1)).trans HX.out.2.2.1
     have PA:Hid _:=qbm w7 g (ys.length * 3 + 2) cs x a5 n5 c5 FR G7.out HX.out.2.2.2 (S7.out.each x (by simp)).p F6.out.1 (S.M.qh F6.out.2 (S.M.Ch.oB (X:=fun _=>False) b7) fun _ _ e=>e) (by
      have h1:=HNA.out
      rw[HX.out.1] at h1
      unfold q0v at h1
      rw[List.flatMap_append,lAp] at h1
      simp at h1
      omega)
     have BW7:=bTr BW6 b7;clear hw7 b7 IN F6 S6 xb6;go_wp2_with fail;refine cMo PA.out ?_;rintro e w8 ⟨rfl,vp',hput⟩;have FI:Hid (Decl (tq:=tq) O w P 0 (q1l (isV:=isV) (xs.map jm) vs) (.returned (.int .i64 0)) w8):=by
      obtain⟨h1,h2⟩:=S7.out.putp G7.out hput;refine⟨rfl,_,_,h1.up (fun b hb=>?_) (fun b hb=>?_),?_,(S.M.Ch.oB BW7.out).trans h2⟩
      ·rcases hb with hb | hb
       ·exact .inl hb
       ·exact .inr ⟨nLt BW7.out.size hb.1,hb.2⟩
      ·rcases hb with hb | hb
       ·exact Nat.lt_of_lt_of_le (HS.out.lt b hb) (nLt BW7.out.size h2.size)
       ·exact hb.2
      ·unfold q1l;rw[HE.out,if_pos rfl,HFR.out,qj6,HX.out.1]
     clear hput PA
     go_wp2
     go_ret
     rw[HE.out];exact FI.out
section
variable {P:Program} {w:World}
theorem q9c {ops:Array Oper} {o:Oper} {a:Act} {K:Act→World→Prop} {Q:Exit→Act→World→Prop} {E:Prop} (hgd:o.guard=none) (s x:Operand) (t:TypeId)
  (ho:o.op=.call { callee:=.builtin .append,args:=#[s,x],argTypes:=#[t,t] }) (e:TypeId) (i:TypeInfo) (ht:P.underlying t=some (.slice e)) (hi:P.info? e=some i)
  (a':Option Addr) (n c':Nat) (hs:a.eval s=.slice a' n c') (hc:n≤c') (x0:Option Addr) (c:Nat) (hx:a.eval x=.slice x0 0 c) (h:K (a.put o.dst (.slice a' n c')) w) :
  if Region.wanted o (yielded ops a.tmps)=true then Oper.wp P o a w K Q else E:=by
 have hw:Region.wanted o (yielded ops a.tmps)=true:=by simp[Region.wanted,hgd]
 rw[if_pos hw];have src:Src P i.size t (.slice x0 0 c) 0 [] w:=by
  cases x0 with
  | none=>exact Src.ofNil w ht c
  | some ad=>exact Src.ofSlice w ht ad 0 c [] (by simp) (fun j u hu=>by simp at hu) (fun u hu=>by simp at hu)
 have hr:=run_append_nothing w t t o.type e i ht hi a' n c' hc _ src;unfold Oper.wp execOp;simp only[ho,resolve,invoke,builtin,Sem.run_bind,Sem.run_pure,Result.andThen_ok,List.map_toArray,List.map_cons,List.map_nil,hs,hx,hr];exact h
end
theorem qj7 (l:List ScC)(k:Nat):(q0a l).take (k * 3)=q0a (l.take k):=by
 induction l generalizing k with
 | nil=>simp[q0a]
 | cons y r ih =>
  cases k with
  | zero=>simp[q0a]
  | succ k =>
   show (scC y++q0a r).take ((k + 1) * 3)=scC y++q0a (r.take k)
   rw[←ih k];have e1:(k + 1) * 3=(k * 3) + 1 + 1 + 1:=by omega
   rw[e1]
   rfl
theorem qna (w:World)(g m c:Nat)(xs:List ScC)(hm:m≤1048576)(hrow:w.ownsRow 0 225 3 (.slice (some ⟨g,0,none⟩) (m + 1) c) (m + 1) (q0a xs)) :
  Calls Tryz.prog 155 #[.slice (some ⟨g,0,none⟩) (m + 1) c,.int .i64 (m:Int),.int .i64 ((m:Int) + 1)] w fun e w'=>e=.returned (.slice (some ⟨g,0,none⟩) m c)∧S.M.Ch (fun b=>b=g) w w'∧w'.ownsRow 0 225 3 (.slice (some ⟨g,0,none⟩) m c) m (q0a (xs.take m)):=by
 obtain⟨iS,hiS,iSz,iSs,iSb⟩:=info_parts qpj;obtain⟨_,_,e,hmc⟩:=ql hrow
 cases e;have HR:=hid hrow;have HD:Hid (w.drew.ownsRow 0 225 3 (.slice (some ⟨g,0,none⟩) (m + 1) c) (m + 1) (q0a xs)):=hrow;clear hrow;have n1:((m:Int) == (m:Int) + 1)=false:=by rw[beq_eq_false_iff_ne];omega
 go_enter Tryz.func155,Tryz.ntmps155;go_upto_region 5 with fail;have hz:∀q,q < 1 * 3→(w.drew.cell? ⟨g,m * 3 + q,none⟩).isSome=true∧w.drew.frozen? ⟨g,m * 3 + q,none⟩=false:=fun q hq=>by
  obtain⟨ad,e,h1⟩:=q29 HD.out (m * 3 + q) _ (gEq (by rw[HD.out.1];omega))
  cases e;rw[Addr.add_lit,Nat.zero_add] at h1;exact⟨by rw[h1];rfl,q62 HD.out _⟩
 have hclr:=q6t (P:=Tryz.prog) w.drew 169 225 0 (.agg #[.slice none 0 0,.map none,.slice none 0 0]) Tryz.underlying169 (fun w=>by kernel_rfl) (by decide) (by decide) g (m * 3) 1 (c - m) (by omega) (fun q hq=>(hz q hq).1) (fun q hq=>(hz q hq).2);obtain⟨Z,hZ⟩:=eXb ((Builtin.zeroCells (Value.agg #[.slice none 0 0,.map none,.slice none 0 0]).cells 1).toList);rw[hZ] at hclr;have FI:Hid (S.M.Ch (fun b=>b=g) w (w.drew.setCells g (m * 3) Z)∧(w.drew.setCells g (m * 3) Z).ownsRow 0 225 3 (.slice (some ⟨g,0,none⟩) m c) m (q0a (xs.take m))):=by
  refine⟨(S.M.Ch.oB (xu (Below.refl _ w) 1)).trans (q77 g Z _ w.drew),?_⟩;have h1:=qbl (k:=m) HD.out (by omega);rw[qj7] at h1;exact qbk Z _ w.drew h1 (Nat.le_refl _)
 clear hz hZ;have s1:m≤c:=by omega
 have s2:(0:Int)≤(m:Int) + 1:=by omega
 have s3:¬c=m:=by omega
 refine wp_region_held_drew (S:=fun _=>True) (by kernel_rfl) ?_ (fun hHeld=>?_)
 ·trivial
 refine tkq 0 hHeld ?_;refine tkq 1 hHeld ?_;refine tkq 2 hHeld ?_;refine tkq 3 hHeld ?_;refine tkq 4 hHeld ?_;refine tkq 5 hHeld ?_;refine rkq 6 fun K hK=>?_
 generalize (if c=m + 1 then some (⟨g,0,none⟩:Addr) else some ⟨g,(m + 1) * 3,none⟩)=x25 at *;refine q9c rfl _ _ 169 rfl 225 iS Tryz.underlying169 hiS (some ⟨g,0,none⟩) m c (by rfl) (by omega) _ _ (by rfl) ?_;refine aQq hK ?_ fun hHeld_6=>?_
 ·trivial
 clear hK K;refine tk 7 ⟨some 0,.assign (.tmp 26),169,"slices.go:232",#[⟨6,.data⟩,⟨6,.chain⟩,⟨0,.phase⟩,⟨1,.phase⟩,⟨2,.phase⟩,⟨3,.phase⟩,⟨4,.phase⟩,⟨5,.phase⟩,⟨6,.phase⟩],none⟩ ?_ hHeld_6 ?_ ?_;rotate_left
 ·(intro w hSw;(try dsimp only at hSw);go_simp;try with_reducible rfl)
 try simp only[Act.put,List.setIfInBounds_toArray,List.set_cons_zero]
 refine wpAnyH_done (by kernel_rfl) ?_ _
 go_wp2
 go_ret
 exact⟨rfl,FI.out⟩
def q0u (l:List Sa):Int:=if l.length≤1 then 23 else 0
def uy (l:List Sa):List Sa:=if l.length≤1 then l else l.take (l.length - 1)
theorem qj8 (w:World)(O:Nat→Prop)(P:Nat)(vS:Value)(xs:List ScC)(h:qw tq O w P vS xs)(h0:0 < xs.length)(hn:xs.length≤1048576) :
  Calls Tryz.prog 107 #[.pointer (some ⟨P,0,none⟩)] w (Decl (tq:=tq) O w P (q0u (xs.map jm)) (uy (xs.map jm))):=by
 have HS:=hid h;have DP:Hid _:=q4i w O P vS xs h hn;obtain⟨g,c,cs,eS,hgb,_⟩:=h.shape h0;obtain⟨m,hl⟩:∃m,xs.length=m + 1:=⟨xs.length - 1,by omega⟩;rw[hl] at DP hn eS;rw[show (((m + 1:Nat):Int) - 1)=(m:Int) by omega] at DP;have HL:Hid (xs.length=m + 1∧vS=.slice (some ⟨g,0,none⟩) (m + 1) c):=⟨hl,eS⟩;have x1:=h.cells.2;rw[eS] at x1;have hrow:=h.row;rw[hl,eS] at hrow;have DE:Hid _:=qna w g m c xs (by omega) hrow;clear h hl eS h0 hgb hrow
 by_cases hm:m=0
 ·have z:((m:Int) == 0)=true:=by rw[hm];rfl
  have HE:Hid (q0u (xs.map jm)=23∧uy (xs.map jm)=xs.map jm):=by
   have h1:(xs.map jm).length≤1:=by rw[lMa,HL.out.1];omega
   exact⟨by unfold q0u;rw[if_pos h1],by unfold uy;rw[if_pos h1]⟩
  go_enter Tryz.func107,Tryz.ntmps107;go_wp2_with fail;refine cMo DP.out ?_;rintro e wz ⟨rfl,hwz⟩;subst wz
  go_wp2
  go_ret
  rw[HE.out.1,HE.out.2];exact Decl.same HS.out bRf
 ·have z:((m:Int) == 0)=false:=by rw[beq_eq_false_iff_ne];omega
  have HE:Hid (q0u (xs.map jm)=0∧uy (xs.map jm)=(xs.take m).map jm):=by
   have h1:¬(xs.map jm).length≤1:=by rw[lMa,HL.out.1];omega
   refine⟨by unfold q0u;rw[if_neg h1],?_⟩;unfold uy;rw[if_neg h1,lMa,HL.out.1,Nat.add_sub_cancel,List.map_take]
  go_enter Tryz.func107,Tryz.ntmps107;go_wp2_with fail;refine cMo DP.out ?_;rintro e wz ⟨rfl,hwz⟩;subst wz;go_wp2_with fail;refine cMo DE.out ?_;rintro e w2 ⟨rfl,hc2,ho2⟩;have hS:=HS.out;rw[HL.out.2] at hS;have hlen:(xs.take m).length=m:=by rw[List.length_take,HL.out.1];omega
  obtain⟨k1,k2⟩:=hS.qab (w:=w) (ys:=xs.take m) (Nat.le_refl _) (hc2.mono fun b e=>by rw[e];rfl) (by rw[hlen];exact ho2) (fun b e=>.inl (by cases e;rfl)) (fun y hy=>.inl (List.mem_of_mem_take hy)) (hS.ap.sublist (List.take_sublist _ _));have hneP:P≠g:=fun e=>own_ne hS.row hS.box (by decide) (by rw[e];rfl)
  have b2:w2.heap[P]?=some (.cells #[(q0r tq),.slice (some ⟨g,0,none⟩) (m + 1) c] 171 (0,0)):=(hc2.block P (hS.lt P hS.bo) hneP).trans hS.box;have dL:w2.cell? ⟨P,1,none⟩=some (.slice (some ⟨g,0,none⟩) (m + 1) c):=S.M.qc b2 1;have fL:w2.frozen? ⟨P,1,none⟩=false:=by simp[World.frozen?,b2]
  have FI:Hid (Decl (tq:=tq) O w P 0 ((xs.take m).map jm) (.returned (.int .i64 0)) (w2.setCell ⟨P,1,none⟩ (.slice (some ⟨g,0,none⟩) m c))):=⟨rfl,_,_,k1,rfl,k2⟩;clear hc2 ho2 hS k1 k2 b2 hlen DE DP
  go_wp2
  go_ret
  rw[HE.out.1,HE.out.2];exact FI.out
end F
end Go.Proofs.YtbancemhfjjmlaaGreatDoor
