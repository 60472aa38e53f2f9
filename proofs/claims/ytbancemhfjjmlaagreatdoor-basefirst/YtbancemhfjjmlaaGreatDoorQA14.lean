/- Laid together: FFrM, FFrN, FFrQ, FFrD. -/
import Derived.Test.YtbancemhfjjmlaaGreatDoorTk
import Derived.Test.YtbancemhfjjmlaaGreatDoorQA13
import Derived.Test.YtbancemhfjjmlaaGreatDoorQA12
set_option maxRecDepth 100000
set_option maxHeartbeats 32000000
namespace Go.Proofs.YtbancemhfjjmlaaGreatDoor
namespace F
open S (qm jg)
open Go.Maps Go.RowKit Go.WideMaps
variable {tq:Nat} {isV:Int→Bool}
def q0c (l:List HyC):List Int:=l.flatMap fun y=>if y.h.fl=true then [] else y.h.ex
theorem qkm {l:List HyC}{j:Nat}{y:HyC}(h:l[j]?=some y):q0c (l.take (j + 1))=q0c (l.take j)++if y.h.fl=true then [] else y.h.ex:=by unfold q0c;rw[List.take_add_one,h,List.flatMap_append];simp
theorem q5x (l m:List HyC):q0c (l++m)=q0c l++q0c m:=by unfold q0c;rw[List.flatMap_append]
theorem essS_le (l:List HyC)(j:Nat):(q0c (l.take j)).length≤(q0c l).length:=by
 conv=>rhs;rw[←List.take_append_drop j l,q5x,List.length_append]
 omega
theorem q2d (l m:List Int):zy (l++m)=zy l++zy m:=by unfold zy;rw[List.map_append]
theorem qna (l:List Int):∀u ∈ zy l,u.oneCell'=true:=fun u hu=>by
 unfold zy at hu
 obtain⟨x,_,rfl⟩:=List.mem_map.1 hu
 rfl
theorem qkn (w:World)(O:Nat→Prop)(T N:Nat)(x:ScC)(v:Value)(l:List Int)(hx:q5r O w x)(hc:w.cell? ⟨T,0,none⟩=some x.vl)(hN:N≤w.heap.size)(hO:∀g,O g→g < N)(ht:w.ownsRow N 3 1 v l.length (zy l))(hn:x.hs.length≤1048576)(hlen:l.length + (q0c x.hs).length≤17592186043904) :
  Calls Tryz.prog 260 #[.pointer (some ⟨T,0,none⟩),v] w fun e w'=>Below N w w'∧∃v',e=.returned v'∧w'.ownsRow N 3 1 v' (l++q0c x.hs).length (zy (l++q0c x.hs)):=by
 obtain⟨iN,hiN,iNz,iNs,iNb⟩:=info_parts q83
 have hl:=hx.l
 obtain⟨al,cl,el,_⟩:=qm hl
 rw[el] at hc hl
 obtain⟨nh,hnh⟩:∃nh,x.hs.length=nh:=⟨_,rfl⟩
 rw[hnh] at hc hl hn
 have HL:Hid (w.ownsRow 0 57 4 (.slice al nh cl) nh (yx x.hs)∧∀g,(Value.slice al nh cl).ownBlock=some g→g < N):=⟨hl,fun g e=>hO g (hx.lo g (by rw[el,hnh];exact e))⟩
 have HE:Hid (∀y ∈ x.hs,w.ownsRow 0 3 1 y.ve y.h.ex.length (zy y.h.ex)∧∀g,y.ve.ownBlock=some g→g < N):=fun y hy=>⟨(hx.e y hy).1,fun g e=>hO g ((hx.e y hy).2 g e)⟩
 have HH:Hid (x.hs.length=nh):=hnh
 have HT:Hid (w.ownsRow N 3 1 v l.length (zy l)):=ht
 have HN:Hid (N≤w.heap.size):=hN
 have HM:Hid (l.length + (q0c x.hs).length≤17592186043904):=hlen
 clear hl hnh ht hN hx hO hlen el
 go_enter Tryz.func260,Tryz.ntmps260
 go_wp2_with fail
 go_loopw [1,12] (fun v1 v12 wx=>∃(j k:Nat),j≤nh∧v12=.int .i64 j∧k≤17592186043904∧Hid ((l++q0c (x.hs.take j)).length=k)∧Hid (wx.ownsRow N 3 1 v1 k (zy (l++q0c (x.hs.take j))))∧Hid (Below N w wx)) (fun _ v12 _=>nh - (intOf v12).toNat)
 case atStart=>exact⟨0,l.length,Nat.zero_le _,rfl,by have:=HM.out;omega,(by show _=_;have e0:q0c (x.hs.take 0)=[]:=rfl;rw[e0,List.append_nil]),(by simp only[List.take_zero];have:q0c []=[]:=rfl;rw[this,List.append_nil];exact HT.out),Below.refl _ _⟩
 case round =>
  obtain⟨j,k,hj,rfl,hk,hK,hU,hB⟩:=hrel
  by_cases hlt:j < nh
  ·have n1:(j:Int) < (nh:Int):=by omega
   obtain⟨y,hy⟩:∃y,x.hs[j]?=some y:=⟨_,List.getElem?_eq_getElem (by rw[HH.out];exact hlt)⟩
   have hrow:wr.ownsRow 0 57 4 (.slice al nh cl) nh (yx x.hs):=S.M.qh HL.out.1 (q4a hB.out) fun g e h=>by have:=HL.out.2 g e;omega
   obtain⟨g,c',e,_,_,_⟩:=S.M.q0f hrow (by omega)
   cases e
   obtain⟨y0,y1,y2,y3⟩:=qd1 hrow j y hy
   obtain⟨he1,he3⟩:=HE.out y (List.mem_of_getElem? hy)
   have her:wr.ownsRow 0 3 1 y.ve y.h.ex.length (zy y.h.ex):=S.M.qh he1 (q4a hB.out) fun g e h=>by have:=he3 g e;omega
   obtain⟨ae,ce,ee,_⟩:=qm her
   obtain⟨ne,hne⟩:∃ne,y.h.ex.length=ne:=⟨_,rfl⟩
   rw[ee,hne] at y3 her
   have WT:=qkm hy
   have hle:=essS_le x.hs (j + 1)
   obtain⟨⟨lab,fl,var,ex⟩,ve⟩:=y
   dsimp only at *
   obtain⟨wa,hwa⟩:∃wa,wa=wr.alloc (.cells #[.string lab,.bool fl,.int .i64 var,.slice ae ne ce] 57):=⟨_,rfl⟩
   have HWA:Hid (wa=wr.alloc (.cells #[.string lab,.bool fl,.int .i64 var,.slice ae ne ce] 57)):=hwa
   have ba:Below wr.heap.size wr wa:=by rw[hwa];exact qo _ _
   have hNr:N≤wr.heap.size:=Nat.le_trans HN.out hB.out.size
   obtain⟨Bx,hBx⟩:∃Bx,wr.heap.size=Bx:=⟨_,rfl⟩
   have ka:wa.heap[Bx]?=some (.cells #[.string lab,.bool fl,.int .i64 var,.slice ae ne ce] 57 (0,0)):=by rw[hwa,←hBx];exact heap_alloc_new wr _
   have z1:wa.cell? ⟨Bx,1,none⟩=some (.bool fl):=S.M.qc ka 1
   have z3:wa.cell? ⟨Bx,3,none⟩=some (.slice ae ne ce):=S.M.qc ka 3
   have BA:Hid (Below N w wa∧N≤wa.heap.size):=⟨hB.out.trans (ba.mono hNr),Nat.le_trans hNr ba.size⟩
   have UA:Hid (wa.ownsRow N 3 1 u1 k (zy (l++q0c (x.hs.take j)))):=S.M.qh hU.out (S.M.Ch.of_below (X:=fun _=>False) ba) fun _ _ e=>e
   have EA:Hid (wa.ownsRow 0 3 1 (.slice ae ne ce) ne (zy ex)∧(zy ex).length=ne * 1):=⟨S.M.qh her (S.M.Ch.of_below (X:=fun _=>False) ba) (fun _ _ e=>e),by unfold zy;rw[List.length_map,hne];omega⟩
   have HB:Hid (wr.heap.size=Bx):=hBx
   have LK:=HM.out
   have KK:=hK.out
   rw[List.length_append] at KK
   clear hrow her ee hwa ba hNr ka he1 he3 hy hBx
   cases fl with
   | true =>
    have E2:Hid (q0c (x.hs.take (j + 1))=q0c (x.hs.take j)):=by show _=_;rw[WT];simp
    have U2:Hid (wa.ownsRow N 3 1 u1 k (zy (l++q0c (x.hs.take (j + 1))))∧(l++q0c (x.hs.take (j + 1))).length=k):=by rw[E2.out];exact⟨UA.out,hK.out⟩
    clear WT E2 UA hK KK LK hle EA hne
    go_upto_region 4 with fail
    rw[←HWA.out,HB.out]
    clear HWA y0 y1 y2 y3
    go_wp2
    exact⟨⟨j + 1,k,by omega,by go_num,by omega,U2.out.2,U2.out.1,BA.out.1⟩,by simp[intOf];omega⟩
   | false =>
    have E2:Hid (q0c (x.hs.take (j + 1))=q0c (x.hs.take j)++ex):=by show _=_;rw[WT];simp
    have hkn:k + ne≤17592186043904:=by
     rw[E2.out,List.length_append] at hle
     omega
    have K2:Hid ((l++q0c (x.hs.take (j + 1))).length=k + ne):=by show _=_;rw[E2.out,←List.append_assoc,List.length_append,hK.out,hne]
    have HF:Hid (zy (l++q0c (x.hs.take (j + 1)))=zy (l++q0c (x.hs.take j))++zy ex):=by show _=_;rw[E2.out,←List.append_assoc,q2d]
    clear WT E2 hK KK LK hle hne
    go_upto_region 4 with fail
    rw[←HWA.out,HB.out]
    clear HWA y0 y1 y2 y3
    go_wp2_with (at_builtin;refine jg (w:=wa) rfl _ _ 38 rfl N 3 iN _ 1 8 Tryz.underlying38 hiN iNz iNs iNb rfl (by decide) _ k (zy (l++q0c (x.hs.take j))) (by rfl) UA.out ae ne ce (zy ex) (by rfl) EA.out.2 (q1u EA.out.1) (qna _) (by unfold maxLen;omega) (by omega) BA.out.2 ?_;intro a8 c8 w8 ho8 hb8;have O8:Hid (w8.ownsRow N 3 1 (.slice a8 (k + ne) c8) (k + ne) (zy (l++q0c (x.hs.take (j + 1))))):=(by show World.ownsRow _ _ _ _ _ _ _;rw[HF.out];exact ho8);have B8:Hid (Below N w w8):=BA.out.1.trans hb8;clear ho8 hb8)
    exact⟨⟨j + 1,k + ne,by omega,by go_num,by omega,K2.out,O8.out,B8.out⟩,by simp[intOf];omega⟩
  ·have n1:¬(j:Int) < (nh:Int):=by omega
   have hall:x.hs.take j=x.hs:=List.take_of_length_le (by rw[HH.out];omega)
   have U2:Hid (wr.ownsRow N 3 1 u1 (l++q0c x.hs).length (zy (l++q0c x.hs))):=by
    have h:=hU.out
    have h2:=hK.out
    rw[hall] at h h2
    rw[h2]
    exact h
   clear hall hU hK
   go_wp2
   go_ret
   exact⟨hB.out,_,rfl,by have h:=U2.out;rw[List.length_append] at h;exact h⟩
theorem qeq {xs:List ScC}{j:Nat}{x:ScC}(h:xs[j]?=some x):q0c (jq (xs.take (j + 1)))=q0c (jq (xs.take j))++q0c x.hs:=by rw[q42 h,q5x]
theorem ess_le (xs:List ScC)(j:Nat):(q0c (jq (xs.take j))).length≤(q0c (jq xs)).length:=by
 conv=>rhs;rw[←List.take_append_drop j xs];unfold jq;rw[List.flatMap_append,q5x,List.length_append]
 unfold jq
 omega
theorem qb8 (w:World)(O:Nat→Prop)(P:Nat)(vS:Value)(xs:List ScC)(a0:Option Addr)(n0 c0:Nat)(goal:List Int)(h:qw tq O w P vS xs)(hV:q2w tq isV w)(hn:xs.length≤1048576)(hp:(jq xs).length≤1048576)(hg:goal.length=n0)(hA:q1a w a0 goal)(hlen:goal.length + (q0c (jq xs)).length≤17592186043904) :
  Calls Tryz.prog 233 #[.pointer (some ⟨P,0,none⟩),.slice a0 n0 c0] w fun e w'=>Below w.heap.size w w'∧∃a2 c2 m,e=.returned (.slice a2 m.length c2)∧q1a w' a2 m∧m.length≤c2∧q39 (isV:=isV) (goal++q0c (jq xs)) m:=by
 have CL:Hid _:=clone_any w a0 n0 c0 goal hg (by omega) hA
 obtain⟨a,c,rfl,_⟩:=qm h.row
 obtain⟨n,hl⟩:∃n,xs.length=n:=⟨_,rfl⟩
 rw[hl] at hn
 have HL:Hid (xs.length=n):=hl
 have HS:Hid (qw tq O w P (.slice a n c) xs):=by have h':=h;rw[hl] at h';exact h'
 have HP:Hid ((jq xs).length≤1048576∧goal.length + (q0c (jq xs)).length≤17592186043904∧goal.length=n0):=⟨hp,hlen,hg⟩
 obtain⟨N,hN⟩:∃N,w.heap.size=N:=⟨_,rfl⟩
 have HN:Hid (w.heap.size=N):=hN
 rw[hN] at CL ⊢
 have HV:Hid (q2w tq isV w):=hV
 clear h hl hp hlen hN hg hA hV
 go_enter Tryz.func233,Tryz.ntmps233
 go_wp2_with fail
 refine Calls.mono CL.out ?_
 rintro e w1 ⟨v1,rfl,hv1,hb1⟩
 have V1:Hid (w1.ownsRow N 3 1 v1 n0 (zy goal)):=hv1
 have B1:Hid (Below N w w1):=hb1
 have S1:Hid (qw tq O w1 P (.slice a n c) xs):=HS.out.below (by rw[HN.out];exact hb1)
 have x1:=S1.out.cells.2
 clear hv1 hb1 CL
 go_wp2_with fail
 go_loopw [5,15] (fun v5 v15 wx=>∃(j k:Nat),j≤n∧v15=.int .i64 j∧Hid ((goal++q0c (jq (xs.take j))).length=k)∧Hid (wx.ownsRow N 3 1 v5 k (zy (goal++q0c (jq (xs.take j)))))∧Hid (Below N w wx)) (fun _ v15 _=>n - (intOf v15).toNat)
 case atStart =>
  have e0:q0c (jq (xs.take 0))=[]:=rfl
  refine⟨0,n0,Nat.zero_le _,rfl,?_,?_,B1.out⟩
  ·show _=_;rw[e0,List.append_nil];exact HP.out.2.2
  ·show World.ownsRow _ _ _ _ _ _ _;rw[e0,List.append_nil];exact V1.out
 case round =>
  obtain⟨j,k,hj,rfl,hK,hU,hB⟩:=hrel
  have B0:Hid (Below w.heap.size w wr):=by show Below _ _ _;rw[HN.out];exact hB.out
  by_cases hlt:j < n
  ·have n1:(j:Int) < (n:Int):=by omega
   obtain⟨x,hx⟩:∃x,xs[j]?=some x:=⟨_,List.getElem?_eq_getElem (by rw[HL.out];exact hlt)⟩
   have hS:=HS.out.below B0.out
   have hrow:=hS.row
   rw[HL.out] at hrow
   obtain⟨g,c',e,_,_,_⟩:=S.M.q0f hrow (by omega)
   cases e
   obtain⟨y0,y1,y2⟩:=q82 hrow j x hx
   obtain⟨wa,hwa⟩:∃wa,wa=wr.alloc (.cells #[x.vl,.map (some x.mb),x.vp] 225):=⟨_,rfl⟩
   have ba:Below wr.heap.size wr wa:=by rw[hwa];exact qo _ _
   have ka:wa.heap[wr.heap.size]?=some (.cells #[x.vl,.map (some x.mb),x.vp] 225 (0,0)):=by rw[hwa];exact heap_alloc_new wr _
   have BA:Hid (Below N w wa):=hB.out.trans (ba.mono (by have h1:=hB.out.size;have h2:=HN.out;omega))
   have hSa:qw tq O wa P (.slice (some ⟨g,0,none⟩) n c) xs:=HS.out.below (by rw[HN.out];exact BA.out)
   have hok:=hSa.each x (List.mem_of_getElem? hx)
   have UA:wa.ownsRow N 3 1 u5 k (zy (goal++q0c (jq (xs.take j)))):=S.M.qh hU.out (S.M.Ch.of_below (X:=fun _=>False) ba) fun _ _ e=>e
   have TL:Hid _:=qkn wa O wr.heap.size N x u5 (goal++q0c (jq (xs.take j))) hok (S.M.qc ka 0) (by have h1:=BA.out.size;have h2:=HN.out;omega) (fun b hb=>by have h1:=HS.out.lt b hb;have h2:=HN.out;omega) (by rw[hK.out];exact UA) (by
    have h1:=qd2 xs (j + 1)
    rw[q42 hx,List.length_append] at h1
    have h2:=HP.out.1
    omega) (by
    have h1:=ess_le xs (j + 1)
    rw[qeq hx,List.length_append] at h1
    have h2:=HP.out.2.1
    rw[List.length_append]
    omega)
   have WT:Hid (goal++q0c (jq (xs.take (j + 1)))=goal++q0c (jq (xs.take j))++q0c x.hs):=by show _=_;rw[qeq hx,List.append_assoc]
   obtain⟨al,cl,el,_⟩:=qm (hS.each x (List.mem_of_getElem? hx)).l
   obtain⟨ap,cp,ep,_⟩:=qm (hS.each x (List.mem_of_getElem? hx)).p
   rw[el] at y0 hwa
   rw[ep] at y2 hwa
   obtain⟨nh,hnh⟩:∃nh,x.hs.length=nh:=⟨_,rfl⟩
   obtain⟨np,hnp⟩:∃np,x.ps.length=np:=⟨_,rfl⟩
   obtain⟨mb,hmb⟩:∃mb,x.mb=mb:=⟨_,rfl⟩
   rw[hnh] at y0 hwa
   rw[hmb] at y1 hwa
   rw[hnp] at y2 hwa
   have HWA:Hid (wa=wr.alloc (.cells #[.slice al nh cl,.map (some mb),.slice ap np cp] 225)):=hwa
   obtain⟨Bx,hBx⟩:∃Bx,wr.heap.size=Bx:=⟨_,rfl⟩
   have HBX:Hid (wr.heap.size=Bx):=hBx
   rw[hBx,←WT.out] at TL
   clear hS hrow hok hx ba ka hwa el ep hnh hnp hmb hB hBx hSa hU hK UA WT
   go_upto_region 5 with fail
   rw[←HWA.out,HBX.out]
   clear HWA y0 y1 y2
   go_wp2_with fail
   refine Calls.mono TL.out ?_
   rintro e w2 ⟨hb2,v',rfl,hT'⟩
   have T2:Hid (w2.ownsRow N 3 1 v' (goal++q0c (jq (xs.take (j + 1)))).length (zy (goal++q0c (jq (xs.take (j + 1)))))):=hT'
   have B2:Hid (Below N w w2):=BA.out.trans hb2
   clear hb2 hT' TL
   go_wp2
   exact⟨⟨j + 1,_,by omega,by go_num,rfl,T2.out,B2.out⟩,by simp[intOf];omega⟩
  ·have n1:¬(j:Int) < (n:Int):=by omega
   have hall:xs.take j=xs:=List.take_of_length_le (by rw[HL.out];omega)
   have h1:=hU.out
   have h2:=hK.out
   rw[hall] at h1 h2
   have h3:k≤17592186043904:=by rw[←h2,List.length_append];exact HP.out.2.1
   obtain⟨a5,c5,rfl,_,hns⟩:=q3o h1
   have EV:Hid _:=q88 wr a5 k c5 _ h2 h3 hns (HV.out.up B0.out)
   have q1:=(HS.out.below B0.out).cells.1
   clear hall hU hK h1 h2 hns
   unfold q17 at q1 EV
   go_wp2_with fail
   refine Calls.mono EV.out ?_
   rintro e w2 ⟨hb2,a2,c2,m,rfl,hm⟩
   have B2:Hid (Below N w w2):=hB.out.trans (hb2.mono (by have h1:=hB.out.size;have h2:=HN.out;omega))
   have HM:Hid _:=hm
   clear hb2 hm EV
   go_wp2
   go_ret
   exact⟨B2.out,a2,c2,m,rfl,HM.out⟩
end F
namespace F
open S (qm)
open Go.Maps Go.RowKit Go.WideMaps
variable {tq:Nat} {isV:Int→Bool}
theorem new_any (w:World):Calls Tryz.prog 101 #[(q17 tq)] w fun e w'=>∃P vS b,e=.returned (.pointer (some ⟨P,0,none⟩))∧qw tq (fun g=>w.heap.size≤g∧g < w'.heap.size) w' P vS [newC b]∧Below w.heap.size w w':=by
 have NS:Hid _:=q77 w
 unfold q17
 go_enter Tryz.func101,Tryz.ntmps101
 go_wp2_with fail
 refine Calls.mono NS.out ?_
 rintro e w1 ⟨mb,rfl,hm,hmb,hb⟩
 have FI:Hid (qw tq (fun g=>w.heap.size≤g∧g < ((w1.alloc (.cells #[.slice none 0 0,.map (some mb),.slice none 0 0] 225)).alloc (.cells #[(q17 tq),.slice (some ⟨w1.heap.size,0,none⟩) 1 1] 171)).heap.size) ((w1.alloc (.cells #[.slice none 0 0,.map (some mb),.slice none 0 0] 225)).alloc (.cells #[(q17 tq),.slice (some ⟨w1.heap.size,0,none⟩) 1 1] 171)) (w1.heap.size + 1) (.slice (some ⟨w1.heap.size,0,none⟩) 1 1) [newC mb]∧Below w.heap.size w ((w1.alloc (.cells #[.slice none 0 0,.map (some mb),.slice none 0 0] 225)).alloc (.cells #[(q17 tq),.slice (some ⟨w1.heap.size,0,none⟩) 1 1] 171))):=by
  have bA:Below w1.heap.size w1 (w1.alloc (.cells #[.slice none 0 0,.map (some mb),.slice none 0 0] 225)):=qo _ _
  have sA:(w1.alloc (.cells #[.slice none 0 0,.map (some mb),.slice none 0 0] 225)).heap.size=w1.heap.size + 1:=by simp
  have rA:(w1.alloc (.cells #[.slice none 0 0,.map (some mb),.slice none 0 0] 225)).ownsRow 0 225 3 (.slice (some ⟨w1.heap.size,0,none⟩) 1 1) 1 (uq [newC mb]) :=
   ⟨rfl,.inr ⟨_,1,#[.slice none 0 0,.map (some mb),.slice none 0 0],rfl,Nat.zero_le _,heap_alloc_new w1 _,Nat.le_refl _,by decide,rfl,rfl⟩⟩
  generalize hwA:w1.alloc (.cells #[.slice none 0 0,.map (some mb),.slice none 0 0] 225)=wA at bA sA rA ⊢
  have bB:Below wA.heap.size wA (wA.alloc (.cells #[(q17 tq),.slice (some ⟨w1.heap.size,0,none⟩) 1 1] 171)):=qo _ _
  have kB:=heap_alloc_new wA (.cells #[(q17 tq),.slice (some ⟨w1.heap.size,0,none⟩) 1 1] 171)
  have sB:(wA.alloc (.cells #[(q17 tq),.slice (some ⟨w1.heap.size,0,none⟩) 1 1] 171)).heap.size=wA.heap.size + 1:=by simp
  have rB:=S.M.zk rA (.cells #[(q17 tq),.slice (some ⟨w1.heap.size,0,none⟩) 1 1] 171)
  generalize hwB:wA.alloc (.cells #[(q17 tq),.slice (some ⟨w1.heap.size,0,none⟩) 1 1] 171)=wB at bB kB sB rB ⊢
  have h1:=hb.size
  obtain⟨es,ck,hh⟩:=hm.isM
  have hlt:mb < w1.heap.size:=(Array.getElem?_eq_some_iff.1 hh).1
  have bAll:Below w1.heap.size w1 wB:=bA.trans (bB.mono bA.size)
  have tB:q2b wB mb 0 (fun _=>none):=hm.kept (bAll.block mb hlt)
  rw[sA] at kB
  refine⟨⟨kB,⟨by omega,by omega⟩,rB,fun g e=>by cases e;exact⟨by show _≤w1.heap.size;omega,by show w1.heap.size < _;omega⟩,fun x hx=>?_,List.pairwise_singleton _ _,fun g hg=>hg.2⟩,hb.trans (bAll.mono hb.size)⟩
  rw[List.mem_singleton.1 hx]
  exact qig tB ⟨hmb,by omega⟩
 have HP:(w1.alloc (.cells #[.slice none 0 0,.map (some mb),.slice none 0 0] 225)).heap.size=w1.heap.size + 1:=by simp
 clear hm hmb hb NS
 unfold q17 at FI
 go_wp2
 go_ret
 exact⟨_,_,mb,rfl,FI.out⟩
structure qim (N:Nat)(W:World)(xs:List ScC)(vh vp:Value)(ts:List HyC)(m:List Pp):Prop where
 t:jr N W vh ts
 h:ts.map (·.h)=(jq xs).map (·.h)
 n:q38 (q0j xs) m
 p:W.ownsRow N 130 2 vp m.length (je m)
theorem qko (l:List HyC):q06 (fun _ _=>true) l=l.map (·.h):=by unfold q06;simp
theorem qkp (w:World)(O:Nat→Prop)(P:Nat)(vS:Value)(xs:List ScC)(h:qw tq O w P vS xs)(hn:xs.length≤1048576)(hp:(jq xs).length≤1048576)(hlen:∀x ∈ xs,∀y ∈ x.hs,y.h.ex.length≤17592186044416)(hq:(q0j xs).length≤1048576)(hw:∀p ∈ q0j xs,wfP p) :
  Calls Tryz.prog 161 #[.pointer (some ⟨P,0,none⟩)] w fun e w'=>Below w.heap.size w w'∧∃vh vp ts m,e=.returned (.agg #[vh,vp])∧qim w.heap.size w' xs vh vp ts m:=by
 obtain⟨N,hN⟩:∃N,w.heap.size=N:=⟨_,rfl⟩
 have HN:Hid (w.heap.size=N):=hN
 rw[hN]
 obtain⟨wA,hwA⟩:∃wA,wA=w.alloc (.cells #[.slice none 0 0,.slice none 0 0] 49):=⟨_,rfl⟩
 have HWA:Hid (wA=w.alloc (.cells #[.slice none 0 0,.slice none 0 0] 49)):=hwA
 have bA:Below w.heap.size w wA:=by rw[hwA];exact qo _ _
 have kA:wA.heap[N]?=some (.cells #[.slice none 0 0,.slice none 0 0] 49 (0,0)):=by rw[hwA,←hN];exact heap_alloc_new w _
 have HB:Hid (Below N w wA∧N < wA.heap.size∧wA.heap[N]?=some (.cells #[.slice none 0 0,.slice none 0 0] 49 (0,0))):=⟨by rw[←hN];exact bA,(Array.getElem?_eq_some_iff.1 kA).1,kA⟩
 have SA:Hid (qw tq O wA P vS xs):=h.below bA
 have HY:Hid _:=qh2 wA (fun _ _=>true) O P vS xs SA.out hn hp hlen (fun W _ lab fl var a n c=>qgz W lab fl var a n c)
 have HQ:Hid (xs.length≤1048576∧(q0j xs).length≤1048576∧∀p ∈ q0j xs,wfP p):=⟨hn,hq,hw⟩
 rw[qko] at HY
 clear hN h hn hp hlen hq hw hwA bA kA
 go_enter Tryz.func161,Tryz.ntmps161
 go_upto_region 2 with fail
 rw[←HWA.out,HN.out]
 clear HWA
 go_wp2_with fail
 refine Calls.mono HY.out ?_
 rintro e w2 ⟨hb2,vh,ts,rfl,hT2,hm2⟩
 have B2:Hid (Below wA.heap.size wA w2):=hb2
 have T2:Hid (jr wA.heap.size w2 vh ts∧ts.map (·.h)=(jq xs).map (·.h)):=⟨hT2,hm2⟩
 have AP:Hid _:=q3p w2 O P vS xs (SA.out.below hb2) HQ.out.1 HQ.out.2.1
 clear hb2 hT2 hm2 HY
 go_wp2_with fail
 refine Calls.mono AP.out ?_
 rintro e w3 ⟨hb3,v3,rfl,ho3⟩
 obtain⟨a3,c3,rfl,_⟩:=qm ho3
 have B3:Hid (Below w2.heap.size w2 w3):=hb3
 have NO:Hid _:=qeo w3 a3 c3 (q0j xs) (q0j xs).length rfl HQ.out.2.1 HQ.out.2.2 (q50 ho3)
 clear hb3 ho3 AP
 generalize (q0j xs).length=na at *
 go_wp2_with fail
 refine Calls.mono NO.out ?_
 rintro e w4 ⟨vp,m,rfl,hnm,ho4,hb4⟩
 obtain⟨ah,ch,eh,_⟩:=qm T2.out.1.own
 obtain⟨a4,c4,e4,_⟩:=qm ho4
 have bAll:Below wA.heap.size wA w4:=B2.out.trans ((B3.out.mono B2.out.size).trans (hb4.mono (Nat.le_trans B2.out.size B3.out.size)))
 have k4:w4.heap[N]?=some (.cells #[.slice none 0 0,.slice none 0 0] 49 (0,0)):=(bAll.block N HB.out.2.1).trans HB.out.2.2
 have y0:w4.cell? ⟨N,0,none⟩=some (.slice none 0 0):=S.M.qc k4 0
 have y1:w4.cell? ⟨N,1,none⟩=some (.slice none 0 0):=S.M.qc k4 1
 have f0:w4.frozen? ⟨N,0,none⟩=false:=by simp[World.frozen?,k4]
 have f1:w4.frozen? ⟨N,1,none⟩=false:=by simp[World.frozen?,k4]
 obtain⟨w9,hw9⟩:∃w9,w9=(w4.setCell ⟨N,0,none⟩ vh).setCell ⟨N,1,none⟩ vp:=⟨_,rfl⟩
 have k9:w9.heap[N]?=some (.cells #[vh,vp] 49 (0,0)):=by rw[hw9];exact S.M.qj (S.M.qj k4)
 have ch9:S.M.Ch (fun b=>b=N) w4 w9:=by rw[hw9];exact (S.M.xu w4 N 0 _).trans (S.M.xu _ N 1 _)
 have FI:Hid (Below N w w9∧qim N w9 xs vh vp ts m):=by
  have hNA:=HB.out.2.1
  have T4:jr wA.heap.size w4 vh ts:=(T2.out.1.below B3.out).below hb4
  have h2:=B2.out.size
  have h3:=B3.out.size
  refine⟨(HB.out.1.trans (bAll.mono (Nat.le_of_lt hNA))).trans (ch9.below (Nat.le_trans (Nat.le_of_lt hNA) bAll.size) fun b e=>by omega),⟨⟨?_,fun y hy=>?_,T4.ap⟩,T2.out.2,hnm,?_⟩⟩
  ·exact S.M.qp (S.M.qh T4.own ch9 fun b hb e=>by have:=S.M.zf T4.own b hb;omega) (Nat.le_of_lt hNA)
  ·exact S.M.qp (S.M.qh (T4.e y hy) ch9 fun b hb e=>by have:=S.M.zf (T4.e y hy) b hb;omega) (Nat.le_of_lt hNA)
  ·exact S.M.qp (S.M.qh ho4 ch9 fun b hb e=>by have:=S.M.zf ho4 b hb;omega) (by omega)
 have z0:w9.cell? ⟨N,0,none⟩=some vh:=S.M.qc k9 0
 have z1:w9.cell? ⟨N,1,none⟩=some vp:=S.M.qc k9 1
 rw[eh,e4] at *
 have HW9:Hid (w9=(w4.setCell ⟨N,0,none⟩ (.slice ah ts.length ch)).setCell ⟨N,1,none⟩ (.slice a4 m.length c4)):=hw9
 clear hw9 k9 ch9 k4 bAll hb4 ho4 hnm eh e4 NO T2 B2 B3 HB SA
 go_wp2_with fail
 rw[←HW9.out]
 clear HW9
 refine bodyPost_ret (by simp[results,Tryz.results161,go_sem,z0,z1];try rfl) rfl ?_
 exact⟨FI.out.1,_,_,ts,m,rfl,FI.out.2⟩
end F
namespace F
open S (qm)
open Go.Maps Go.RowKit Go.WideMaps
variable {tq:Nat} {isV:Int→Bool}
theorem qh4 (w:World)(MB:Nat)(a:Option Addr)(n c:Nat)(l:List Int)(lab:ByteArray)(fl:Bool)(var:Int)(ae:Option Addr)(ne ce:Nat)(hl:l.length=n)(hn:n≤17592186043904)(hs:l.Pairwise (· < ·))(hA:q1a w a l)(hc:w.cell? ⟨MB,0,none⟩=some (.slice a n c)) :
  Calls Tryz.prog 234 #[.agg #[.string lab,.bool fl,.int .i64 var,.slice ae ne ce],.pointer (some ⟨MB,0,none⟩)] w fun e w'=>e=.returned (.bool (l.contains var || !fl))∧Below w.heap.size w w':=by
 obtain⟨w1,hw1⟩:∃w1,w1=w.alloc (.cells #[.string lab,.bool fl,.int .i64 var,.slice ae ne ce] 57):=⟨_,rfl⟩
 obtain⟨T,hT⟩:∃T,w.heap.size=T:=⟨_,rfl⟩
 have HW1:Hid (w1=w.alloc (.cells #[.string lab,.bool fl,.int .i64 var,.slice ae ne ce] 57)):=hw1
 have b1:Below w.heap.size w w1:=by rw[hw1];exact qo _ _
 have k1:w1.heap[T]?=some (.cells #[.string lab,.bool fl,.int .i64 var,.slice ae ne ce] 57 (0,0)):=by rw[hw1,←hT];exact heap_alloc_new w _
 have x2:w1.cell? ⟨T,2,none⟩=some (.int .i64 var):=S.M.qc k1 2
 have xm:w1.cell? ⟨MB,0,none⟩=some (.slice a n c):=(b1.cell (p:=⟨MB,0,none⟩) (World.block_lt_of_cell? _ _ hc)).trans hc
 have SE:Hid _:=q8p w1 a n c l var hl hn (hs.imp fun h=>Int.le_of_lt h) (hA.under b1)
 have HB:Hid (Below w.heap.size w w1∧w1.heap[T]?=some (.cells #[.string lab,.bool fl,.int .i64 var,.slice ae ne ce] 57 (0,0))):=⟨b1,k1⟩
 have HT:Hid (w.heap.size=T):=hT
 clear hw1 b1 k1 hl hn hs hA hc hT
 go_enter Tryz.func234,Tryz.ntmps234
 go_upto_region 1 with fail
 rw[←HW1.out,HT.out]
 clear HW1
 go_wp2_with fail
 refine Calls.mono SE.out ?_
 rintro e w2 ⟨⟨i,rfl⟩,q,hw2⟩
 have B2:Hid (Below w.heap.size w w2):=by show Below _ _ _;rw[hw2];exact zu HB.out.1 q
 have k2:w2.heap[T]?=some (.cells #[.string lab,.bool fl,.int .i64 var,.slice ae ne ce] 57 (0,0)):=by rw[hw2];exact HB.out.2
 have y1:w2.cell? ⟨T,1,none⟩=some (.bool fl):=S.M.qc k2 1
 clear hw2 k2 SE HB x2 xm HT
 obtain⟨bb,hbb⟩:∃bb,l.contains var=bb:=⟨_,rfl⟩
 rw[hbb]
 have HC:Hid (l.contains var=bb):=hbb
 clear hbb
 cases bb with
 | true =>
  go_wp2
  go_ret
  exact⟨by rw[HC.out];rfl,B2.out⟩
 | false =>
  go_wp2
  go_ret
  exact⟨by rw[HC.out];rfl,B2.out⟩
structure qin (N:Nat)(W:World)(xs:List ScC)(goal:List Int)(vh vp vg:Value)(ts:List HyC)(mv:List Int)(m:List Pp):Prop where
 v:q39 (isV:=isV) (goal++q0c (jq xs)) mv
 t:jr N W vh ts
 h:ts.map (·.h)=q06 (fun fl var=>mv.contains var || !fl) (jq xs)
 n:q38 (q1j (q0j xs) mv) m
 p:W.ownsRow N 130 2 vp m.length (je m)
 g:W.ownsRow N 3 1 vg goal.length (zy goal)
 ga:∀y ∈ ts,∀b,y.ve.ownBlock=some b→vg.ownBlock≠some b
def zeroFr:Value:=.agg #[.slice none 0 0,.slice none 0 0,.slice none 0 0]
def qbz (w:World)(xs:List ScC)(goal:List Int)(e:Ending)(w':World):Prop:=Below w.heap.size w w'∧((yg (isV:=isV) (xs.map jk) goal≠0∧e=.returned (.tuple #[zeroFr,.int .i64 (yg (isV:=isV) (xs.map jk) goal)]))∨(yg (isV:=isV) (xs.map jk) goal=0∧∃vh vp vg ts mv m,e=.returned (.tuple #[.agg #[vh,vp,vg],.int .i64 0])∧qin (isV:=isV) w.heap.size w' xs goal vh vp vg ts mv m))
theorem qkq (w:World)(O:Nat→Prop)(P:Nat)(vS:Value)(xs:List ScC)(a0:Option Addr)(n0 c0:Nat)(goal:List Int)(h:qw tq O w P vS xs)(hV:q2w tq isV w)(hn:xs.length≤1048576)(hp:(jq xs).length≤1048576)(hlen:∀x ∈ xs,∀y ∈ x.hs,y.h.ex.length≤17592186044416)(hq:(q0j xs).length≤1048576)(hw:∀p ∈ q0j xs,wfP p)(hg:goal.length=n0)(hA:q1a w a0 goal)(hwg:∀x ∈ goal,wfN x)(hle:goal.length + (q0c (jq xs)).length≤17592186043904) :
  Calls Tryz.prog 173 #[.pointer (some ⟨P,0,none⟩),.slice a0 n0 c0] w (qbz (isV:=isV) w xs goal):=by
 obtain⟨N,hN⟩:∃N,w.heap.size=N:=⟨_,rfl⟩
 have HN:Hid (w.heap.size=N):=hN
 unfold qbz
 rw[hN]
 obtain⟨wA,hwA⟩:∃wA,wA=w.alloc (.cells #[.slice none 0 0,.slice none 0 0,.slice none 0 0] 47):=⟨_,rfl⟩
 have HWA:Hid (wA=w.alloc (.cells #[.slice none 0 0,.slice none 0 0,.slice none 0 0] 47)):=hwA
 have bA:Below w.heap.size w wA:=by rw[hwA];exact qo _ _
 have kA:wA.heap[N]?=some (.cells #[.slice none 0 0,.slice none 0 0,.slice none 0 0] 47 (0,0)):=by rw[hwA,←hN];exact heap_alloc_new w _
 have HB:Hid (Below N w wA∧N < wA.heap.size∧wA.heap[N]?=some (.cells #[.slice none 0 0,.slice none 0 0,.slice none 0 0] 47 (0,0))):=⟨by rw[←hN];exact bA,(Array.getElem?_eq_some_iff.1 kA).1,kA⟩
 have SA:Hid (qw tq O wA P vS xs):=h.below bA
 have GA:Hid (q1a wA a0 goal):=hA.under bA
 have HV:Hid (q2w tq isV wA):=hV.up bA
 have JU:Hid _:=qbu wA O P vS xs a0 n0 c0 goal SA.out HV.out hn hg (by omega) GA.out hwg
 have HQ:Hid (xs.length≤1048576∧(jq xs).length≤1048576∧(q0j xs).length≤1048576∧goal.length=n0∧goal.length + (q0c (jq xs)).length≤17592186043904):=⟨hn,hp,hq,hg,hle⟩
 have HW:Hid ((∀p ∈ q0j xs,wfP p)∧∀x ∈ xs,∀y ∈ x.hs,y.h.ex.length≤17592186044416):=⟨hw,hlen⟩
 clear hV hN h hn hp hlen hq hw hwA bA kA hg hA hwg hle
 go_enter Tryz.func173,Tryz.ntmps173
 go_upto_region 1 with fail
 rw[←HWA.out,HN.out]
 clear HWA
 go_wp2_with fail
 refine Calls.mono JU.out ?_
 rintro e w1 ⟨rfl,hb1⟩
 have B1:Hid (Below wA.heap.size wA w1):=hb1
 clear hb1 JU
 obtain⟨E,hJE⟩:∃E,yg (isV:=isV) (xs.map jk) goal=E:=⟨_,rfl⟩
 rw[hJE]
 have HJ:Hid (yg (isV:=isV) (xs.map jk) goal=E):=hJE
 clear hJE
 by_cases hE:E=0
 ·subst hE
  have MA:Hid _:=qb8 w1 O P vS xs a0 n0 c0 goal (SA.out.below B1.out) (HV.out.up B1.out) HQ.out.1 HQ.out.2.1 HQ.out.2.2.2.1 (GA.out.under B1.out) HQ.out.2.2.2.2
  go_wp2_with fail
  refine Calls.mono MA.out ?_
  rintro e w2 ⟨hb2,am,cm,mv,rfl,hns,_,hmv⟩
  obtain⟨nm,hnm⟩:∃nm,mv.length=nm:=⟨_,rfl⟩
  rw[hnm]
  have HM:Hid (mv.length=nm∧nm≤17592186043904):=⟨hnm,by rw[←hnm];have h1:=hmv.le;rw[List.length_append] at h1;have h2:=HQ.out.2.2.2.2;omega⟩
  obtain⟨w3,hw3⟩:∃w3,w3=w2.alloc (.cells #[.slice am nm cm] 38):=⟨_,rfl⟩
  obtain⟨MB,hMB⟩:∃MB,w2.heap.size=MB:=⟨_,rfl⟩
  have HW3:Hid (w3=w2.alloc (.cells #[.slice am nm cm] 38)):=hw3
  have HMB:Hid (w2.heap.size=MB):=hMB
  have b3:Below w2.heap.size w2 w3:=by rw[hw3];exact qo _ _
  have k3:w3.heap[MB]?=some (.cells #[.slice am nm cm] 38 (0,0)):=by rw[hw3,←hMB];exact heap_alloc_new w2 _
  have bA3:Below wA.heap.size wA w3:=B1.out.trans ((hb2.mono B1.out.size).trans (b3.mono (Nat.le_trans B1.out.size hb2.size)))
  have BM:Hid (Below wA.heap.size wA w3.drew∧MB < w3.heap.size∧q39 (isV:=isV) (goal++q0c (jq xs)) mv):=⟨zu bA3 1,(Array.getElem?_eq_some_iff.1 k3).1,hmv⟩
  have HX:Hid (N < MB):=by show N < MB;rw[←hMB];have h0:=HB.out.2.1;have h1:=B1.out.size;have h2:=hb2.size;omega
  have NM:Hid (q1a w3.drew am mv):=hns.under (zu b3 1)
  have KM:Hid (∀W,Below w3.heap.size w3.drew W→W.cell? ⟨MB,0,none⟩=some (.slice am nm cm)):=fun W hW=>S.M.qc ((hW.block MB (Array.getElem?_eq_some_iff.1 k3).1).trans k3) 0
  have HY:Hid _:=qh3 w3.drew MB (fun fl var=>mv.contains var || !fl) O P vS xs (SA.out.below BM.out.1) HQ.out.1 HQ.out.2.1 HW.out.2 (fun W hW lab fl var a n c=>qh4 W MB am nm cm mv lab fl var a n c HM.out.1 HM.out.2 hmv.up (NM.out.under hW) (KM.out W hW))
  clear hw3 hMB b3 k3 bA3 hb2 hns hmv MA hnm
  go_upto_region 6 with fail
  rw[←HW3.out,HMB.out]
  clear HW3 HMB
  refine wp_region_held_drew (S:=fun w'=>w'.cell? ⟨MB,0,none⟩=some (.slice am nm cm)) (by kernel_rfl) ?_ (fun hHeld=>?_)
  ·exact KM.out _ (Below.refl _ _)
  refine tk 0 ⟨some 20,.move (.tmp 0),104,"frame.go:119",#[],none⟩ ?_ hHeld ?_ ?_
  rotate_left
  ·(intro w hSw;(try dsimp only at hSw);go_simp;try with_reducible rfl)
  try simp only[Act.put,List.setIfInBounds_toArray,List.set_cons_zero,List.set_cons_succ]
  refine tk 1 ⟨some 21,.move (.tmp 8),261,"frame.go:119",#[],none⟩ ?_ hHeld ?_ ?_
  rotate_left
  ·(intro w hSw;(try dsimp only at hSw);go_simp;try with_reducible rfl)
  try simp only[Act.put,List.setIfInBounds_toArray,List.set_cons_zero,List.set_cons_succ]
  refine tk 3 ⟨some 23,.move (.tmp 0),104,"frame.go:119",#[],none⟩ ?_ hHeld ?_ ?_
  rotate_left
  ·(intro w hSw;(try dsimp only at hSw);go_simp;try with_reducible rfl)
  try simp only[Act.put,List.setIfInBounds_toArray,List.set_cons_zero,List.set_cons_succ]
  refine tk 5 ⟨some 25,.load 38 (.tmp 7),38,"frame.go:119",#[],none⟩ ?_ hHeld ?_ ?_
  rotate_left
  ·(intro w hSw;(try dsimp only at hSw);go_simp;try with_reducible rfl)
  try simp only[Act.put,List.setIfInBounds_toArray,List.set_cons_zero,List.set_cons_succ]
  refine tk 7 ⟨some 27,.move (.tmp 1),38,"frame.go:119",#[],none⟩ ?_ hHeld ?_ ?_
  rotate_left
  ·(intro w hSw;(try dsimp only at hSw);go_simp;try with_reducible rfl)
  try simp only[Act.put,List.setIfInBounds_toArray,List.set_cons_zero,List.set_cons_succ]
  refine wpAnyH_ready (rs:=[2]) (by kernel_rfl) (by simp) ?_
  refine AllReadyH.cons rfl (fun K hK=>?_) AllReadyH.nil
  go_simp
  go_at_call 215
  refine Calls.mono HY.out ?_
  rintro e w5 ⟨hb5,vh,ts,rfl,hT5,hm5⟩
  obtain⟨ah,ch,eh,_⟩:=qm hT5.own
  have B5:Hid (Below w3.heap.size w3.drew w5):=hb5
  have T5:Hid (jr w3.heap.size w5 vh ts∧ts.map (·.h)=q06 (fun fl var=>mv.contains var || !fl) (jq xs)):=⟨hT5,hm5⟩
  have AP:Hid _:=q3p w5 O P vS xs ((SA.out.below BM.out.1).below hb5) HQ.out.1 HQ.out.2.2.1
  rw[eh] at T5 ⊢
  obtain⟨nt,hnt⟩:∃nt,ts.length=nt:=⟨_,rfl⟩
  rw[hnt] at T5 ⊢
  clear hb5 hT5 hm5 HY eh hnt
  try go_wp2_with fail
  refine hK.out _ _ ?_ (fun hHeld_2=>?_)
  ·exact KM.out _ B5.out
  clear hK K
  try simp only[Act.put,List.setIfInBounds_toArray,List.set_cons_zero,List.set_cons_succ]
  refine wpAnyH_ready (rs:=[4]) (by kernel_rfl) (by simp) ?_
  refine AllReadyH.cons rfl (fun K hK=>?_) AllReadyH.nil
  go_simp
  go_at_call 217
  refine Calls.mono AP.out ?_
  rintro e w6 ⟨hb6,v6,rfl,ho6⟩
  obtain⟨a6,c6,rfl,_⟩:=qm ho6
  have B6:Hid (Below w3.heap.size w3.drew w6):=B5.out.trans (hb6.mono B5.out.size)
  have T6:Hid (jr w3.heap.size w6 (.slice ah nt ch) ts):=T5.out.1.below hb6
  have ON:Hid _:=qn8 w6 a6 am c6 cm (q0j xs) mv (q0j xs).length nm rfl HM.out.1 HQ.out.2.2.1 HM.out.2 HW.out.1 (q50 ho6) (NM.out.under B6.out)
  clear hb6 ho6 AP
  generalize (q0j xs).length=na at *
  try go_wp2_with fail
  refine hK.out _ _ ?_ (fun hHeld_4=>?_)
  ·exact KM.out _ B6.out
  clear hK K
  try simp only[Act.put,List.setIfInBounds_toArray,List.set_cons_zero,List.set_cons_succ]
  refine wpAnyH_ready (rs:=[6]) (by kernel_rfl) (by simp) ?_
  refine AllReadyH.cons rfl (fun K hK=>?_) AllReadyH.nil
  go_simp
  go_at_call 235
  refine Calls.mono ON.out ?_
  rintro e w7 ⟨vp,m,rfl,hnm,ho7,hb7⟩
  obtain⟨a7,c7,e7,_⟩:=qm ho7
  obtain⟨np,hnp⟩:∃np,m.length=np:=⟨_,rfl⟩
  rw[e7,hnp] at ho7 ⊢
  have B7:Hid (Below w3.heap.size w3.drew w7):=B6.out.trans (hb7.mono B6.out.size)
  have T7:Hid (jr w3.heap.size w7 (.slice ah nt ch) ts):=T6.out.below hb7
  have O7:Hid (w7.ownsRow w3.heap.size 130 2 (.slice a7 np c7) np (je m)∧q38 (q1j (q0j xs) mv) m∧m.length=np):=⟨S.M.qp ho7 B6.out.size,hnm,hnp⟩
  have CL:Hid _:=clone_any w7 a0 n0 c0 goal HQ.out.2.2.2.1 (by have h1:=HQ.out.2.2.2.2;have h2:=HQ.out.2.2.2.1;omega) ((GA.out.under BM.out.1).under B7.out)
  clear hb7 ho7 ON hnm e7 hnp
  try go_wp2_with fail
  refine hK.out _ _ ?_ (fun hHeld_6=>?_)
  ·exact KM.out _ B7.out
  clear hK K
  try simp only[Act.put,List.setIfInBounds_toArray,List.set_cons_zero,List.set_cons_succ]
  refine wpAnyH_ready (rs:=[8]) (by kernel_rfl) (by simp) ?_
  refine AllReadyH.cons rfl (fun K hK=>?_) AllReadyH.nil
  go_simp
  go_at_call 72
  refine Calls.mono CL.out ?_
  rintro e w8 ⟨v8,rfl,ho8,hb8⟩
  obtain⟨a8,c8,rfl,_⟩:=qm ho8
  have B8:Hid (Below w3.heap.size w3.drew w8):=B7.out.trans (hb8.mono B7.out.size)
  have T8:Hid (jr w3.heap.size w8 (.slice ah nt ch) ts):=T7.out.below hb8
  have O8:Hid (w8.ownsRow w3.heap.size 130 2 (.slice a7 np c7) np (je m)):=S.M.qh O7.out.1 (S.M.Ch.of_below (X:=fun _=>False) hb8) fun _ _ e=>e
  have G8:Hid (w8.ownsRow w3.heap.size 3 1 (.slice a8 n0 c8) n0 (zy goal)∧∀y ∈ ts,∀b,y.ve.ownBlock=some b→(Value.slice a8 n0 c8).ownBlock≠some b):=⟨S.M.qp ho8 B7.out.size,fun y hy b hb e=>by have h1:=S.M.jl (T7.out.e y hy) b hb;have h2:=S.M.zf ho8 b e;omega⟩
  clear hb8 ho8 CL
  try go_wp2_with fail
  refine hK.out _ _ ?_ (fun hHeld_8=>?_)
  ·exact KM.out _ B8.out
  clear hK K
  try simp only[Act.put,List.setIfInBounds_toArray,List.set_cons_zero,List.set_cons_succ]
  refine tk 9 ⟨some 29,.build 47 #[(0,.tmp 22),(1,.tmp 26),(2,.tmp 28)],47,"frame.go:119",#[⟨2,.data⟩,⟨6,.data⟩,⟨8,.data⟩],none⟩ ?_ hHeld_8 ?_ ?_
  rotate_left
  ·(intro w hSw;(try dsimp only at hSw);go_simp;try with_reducible rfl)
  try simp only[Act.put,List.setIfInBounds_toArray,List.set_cons_zero,List.set_cons_succ]
  refine wpAnyH_ready (rs:=[10]) (by kernel_rfl) (by simp) ?_
  refine AllReadyH.cons rfl (fun K hK=>?_) AllReadyH.nil
  have bA8:Below wA.heap.size wA w8:=BM.out.1.trans (B8.out.mono BM.out.1.size)
  have k8:w8.heap[N]?=some (.cells #[.slice none 0 0,.slice none 0 0,.slice none 0 0] 47 (0,0)):=(bA8.block N HB.out.2.1).trans HB.out.2.2
  have y0:w8.cell? ⟨N,0,none⟩=some (.slice none 0 0):=S.M.qc k8 0
  have y1:w8.cell? ⟨N,1,none⟩=some (.slice none 0 0):=S.M.qc k8 1
  have y2:w8.cell? ⟨N,2,none⟩=some (.slice none 0 0):=S.M.qc k8 2
  have f0:w8.frozen? ⟨N,0,none⟩=false:=by simp[World.frozen?,k8]
  have f1:w8.frozen? ⟨N,1,none⟩=false:=by simp[World.frozen?,k8]
  have f2:w8.frozen? ⟨N,2,none⟩=false:=by simp[World.frozen?,k8]
  have k9:(((w8.setCell ⟨N,0,none⟩ (.slice ah nt ch)).setCell ⟨N,1,none⟩ (.slice a7 np c7)).setCell ⟨N,2,none⟩ (.slice a8 n0 c8)).heap[N]?=some (.cells #[.slice ah nt ch,.slice a7 np c7,.slice a8 n0 c8] 47 (0,0)):=S.M.qj (S.M.qj (S.M.qj k8))
  have ch9:S.M.Ch (fun b=>b=N) w8 (((w8.setCell ⟨N,0,none⟩ (.slice ah nt ch)).setCell ⟨N,1,none⟩ (.slice a7 np c7)).setCell ⟨N,2,none⟩ (.slice a8 n0 c8)):=((S.M.xu w8 N 0 _).trans (S.M.xu _ N 1 _)).trans (S.M.xu _ N 2 _)
  have FI:Hid (Below N w (((w8.setCell ⟨N,0,none⟩ (.slice ah nt ch)).setCell ⟨N,1,none⟩ (.slice a7 np c7)).setCell ⟨N,2,none⟩ (.slice a8 n0 c8))∧qin (isV:=isV) N (((w8.setCell ⟨N,0,none⟩ (.slice ah nt ch)).setCell ⟨N,1,none⟩ (.slice a7 np c7)).setCell ⟨N,2,none⟩ (.slice a8 n0 c8)) xs goal (.slice ah nt ch) (.slice a7 np c7) (.slice a8 n0 c8) ts mv m):=by
   have hNA:=HB.out.2.1
   have h3:=BM.out.1.size
   have hN3:N < w3.heap.size:=Nat.lt_of_lt_of_le hNA h3
   have rows:∀{e sz k:Nat} {v:Value} {zs:List Value},w8.ownsRow w3.heap.size e sz v k zs→(((w8.setCell ⟨N,0,none⟩ (.slice ah nt ch)).setCell ⟨N,1,none⟩ (.slice a7 np c7)).setCell ⟨N,2,none⟩ (.slice a8 n0 c8)).ownsRow N e sz v k zs:=fun ho=>S.M.qp (S.M.qh ho ch9 fun b hb e=>by have:=S.M.zf ho b hb;omega) (Nat.le_of_lt hN3)
   refine⟨(HB.out.1.trans (bA8.mono (Nat.le_of_lt hNA))).trans (ch9.below (Nat.le_trans (Nat.le_of_lt hNA) bA8.size) fun b e=>by omega),⟨BM.out.2.2,⟨rows T8.out.own,fun y hy=>rows (T8.out.e y hy),T8.out.ap⟩,T5.out.2,O7.out.2.1,?_,?_,G8.out.2⟩⟩
   ·rw[O7.out.2.2];exact rows O8.out
   ·rw[HQ.out.2.2.2.1];exact rows G8.out.1
  have KS:Hid ((((w8.setCell ⟨N,0,none⟩ (.slice ah nt ch)).setCell ⟨N,1,none⟩ (.slice a7 np c7)).setCell ⟨N,2,none⟩ (.slice a8 n0 c8)).cell? ⟨MB,0,none⟩=some (.slice am nm cm)):=by
   have hc:=KM.out w8 B8.out
   have hne:MB≠N:=fun e=>by have h0:=HX.out;omega
   have h1:(((w8.setCell ⟨N,0,none⟩ (.slice ah nt ch)).setCell ⟨N,1,none⟩ (.slice a7 np c7)).setCell ⟨N,2,none⟩ (.slice a8 n0 c8)).heap[MB]?=w8.heap[MB]?:=ch9.block MB (World.block_lt_of_cell? _ _ hc) hne
   show _=_
   rw[←hc]
   unfold World.cell?
   simp only[h1]
  have z0:(((w8.setCell ⟨N,0,none⟩ (.slice ah nt ch)).setCell ⟨N,1,none⟩ (.slice a7 np c7)).setCell ⟨N,2,none⟩ (.slice a8 n0 c8)).cell? ⟨N,0,none⟩=some (.slice ah nt ch):=S.M.qc k9 0
  have z1:(((w8.setCell ⟨N,0,none⟩ (.slice ah nt ch)).setCell ⟨N,1,none⟩ (.slice a7 np c7)).setCell ⟨N,2,none⟩ (.slice a8 n0 c8)).cell? ⟨N,1,none⟩=some (.slice a7 np c7):=S.M.qc k9 1
  have z2:(((w8.setCell ⟨N,0,none⟩ (.slice ah nt ch)).setCell ⟨N,1,none⟩ (.slice a7 np c7)).setCell ⟨N,2,none⟩ (.slice a8 n0 c8)).cell? ⟨N,2,none⟩=some (.slice a8 n0 c8):=S.M.qc k9 2
  have HZ:Hid _:=And.intro z0 (And.intro z1 z2)
  clear k8 k9 ch9 bA8 z0 z1 z2
  go_simp
  refine hK.out _ _ ?_ (fun hHeld_10=>?_)
  ·exact KS.out
  clear hK K
  try simp only[Act.put,List.setIfInBounds_toArray,List.set_cons_zero,List.set_cons_succ]
  refine tk 11 ⟨some 5,.assign (.const (.int .i64 0)),29,"frame.go:119",#[⟨10,.chain⟩,⟨0,.phase⟩,⟨1,.phase⟩,⟨2,.phase⟩,⟨3,.phase⟩,⟨4,.phase⟩,⟨5,.phase⟩,⟨6,.phase⟩,⟨7,.phase⟩,⟨8,.phase⟩,⟨9,.phase⟩,⟨10,.phase⟩],none⟩ ?_ hHeld_10 ?_ ?_
  rotate_left
  ·(intro w hSw;(try dsimp only at hSw);go_simp;try with_reducible rfl)
  try simp only[Act.put,List.setIfInBounds_toArray,List.set_cons_zero,List.set_cons_succ]
  refine wpAnyH_done (by kernel_rfl) ?_ _
  obtain⟨z0,z1,z2⟩:=HZ.out
  obtain⟨w9,hw9⟩:∃w9,w9=((w8.setCell ⟨N,0,none⟩ (.slice ah nt ch)).setCell ⟨N,1,none⟩ (.slice a7 np c7)).setCell ⟨N,2,none⟩ (.slice a8 n0 c8):=⟨_,rfl⟩
  rw[←hw9] at z0 z1 z2 FI ⊢
  clear hw9 HZ KS y0 y1 y2 f0 f1 f2
  go_wp2_with fail
  refine bodyPost_ret (by simp[results,Tryz.results173,go_sem,z0,z1,z2];try rfl) rfl ?_
  exact⟨FI.out.1,.inr ⟨HJ.out,_,_,_,ts,mv,m,rfl,FI.out.2⟩⟩
 ·have bA1:=B1.out
  have k8:w1.heap[N]?=some (.cells #[.slice none 0 0,.slice none 0 0,.slice none 0 0] 47 (0,0)):=(bA1.block N HB.out.2.1).trans HB.out.2.2
  have y0:w1.cell? ⟨N,0,none⟩=some (.slice none 0 0):=S.M.qc k8 0
  have y1:w1.cell? ⟨N,1,none⟩=some (.slice none 0 0):=S.M.qc k8 1
  have y2:w1.cell? ⟨N,2,none⟩=some (.slice none 0 0):=S.M.qc k8 2
  have f0:w1.frozen? ⟨N,0,none⟩=false:=by simp[World.frozen?,k8]
  have f1:w1.frozen? ⟨N,1,none⟩=false:=by simp[World.frozen?,k8]
  have f2:w1.frozen? ⟨N,2,none⟩=false:=by simp[World.frozen?,k8]
  obtain⟨w9,hw9⟩:∃w9,w9=((w1.setCell ⟨N,0,none⟩ (.slice none 0 0)).setCell ⟨N,1,none⟩ (.slice none 0 0)).setCell ⟨N,2,none⟩ (.slice none 0 0):=⟨_,rfl⟩
  have k9:w9.heap[N]?=some (.cells #[.slice none 0 0,.slice none 0 0,.slice none 0 0] 47 (0,0)):=by rw[hw9];exact S.M.qj (S.M.qj (S.M.qj k8))
  have ch9:S.M.Ch (fun b=>b=N) w1 w9:=by rw[hw9];exact ((S.M.xu w1 N 0 _).trans (S.M.xu _ N 1 _)).trans (S.M.xu _ N 2 _)
  have hNA:=HB.out.2.1
  have BF:Hid (Below N w w9):=(HB.out.1.trans (bA1.mono (Nat.le_of_lt hNA))).trans (ch9.below (Nat.le_trans (Nat.le_of_lt hNA) bA1.size) fun b e=>by omega)
  have z0:w9.cell? ⟨N,0,none⟩=some (.slice none 0 0):=S.M.qc k9 0
  have z1:w9.cell? ⟨N,1,none⟩=some (.slice none 0 0):=S.M.qc k9 1
  have z2:w9.cell? ⟨N,2,none⟩=some (.slice none 0 0):=S.M.qc k9 2
  have HW9:Hid (w9=((w1.setCell ⟨N,0,none⟩ (.slice none 0 0)).setCell ⟨N,1,none⟩ (.slice none 0 0)).setCell ⟨N,2,none⟩ (.slice none 0 0)):=hw9
  clear hw9 k9 ch9 k8 bA1 hNA
  go_wp2_with fail
  rw[←HW9.out]
  clear HW9
  refine bodyPost_ret (by simp[results,Tryz.results173,go_sem,z0,z1,z2];try rfl) rfl ?_
  exact⟨BF.out,.inl ⟨by rw[HJ.out];exact hE,by rw[HJ.out];rfl⟩⟩
end F
namespace F
open S (qm)
open Go.Maps Go.RowKit Go.WideMaps
variable {tq:Nat} {isV:Int→Bool}
theorem qh5 (w:World)(T:Nat)(a:Option Addr)(n c:Nat)(l:List Pp)(p:Pp)(hc:w.cell? ⟨T,2,none⟩=some (.slice a n c))(hl:l.length=n)(hn:n≤1048576)(hA:q1c w a l) :
  Calls Tryz.prog 257 #[.pointer (some ⟨T,2,none⟩),.agg #[.int .i64 p.1,.int .i64 p.2]] w fun e w'=>e=.returned (.bool (q3b l p))∧Below w.heap.size w w':=by
 obtain⟨w1,hw1⟩:∃w1,w1=w.alloc (.cells #[.int .i64 p.1,.int .i64 p.2] 130):=⟨_,rfl⟩
 obtain⟨B,hB⟩:∃B,w.heap.size=B:=⟨_,rfl⟩
 have HW1:Hid (w1=w.alloc (.cells #[.int .i64 p.1,.int .i64 p.2] 130)):=hw1
 have HB:Hid (w.heap.size=B):=hB
 have b1:Below w.heap.size w w1:=by rw[hw1];exact qo _ _
 have k1:w1.heap[B]?=some (.cells #[.int .i64 p.1,.int .i64 p.2] 130 (0,0)):=by rw[hw1,←hB];exact heap_alloc_new w _
 have x0:w1.cell? ⟨B,0,none⟩=some (.int .i64 p.1):=S.M.qc k1 0
 have x1:w1.cell? ⟨B,1,none⟩=some (.int .i64 p.2):=S.M.qc k1 1
 have x2:w1.cell? ⟨T,2,none⟩=some (.slice a n c):=(b1.cell (p:=⟨T,2,none⟩) (World.block_lt_of_cell? _ _ hc)).trans hc
 have C:Hid (Calls Tryz.prog 220 #[.slice a n c,.agg #[.int .i64 p.1,.int .i64 p.2]] w1.drew fun e w'=>e=.returned (.bool (q3b l p))∧Below w1.heap.size w1.drew w'):=qik w1.drew a c n l p hl (by omega) ((hA.under b1).under (zu (Below.refl _ _) 1))
 have B1:Hid (Below w.heap.size w w1):=b1
 have SF:Hid (∀W,Below w1.heap.size w1.drew W→W.cell? ⟨B,0,none⟩=some (.int .i64 p.1)∧W.cell? ⟨B,1,none⟩=some (.int .i64 p.2)∧W.cell? ⟨T,2,none⟩=some (.slice a n c)):=fun W hW =>
  ⟨(hW.cell (p:=⟨B,0,none⟩) (World.block_lt_of_cell? _ _ x0)).trans x0,(hW.cell (p:=⟨B,1,none⟩) (World.block_lt_of_cell? _ _ x1)).trans x1,(hW.cell (p:=⟨T,2,none⟩) (World.block_lt_of_cell? _ _ x2)).trans x2⟩
 clear hw1 hB b1 k1 hc hl hA x0 x1 x2
 go_enter Tryz.func257,Tryz.ntmps257
 go_upto_region 1 with fail
 rw[←HW1.out,HB.out]
 clear HW1
 refine wp_region_held_drew (S:=fun w'=>w'.cell? ⟨B,0,none⟩=some (.int .i64 p.1)∧w'.cell? ⟨B,1,none⟩=some (.int .i64 p.2)∧w'.cell? ⟨T,2,none⟩=some (.slice a n c)) (by kernel_rfl) ?_ (fun hHeld=>?_)
 ·exact SF.out _ (Below.refl _ _)
 refine tk 0 ⟨some 5,.move (.tmp 0),288,"scope.go:75",#[],none⟩ ?_ hHeld ?_ ?_
 rotate_left
 ·(intro w hSw;(try dsimp only at hSw);go_simp;try with_reducible rfl)
 try simp only[Act.put,List.setIfInBounds_toArray,List.set_cons_zero,List.set_cons_succ]
 refine tk 1 ⟨some 6,.nilCheck (.tmp 5),0,"scope.go:75",#[⟨0,.data⟩],none⟩ ?_ hHeld ?_ ?_
 rotate_left
 ·(intro w hSw;(try dsimp only at hSw);go_simp;try with_reducible rfl)
 try simp only[Act.put,List.setIfInBounds_toArray,List.set_cons_zero,List.set_cons_succ]
 refine tk 2 ⟨some 7,.fieldAddr 223 (.tmp 6) 0,0,"scope.go:75",#[⟨1,.data⟩],none⟩ ?_ hHeld ?_ ?_
 rotate_left
 ·(intro w hSw;(try dsimp only at hSw);go_simp;try with_reducible rfl)
 try simp only[Act.put,List.setIfInBounds_toArray,List.set_cons_zero,List.set_cons_succ]
 refine tk 3 ⟨some 8,.load 45 (.tmp 7),45,"scope.go:75",#[⟨2,.data⟩],none⟩ ?_ hHeld ?_ ?_
 rotate_left
 ·(intro w hSw;(try dsimp only at hSw);go_simp;try with_reducible rfl)
 try simp only[Act.put,List.setIfInBounds_toArray,List.set_cons_zero,List.set_cons_succ]
 refine tk 4 ⟨some 9,.load 130 (.tmp 3),130,"scope.go:75",#[],none⟩ ?_ hHeld ?_ ?_
 rotate_left
 ·(intro w hSw;(try dsimp only at hSw);go_simp;try with_reducible rfl)
 try simp only[Act.put,List.setIfInBounds_toArray,List.set_cons_zero,List.set_cons_succ]
 refine wpAnyH_ready (rs:=[5]) (by kernel_rfl) (by simp) ?_
 refine AllReadyH.cons rfl (fun K hK=>?_) AllReadyH.nil
 go_simp
 go_at_call 220
 refine Calls.mono C.out ?_
 rintro e w2 ⟨rfl,hb2⟩
 have B2:Hid (Below w1.heap.size w1.drew w2):=hb2
 clear hb2 C
 try go_wp2_with fail
 refine hK.out _ _ ?_ (fun hHeld_5=>?_)
 ·exact SF.out _ B2.out
 clear hK K
 try simp only[Act.put,List.setIfInBounds_toArray,List.set_cons_zero,List.set_cons_succ]
 refine tk 6 ⟨some 4,.assign (.tmp 10),4,"scope.go:75",#[⟨5,.data⟩,⟨5,.chain⟩,⟨0,.phase⟩,⟨1,.phase⟩,⟨2,.phase⟩,⟨3,.phase⟩,⟨4,.phase⟩,⟨5,.phase⟩],none⟩ ?_ hHeld_5 ?_ ?_
 rotate_left
 ·(intro w hSw;(try dsimp only at hSw);go_simp;try with_reducible rfl)
 try simp only[Act.put,List.setIfInBounds_toArray,List.set_cons_zero,List.set_cons_succ]
 refine wpAnyH_done (by kernel_rfl) ?_ _
 go_wp2_with fail
 go_ret
 exact⟨rfl,B1.out.trans ((show Below w1.heap.size w1 w2 from (zu (Below.refl _ _) 1).trans B2.out).mono B1.out.size)⟩
theorem qer (w:World)(PB:Nat)(al:Option Addr)(nl cl mb:Nat)(a:Option Addr)(n c:Nat)(l:List Pp)(p:Pp)(h0:w.cell? ⟨PB,0,none⟩=some (.int .i64 p.1))(h1:w.cell? ⟨PB,1,none⟩=some (.int .i64 p.2))(hl:l.length=n)(hn:n≤1048576)(hA:q1c w a l) :
  Calls Tryz.prog 256 #[.agg #[.slice al nl cl,.map (some mb),.slice a n c],.pointer (some ⟨PB,0,none⟩)] w fun e w'=>e=.returned (.bool (q3b l p))∧Below w.heap.size w w':=by
 obtain⟨w1,hw1⟩:∃w1,w1=w.alloc (.cells #[.slice al nl cl,.map (some mb),.slice a n c] 225):=⟨_,rfl⟩
 obtain⟨B,hB⟩:∃B,w.heap.size=B:=⟨_,rfl⟩
 have HW1:Hid (w1=w.alloc (.cells #[.slice al nl cl,.map (some mb),.slice a n c] 225)):=hw1
 have HB:Hid (w.heap.size=B):=hB
 have b1:Below w.heap.size w w1:=by rw[hw1];exact qo _ _
 have k1:w1.heap[B]?=some (.cells #[.slice al nl cl,.map (some mb),.slice a n c] 225 (0,0)):=by rw[hw1,←hB];exact heap_alloc_new w _
 have x0:w1.cell? ⟨PB,0,none⟩=some (.int .i64 p.1):=(b1.cell (p:=⟨PB,0,none⟩) (World.block_lt_of_cell? _ _ h0)).trans h0
 have x1:w1.cell? ⟨PB,1,none⟩=some (.int .i64 p.2):=(b1.cell (p:=⟨PB,1,none⟩) (World.block_lt_of_cell? _ _ h1)).trans h1
 have C:Hid _:=qh5 w1 B a n c l p (S.M.qc k1 2) hl hn (hA.under b1)
 have B1:Hid (Below w.heap.size w w1):=b1
 clear hw1 hB b1 k1 h0 h1 hl hA
 go_enter Tryz.func256,Tryz.ntmps256
 go_upto_region 1 with fail
 rw[←HW1.out,HB.out]
 clear HW1
 go_wp2_with fail
 refine Calls.mono C.out ?_
 rintro e w2 ⟨rfl,hb2⟩
 have B2:Hid (Below w.heap.size w w2):=B1.out.trans (hb2.mono B1.out.size)
 clear hb2 C
 go_wp2
 go_ret
 exact⟨rfl,B2.out⟩
def q3c {α:Type}(p:α→Bool)(l:List α):Int:=match l.findIdx? p with | some i=>i | none=>-1
theorem q51 {α:Type}{p:α→Bool}{l:List α}(h:l.any p=false):q3c p l=-1:=by
 unfold q3c
 have:l.findIdx? p=none:=List.findIdx?_eq_none_iff.2 fun x hx=>by
  cases e:p x with
  | false=>rfl
  | true=>rw[List.any_eq_true.2 ⟨x,hx,e⟩] at h;cases h
 rw[this]
theorem q68 {α:Type}{p:α→Bool}{l:List α}{j:Nat}{x:α}(hx:l[j]?=some x)(hp:p x=true)(h:(l.take j).any p=false):q3c p l=j:=by
 unfold q3c
 have hj:j < l.length:=(List.getElem?_eq_some_iff.1 hx).1
 have he:l[j]=x:=(List.getElem?_eq_some_iff.1 hx).2
 have:l.findIdx? p=some j:=List.findIdx?_eq_some_iff_getElem.2 ⟨hj,by rw[he];exact hp,fun i hi=>by
  rw[List.any_eq_false] at h
  exact h _ (List.mem_iff_getElem.2 ⟨i,by rw[List.length_take];omega,by rw[List.getElem_take]⟩)⟩
 rw[this]
theorem qa3 {α:Type}{p:α→Bool}{l:List α}{j:Nat}{x:α}(hx:l[j]?=some x)(hp:p x=false)(h:(l.take j).any p=false):(l.take (j + 1)).any p=false:=by
 rw[List.take_add_one,hx,List.any_append,h]
 simp[hp]
theorem qa4 {α:Type}(p:α→Bool)(l:List α):decide (0≤q3c p l)=l.any p:=by
 cases h:l.any p with
 | false=>rw[q51 h];rfl
 | true =>
  unfold q3c
  cases hf:l.findIdx? p with
  | none =>
   rw[List.findIdx?_eq_none_iff] at hf
   obtain⟨x,hx,e⟩:=List.any_eq_true.1 h
   rw[hf x hx] at e
   cases e
  | some i=>exact decide_eq_true (by show (0:Int)≤(i:Int);omega)
theorem qes (w:World) (F:Int→Bool) (PB:Nat) (a:Option Addr) (n c:Nat) (l:List Int) (hl:l.length=n) (hn:n≤17592186043904) (hA:q1a w a l)
  (hF:∀W,Below w.heap.size w W→∀x ∈ l,Calls Tryz.prog 222 #[.int .i64 x,.pointer (some ⟨PB,0,none⟩)] W fun e W'=>e=.returned (.bool (F x))∧Below W.heap.size W W') :
  Calls Tryz.prog 252 #[.slice a n c,.func (.func 222) #[] #[.pointer (some ⟨PB,0,none⟩)]] w fun e w'=>e=.returned (.int .i64 (q3c F l))∧Below w.heap.size w w':=by
 have HL:Hid (l.length=n):=hl
 have HA:Hid _:=hA
 have HF:Hid _:=hF
 clear hl hA hF
 go_enter Tryz.func252,Tryz.ntmps252
 go_wp2_with fail
 go_loopw [8] (fun v8 wx=>∃j:Nat,j≤n∧v8=.int .i64 j∧Hid ((l.take j).any F=false)∧Hid (Below w.heap.size w wx)) (fun v8 _=>n - (intOf v8).toNat)
 case atStart=>exact⟨0,Nat.zero_le _,rfl,rfl,Below.refl _ _⟩
 case round =>
  obtain⟨j,hj,rfl,hN,hB⟩:=hrel
  by_cases hlt:j < n
  ·have n1:(j:Int) < (n:Int):=by omega
   obtain⟨x,hx⟩:∃x,l[j]?=some x:=⟨_,List.getElem?_eq_getElem (by rw[HL.out];exact hlt)⟩
   obtain⟨g,off,rfl,y0⟩:=(q1a.under HA.out hB.out) j x hx
   have CF:Hid _:=HF.out wr hB.out x (List.mem_of_getElem? hx)
   cases e1:F x with
   | false =>
    rw[e1] at CF
    have N2:Hid ((l.take (j + 1)).any F=false):=qa3 hx e1 hN.out
    clear hx e1 hN
    go_wp2_with fail
    refine Calls.mono CF.out ?_
    rintro e w2 ⟨rfl,hb2⟩
    have B2:Hid (Below w.heap.size w w2):=hB.out.trans (hb2.mono hB.out.size)
    clear hb2 CF
    go_wp2
    exact⟨⟨j + 1,by omega,by go_num,N2.out,B2.out⟩,by simp[intOf];omega⟩
   | true =>
    rw[e1] at CF
    have N2:Hid (q3c F l=(j:Int)):=q68 hx e1 hN.out
    clear hx e1 hN
    go_wp2_with fail
    refine Calls.mono CF.out ?_
    rintro e w2 ⟨rfl,hb2⟩
    have B2:Hid (Below w.heap.size w w2):=hB.out.trans (hb2.mono hB.out.size)
    clear hb2 CF
    go_wp2
    go_ret
    exact⟨by rw[N2.out];rfl,B2.out⟩
  ·have n1:¬(j:Int) < (n:Int):=by omega
   have N2:Hid (q3c F l=-1):=by
    have h:=hN.out
    rw[List.take_of_length_le (by rw[HL.out];omega)] at h
    exact q51 h
   clear hN
   go_wp2
   go_ret
   exact⟨by rw[N2.out];rfl,hB.out⟩
theorem qa5 (w:World) (F:Int→Bool) (PB:Nat) (a:Option Addr) (n c:Nat) (l:List Int) (hl:l.length=n) (hn:n≤17592186043904) (hA:q1a w a l)
  (hF:∀W,Below w.heap.size w W→∀x ∈ l,Calls Tryz.prog 222 #[.int .i64 x,.pointer (some ⟨PB,0,none⟩)] W fun e W'=>e=.returned (.bool (F x))∧Below W.heap.size W W') :
  Calls Tryz.prog 221 #[.slice a n c,.func (.func 222) #[] #[.pointer (some ⟨PB,0,none⟩)]] w fun e w'=>e=.returned (.bool (l.any F))∧Below w.heap.size w w':=by
 have CC:Hid _:=qes w F PB a n c l hl hn hA hF
 have HE:Hid (decide (0≤q3c F l)=l.any F):=qa4 F l
 obtain⟨i,hi⟩:∃i,q3c F l=i:=⟨_,rfl⟩
 rw[hi] at CC HE
 clear hl hn hA hF hi
 go_enter Tryz.func221,Tryz.ntmps221
 go_wp2_with fail
 refine Calls.mono CC.out ?_
 rintro e w1 ⟨rfl,hb⟩
 have HB:Hid (Below w.heap.size w w1):=hb
 clear CC hb
 go_wp2
 go_ret
 exact⟨by rw[←HE.out];rfl,HB.out⟩
theorem qet (w:World) (F:ScC→Bool) (O:Nat→Prop) (PB:Nat) (a:Option Addr) (n c:Nat) (l:List ScC) (hl:l.length=n) (hn:n≤1048576) (hA:w.ownsRow 0 225 3 (.slice a n c) n (uq l)∧∀x ∈ l,q5r O w x)
  (hF:∀W,Below w.heap.size w W→∀x ∈ l,Calls Tryz.prog 256 #[.agg #[x.vl,.map (some x.mb),x.vp],.pointer (some ⟨PB,0,none⟩)] W fun e W'=>e=.returned (.bool (F x))∧Below W.heap.size W W') :
  Calls Tryz.prog 273 #[.slice a n c,.func (.func 256) #[] #[.pointer (some ⟨PB,0,none⟩)]] w fun e w'=>e=.returned (.int .i64 (q3c F l))∧Below w.heap.size w w':=by
 have HL:Hid (l.length=n):=hl
 have HA:Hid _:=hA
 have HF:Hid _:=hF
 clear hl hA hF
 go_enter Tryz.func273,Tryz.ntmps273
 go_wp2_with fail
 go_loopw [8] (fun v8 wx=>∃j:Nat,j≤n∧v8=.int .i64 j∧Hid ((l.take j).any F=false)∧Hid (Below w.heap.size w wx)) (fun v8 _=>n - (intOf v8).toNat)
 case atStart=>exact⟨0,Nat.zero_le _,rfl,rfl,Below.refl _ _⟩
 case round =>
  obtain⟨j,hj,rfl,hN,hB⟩:=hrel
  by_cases hlt:j < n
  ·have n1:(j:Int) < (n:Int):=by omega
   obtain⟨x,hx⟩:∃x,l[j]?=some x:=⟨_,List.getElem?_eq_getElem (by rw[HL.out];exact hlt)⟩
   have hrow:wr.ownsRow 0 225 3 (.slice a n c) n (uq l):=S.M.qh HA.out.1 (S.M.Ch.of_below (X:=fun _=>False) hB.out) fun _ _ e=>e
   obtain⟨g,c',e,_,_,_⟩:=S.M.q0f hrow (by omega)
   cases e
   obtain⟨y0,y1,y2⟩:=q82 hrow j x hx
   have CF:Hid _:=HF.out wr hB.out x (List.mem_of_getElem? hx)
   have hok:=HA.out.2 x (List.mem_of_getElem? hx)
   obtain⟨al,cl,el,_⟩:=qm hok.l
   obtain⟨ap,cp,ep,_⟩:=qm hok.p
   rw[el] at y0 CF
   rw[ep] at y2 CF
   obtain⟨nh,hnh⟩:∃nh,x.hs.length=nh:=⟨_,rfl⟩
   obtain⟨np,hnp⟩:∃np,x.ps.length=np:=⟨_,rfl⟩
   obtain⟨mb,hmb⟩:∃mb,x.mb=mb:=⟨_,rfl⟩
   rw[hnh] at y0 CF
   rw[hmb] at y1 CF
   rw[hnp] at y2 CF
   clear hok el ep hnh hnp hmb hrow
   cases e1:F x with
   | false =>
    rw[e1] at CF
    have N2:Hid ((l.take (j + 1)).any F=false):=qa3 hx e1 hN.out
    clear hx e1 hN
    go_wp2_with fail
    refine Calls.mono CF.out ?_
    rintro e w2 ⟨rfl,hb2⟩
    have B2:Hid (Below w.heap.size w w2):=hB.out.trans (hb2.mono hB.out.size)
    clear hb2 CF
    go_wp2
    exact⟨⟨j + 1,by omega,by go_num,N2.out,B2.out⟩,by simp[intOf];omega⟩
   | true =>
    rw[e1] at CF
    have N2:Hid (q3c F l=(j:Int)):=q68 hx e1 hN.out
    clear hx e1 hN
    go_wp2_with fail
    refine Calls.mono CF.out ?_
    rintro e w2 ⟨rfl,hb2⟩
    have B2:Hid (Below w.heap.size w w2):=hB.out.trans (hb2.mono hB.out.size)
    clear hb2 CF
    go_wp2
    go_ret
    exact⟨by rw[N2.out];rfl,B2.out⟩
  ·have n1:¬(j:Int) < (n:Int):=by omega
   have N2:Hid (q3c F l=-1):=by
    have h:=hN.out
    rw[List.take_of_length_le (by rw[HL.out];omega)] at h
    exact q51 h
   clear hN
   go_wp2
   go_ret
   exact⟨by rw[N2.out];rfl,hB.out⟩
theorem qa6 (w:World) (F:ScC→Bool) (O:Nat→Prop) (PB:Nat) (a:Option Addr) (n c:Nat) (l:List ScC) (hl:l.length=n) (hn:n≤1048576) (hA:w.ownsRow 0 225 3 (.slice a n c) n (uq l)∧∀x ∈ l,q5r O w x)
  (hF:∀W,Below w.heap.size w W→∀x ∈ l,Calls Tryz.prog 256 #[.agg #[x.vl,.map (some x.mb),x.vp],.pointer (some ⟨PB,0,none⟩)] W fun e W'=>e=.returned (.bool (F x))∧Below W.heap.size W W') :
  Calls Tryz.prog 255 #[.slice a n c,.func (.func 256) #[] #[.pointer (some ⟨PB,0,none⟩)]] w fun e w'=>e=.returned (.bool (l.any F))∧Below w.heap.size w w':=by
 have CC:Hid _:=qet w F O PB a n c l hl hn hA hF
 have HE:Hid (decide (0≤q3c F l)=l.any F):=qa4 F l
 obtain⟨i,hi⟩:∃i,q3c F l=i:=⟨_,rfl⟩
 rw[hi] at CC HE
 clear hl hn hA hF hi
 go_enter Tryz.func255,Tryz.ntmps255
 go_wp2_with fail
 refine Calls.mono CC.out ?_
 rintro e w1 ⟨rfl,hb⟩
 have HB:Hid (Below w.heap.size w w1):=hb
 clear CC hb
 go_wp2
 go_ret
 exact⟨by rw[←HE.out];rfl,HB.out⟩
theorem qnb (xs:List ScC)(p:Pp):(xs.any fun x=>q3b x.ps p)=q3b (q0j xs) p:=by
 unfold q3b q0j
 rw[List.any_flatMap]
theorem qeu (w:World)(O:Nat→Prop)(P:Nat)(vS:Value)(xs:List ScC)(p:Pp)(h:qw tq O w P vS xs)(hn:xs.length≤1048576)(hq:(q0j xs).length≤1048576) :
  Calls Tryz.prog 225 #[.pointer (some ⟨P,0,none⟩),.agg #[.int .i64 p.1,.int .i64 p.2]] w fun e w'=>e=.returned (.bool (q3b (q0j xs) p))∧Below w.heap.size w w':=by
 obtain⟨w1,hw1⟩:∃w1,w1=w.alloc (.cells #[.int .i64 p.1,.int .i64 p.2] 130):=⟨_,rfl⟩
 obtain⟨B,hB⟩:∃B,w.heap.size=B:=⟨_,rfl⟩
 have HW1:Hid (w1=w.alloc (.cells #[.int .i64 p.1,.int .i64 p.2] 130)):=hw1
 have HB:Hid (w.heap.size=B):=hB
 have b1:Below w.heap.size w w1:=by rw[hw1];exact qo _ _
 have k1:w1.heap[B]?=some (.cells #[.int .i64 p.1,.int .i64 p.2] 130 (0,0)):=by rw[hw1,←hB];exact heap_alloc_new w _
 have hS:=h.below b1
 obtain⟨a,c,rfl,_⟩:=qm h.row
 have x1:=hS.cells.2
 have c0:w1.cell? ⟨B,0,none⟩=some (.int .i64 p.1):=S.M.qc k1 0
 have c1:w1.cell? ⟨B,1,none⟩=some (.int .i64 p.2):=S.M.qc k1 1
 have C:Hid _:=qa6 w1 (fun x=>q3b x.ps p) O B a xs.length c xs rfl hn ⟨hS.row,hS.each⟩ (fun W hW x hx=>by
  have hok:=(hS.below hW).each x hx
  obtain⟨al,cl,el,_⟩:=qm hok.l
  obtain⟨ap,cp,ep,_⟩:=qm hok.p
  rw[el,ep]
  refine qer W B al _ cl x.mb ap _ cp x.ps p ((hW.cell (p:=⟨B,0,none⟩) (World.block_lt_of_cell? _ _ c0)).trans c0) ((hW.cell (p:=⟨B,1,none⟩) (World.block_lt_of_cell? _ _ c1)).trans c1) rfl ?_ (q50 (by have h:=hok.p;rw[ep] at h;exact h))
  refine Nat.le_trans ?_ hq
  unfold q0j
  obtain⟨s,t,e⟩:=List.append_of_mem hx
  rw[e,List.flatMap_append,List.flatMap_cons,List.length_append,List.length_append]
  omega)
 rw[qnb] at C
 have B1:Hid (Below w.heap.size w w1):=b1
 generalize xs.length=n at *
 clear hw1 hB b1 k1 h hS hq c0 c1
 go_enter Tryz.func225,Tryz.ntmps225
 go_upto_region 1 with fail
 rw[←HW1.out,HB.out]
 clear HW1
 go_wp2_with fail
 refine Calls.mono C.out ?_
 rintro e w2 ⟨rfl,hb2⟩
 have B2:Hid (Below w.heap.size w w2):=B1.out.trans (hb2.mono B1.out.size)
 clear hb2 C
 go_wp2
 go_ret
 exact⟨rfl,B2.out⟩
theorem qev (w:World)(O:Nat→Prop)(P PB:Nat)(vS:Value)(xs:List ScC)(x:Int)(h:qw tq O w P vS xs)(hV:q2w tq isV w)(hp:w.cell? ⟨PB,0,none⟩=some (.pointer (some ⟨P,0,none⟩))) :
  Calls Tryz.prog 222 #[.int .i64 x,.pointer (some ⟨PB,0,none⟩)] w fun e w'=>e=.returned (.bool (!isV x))∧Below w.heap.size w w':=by
 have x0:=h.cells.1
 unfold q17 at x0
 have V:Hid _:=hV w x (Below.refl _ _)
 clear h hV
 go_enter Tryz.func222,Tryz.ntmps222
 go_wp2_with fail
 refine Calls.mono V.out ?_
 rintro e w2 ⟨rfl,hb2⟩
 have B2:Hid (Below w.heap.size w w2):=hb2
 clear hb2
 go_wp2
 go_ret
 exact⟨rfl,B2.out⟩
end F
end Go.Proofs.YtbancemhfjjmlaaGreatDoor
