/- Laid together. -/
import Derived.Test.YtbancemhfjjmlaaGreatDoorQF14
set_option maxRecDepth 100000
set_option maxHeartbeats 32000000
namespace Go.Proofs.YtbancemhfjjmlaaGreatDoor
namespace B
open Go.RowKit Go.Maps Go.WideMaps
open F (jr jh HyC Pp je q4j q6w zq)
section
variable {N:Nat} {w:World} {lb:Nat} {txt:ByteArray} {k:Nat} {L:Ld} {nf:ByteArray→Option Nat} {m:LdM}
theorem qp8 (h:xk N w lb txt k L nf m)(hT:L.T.syms.length≤512)(i N0:Nat)(hy:List F.Hy)(a:As)(a1 a2 a3 a4 a5 a6:Option Addr)(n1 n2 n3 n4 n5 n6 c1 c2 c3 c4 c5 c6:Nat)(ts us:List HyC)(hp:Parts N0 w hy a a1 a2 a3 a4 a5 a6 n1 n2 n3 n4 n5 n6 c1 c2 c3 c4 c5 c6 ts us)(hq:qga L.T a ts us) :
  Calls Tryz.prog 20 #[.pointer (some ⟨m.Bb,0,none⟩),.agg #[.int .i64 (i:Nat),.string a.label.text,.bool a.thm,.slice a1 n1 c1,.slice a2 n2 c2,.slice a3 n3 c3,.slice a4 n4 c4,.slice a5 n5 c5,.slice a6 n6 c6,.string a.label.text,.int .i64 a.label.off,.int .i64 a.label.line,.int .i64 a.label.col,.string a.fin.text,.int .i64 a.fin.off,.int .i64 a.fin.line,.int .i64 a.fin.col]] w fun r w'=>r=.returned (.bool true)∧Below w.heap.size w w':=by
 obtain⟨iN,hiN,iNz,iNs,iNb⟩:=info_parts F.q5u;obtain⟨w1,hw1⟩:=eXa (w.alloc (.cells #[.int .i64 (i:Nat),.string a.label.text,.bool a.thm,.slice a1 n1 c1,.slice a2 n2 c2,.slice a3 n3 c3,.slice a4 n4 c4,.slice a5 n5 c5,.slice a6 n6 c6,.string a.label.text,.int .i64 a.label.off,.int .i64 a.label.line,.int .i64 a.label.col,.string a.fin.text,.int .i64 a.fin.off,.int .i64 a.fin.line,.int .i64 a.fin.col] 51));have HW1:=hid hw1;obtain⟨R,hR⟩:=eXb w.heap.size;have HR:=hid hR;have k1:w1.heap[R]?=some (.cells #[.int .i64 (i:Nat),.string a.label.text,.bool a.thm,.slice a1 n1 c1,.slice a2 n2 c2,.slice a3 n3 c3,.slice a4 n4 c4,.slice a5 n5 c5,.slice a6 n6 c6,.string a.label.text,.int .i64 a.label.off,.int .i64 a.label.line,.int .i64 a.label.col,.string a.fin.text,.int .i64 a.fin.off,.int .i64 a.fin.line,.int .i64 a.fin.col] 51 (0,0)):=by rw[hw1,←hR];exact World.alloc_heap_new w _
 have b1:Below w.heap.size w w1:=by rw[hw1];exact S.qg _ _
 obtain⟨N1,hN1⟩:=eXb w1.heap.size;have HN1:=hid hN1;have B1:=hid b1;have IV:Hid (∀wx,Below w1.heap.size w1 wx→∀x,Calls Tryz.prog 23 #[.pointer (some ⟨m.Bb,0,none⟩),.int .i64 x] wx fun e w'=>e=.returned (.bool (zu L.T x))∧Below wx.heap.size wx w'):=fun wx hb x=>q5y ((h.below b1).below hb) (by omega) x
 have SL:Hid (∀wx,Below w1.heap.size w1 wx→wx.cell? ⟨R,3,none⟩=some (.slice a1 n1 c1)∧wx.cell? ⟨R,4,none⟩=some (.slice a2 n2 c2)∧wx.cell? ⟨R,5,none⟩=some (.slice a3 n3 c3)∧wx.cell? ⟨R,6,none⟩=some (.slice a4 n4 c4)∧wx.cell? ⟨R,7,none⟩=some (.slice a5 n5 c5)):=fun wx hb=>⟨qm hb (S.M.qc k1 3),qm hb (S.M.qc k1 4),qm hb (S.M.qc k1 5),qm hb (S.M.qc k1 6),qm hb (S.M.qc k1 7)⟩
 have P1:AtT N0 w1 hy a (.slice a1 n1 c1) (.slice a2 n2 c2) (.slice a3 n3 c3) (.slice a4 n4 c4) (.slice a5 n5 c5) (.slice a6 n6 c6) ts us:=hp.at'.below b1;have HA1:Hid (∀wx,Below w1.heap.size w1 wx→q2x wx a1 ts∧jh wx a2 a.apart∧jr wx a3 a.goal∧q2x wx a4 us∧jh wx a5 a.pairs):=fun wx hb=>by
  obtain⟨b1,d1,e1,_,q1⟩:=q72 P1.fr.t;obtain⟨b3,d3,e3,_,q3⟩:=F.q1p P1.fr.g;obtain⟨b4,d4,e4,_,q4⟩:=q72 P1.sc.t
  cases e1
  cases e3
  cases e4;have q2:=F.q29 (l:=a.apart) (by have h2:=P1.fr.p;rw[hp.l2] at h2;exact h2);have q5:=F.q29 (l:=a.pairs) (by have h2:=P1.sc.p;rw[hp.l5] at h2;exact h2);exact⟨q1.under hb,q2.under hb,q3.under hb,q4.under hb,q5.under hb⟩
 have UE:Hid (∀wx,Below w1.heap.size w1 wx→∀y ∈ us,wx.ownsRow N0 3 1 y.ve y.h.ex.length (zq y.h.ex)):=fun wx hb y hy=>(P1.sc.t.below hb).e y hy
 have NP:=hid hq;have LN:Hid (ts.length=n1∧a.apart.length=n2∧a.goal.length=n3∧us.length=n4∧a.pairs.length=n5):=⟨hp.l1,hp.l2,hp.l3,hp.l4,hp.l5⟩;have LB:Hid (n1≤1024∧n2≤1048576∧n3≤200∧n4≤1024∧n5≤1048576∧(je us).length≤204800):=by
  have f1:=congrArg List.length hq.f;rw[lMa,lMa] at f1;have f2:=List.length_filter_le (gu a.goal us) us;have f3:=congrArg List.length hq.m;have f4:=List.length_filter_le (q42 (yg (us.filter (gu a.goal us)))) a.pairs;have f5:=hq.l;have f6:=qk2 us hq.e;have:=hp.l1;have:=hp.l2;have:=hp.l3;have:=hp.l4;have:=hp.l5
  refine⟨?_,?_,?_,?_,?_,?_⟩ <;> omega
 generalize m.Bb=Bb at *;generalize L.T=TT at *;have nb1:n1≤1024:=LB.out.1;have nb2:n2≤1048576:=LB.out.2.1;have nb3:n3≤200:=LB.out.2.2.1;have nb4:n4≤1024:=LB.out.2.2.2.1;have nb5:n5≤1048576:=LB.out.2.2.2.2.1;clear h hT hw1 k1 b1 P1 hp hq;rw[hN1] at IV SL HA1 UE;clear hN1;go_enter Tryz.func20,Tryz.ntmps20;go_upto_region 1 with fail;rw[←HW1.out];clear HW1 hR;go_wp2_with fail
 go_loopw [5,6] (fun v5 v6 wx=>∃j:Nat,j≤n3∧v6=.int .i64 j∧Hid (wx.ownsRow N1 3 1 v5 j (zq (a.goal.take j)))∧Hid (Below N1 w1 wx)) (fun _ v6 _=>n3 - (intOf v6).toNat)
 case atStart=>exact⟨0,Nat.zero_le _,rfl,World.ownsRow_nil _ _ _ _,bRf⟩
 case round =>
  obtain⟨j,hj,rfl,hU,hB⟩:=hrel;obtain⟨s1,s2,s3,s4,s5⟩:=SL.out wr hB.out;have HNr:N1≤wr.heap.size:=by have h1:=hB.out.size;have h2:=HN1.out;omega
  by_cases hlt:j < n3
  ·have m1:(j:Int) < (n3:Int):=by omega
   obtain⟨x,hx⟩:∃x,a.goal[j]?=some x:=⟨_,gEq (by rw[LN.out.2.2.1];exact hlt)⟩;obtain⟨g,o,rfl,y0⟩:=(HA1.out wr hB.out).2.2.1 j x hx;have HF:Hid (zq (a.goal.take (j + 1))=zq (a.goal.take j)++[.int .i64 x]):=by show _=_;rw[List.take_add_one,hx,F.q0p];rfl
   have HNR:=hid HNr;clear hx s1 s2 s4 s5 HNr
   go_wp2_with (at_builtin;refine wpList_append_lies (w:=wr.alloc (.cells #[.int .i64 x] 3)) rfl _ _ 38 rfl N1 3 iN _ 1 8 Tryz.underlying38 hiN iNz iNs iNb rfl (by decide) _ j (zq (a.goal.take j)) (by rfl) (S.M.zk hU.out _) ⟨wr.heap.size,0,none⟩ 1 1 [.int .i64 x] (by rfl) (by rfl) (World.news_of_block (cs:=#[.int .i64 x]) (t:=3) (fr:=(0,0)) (World.alloc_heap_new wr _)) (by simp[Value.oneCell']) (by omega) (by unfold maxLen;omega) (by omega) (nLt HNR.out (S.qg wr _).size) _ rfl ?_;intro gg cap' w8 hown8 hgrow hat hlt8;have O8:Hid (w8.ownsRow N1 3 1 (.slice (some ⟨gg,0,none⟩) (j + 1) cap') (j + 1) (zq (a.goal.take (j + 1)))):=(by show World.ownsRow _ _ _ _ _ _ _;rw[HF.out];exact hown8);have B8:Hid (Below N1 w1 w8):=(hB.out.alloc HNR.out _).grown hgrow (nLt HNR.out (S.qg wr _).size) fun b e=>S.M.zh hU.out b e;clear hown8 hgrow hat hlt8)
   exact⟨⟨j + 1,by omega,by go_num,O8.out,B8.out⟩,by simp[intOf];omega⟩
  ·have m1:¬(j:Int) < (n3:Int):=by omega
   obtain rfl:j=n3:=by omega
   have VG:Hid (wr.ownsRow N1 3 1 u5 j (zq a.goal)):=by have h2:=hU.out;rw[List.take_of_length_le (Nat.le_of_eq LN.out.2.2.1)] at h2;exact h2
   have BG:=hid hB;clear hU hB s1 s2 s4 s5 HNr;go_wp2_with fail
   go_loopw [5,7] (fun v5 v7 wx=>∃(i2 kk:Nat),i2≤n4∧v7=.int .i64 i2∧kk≤205000∧Hid ((a.goal++je (us.take i2)).length=kk)∧Hid (wx.ownsRow N1 3 1 v5 kk (zq (a.goal++je (us.take i2))))∧Hid (Below N1 w1 wx)) (fun _ v7 _=>n4 - (intOf v7).toNat)
   case atStart =>
    have e0:je (us.take 0)=[]:=rfl;refine⟨0,j,Nat.zero_le _,rfl,by omega,?_,?_,BG.out⟩
    ·show _=_;rw[e0,List.append_nil];exact LN.out.2.2.1
    ·show World.ownsRow _ _ _ _ _ _ _;rw[e0,List.append_nil];exact VG.out
   case round =>
    obtain⟨i2,kk,hj2,rfl,hkk,hK,hU,hB⟩:=hrel;obtain⟨s1,s2,s3,s4,s5⟩:=SL.out wr hB.out;have HNr:N1≤wr.heap.size:=by have h1:=hB.out.size;have h2:=HN1.out;omega
    by_cases hlt2:i2 < n4
    ·have m2:(i2:Int) < (n4:Int):=by omega
     obtain⟨y,hy1⟩:∃y,us[i2]?=some y:=⟨_,gEq (by rw[LN.out.2.2.2.1];exact hlt2)⟩;obtain⟨g,rfl,y0,y1,y2,ae,ce,y3,_,hve⟩:=(HA1.out wr hB.out).2.2.2.1 i2 y hy1;have her:=UE.out wr hB.out y (mGe hy1);rw[hve] at her;have WT:=q4j hy1;have hle:=q6w us (i2 + 1);have hel:=LB.out.2.2.2.2.2;obtain⟨ne,hne⟩:=eXb y.h.ex.length;rw[hne] at y3 her;have KK:=hK.out;rw[lAp,LN.out.2.2.1] at KK;obtain⟨⟨lab,fl,var,ex⟩,ve⟩:=y;dsimp only at *
     cases fl with
     | true =>
      have E2:Hid (je (us.take (i2 + 1))=je (us.take i2)):=by show _=_;rw[WT];simp
      have U2:Hid (wr.ownsRow N1 3 1 u5 kk (zq (a.goal++je (us.take (i2 + 1))))∧(a.goal++je (us.take (i2 + 1))).length=kk):=by rw[E2.out];exact⟨hU.out,hK.out⟩
      clear WT E2 hU hK KK hle hel hne her hy1 hve s1 s2 s3 s5 y0 y2 y3
      go_wp2
      exact⟨⟨i2 + 1,kk,by omega,by go_num,by omega,U2.out.2,U2.out.1,hB.out⟩,by simp[intOf];omega⟩
     | false =>
      have E2:Hid (je (us.take (i2 + 1))=je (us.take i2)++ex):=by show _=_;rw[WT];simp
      have hkn:kk + ne≤205000:=by
       rw[E2.out,lAp] at hle;omega
      have K2:Hid ((a.goal++je (us.take (i2 + 1))).length=kk + ne):=by show _=_;rw[E2.out,←List.append_assoc,lAp,hK.out,hne]
      have HF:Hid (zq (a.goal++je (us.take (i2 + 1)))=zq (a.goal++je (us.take i2))++zq ex):=by show _=_;rw[E2.out,←List.append_assoc,F.q0p]
      have EA:Hid (wr.ownsRow N0 3 1 (.slice ae ne ce) ne (zq ex)∧(zq ex).length=ne * 1):=⟨her,by unfold zq;rw[lMa,hne];omega⟩;have HNR:=hid HNr;clear WT E2 hK KK hle hel hne her hy1 hve s1 s2 s3 s5 y0 y2 HNr
      go_wp2_with (at_builtin;refine S.jf (w:=wr) rfl _ _ 38 rfl N1 3 iN _ 1 8 Tryz.underlying38 hiN iNz iNs iNb rfl (by decide) _ kk (zq (a.goal++je (us.take i2))) (by rfl) hU.out ae ne ce (zq ex) (by rfl) EA.out.2 (F.q1f EA.out.1) (F.qas _) (by unfold maxLen;omega) (by omega) HNR.out ?_;intro a8 c8 w8 ho8 hb8;have O8:Hid (w8.ownsRow N1 3 1 (.slice a8 (kk + ne) c8) (kk + ne) (zq (a.goal++je (us.take (i2 + 1))))):=(by show World.ownsRow _ _ _ _ _ _ _;rw[HF.out];exact ho8);have B8:Hid (Below N1 w1 w8):=hB.out.trans hb8;clear ho8 hb8)
      exact⟨⟨i2 + 1,kk + ne,by omega,by go_num,by omega,K2.out,O8.out,B8.out⟩,by simp[intOf];omega⟩
    ·have m2:¬(i2:Int) < (n4:Int):=by omega
     have hall:us.take i2=us:=List.take_of_length_le (by rw[LN.out.2.2.2.1];omega);have h1:=hU.out;have h2:=hK.out;rw[hall] at h1 h2;obtain⟨av,cv,rfl,_,hvs⟩:=F.q1p h1;have HKK:=hid h2;obtain⟨wr0,hwr0⟩:=eXa wr;rw[←hwr0];rw[←hwr0] at hB HNr hvs;have VS:Hid (∀wx,Below wr0.heap.size wr0 wx→jr wx av (a.goal++je us)):=fun wx hb=>hvs.under hb
     have B3:=hid hB;have HN3:=hid HNr;clear hU hK hall h1 h2 hvs hB BG VG s1 s2 s3 s4 s5 HNr hwr0;obtain⟨_,_,_,s4,_⟩:=SL.out wr0 B3.out;go_wp2_with fail
     go_loopw [8,9,10] (fun v8 v9 v10 wx=>∃(i3 q mq:Nat),i3≤n4∧v10=.int .i64 i3∧v8=.int .i64 q∧q≤1024∧mq≤1024∧Hid (((us.take i3).filter (gu a.goal us)).length=q)∧Hid ((yg ((us.take i3).filter (gu a.goal us))).length=mq)∧Hid (wx.ownsRow wr0.heap.size 3 1 v9 mq (zq (yg ((us.take i3).filter (gu a.goal us)))))∧Hid (Below wr0.heap.size wr0 wx)) (fun _ _ v10 _=>n4 - (intOf v10).toNat)
     case atStart=>exact⟨0,0,0,Nat.zero_le _,rfl,rfl,Nat.zero_le _,Nat.zero_le _,rfl,rfl,World.ownsRow_nil _ _ _ _,bRf⟩
     case round =>
      obtain⟨i3,q,mq,hj3,rfl,rfl,hqb,hmqb,hQ,hMQ,hMO,hB⟩:=hrel;have BR1:Hid (Below N1 w1 wr):=B3.out.trans (hB.out.mono HN3.out);have HNr:Hid (N1≤wr.heap.size):=nLt HN3.out hB.out.size
      by_cases hlt3:i3 < n4
      ·have m3:(i3:Int) < (n4:Int):=by omega
       obtain⟨y,hy1⟩:∃y,us[i3]?=some y:=⟨_,gEq (by rw[LN.out.2.2.2.1];exact hlt3)⟩;obtain⟨s1,s2,s3,s4,s5⟩:=SL.out wr BR1.out;obtain⟨g,rfl,y0,y1,y2,ae,ce,y3,hny0,hve⟩:=(HA1.out wr BR1.out).2.2.2.1 i3 y hy1;obtain⟨⟨lab,fl,var,ex⟩,ve⟩:=y;dsimp only at *;obtain⟨ne,hne⟩:=eXb ex.length;rw[hne] at y3;obtain⟨Bx,hBx⟩:=eXb wr.heap.size;have HBX:=hid hBx;obtain⟨wa,hwa⟩:=eXa (wr.alloc (.cells #[.string lab,.bool fl,.int .i64 var,.slice ae ne ce] 57));have HWA:=hid hwa;have ba:Below wr.heap.size wr wa:=by rw[hwa];exact S.qg _ _
       have ka:wa.heap[Bx]?=some (.cells #[.string lab,.bool fl,.int .i64 var,.slice ae ne ce] 57 (0,0)):=by rw[hwa,←hBx];exact World.alloc_heap_new wr _
       have z0:wa.cell? ⟨Bx,0,none⟩=some (.string lab):=S.M.qc ka 0;have z1:wa.cell? ⟨Bx,1,none⟩=some (.bool fl):=S.M.qc ka 1;have z2:wa.cell? ⟨Bx,2,none⟩=some (.int .i64 var):=S.M.qc ka 2;have z3:wa.cell? ⟨Bx,3,none⟩=some (.slice ae ne ce):=S.M.qc ka 3;have BA:Hid (Below N1 w1 wa):=BR1.out.trans (ba.mono HNr.out);have BA3:=bTr hB ba;have hny:jr wa ae ex:=hny0.under ba;have WI:Hid (∀W,Below wa.heap.size wa W→Calls Tryz.prog 69 #[.slice av kk cv,.int .i64 var] W fun e w'=>e=.returned (.bool (q3f (a.goal++je us) var))∧w'=W):=fun W hW=>q7j W av kk cv (a.goal++je us) var HKK.out (by omega) ((VS.out wa BA3.out).under hW)
       have MA:Hid (wa.ownsRow wr0.heap.size 3 1 u9 mq (zq (yg ((us.take i3).filter (gu a.goal us))))):=S.M.qh hMO.out (S.M.Ch.oB (X:=fun _=>False) ba) fun _ _ e=>e
       have HE:gu a.goal us ⟨⟨lab,fl,var,ex⟩,ve⟩=(!fl || q3f (a.goal++je us) var):=rfl;obtain⟨bb,hbb⟩:=eXb (q3f (a.goal++je us) var);rw[hbb] at WI HE;clear hwa ba ka hBx hbb s1 s2 s3 s5 hny0 hMO
       cases fl with
       | true =>
        cases bb with
        | false =>
         have hft:Hid ((us.take (i3 + 1)).filter (gu a.goal us)=(us.take i3).filter (gu a.goal us)):=by show _=_;rw[q75 _ hy1,HE];simp
         have hQ2:Hid (((us.take (i3 + 1)).filter (gu a.goal us)).length=q):=by show _=_;rw[hft.out];exact hQ.out
         have hMQ2:Hid ((yg ((us.take (i3 + 1)).filter (gu a.goal us))).length=mq):=by show _=_;rw[hft.out];exact hMQ.out
         have MA2:Hid (wa.ownsRow wr0.heap.size 3 1 u9 mq (zq (yg ((us.take (i3 + 1)).filter (gu a.goal us))))):=by show World.ownsRow _ _ _ _ _ _ _;rw[hft.out];exact MA.out
         clear HE hny hve hy1 hQ hMQ HNr MA hft;go_upto_region 17 with fail;rw[←HWA.out,HBX.out];clear HWA y0 y1 y2 y3 s4;go_wp2_with fail;refine cMo (WI.out wa bRf) ?_;rintro e wz ⟨rfl,hwz⟩;subst wz
         go_wp2
         exact⟨⟨i3 + 1,q,mq,by omega,by go_num,rfl,hqb,hmqb,hQ2.out,hMQ2.out,MA2.out,BA3.out⟩,by simp[intOf];omega⟩
        | true=>as_aux_lemma =>
         have HND:Hid (gu a.goal us ⟨⟨lab,true,var,ex⟩,ve⟩=true):=by show _=_;rw[HE];rfl
         clear HE;have hnd:gu a.goal us ⟨⟨lab,true,var,ex⟩,ve⟩=true:=HND.out;have hfa:=qdy (gu a.goal us) hy1 hnd;have hft:Hid ((us.take (i3 + 1)).filter (gu a.goal us)=(us.take i3).filter (gu a.goal us)++[⟨⟨lab,true,var,ex⟩,ve⟩]):=by show _=_;rw[q75 _ hy1,hnd];rfl
         rw[hQ.out] at hfa;obtain⟨z,hz,ez⟩:=qic NP.out.f.symm hfa;have hqlt:q < n1:=by rw[←LN.out.1];exact (List.getElem?_eq_some_iff.1 hz).1
         obtain⟨gt,rfl,p0,p1,p2,a9,c9,p3,p4,_⟩:=(HA1.out wa BA.out).1 q z hz;rw[ez] at p0 p1 p2 p3 p4;dsimp only at p0 p1 p2 p3 p4;rw[hne] at p3;have r3:=(SL.out wa BA.out).1;have SA:Hid (∀W,Below wa.heap.size wa W→W.cell? ⟨R,3,none⟩=some (.slice (some ⟨gt,0,none⟩) n1 c1)∧W.cell? ⟨gt,q * 4,none⟩=some (.string lab)∧W.cell? ⟨gt,q * 4 + 1,none⟩=some (.bool true)∧W.cell? ⟨gt,q * 4 + 2,none⟩=some (.int .i64 var)∧W.cell? ⟨gt,q * 4 + 3,none⟩=some (.slice a9 ne c9)∧W.cell? ⟨Bx,0,none⟩=some (.string lab)∧W.cell? ⟨Bx,1,none⟩=some (.bool true)∧W.cell? ⟨Bx,2,none⟩=some (.int .i64 var)∧W.cell? ⟨Bx,3,none⟩=some (.slice ae ne ce)):=fun W hW=>⟨qm hW r3,qm hW p0,qm hW p1,qm hW p2,qm hW p3,qm hW z0,qm hW z1,qm hW z2,qm hW z3⟩
         have SHy:Hid (∀W,Below wa.heap.size wa W→Calls Tryz.prog 22 #[.agg #[.string lab,.bool true,.int .i64 var,.slice a9 ne c9],.agg #[.string lab,.bool true,.int .i64 var,.slice ae ne ce]] W fun e w'=>e=.returned (.bool true)∧Below W.heap.size W w'):=fun W hW=>by
          have h9:=q73 W a9 ae c9 ce ⟨lab,true,var,ex⟩ (by have h8:=NP.out.e _ (mGe hy1);dsimp only at h8;show ex.length≤_;omega) (p4.under hW) (hny.under hW);dsimp only at h9;rw[hne] at h9;exact h9
         have m6:¬(n1:Int)≤(q:Int):=by omega
         have m7:(q:Int) < (n1:Int):=by omega
         have m8:¬n1≤q:=by omega
         have m9:decide ((n1:Int)≤(q:Int))=false:=decide_eq_false (by omega);have qb:q + 1≤1024:=by omega
         clear hfa hz ez p0 p1 p2 p3 p4 r3 hny hy1 hve hnd HND;go_upto_region 17 with fail;rw[←HWA.out,HBX.out];clear HWA y0 y1 y2 y3 s4;go_wp2_with fail;refine cMo (WI.out wa bRf) ?_;rintro e wz ⟨rfl,hwz⟩;subst wz;clear WI;go_upto_region 18 with fail;have BRd:Hid (Below wa.heap.size wa wa.drew):=S.below_drewN bRf 1;refine wp_region_held_drew (S:=fun w'=>w'.cell? ⟨R,3,none⟩=some (.slice (some ⟨gt,0,none⟩) n1 c1)∧w'.cell? ⟨gt,q * 4,none⟩=some (.string lab)∧w'.cell? ⟨gt,q * 4 + 1,none⟩=some (.bool true)∧w'.cell? ⟨gt,q * 4 + 2,none⟩=some (.int .i64 var)∧w'.cell? ⟨gt,q * 4 + 3,none⟩=some (.slice a9 ne c9)∧w'.cell? ⟨Bx,0,none⟩=some (.string lab)∧w'.cell? ⟨Bx,1,none⟩=some (.bool true)∧w'.cell? ⟨Bx,2,none⟩=some (.int .i64 var)∧w'.cell? ⟨Bx,3,none⟩=some (.slice ae ne ce)) (by kernel_rfl) ?_ (fun hZ=>?_)
         ·exact SA.out _ BRd.out
         refine tkq 0 hZ ?_;refine tkq 1 hZ ?_;refine tkq 2 hZ ?_;refine tkq 3 hZ ?_;refine tkq 4 hZ ?_;refine tkq 5 hZ ?_;refine tkq 6 hZ ?_;refine tkq 7 hZ ?_;refine tkq 8 hZ ?_;refine tkq 9 hZ ?_;refine tkq 10 hZ ?_;refine tkq 11 hZ ?_;refine tkq 12 hZ ?_;refine tkq 13 hZ ?_;refine rkq 14 fun K hK=>?_
         go_simp;go_at_call 22;refine cMo (SHy.out _ BRd.out) ?_;rintro e w4 ⟨rfl,hb4⟩;have B4:=bTr BRd hb4;clear hb4
         try go_wp2_with fail
         refine aQq hK ?_ fun hZ_14=>?_
         ·exact SA.out _ B4.out
         clear hK K;refine tkq 15 hZ_14 ?_;refine tkq 16 hZ_14 ?_;refine wpAnyH_done (by kernel_rfl) ?_ _;obtain⟨_,_,_,_,_,_,z1,z2,_⟩:=SA.out w4 B4.out;have BW4:Hid (Below wr0.heap.size wr0 w4):=BA3.out.trans (B4.out.mono BA3.out.size);have HN4:Hid (wr0.heap.size≤w4.heap.size):=BW4.out.size;have MA4:Hid (w4.ownsRow wr0.heap.size 3 1 u9 mq (zq (yg ((us.take i3).filter (gu a.goal us))))):=S.M.qh MA.out (S.M.Ch.oB (X:=fun _=>False) B4.out) fun _ _ e=>e
         have HM2:Hid (yg ((us.take (i3 + 1)).filter (gu a.goal us))=yg ((us.take i3).filter (gu a.goal us))++[var]):=by show _=_;rw[hft.out,qgb];rfl
         have HQ2:Hid (((us.take (i3 + 1)).filter (gu a.goal us)).length=q + 1):=by show _=_;rw[hft.out,lAp,hQ.out];rfl
         have hmq:Hid ((yg ((us.take (i3 + 1)).filter (gu a.goal us))).length=mq + 1):=by show _=_;rw[HM2.out,lAp,hMQ.out];rfl
         have mqb:mq + 1≤1024:=by
          have h1:=mine_le ((us.take (i3 + 1)).filter (gu a.goal us));rw[hmq.out,HQ2.out] at h1;omega
         have HF:Hid (zq (yg ((us.take (i3 + 1)).filter (gu a.goal us)))=zq (yg ((us.take i3).filter (gu a.goal us)))++[.int .i64 var]):=by show _=_;rw[HM2.out,F.q0p];rfl
         clear SA SHy hft B4 MA BA3 m6 m7 m8 m9 hQ hMQ HM2
         go_wp2_with (at_builtin;go_loud (refine wpList_append_lies (w:=w4.alloc (.cells #[.int .i64 var] 3)) rfl _ _ 38 rfl wr0.heap.size 3 iN _ 1 8 Tryz.underlying38 hiN iNz iNs iNb rfl (by decide) _ mq (zq (yg ((us.take i3).filter (gu a.goal us)))) (by rfl) (S.M.zk MA4.out _) ⟨w4.heap.size,0,none⟩ 1 1 [.int .i64 var] (by rfl) (by rfl) (World.news_of_block (cs:=#[.int .i64 var]) (t:=3) (fr:=(0,0)) (World.alloc_heap_new w4 _)) (by simp[Value.oneCell']) (by omega) (by unfold maxLen;omega) (by omega) (nLt HN4.out (S.qg w4 _).size) _ rfl ?_);intro gg cap' w8 hown8 hgrow hat hlt8;go_loud (have O8:Hid (w8.ownsRow wr0.heap.size 3 1 (.slice (some ⟨gg,0,none⟩) (mq + 1) cap') (mq + 1) (zq (yg ((us.take (i3 + 1)).filter (gu a.goal us))))):=(by show World.ownsRow _ _ _ _ _ _ _;rw[HF.out];exact hown8));go_loud (have C8:Hid (S.M.Ch (fun b=>Value.ownBlock u9=some b) w4 w8):=((S.M.Ch.oB (S.qg w4 _)).trans (S.M.Ch.jm hgrow)));clear hown8 hgrow hat hlt8)
         have B8:Hid (Below wr0.heap.size wr0 w8):=BW4.out.trans (C8.out.below BW4.out.size fun b e=>S.M.zh MA4.out b e);exact⟨⟨i3 + 1,q + 1,mq + 1,by omega,by go_num,by go_num,by omega,by omega,HQ2.out,hmq.out,O8.out,B8.out⟩,by simp[intOf];omega⟩
       | false=>as_aux_lemma =>
        have HND:Hid (gu a.goal us ⟨⟨lab,false,var,ex⟩,ve⟩=true):=by show _=_;rw[HE];rfl
        clear HE WI;have hnd:gu a.goal us ⟨⟨lab,false,var,ex⟩,ve⟩=true:=HND.out;have hfa:=qdy (gu a.goal us) hy1 hnd;have hft:Hid ((us.take (i3 + 1)).filter (gu a.goal us)=(us.take i3).filter (gu a.goal us)++[⟨⟨lab,false,var,ex⟩,ve⟩]):=by show _=_;rw[q75 _ hy1,hnd];rfl
        rw[hQ.out] at hfa;obtain⟨z,hz,ez⟩:=qic NP.out.f.symm hfa;have hqlt:q < n1:=by rw[←LN.out.1];exact (List.getElem?_eq_some_iff.1 hz).1
        obtain⟨gt,rfl,p0,p1,p2,a9,c9,p3,p4,_⟩:=(HA1.out wa BA.out).1 q z hz;rw[ez] at p0 p1 p2 p3 p4;dsimp only at p0 p1 p2 p3 p4;rw[hne] at p3;have r3:=(SL.out wa BA.out).1;have SA:Hid (∀W,Below wa.heap.size wa W→W.cell? ⟨R,3,none⟩=some (.slice (some ⟨gt,0,none⟩) n1 c1)∧W.cell? ⟨gt,q * 4,none⟩=some (.string lab)∧W.cell? ⟨gt,q * 4 + 1,none⟩=some (.bool false)∧W.cell? ⟨gt,q * 4 + 2,none⟩=some (.int .i64 var)∧W.cell? ⟨gt,q * 4 + 3,none⟩=some (.slice a9 ne c9)∧W.cell? ⟨Bx,0,none⟩=some (.string lab)∧W.cell? ⟨Bx,1,none⟩=some (.bool false)∧W.cell? ⟨Bx,2,none⟩=some (.int .i64 var)∧W.cell? ⟨Bx,3,none⟩=some (.slice ae ne ce)):=fun W hW=>⟨qm hW r3,qm hW p0,qm hW p1,qm hW p2,qm hW p3,qm hW z0,qm hW z1,qm hW z2,qm hW z3⟩
        have SHy:Hid (∀W,Below wa.heap.size wa W→Calls Tryz.prog 22 #[.agg #[.string lab,.bool false,.int .i64 var,.slice a9 ne c9],.agg #[.string lab,.bool false,.int .i64 var,.slice ae ne ce]] W fun e w'=>e=.returned (.bool true)∧Below W.heap.size W w'):=fun W hW=>by
         have h9:=q73 W a9 ae c9 ce ⟨lab,false,var,ex⟩ (by have h8:=NP.out.e _ (mGe hy1);dsimp only at h8;show ex.length≤_;omega) (p4.under hW) (hny.under hW);dsimp only at h9;rw[hne] at h9;exact h9
        have m6:¬(n1:Int)≤(q:Int):=by omega
        have m7:(q:Int) < (n1:Int):=by omega
        have m8:¬n1≤q:=by omega
        have m9:decide ((n1:Int)≤(q:Int))=false:=decide_eq_false (by omega);have qb:q + 1≤1024:=by omega
        clear hfa hz ez p0 p1 p2 p3 p4 r3 hny hy1 hve hnd HND;go_upto_region 18 with fail;rw[←HWA.out,HBX.out];clear HWA y0 y1 y2 y3 s4;have BRd:Hid (Below wa.heap.size wa wa.drew):=S.below_drewN bRf 1;refine wp_region_held_drew (S:=fun w'=>w'.cell? ⟨R,3,none⟩=some (.slice (some ⟨gt,0,none⟩) n1 c1)∧w'.cell? ⟨gt,q * 4,none⟩=some (.string lab)∧w'.cell? ⟨gt,q * 4 + 1,none⟩=some (.bool false)∧w'.cell? ⟨gt,q * 4 + 2,none⟩=some (.int .i64 var)∧w'.cell? ⟨gt,q * 4 + 3,none⟩=some (.slice a9 ne c9)∧w'.cell? ⟨Bx,0,none⟩=some (.string lab)∧w'.cell? ⟨Bx,1,none⟩=some (.bool false)∧w'.cell? ⟨Bx,2,none⟩=some (.int .i64 var)∧w'.cell? ⟨Bx,3,none⟩=some (.slice ae ne ce)) (by kernel_rfl) ?_ (fun hZ=>?_)
        ·exact SA.out _ BRd.out
        refine tkq 0 hZ ?_;refine tkq 1 hZ ?_;refine tkq 2 hZ ?_;refine tkq 3 hZ ?_;refine tkq 4 hZ ?_;refine tkq 5 hZ ?_;refine tkq 6 hZ ?_;refine tkq 7 hZ ?_;refine tkq 8 hZ ?_;refine tkq 9 hZ ?_;refine tkq 10 hZ ?_;refine tkq 11 hZ ?_;refine tkq 12 hZ ?_;refine tkq 13 hZ ?_;refine rkq 14 fun K hK=>?_
        go_simp;go_at_call 22;refine cMo (SHy.out _ BRd.out) ?_;rintro e w4 ⟨rfl,hb4⟩;have B4:=bTr BRd hb4;clear hb4
        try go_wp2_with fail
        refine aQq hK ?_ fun hZ_14=>?_
        ·exact SA.out _ B4.out
        clear hK K;refine tkq 15 hZ_14 ?_;refine tkq 16 hZ_14 ?_;refine wpAnyH_done (by kernel_rfl) ?_ _;obtain⟨_,_,_,_,_,_,z1,z2,_⟩:=SA.out w4 B4.out;have BW4:Hid (Below wr0.heap.size wr0 w4):=BA3.out.trans (B4.out.mono BA3.out.size);have HM2:yg ((us.take (i3 + 1)).filter (gu a.goal us))=yg ((us.take i3).filter (gu a.goal us)):=by rw[hft.out,qgb];exact List.append_nil _
        have HQ2:Hid (((us.take (i3 + 1)).filter (gu a.goal us)).length=q + 1):=by show _=_;rw[hft.out,lAp,hQ.out];rfl
        have hmq:Hid ((yg ((us.take (i3 + 1)).filter (gu a.goal us))).length=mq):=by show _=_;rw[HM2];exact hMQ.out
        have MA4:Hid (w4.ownsRow wr0.heap.size 3 1 u9 mq (zq (yg ((us.take (i3 + 1)).filter (gu a.goal us))))):=by show World.ownsRow _ _ _ _ _ _ _;rw[HM2];exact S.M.qh MA.out (S.M.Ch.oB (X:=fun _=>False) B4.out) fun _ _ e=>e
        clear SA SHy hft B4 MA BA3 m6 m7 m8 m9 hQ hMQ HM2
        go_wp2
        exact⟨⟨i3 + 1,q + 1,mq,by omega,by go_num,by go_num,by omega,by omega,HQ2.out,hmq.out,MA4.out,BW4.out⟩,by simp[intOf];omega⟩
      ·have m3:¬(i3:Int) < (n4:Int):=by omega
       have hall:us.take i3=us:=List.take_of_length_le (by rw[LN.out.2.2.2.1];omega);have g1:=hQ.out;have g2:=hMQ.out;have g3:=hMO.out;rw[hall] at g1 g2 g3;have HQE:Hid (q=n1):=by
        show _=_
        have f1:=congrArg List.length NP.out.f;rw[lMa,lMa,LN.out.1] at f1;omega
       obtain⟨am,cm,rfl,_,hms⟩:=F.q1p g3;have HMM:=hid g2;obtain⟨wr1,hwr1⟩:=eXa wr;rw[←hwr1];rw[←hwr1] at hB hms;have MS:Hid (∀wx,Below wr1.heap.size wr1 wx→jr wx am (yg (us.filter (gu a.goal us)))):=fun wx hb=>hms.under hb
       have B4:=hid hB;have B41:Hid (Below N1 w1 wr1):=B3.out.trans (hB.mono HN3.out);have hB:Below wr0.heap.size wr0 wr1:=B4.out;obtain⟨s1,s2,s3,s4,s5⟩:=SL.out wr1 B41.out;clear hQ hMQ hMO hall g1 g2 g3 hms hB hwr1 HNr BR1;clear s1 s2 s3 s5;go_wp2_with fail
       go_loopw [12,13] (fun v12 v13 wx=>∃(i4 r:Nat),i4≤n5∧v13=.int .i64 i4∧v12=.int .i64 r∧r≤1048576∧Hid (((a.pairs.take i4).filter (q42 (yg (us.filter (gu a.goal us))))).length=r)∧Hid (Below wr1.heap.size wr1 wx)) (fun _ v13 _=>n5 - (intOf v13).toNat)
       case atStart=>exact⟨0,0,Nat.zero_le _,rfl,rfl,Nat.zero_le _,rfl,bRf⟩
       case round =>
        obtain⟨i4,r,hj4,rfl,rfl,hrb,hR4,hB⟩:=hrel;have BR1:Hid (Below N1 w1 wr):=B41.out.trans (hB.out.mono (nLt HN3.out B4.out.size));obtain⟨s1,s2,s3,s4,s5⟩:=SL.out wr BR1.out
        by_cases hlt4:i4 < n5
        ·have m4:(i4:Int) < (n5:Int):=by omega
         obtain⟨⟨px,py⟩,hp1⟩:∃p,a.pairs[i4]?=some p:=⟨_,gEq (by rw[LN.out.2.2.2.2];exact hlt4)⟩;obtain⟨g5,o5,rfl,y0,y1⟩:=(HA1.out wr BR1.out).2.2.2.2 i4 _ hp1;have hpp:=NP.out.p _ (mGe hp1);dsimp only at y0 y1 hpp;obtain⟨Bx,hBx⟩:=eXb wr.heap.size;have HBX:=hid hBx;obtain⟨wa,hwa⟩:=eXa (wr.alloc (.cells #[.int .i64 px,.int .i64 py] 130));have HWA:=hid hwa;have ba:Below wr.heap.size wr wa:=by rw[hwa];exact S.qg _ _
         have ka:wa.heap[Bx]?=some (.cells #[.int .i64 px,.int .i64 py] 130 (0,0)):=by rw[hwa,←hBx];exact World.alloc_heap_new wr _
         have BW1:=bTr hB ba;have BA:Hid (Below N1 w1 wa):=B41.out.trans (BW1.out.mono (nLt HN3.out B4.out.size));have CX:Hid (∀W,Below wa.heap.size wa W→Calls Tryz.prog 23 #[.pointer (some ⟨Bb,0,none⟩),.int .i64 px] W fun e w'=>e=.returned (.bool true)∧Below W.heap.size W w'):=fun W hW=>by
          have h9:=IV.out W (BA.out.trans (hW.mono (by have h1:=BA.out.size;have h2:=HN1.out;omega))) px;rw[hpp.2.1] at h9;exact h9
         have CY:Hid (∀W,Below wa.heap.size wa W→Calls Tryz.prog 23 #[.pointer (some ⟨Bb,0,none⟩),.int .i64 py] W fun e w'=>e=.returned (.bool true)∧Below W.heap.size W w'):=fun W hW=>by
          have h9:=IV.out W (BA.out.trans (hW.mono (by have h1:=BA.out.size;have h2:=HN1.out;omega))) py;rw[hpp.2.2] at h9;exact h9
         have p1:¬py≤px:=by omega
         have p2:decide (py≤px)=false:=decide_eq_false p1;have WX:Hid (∀W,Below wa.heap.size wa W→∀x,Calls Tryz.prog 69 #[.slice am mq cm,.int .i64 x] W fun e w'=>e=.returned (.bool (q3f (yg (us.filter (gu a.goal us))) x))∧w'=W):=fun W hW x=>q7j W am mq cm (yg (us.filter (gu a.goal us))) x HMM.out (by omega) ((MS.out wa BW1.out).under hW)
         have z0:wa.cell? ⟨Bx,0,none⟩=some (.int .i64 px):=S.M.qc ka 0;have z1:wa.cell? ⟨Bx,1,none⟩=some (.int .i64 py):=S.M.qc ka 1;have r7:=(SL.out wa BA.out).2.2.2.2;obtain⟨_,_,hprs⟩:True∧True∧jh wa (some ⟨g5,o5,none⟩) a.pairs:=⟨trivial,trivial,(HA1.out wa BA.out).2.2.2.2⟩;have HR5:Hid ((a.pairs.take (i4 + 1)).filter (q42 (yg (us.filter (gu a.goal us))))=(a.pairs.take i4).filter (q42 (yg (us.filter (gu a.goal us))))++if (q3f (yg (us.filter (gu a.goal us))) px && q3f (yg (us.filter (gu a.goal us))) py)=true then [(px,py)] else []):=q75 _ hp1;have HAT:Hid ((q3f (yg (us.filter (gu a.goal us))) px && q3f (yg (us.filter (gu a.goal us))) py)=true→a.apart[r]?=some (px,py)):=fun hb=>by
          have h9:=qdy (q42 (yg (us.filter (gu a.goal us)))) hp1 hb;rw[hR4.out] at h9;rw[NP.out.m];exact h9
         by_cases hi0:i4=0
         ·as_aux_lemma =>
          have e0:decide (0 < i4)=false:=decide_eq_false (by omega);have e5:¬0 < i4:=by omega
          clear hi0;have SA:Hid (∀W,Below wa.heap.size wa W→W.cell? ⟨Bx,0,none⟩=some (.int .i64 px)∧W.cell? ⟨Bx,1,none⟩=some (.int .i64 py)):=fun W hW=>⟨qm hW z0,qm hW z1⟩
          clear hwa ba ka hBx hpp hprs r7 z0 z1 s1 s2 s3 s4 hp1 p1;go_upto_region 28 with fail;rw[←HWA.out,HBX.out];clear HWA s5;have BRd:Hid (Below wa.heap.size wa wa.drew):=S.below_drewN bRf 1;refine wp_region_held_drew (S:=fun w'=>w'.cell? ⟨Bx,0,none⟩=some (.int .i64 px)∧w'.cell? ⟨Bx,1,none⟩=some (.int .i64 py)) (by kernel_rfl) ?_ (fun hZ=>?_)
          ·exact SA.out _ BRd.out
          refine tkq 0 hZ ?_;refine tkq 1 hZ ?_;refine tkq 2 hZ ?_;refine tkq 3 hZ ?_;refine tkq 4 hZ ?_;refine tkq 5 hZ ?_;refine tkq 6 hZ ?_;refine tkq 7 hZ ?_;refine tkq 8 hZ ?_;refine rkq 9 fun K hK=>?_
          go_simp;go_at_call 23;refine cMo (CX.out _ BRd.out) ?_;rintro e w4 ⟨rfl,hb4⟩;have D4:=bTr BRd hb4;clear hb4
          try go_wp2_with fail
          refine aQq hK ?_ fun hZ_9=>?_
          ·exact SA.out _ D4.out
          clear hK K;refine tkq 10 hZ_9 ?_;refine tkq 11 hZ_9 ?_;refine tkq 12 hZ_9 ?_;refine tkq 13 hZ_9 ?_;refine tkq 14 hZ_9 ?_;refine tkq 15 hZ_9 ?_;refine rkq 16 fun K hK=>?_
          go_simp;go_at_call 23;refine cMo (CY.out _ D4.out) ?_;rintro e w5 ⟨rfl,hb5⟩;have D5:=bTr D4 hb5;clear hb5
          try go_wp2_with fail
          refine aQq hK ?_ fun hZ_16=>?_
          ·exact SA.out _ D5.out
          clear hK K;refine tkq 17 hZ_16 ?_;refine tkq 18 hZ_16 ?_;refine tkq 19 hZ_16 ?_;refine tkq 20 hZ_16 ?_;refine tkq 21 hZ_16 ?_;refine tkq 22 hZ_16 ?_;refine skq 23 hZ_16 ?_;refine skq 24 hZ_16 ?_;refine skq 25 hZ_16 ?_;refine skq 26 hZ_16 ?_;refine skq 27 hZ_16 ?_;refine skq 28 hZ_16 ?_;refine skq 29 hZ_16 ?_;refine skq 30 hZ_16 ?_;refine skq 31 hZ_16 ?_;refine skq 32 hZ_16 ?_;refine skq 33 hZ_16 ?_;refine skq 34 hZ_16 ?_;refine skq 35 hZ_16 ?_;refine skq 36 hZ_16 ?_;refine skq 37 hZ_16 ?_;refine skq 38 hZ_16 ?_;refine skq 39 hZ_16 ?_;refine skq 40 hZ_16 ?_;refine skq 41 hZ_16 ?_;refine skq 42 hZ_16 ?_;refine skq 43 hZ_16 ?_;refine skq 44 hZ_16 ?_;refine skq 45 hZ_16 ?_;refine skq 46 hZ_16 ?_;refine skq 47 hZ_16 ?_;refine skq 48 hZ_16 ?_;refine skq 49 hZ_16 ?_;refine skq 50 hZ_16 ?_;refine skq 51 hZ_16 ?_;refine skq 52 hZ_16 ?_;refine skq 53 hZ_16 ?_;refine skq 54 hZ_16 ?_;refine skq 55 hZ_16 ?_;refine skq 56 hZ_16 ?_;refine skq 57 hZ_16 ?_;refine skq 58 hZ_16 ?_;refine skq 59 hZ_16 ?_;refine tkq 60 hZ_16 ?_;refine tkq 61 hZ_16 ?_;refine wpAnyH_done (by kernel_rfl) ?_ _;have BW5:Hid (Below wr1.heap.size wr1 w5):=BW1.out.trans (D5.out.mono BW1.out.size);have W5:Hid (Below N1 w1 w5):=B41.out.trans (BW5.out.mono (nLt HN3.out B4.out.size));have X1:Hid _:=WX.out w5 D5.out px;have X2:Hid _:=WX.out w5 D5.out py;have v0:=(SA.out w5 D5.out).1;have v1:=(SA.out w5 D5.out).2;clear SA CX CY D4 D5 WX hZ hZ_9 hZ_16;generalize q3f (yg (us.filter (gu a.goal us))) px=b1 at X1 HR5 HAT;generalize q3f (yg (us.filter (gu a.goal us))) py=b2 at X2 HR5 HAT
          cases b1 with
          | false =>
           have R2:Hid (((a.pairs.take (i4 + 1)).filter (q42 (yg (us.filter (gu a.goal us))))).length=r):=by show _=_;rw[HR5.out];simpa using hR4.out
           clear HR5 HAT X2;go_wp2_with fail;refine cMo X1.out ?_;rintro e wz ⟨rfl,hwz⟩;subst wz;clear X1
           go_wp2
           exact⟨⟨i4 + 1,r,by omega,by go_num,rfl,hrb,R2.out,BW5.out⟩,by simp[intOf];omega⟩
          | true =>
           cases b2 with
           | false =>
            have R2:Hid (((a.pairs.take (i4 + 1)).filter (q42 (yg (us.filter (gu a.goal us))))).length=r):=by show _=_;rw[HR5.out];simpa using hR4.out
            clear HR5 HAT;go_wp2_with fail;refine cMo X1.out ?_;rintro e wz ⟨rfl,hwz⟩;subst wz;clear X1;go_wp2_with fail;refine cMo X2.out ?_;rintro e wz ⟨rfl,hwz⟩;subst wz;clear X2
            go_wp2
            exact⟨⟨i4 + 1,r,by omega,by go_num,rfl,hrb,R2.out,BW5.out⟩,by simp[intOf];omega⟩
           | true =>
            have R2:Hid (((a.pairs.take (i4 + 1)).filter (q42 (yg (us.filter (gu a.goal us))))).length=r + 1):=by
             show _=_
             rw[HR5.out,lAp,hR4.out]
             rfl
            have hat:=HAT.out rfl;have hrl:r < n2:=by rw[←LN.out.2.1];exact (List.getElem?_eq_some_iff.1 hat).1
            obtain⟨g7,o7,rfl,u0,u1⟩:=(HA1.out w5 W5.out).2.1 r _ hat;dsimp only at u0 u1;have r2:=(SL.out w5 W5.out).2.1;have q1:¬(n2:Int)≤(r:Int):=by omega
            have q2:decide ((n2:Int)≤(r:Int))=false:=decide_eq_false q1;have q3:(r:Int) < (n2:Int):=by omega
            have q4:¬n2≤r:=by omega
            clear HR5 HAT hat;go_wp2_with fail;refine cMo X1.out ?_;rintro e wz ⟨rfl,hwz⟩;subst wz;clear X1;go_wp2_with fail;refine cMo X2.out ?_;rintro e wz ⟨rfl,hwz⟩;subst wz;clear X2;go_upto_region 31 with fail
            go_quiet (fail)
            go_wp2
            exact⟨⟨i4 + 1,r + 1,by omega,by go_num,by go_num,by omega,R2.out,S.below_drewN BW5.out _⟩,by simp[intOf];omega⟩
         ·obtain⟨i0,hi1⟩:∃i0,i4=i0 + 1:=⟨i4 - 1,by omega⟩;obtain⟨⟨qx,qy⟩,hq1⟩:∃p,a.pairs[i0]?=some p:=⟨_,gEq (by rw[LN.out.2.2.2.2];omega)⟩;obtain⟨g6,o6,e6,x0,x1⟩:=hprs i0 _ hq1
          cases e6;dsimp only at x0 x1;have hlt:F.ltP (qx,qy) (px,py):=by
           obtain⟨b0,e0⟩:=List.getElem?_eq_some_iff.1 hq1;obtain⟨b1,e1⟩:=List.getElem?_eq_some_iff.1 hp1;have h9:=List.pairwise_iff_getElem.1 NP.out.o i0 i4 b0 b1 (by omega);rw[e0,e1] at h9;exact h9
          have e0:decide ((0:Int) < (i4:Int))=true:=decide_eq_true (by omega);have e1:IntKind.i64.wrap ((i4:Int) - 1)=(i0:Int):=by rw[IntKind.wrap_i64];omega
          have e2:(i0:Int) < (n5:Int):=by omega
          have e5:0 < i4:=by omega
          have e3:(0:Int)≤(i0:Int):=by omega
          have SA:Hid (∀W,Below wa.heap.size wa W→W.cell? ⟨Bx,0,none⟩=some (.int .i64 px)∧W.cell? ⟨Bx,1,none⟩=some (.int .i64 py)∧W.cell? ⟨R,7,none⟩=some (.slice (some ⟨g5,o5,none⟩) n5 c5)∧W.cell? ⟨g5,o5 + i0 * 2,none⟩=some (.int .i64 qx)∧W.cell? ⟨g5,o5 + i0 * 2 + 1,none⟩=some (.int .i64 qy)):=fun W hW=>⟨qm hW z0,qm hW z1,qm hW r7,qm hW x0,qm hW x1⟩
          clear hwa ba ka hBx hpp hprs r7 z0 z1 s1 s2 s3 s4 hp1 hi0 p1 x0 x1 hq1 hi1;rcases hlt with hlt | ⟨hlt1,hlt2⟩
          ·as_aux_lemma =>
           have hlt:qx < px:=hlt;have f1:decide (px < qx)=false:=decide_eq_false (by omega);have f2:(qx == px)=false:=beq_false_of_ne (by omega);clear hlt;go_upto_region 28 with fail;rw[←HWA.out,HBX.out];clear HWA s5;have BRd:Hid (Below wa.heap.size wa wa.drew):=S.below_drewN bRf 1;refine wp_region_held_drew (S:=fun w'=>w'.cell? ⟨Bx,0,none⟩=some (.int .i64 px)∧w'.cell? ⟨Bx,1,none⟩=some (.int .i64 py)∧w'.cell? ⟨R,7,none⟩=some (.slice (some ⟨g5,o5,none⟩) n5 c5)∧w'.cell? ⟨g5,o5 + i0 * 2,none⟩=some (.int .i64 qx)∧w'.cell? ⟨g5,o5 + i0 * 2 + 1,none⟩=some (.int .i64 qy)) (by kernel_rfl) ?_ (fun hZ=>?_)
           ·exact SA.out _ BRd.out
           refine tkq 0 hZ ?_;refine tkq 1 hZ ?_;refine tkq 2 hZ ?_;refine tkq 3 hZ ?_;refine tkq 4 hZ ?_;refine tkq 5 hZ ?_;refine tkq 6 hZ ?_;refine tkq 7 hZ ?_;refine tkq 8 hZ ?_;refine rkq 9 fun K hK=>?_
           go_simp;go_at_call 23;refine cMo (CX.out _ BRd.out) ?_;rintro e w4 ⟨rfl,hb4⟩;have D4:=bTr BRd hb4;clear hb4
           try go_wp2_with fail
           refine aQq hK ?_ fun hZ_9=>?_
           ·exact SA.out _ D4.out
           clear hK K;refine tkq 10 hZ_9 ?_;refine tkq 11 hZ_9 ?_;refine tkq 12 hZ_9 ?_;refine tkq 13 hZ_9 ?_;refine tkq 14 hZ_9 ?_;refine tkq 15 hZ_9 ?_;refine rkq 16 fun K hK=>?_
           go_simp;go_at_call 23;refine cMo (CY.out _ D4.out) ?_;rintro e w5 ⟨rfl,hb5⟩;have D5:=bTr D4 hb5;clear hb5
           try go_wp2_with fail
           refine aQq hK ?_ fun hZ_16=>?_
           ·exact SA.out _ D5.out
           clear hK K;refine tkq 17 hZ_16 ?_;refine tkq 18 hZ_16 ?_;refine tkq 19 hZ_16 ?_;refine tkq 20 hZ_16 ?_;refine tkq 21 hZ_16 ?_;refine tkq 22 hZ_16 ?_;refine tkq 23 hZ_16 ?_;refine tkq 24 hZ_16 ?_;refine tkq 25 hZ_16 ?_;refine tkq 26 hZ_16 ?_;refine tkq 27 hZ_16 ?_;refine tkq 28 hZ_16 ?_;refine tkq 29 hZ_16 ?_;refine tkq 30 hZ_16 ?_;refine tkq 31 hZ_16 ?_;refine tkq 32 hZ_16 ?_;refine tkq 33 hZ_16 ?_;refine tkq 34 hZ_16 ?_;refine tkq 35 hZ_16 ?_;refine tkq 36 hZ_16 ?_;refine tkq 37 hZ_16 ?_;refine tkq 38 hZ_16 ?_;refine tkq 39 hZ_16 ?_;refine tkq 40 hZ_16 ?_;refine tkq 41 hZ_16 ?_;refine tkq 42 hZ_16 ?_;refine tkq 43 hZ_16 ?_;refine tkq 44 hZ_16 ?_;refine tkq 45 hZ_16 ?_;refine tkq 46 hZ_16 ?_;refine skq 47 hZ_16 ?_;refine skq 48 hZ_16 ?_;refine skq 49 hZ_16 ?_;refine skq 50 hZ_16 ?_;refine skq 51 hZ_16 ?_;refine skq 52 hZ_16 ?_;refine skq 53 hZ_16 ?_;refine skq 54 hZ_16 ?_;refine skq 55 hZ_16 ?_;refine skq 56 hZ_16 ?_;refine skq 57 hZ_16 ?_;refine tkq 58 hZ_16 ?_;refine tkq 59 hZ_16 ?_;refine tkq 60 hZ_16 ?_;refine tkq 61 hZ_16 ?_;refine wpAnyH_done (by kernel_rfl) ?_ _;have BW5:Hid (Below wr1.heap.size wr1 w5):=BW1.out.trans (D5.out.mono BW1.out.size);have W5:Hid (Below N1 w1 w5):=B41.out.trans (BW5.out.mono (nLt HN3.out B4.out.size));have X1:Hid _:=WX.out w5 D5.out px;have X2:Hid _:=WX.out w5 D5.out py;have v0:=(SA.out w5 D5.out).1;have v1:=(SA.out w5 D5.out).2.1;clear SA CX CY D4 D5 WX hZ hZ_9 hZ_16;generalize q3f (yg (us.filter (gu a.goal us))) px=b1 at X1 HR5 HAT;generalize q3f (yg (us.filter (gu a.goal us))) py=b2 at X2 HR5 HAT
           cases b1 with
           | false =>
            have R2:Hid (((a.pairs.take (i4 + 1)).filter (q42 (yg (us.filter (gu a.goal us))))).length=r):=by show _=_;rw[HR5.out];simpa using hR4.out
            clear HR5 HAT X2;go_wp2_with fail;refine cMo X1.out ?_;rintro e wz ⟨rfl,hwz⟩;subst wz;clear X1
            go_wp2
            exact⟨⟨i4 + 1,r,by omega,by go_num,rfl,hrb,R2.out,BW5.out⟩,by simp[intOf];omega⟩
           | true =>
            cases b2 with
            | false =>
             have R2:Hid (((a.pairs.take (i4 + 1)).filter (q42 (yg (us.filter (gu a.goal us))))).length=r):=by show _=_;rw[HR5.out];simpa using hR4.out
             clear HR5 HAT;go_wp2_with fail;refine cMo X1.out ?_;rintro e wz ⟨rfl,hwz⟩;subst wz;clear X1;go_wp2_with fail;refine cMo X2.out ?_;rintro e wz ⟨rfl,hwz⟩;subst wz;clear X2
             go_wp2
             exact⟨⟨i4 + 1,r,by omega,by go_num,rfl,hrb,R2.out,BW5.out⟩,by simp[intOf];omega⟩
            | true =>
             have R2:Hid (((a.pairs.take (i4 + 1)).filter (q42 (yg (us.filter (gu a.goal us))))).length=r + 1):=by
              show _=_
              rw[HR5.out,lAp,hR4.out]
              rfl
             have hat:=HAT.out rfl;have hrl:r < n2:=by rw[←LN.out.2.1];exact (List.getElem?_eq_some_iff.1 hat).1
             obtain⟨g7,o7,rfl,u0,u1⟩:=(HA1.out w5 W5.out).2.1 r _ hat;dsimp only at u0 u1;have r2:=(SL.out w5 W5.out).2.1;have q1:¬(n2:Int)≤(r:Int):=by omega
             have q2:decide ((n2:Int)≤(r:Int))=false:=decide_eq_false q1;have q3:(r:Int) < (n2:Int):=by omega
             have q4:¬n2≤r:=by omega
             clear HR5 HAT hat;go_wp2_with fail;refine cMo X1.out ?_;rintro e wz ⟨rfl,hwz⟩;subst wz;clear X1;go_wp2_with fail;refine cMo X2.out ?_;rintro e wz ⟨rfl,hwz⟩;subst wz;clear X2;go_upto_region 31 with fail
             go_quiet (fail)
             go_wp2
             exact⟨⟨i4 + 1,r + 1,by omega,by go_num,by go_num,by omega,R2.out,S.below_drewN BW5.out _⟩,by simp[intOf];omega⟩
          ·as_aux_lemma =>
           have hlt1:qx=px:=hlt1;have hlt2:qy < py:=hlt2;subst hlt1;have f1:decide (qx < qx)=false:=decide_eq_false (by omega);have f2:(qx == qx)=true:=beq_self_eq_true _;have f3:decide (py≤qy)=false:=decide_eq_false (by omega);clear hlt2;go_upto_region 28 with fail;rw[←HWA.out,HBX.out];clear HWA s5;have BRd:Hid (Below wa.heap.size wa wa.drew):=S.below_drewN bRf 1;refine wp_region_held_drew (S:=fun w'=>w'.cell? ⟨Bx,0,none⟩=some (.int .i64 qx)∧w'.cell? ⟨Bx,1,none⟩=some (.int .i64 py)∧w'.cell? ⟨R,7,none⟩=some (.slice (some ⟨g5,o5,none⟩) n5 c5)∧w'.cell? ⟨g5,o5 + i0 * 2,none⟩=some (.int .i64 qx)∧w'.cell? ⟨g5,o5 + i0 * 2 + 1,none⟩=some (.int .i64 qy)) (by kernel_rfl) ?_ (fun hZ=>?_)
           ·exact SA.out _ BRd.out
           refine tkq 0 hZ ?_;refine tkq 1 hZ ?_;refine tkq 2 hZ ?_;refine tkq 3 hZ ?_;refine tkq 4 hZ ?_;refine tkq 5 hZ ?_;refine tkq 6 hZ ?_;refine tkq 7 hZ ?_;refine tkq 8 hZ ?_;refine rkq 9 fun K hK=>?_
           go_simp;go_at_call 23;refine cMo (CX.out _ BRd.out) ?_;rintro e w4 ⟨rfl,hb4⟩;have D4:=bTr BRd hb4;clear hb4
           try go_wp2_with fail
           refine aQq hK ?_ fun hZ_9=>?_
           ·exact SA.out _ D4.out
           clear hK K;refine tkq 10 hZ_9 ?_;refine tkq 11 hZ_9 ?_;refine tkq 12 hZ_9 ?_;refine tkq 13 hZ_9 ?_;refine tkq 14 hZ_9 ?_;refine tkq 15 hZ_9 ?_;refine rkq 16 fun K hK=>?_
           go_simp;go_at_call 23;refine cMo (CY.out _ D4.out) ?_;rintro e w5 ⟨rfl,hb5⟩;have D5:=bTr D4 hb5;clear hb5
           try go_wp2_with fail
           refine aQq hK ?_ fun hZ_16=>?_
           ·exact SA.out _ D5.out
           clear hK K;refine tkq 17 hZ_16 ?_;refine tkq 18 hZ_16 ?_;refine tkq 19 hZ_16 ?_;refine tkq 20 hZ_16 ?_;refine tkq 21 hZ_16 ?_;refine tkq 22 hZ_16 ?_;refine tkq 23 hZ_16 ?_;refine tkq 24 hZ_16 ?_;refine tkq 25 hZ_16 ?_;refine tkq 26 hZ_16 ?_;refine tkq 27 hZ_16 ?_;refine tkq 28 hZ_16 ?_;refine tkq 29 hZ_16 ?_;refine tkq 30 hZ_16 ?_;refine tkq 31 hZ_16 ?_;refine tkq 32 hZ_16 ?_;refine tkq 33 hZ_16 ?_;refine tkq 34 hZ_16 ?_;refine tkq 35 hZ_16 ?_;refine tkq 36 hZ_16 ?_;refine tkq 37 hZ_16 ?_;refine tkq 38 hZ_16 ?_;refine tkq 39 hZ_16 ?_;refine tkq 40 hZ_16 ?_;refine tkq 41 hZ_16 ?_;refine tkq 42 hZ_16 ?_;refine tkq 43 hZ_16 ?_;refine tkq 44 hZ_16 ?_;refine tkq 45 hZ_16 ?_;refine tkq 46 hZ_16 ?_;refine tkq 47 hZ_16 ?_;refine tkq 48 hZ_16 ?_;refine tkq 49 hZ_16 ?_;refine tkq 50 hZ_16 ?_;refine tkq 51 hZ_16 ?_;refine tkq 52 hZ_16 ?_;refine tkq 53 hZ_16 ?_;refine tkq 54 hZ_16 ?_;refine tkq 55 hZ_16 ?_;refine tkq 56 hZ_16 ?_;refine tkq 57 hZ_16 ?_;refine tkq 58 hZ_16 ?_;refine tkq 59 hZ_16 ?_;refine tkq 60 hZ_16 ?_;refine tkq 61 hZ_16 ?_;refine wpAnyH_done (by kernel_rfl) ?_ _;have BW5:Hid (Below wr1.heap.size wr1 w5):=BW1.out.trans (D5.out.mono BW1.out.size);have W5:Hid (Below N1 w1 w5):=B41.out.trans (BW5.out.mono (nLt HN3.out B4.out.size));have X1:Hid _:=WX.out w5 D5.out qx;have X2:Hid _:=WX.out w5 D5.out py;have v0:=(SA.out w5 D5.out).1;have v1:=(SA.out w5 D5.out).2.1;clear SA CX CY D4 D5 WX hZ hZ_9 hZ_16;generalize q3f (yg (us.filter (gu a.goal us))) qx=b1 at X1 HR5 HAT;generalize q3f (yg (us.filter (gu a.goal us))) py=b2 at X2 HR5 HAT
           cases b1 with
           | false =>
            have R2:Hid (((a.pairs.take (i4 + 1)).filter (q42 (yg (us.filter (gu a.goal us))))).length=r):=by show _=_;rw[HR5.out];simpa using hR4.out
            clear HR5 HAT X2;go_wp2_with fail;refine cMo X1.out ?_;rintro e wz ⟨rfl,hwz⟩;subst wz;clear X1
            go_wp2
            exact⟨⟨i4 + 1,r,by omega,by go_num,rfl,hrb,R2.out,BW5.out⟩,by simp[intOf];omega⟩
           | true =>
            cases b2 with
            | false =>
             have R2:Hid (((a.pairs.take (i4 + 1)).filter (q42 (yg (us.filter (gu a.goal us))))).length=r):=by show _=_;rw[HR5.out];simpa using hR4.out
             clear HR5 HAT;go_wp2_with fail;refine cMo X1.out ?_;rintro e wz ⟨rfl,hwz⟩;subst wz;clear X1;go_wp2_with fail;refine cMo X2.out ?_;rintro e wz ⟨rfl,hwz⟩;subst wz;clear X2
             go_wp2
             exact⟨⟨i4 + 1,r,by omega,by go_num,rfl,hrb,R2.out,BW5.out⟩,by simp[intOf];omega⟩
            | true =>
             have R2:Hid (((a.pairs.take (i4 + 1)).filter (q42 (yg (us.filter (gu a.goal us))))).length=r + 1):=by
              show _=_
              rw[HR5.out,lAp,hR4.out]
              rfl
             have hat:=HAT.out rfl;have hrl:r < n2:=by rw[←LN.out.2.1];exact (List.getElem?_eq_some_iff.1 hat).1
             obtain⟨g7,o7,rfl,u0,u1⟩:=(HA1.out w5 W5.out).2.1 r _ hat;dsimp only at u0 u1;have r2:=(SL.out w5 W5.out).2.1;have q1:¬(n2:Int)≤(r:Int):=by omega
             have q2:decide ((n2:Int)≤(r:Int))=false:=decide_eq_false q1;have q3:(r:Int) < (n2:Int):=by omega
             have q4:¬n2≤r:=by omega
             clear HR5 HAT hat;go_wp2_with fail;refine cMo X1.out ?_;rintro e wz ⟨rfl,hwz⟩;subst wz;clear X1;go_wp2_with fail;refine cMo X2.out ?_;rintro e wz ⟨rfl,hwz⟩;subst wz;clear X2;go_upto_region 31 with fail
             go_quiet (fail)
             go_wp2
             exact⟨⟨i4 + 1,r + 1,by omega,by go_num,by go_num,by omega,R2.out,S.below_drewN BW5.out _⟩,by simp[intOf];omega⟩
        ·as_aux_lemma =>
         have m4:¬(i4:Int) < (n5:Int):=by omega
         have hall:a.pairs.take i4=a.pairs:=List.take_of_length_le (by rw[LN.out.2.2.2.2];omega);have HRE:Hid (r=n2):=by
          show _=_
          have g1:=hR4.out;rw[hall,←NP.out.m] at g1;rw[←g1];exact LN.out.2.1
         obtain⟨wr2,hwr2⟩:=eXa wr;rw[←hwr2];rw[←hwr2] at hB;have B5:=hid hB;have B51:Hid (Below N1 w1 wr2):=B41.out.trans (hB.mono (nLt HN3.out B4.out.size));obtain⟨s1,s2,s3,s4,s5⟩:=SL.out wr2 B51.out;clear hR4 hall hB hwr2 BR1 s1 s2 s3 s4;go_wp2_with fail
         go_loopw [15] (fun v15 wx=>∃i5:Nat,i5≤kk∧v15=.int .i64 i5∧Hid (Below wr2.heap.size wr2 wx)) (fun v15 _=>kk - (intOf v15).toNat)
         case atStart=>exact⟨0,Nat.zero_le _,rfl,bRf⟩
         case round =>
          obtain⟨i5,hj5,rfl,hB⟩:=hrel;have BR1:Hid (Below N1 w1 wr):=B51.out.trans (hB.out.mono (nLt HN3.out (nLt B4.out.size B5.out.size)));have BR3:Hid (Below wr0.heap.size wr0 wr):=B4.out.trans ((B5.out.trans (hB.out.mono B5.out.size)).mono B4.out.size);have BR4:Hid (Below wr1.heap.size wr1 wr):=B5.out.trans (hB.out.mono B5.out.size)
          by_cases hlt5:i5 < kk
          ·have m5:(i5:Int) < (kk:Int):=by omega
           obtain⟨x,hx⟩:∃x,(a.goal++je us)[i5]?=some x:=⟨_,gEq (by rw[HKK.out];exact hlt5)⟩;obtain⟨g,o,rfl,y0⟩:=(VS.out wr BR3.out) i5 x hx;have I1:Hid _:=IV.out wr BR1.out x;have hv:=NP.out.v x (mGe hx)
           cases hb:zu TT x with
           | false =>
            rw[hb] at I1;clear hv hx;go_wp2_with fail;refine cMo I1.out ?_;rintro e w4 ⟨rfl,hb4⟩;have BE:=bTr hB hb4;clear hb4 I1
            go_wp2
            exact⟨⟨i5 + 1,by omega,by go_num,BE.out⟩,by simp[intOf];omega⟩
           | true =>
            rw[hb] at I1;have HW:Hid (∀W,Below wr1.heap.size wr1 W→Calls Tryz.prog 69 #[.slice am mq cm,.int .i64 x] W fun e w'=>e=.returned (.bool true)∧w'=W):=fun W hW=>by
             have h9:=q7j W am mq cm (yg (us.filter (gu a.goal us))) x HMM.out (by omega) (MS.out W hW);rw[hv hb] at h9;exact h9
            have YC:Hid (∀W,Below wr.heap.size wr W→W.cell? ⟨g,o + i5,none⟩=some (.int .i64 x)):=fun W hW=>qm hW y0
            clear hv hx;go_wp2_with fail;refine cMo I1.out ?_;rintro e w4 ⟨rfl,hb4⟩;have BE:=bTr hB hb4;have W4:Hid _:=HW.out w4 (BR4.out.trans (hb4.mono BR4.out.size));have y1:=YC.out w4 hb4;clear hb4 I1 y0;go_wp2_with fail;refine cMo W4.out ?_;rintro e wz ⟨rfl,hwz⟩;subst wz;clear W4
            go_wp2
            exact⟨⟨i5 + 1,by omega,by go_num,BE.out⟩,by simp[intOf];omega⟩
          ·have m5:¬(i5:Int) < (kk:Int):=by omega
           obtain⟨s1,s2,s3,s4,s5⟩:=SL.out wr BR1.out;have q1:((q:Int) == (n1:Int))=true:=by rw[HQE.out];exact beq_self_eq_true _
           have q2:((r:Int) == (n2:Int))=true:=by rw[HRE.out];exact beq_self_eq_true _
           have BE:Hid (Below w.heap.size w wr):=B1.out.trans (BR1.out.mono (by have h2:=HN1.out;have h3:=B1.out.size;omega));rw[HR.out] at BE;clear s1 s3 s5 hB;obtain⟨s1,_,_,_,_⟩:=SL.out wr BR1.out
           go_wp2
           go_ret
           first
            | exact⟨rfl,by rw[HR.out];exact BE.out⟩
            | exact⟨rfl,BE.out⟩
end
open Go.RowKit
open S (Tok q3a)
def TokEq (p:Bool)(t u:Tok):Prop:=t.text=u.text∧(p=true→t=u)
def ToksEq (p:Bool)(ts us:List Tok):Prop:=ts.length=us.length∧∀(i:Nat) (t u:Tok),ts[i]?=some t→us[i]?=some u→TokEq p t u
open Go.Maps Go.RowKit Go.WideMaps
open F (jr jh HyC Pp)
theorem two_box (w:World)(x y:Array Value)(t:TypeId):∃w1 A B,w1=(w.alloc (.cells x t)).alloc (.cells y t)∧w.heap.size=A∧w.heap.size + 1=B∧Below w.heap.size w w1∧w1.heap[A]?=some (.cells x t (0,0))∧w1.heap[B]?=some (.cells y t (0,0)):=by
 have b0:Below w.heap.size w (w.alloc (.cells x t)):=S.qg _ _;have b1:=S.qg (w.alloc (.cells x t)) (.cells y t);have e:(w.alloc (.cells x t)).heap.size=w.heap.size + 1:=Array.size_push ..;refine⟨_,_,_,rfl,rfl,rfl,b0.trans (b1.mono b0.size),(b1.block w.heap.size (by rw[e];omega)).trans (World.alloc_heap_new w _),?_⟩;rw[←e];exact World.alloc_heap_new _ _
theorem cells3 {w:World}{b:Nat}{t:TypeId}{f:Nat × Nat}{v0 v1 v2:Value}(h:w.heap[b]?=some (.cells #[v0,v1,v2] t f)):Hid (∀W,Below w.heap.size w W→W.cell? ⟨b,0,none⟩=some v0∧W.cell? ⟨b,1,none⟩=some v1∧W.cell? ⟨b,2,none⟩=some v2) :=
 fun _ hW=>⟨qm hW (S.M.qc h 0),qm hW (S.M.qc h 1),qm hW (S.M.qc h 2)⟩
def qd4 (w:World)(u v:Value):Prop:=∃a b n c d ts us,u=.slice a n c∧v=.slice b n d∧ts.length=n∧n≤1048576∧(∀y ∈ ts,y.h.ex.length≤17592186044416)∧ts.map (·.h)=us.map (·.h)∧q2x w a ts∧q2x w b us
def q8b (w:World)(u v:Value):Prop:=∃a b n c d l,u=.slice a n c∧v=.slice b n d∧l.length=n∧n≤1048576∧jh w a l∧jh w b l
def qbi (w:World)(u v:Value):Prop:=∃a b n c d l,u=.slice a n c∧v=.slice b n d∧l.length=n∧n≤17592186044416∧jr w a l∧jr w b l
def qe1 (p:Bool)(w:World)(u v:Value):Prop:=∃a b n c d ts us,u=.slice a n c∧v=.slice b n d∧ts.length=n∧n≤1048576∧ToksEq p ts us∧q3a w a ts∧q3a w b us
theorem qd4.under {w w':World}{u v:Value}(h:qd4 w u v)(hb:Below w.heap.size w w'):qd4 w' u v:=by
 obtain⟨a,b,n,c,d,ts,us,h1,h2,h3,h4,h5,h6,h7,h8⟩:=h;exact⟨a,b,n,c,d,ts,us,h1,h2,h3,h4,h5,h6,h7.under hb,h8.under hb⟩
theorem q8b.under {w w':World}{u v:Value}(h:q8b w u v)(hb:Below w.heap.size w w'):q8b w' u v:=by
 obtain⟨a,b,n,c,d,l,h1,h2,h3,h4,h5,h6⟩:=h;exact⟨a,b,n,c,d,l,h1,h2,h3,h4,h5.under hb,h6.under hb⟩
theorem qbi.under {w w':World}{u v:Value}(h:qbi w u v)(hb:Below w.heap.size w w'):qbi w' u v:=by
 obtain⟨a,b,n,c,d,l,h1,h2,h3,h4,h5,h6⟩:=h;exact⟨a,b,n,c,d,l,h1,h2,h3,h4,h5.under hb,h6.under hb⟩
theorem qe1.under {p:Bool}{w w':World}{u v:Value}(h:qe1 p w u v)(hb:Below w.heap.size w w'):qe1 p w' u v:=by
 obtain⟨a,b,n,c,d,ts,us,h1,h2,h3,h4,h5,h6,h7⟩:=h;exact⟨a,b,n,c,d,ts,us,h1,h2,h3,h4,h5,h6.under hb,h7.under hb⟩
abbrev Yes (f:Nat)(args:Array Value)(w:World):Prop:=Calls Tryz.prog f args w fun e w'=>e=.returned (.bool true)∧Below w.heap.size w w'
theorem qbj {w:World}{u v:Value}(h:qd4 w u v):Yes 25 #[u,v] w:=by
 obtain⟨a,b,n,c,d,ts,us,rfl,rfl,h3,h4,h5,h6,h7,h8⟩:=h;exact q7k w a b n c d ts us h3 h4 h5 h6 h7 h8
theorem qgd {w:World}{u v:Value}(h:q8b w u v):Yes 26 #[u,v] w:=by
 obtain⟨a,b,n,c,d,l,rfl,rfl,h3,h4,h5,h6⟩:=h;exact q9k w a b n c d l h3 h4 h5 h6
theorem qip {w:World}{u v:Value}(h:qbi w u v):Yes 27 #[u,v] w:=by
 obtain⟨a,b,n,c,d,l,rfl,rfl,h3,h4,h5,h6⟩:=h;exact q7i w a b n c d l h3 h4 h5 h6
theorem cells5 {w:World}{b:Nat}{t:TypeId}{f:Nat × Nat}{v0 v1 v2 v3 v4:Value}(h:w.heap[b]?=some (.cells #[v0,v1,v2,v3,v4] t f)):Hid (∀W,Below w.heap.size w W→W.cell? ⟨b,0,none⟩=some v0∧W.cell? ⟨b,1,none⟩=some v1∧W.cell? ⟨b,2,none⟩=some v2∧W.cell? ⟨b,3,none⟩=some v3∧W.cell? ⟨b,4,none⟩=some v4) :=
 fun _ hW=>⟨qm hW (S.M.qc h 0),qm hW (S.M.qc h 1),qm hW (S.M.qc h 2),qm hW (S.M.qc h 3),qm hW (S.M.qc h 4)⟩
theorem qc9 {w:World}(i:Int){u1 u2 u3 u4 v1 v2 v3 v4:Value}(h1:qd4 w u1 v1)(h2:q8b w u2 v2)(h3:qd4 w u3 v3)(h4:qbi w u4 v4):Yes 29 #[.agg #[u1,u2,u3,.int .i64 i,u4],.agg #[v1,v2,v3,.int .i64 i,v4]] w:=by
 obtain⟨w1,A,B,hw1,hA0,hB0,bb,kA,kB⟩:=two_box w #[u1,u2,u3,.int .i64 i,u4] #[v1,v2,v3,.int .i64 i,v4] 66;have CA:=cells5 kA;have CB:=cells5 kB;have B1:=hid bb;have HW1:=hid hw1;have HA0:=hid hA0;have HB0:=hid hB0;have C1:Hid (∀W,Below w1.heap.size w1 W→Yes 25 #[u1,v1] W):=fun W hW=>qbj ((h1.under bb).under hW)
 have C2:Hid (∀W,Below w1.heap.size w1 W→Yes 26 #[u2,v2] W):=fun W hW=>qgd ((h2.under bb).under hW)
 have C3:Hid (∀W,Below w1.heap.size w1 W→Yes 25 #[u3,v3] W):=fun W hW=>qbj ((h3.under bb).under hW)
 have C4:Hid (∀W,Below w1.heap.size w1 W→Yes 27 #[u4,v4] W):=fun W hW=>qip ((h4.under bb).under hW)
 have E1:Hid (Below w1.heap.size w1 w1):=bRf;clear hw1 hA0 hB0 bb kA kB h1 h2 h3 h4;go_enter Tryz.func29,Tryz.ntmps29;go_upto_region 1 with fail;rw[←HW1.out,HB0.out,HA0.out];clear HW1 HB0;obtain⟨x0,x1,x2,x3,x4⟩:=CA.out _ E1.out;obtain⟨y0,y1,y2,y3,y4⟩:=CB.out _ E1.out;go_wp2_with fail;refine cMo (C1.out _ E1.out) ?_;rintro e z1 ⟨rfl,hz⟩;have E2:=bTr E1 hz;clear hz x0 x1 x2 x3 x4 y0 y1 y2 y3 y4;obtain⟨x0,x1,x2,x3,x4⟩:=CA.out _ E2.out;obtain⟨y0,y1,y2,y3,y4⟩:=CB.out _ E2.out;go_wp2_with fail;refine cMo (C2.out _ E2.out) ?_;rintro e z2 ⟨rfl,hz⟩;have E3:=bTr E2 hz;clear hz x0 x1 x2 x3 x4 y0 y1 y2 y3 y4;obtain⟨x0,x1,x2,x3,x4⟩:=CA.out _ E3.out;obtain⟨y0,y1,y2,y3,y4⟩:=CB.out _ E3.out;go_wp2_with fail;refine cMo (C3.out _ E3.out) ?_;rintro e z3 ⟨rfl,hz⟩;have E4:=bTr E3 hz;clear hz x0 x1 x2 x3 x4 y0 y1 y2 y3 y4;obtain⟨x0,x1,x2,x3,x4⟩:=CA.out _ E4.out;obtain⟨y0,y1,y2,y3,y4⟩:=CB.out _ E4.out;go_wp2_with fail;refine cMo (C4.out _ E4.out) ?_;rintro e z4 ⟨rfl,hz⟩;have E5:=bTr E4 hz;clear hz x0 x1 x2 x3 x4 y0 y1 y2 y3 y4;have BE:Hid (Below w.heap.size w z4):=B1.out.trans (E5.out.mono B1.out.size);rw[HA0.out] at BE
 go_wp2
 go_ret
 exact⟨rfl,by first | exact BE.out | (rw[HA0.out];exact BE.out)⟩
theorem qca (w:World) (i:Int) (a4 a5 a7 a8 b4 b5 b7 b8:Option Addr) (n4 n5 n7 n8 c4 c5 c7 c8 d4 d5 d7 d8:Nat) (us us' ms ms':List HyC) (ps:List Pp) (gl:List Int) (l4:us.length=n4) (l5:ps.length=n5) (l7:ms.length=n7) (l8:gl.length=n8) (m4:n4≤1048576) (m5:n5≤1048576) (m7:n7≤1048576) (m8:n8≤17592186044416) (e4:∀y ∈ us,y.h.ex.length≤17592186044416) (e7:∀y ∈ ms,y.h.ex.length≤17592186044416) (q4:us.map (·.h)=us'.map (·.h)) (q7:ms.map (·.h)=ms'.map (·.h))
  (hA4:q2x w a4 us) (hA5:jh w a5 ps) (hA7:q2x w a7 ms) (hA8:jr w a8 gl) (hB4:q2x w b4 us') (hB5:jh w b5 ps) (hB7:q2x w b7 ms') (hB8:jr w b8 gl) :
  Calls Tryz.prog 29 #[.agg #[.slice a4 n4 c4,.slice a5 n5 c5,.slice a7 n7 c7,.int .i64 i,.slice a8 n8 c8],.agg #[.slice b4 n4 d4,.slice b5 n5 d5,.slice b7 n7 d7,.int .i64 i,.slice b8 n8 d8]] w fun e w'=>e=.returned (.bool true)∧Below w.heap.size w w' :=
 qc9 i ⟨a4,b4,n4,c4,d4,us,us',rfl,rfl,l4,m4,e4,q4,hA4,hB4⟩ ⟨a5,b5,n5,c5,d5,ps,rfl,rfl,l5,m5,hA5,hB5⟩ ⟨a7,b7,n7,c7,d7,ms,ms',rfl,rfl,l7,m7,e7,q7,hA7,hB7⟩ ⟨a8,b8,n8,c8,d8,gl,rfl,rfl,l8,m8,hA8,hB8⟩
end B
end Go.Proofs.YtbancemhfjjmlaaGreatDoor
