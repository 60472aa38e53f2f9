/- Laid together. -/
import Derived.Test.YtbancemhfjjmlaaGreatDoorQB08
set_option maxRecDepth 100000
set_option maxHeartbeats 32000000
namespace Go.Proofs.YtbancemhfjjmlaaGreatDoor
namespace B
open Go.RowKit Go.Maps Go.WideMaps
open S (Tok Stm)
theorem qjb (w:World)(N0:Nat)(lab:ByteArray)(fl:Bool)(var:Int)(ve:Value)(ex:List Int)(ho:w.ownsRow N0 3 1 ve ex.length (F.xw ex))(hn:ex.length≤17592186044416) :
  Calls Tryz.prog 68 #[.agg #[.string lab,.bool fl,.int .i64 var,ve]] w fun e w'=>∃a c,e=.returned (.agg #[.string lab,.bool fl,.int .i64 var,.slice a ex.length c])∧w'.ownsRow w.heap.size 3 1 (.slice a ex.length c) ex.length (F.xw ex)∧Below w.heap.size w w':=by
 obtain⟨ae,ce,rfl,_,hns⟩:=F.q3n ho;obtain⟨n,hnn⟩:=eXb ex.length;have HL:Hid (ex.length=n∧n≤17592186044416):=⟨hnn,by rw[←hnn];exact hn⟩;rw[hnn];obtain⟨B,hB⟩:=eXb w.heap.size;have HB:=hid hB;rw[hB];obtain⟨wa,hwa⟩:=eXa ((w.alloc (.cells #[.string lab,.bool fl,.int .i64 var,.slice ae n ce] 57)).alloc (.cells #[.string ⟨#[]⟩,.bool false,.int .i64 0,.slice none 0 0] 57));have HWA:=hid hwa;have k0:(w.alloc (.cells #[.string lab,.bool fl,.int .i64 var,.slice ae n ce] 57)).heap[B]?=some (.cells #[.string lab,.bool fl,.int .i64 var,.slice ae n ce] 57 (0,0)):=by rw[←hB];exact World.alloc_heap_new w _
 have s0:(w.alloc (.cells #[.string lab,.bool fl,.int .i64 var,.slice ae n ce] 57)).heap.size=B + 1:=by simp[hB]
 have ka:wa.heap[B]?=some (.cells #[.string lab,.bool fl,.int .i64 var,.slice ae n ce] 57 (0,0)):=by rw[hwa];exact ((S.qg _ _).block B (by omega)).trans k0
 have kb:wa.heap[B + 1]?=some (.cells #[.string ⟨#[]⟩,.bool false,.int .i64 0,.slice none 0 0] 57 (0,0)):=by rw[hwa,←s0];exact World.alloc_heap_new _ _
 have ba:Below B w wa:=by rw[hwa];exact (show Below B w _ by rw[←hB];exact S.qg _ _).trans ((S.qg _ _).mono (by omega))
 have sa:wa.heap.size=B + 2:=by rw[hwa];simp[hB]
 have x3:wa.cell? ⟨B,3,none⟩=some (.slice ae n ce):=S.M.qc ka 3;have CL:Hid _:=F.clone_any wa ae n ce ex hnn HL.out.2 (hns.under (by rw[hB];exact ba));have KA:Hid (wa.heap[B]?=some (.cells #[.string lab,.bool fl,.int .i64 var,.slice ae n ce] 57 (0,0))∧wa.heap[B + 1]?=some (.cells #[.string ⟨#[]⟩,.bool false,.int .i64 0,.slice none 0 0] 57 (0,0))∧wa.heap.size=B + 2∧Below B w wa):=⟨ka,kb,sa,ba⟩;clear ho hns hwa k0 s0 ka kb ba sa hnn hn;go_enter Tryz.func68,Tryz.ntmps68;go_upto_region 1 with fail;rw[←HWA.out];clear HWA hB;go_wp2_with fail;refine cMo CL.out ?_;rintro e w3 ⟨v',rfl,hv',hb3⟩;obtain⟨a3,c3,rfl,_⟩:=S.ql hv';have h2:=KA.out.2.2.1;have k3:=(hb3.block B (by omega)).trans KA.out.1;have k3b:=(hb3.block (B + 1) (by omega)).trans KA.out.2.1;have p3:w3.cell? ⟨B,3,none⟩=some (.slice ae n ce):=S.M.qc k3 3;have f3:w3.frozen? ⟨B,3,none⟩=false:=by simp[World.frozen?,k3]
 obtain⟨w4,hw4⟩:=eXa (w3.setCell ⟨B,3,none⟩ (.slice a3 n c3));have HW4:=hid hw4;have ch4:S.M.Ch (fun b=>b=B) w3 w4:=by rw[hw4];exact S.M.jc w3 B 3 _
 have k4:w4.heap[B]?=some (.cells #[.string lab,.bool fl,.int .i64 var,.slice a3 n c3] 57 (0,0)):=by rw[hw4];exact S.M.qj k3
 have k4b:w4.heap[B + 1]?=some (.cells #[.string ⟨#[]⟩,.bool false,.int .i64 0,.slice none 0 0] 57 (0,0)):=by
  have h3:=(aIx k3b);exact (ch4.block (B + 1) h3 (by omega)).trans k3b
 have hB3:Below B w w3:=KA.out.2.2.2.trans (hb3.mono (by omega));have B4:Hid (Below B w w4):=hB3.trans (ch4.below (by have h1:=hB3.size;have h2:=HB.out;omega) fun b e=>by omega);have V4:Hid (w4.ownsRow B 3 1 (.slice a3 n c3) n (F.xw ex)):=S.M.qp (S.M.qh hv' ch4 fun b hb e=>F.own_ne hv' k3 (by decide) (by rw[hb,e])) (by omega);obtain⟨w9,hw9⟩:=eXa ((((w4.setCell ⟨B + 1,0,none⟩ (.string lab)).setCell ⟨B + 1,1,none⟩ (.bool fl)).setCell ⟨B + 1,2,none⟩ (.int .i64 var)).setCell ⟨B + 1,3,none⟩ (.slice a3 n c3));have HW9:=hid hw9;have k9:w9.heap[B + 1]?=some (.cells #[.string lab,.bool fl,.int .i64 var,.slice a3 n c3] 57 (0,0)):=by rw[hw9];exact S.M.qj (S.M.qj (S.M.qj (S.M.qj k4b)))
 have ch9:S.M.Ch (fun b=>b=B + 1) w4 w9:=by rw[hw9];exact (((S.M.jc w4 (B + 1) 0 _).trans (S.M.jc _ (B + 1) 1 _)).trans (S.M.jc _ (B + 1) 2 _)).trans (S.M.jc _ (B + 1) 3 _)
 have FI:Hid (w9.ownsRow B 3 1 (.slice a3 n c3) n (F.xw ex)∧Below B w w9):=⟨S.M.qh V4.out ch9 fun b hb e=>F.own_ne V4.out k4b (by decide) (by rw[hb,e]),B4.out.trans (ch9.below (by have h1:=B4.out.size;have h2:=HB.out;omega) fun b e=>by omega)⟩;have q0:w4.cell? ⟨B,0,none⟩=some (.string lab):=S.M.qc k4 0;have q1:w4.cell? ⟨B,1,none⟩=some (.bool fl):=S.M.qc k4 1;have q2:w4.cell? ⟨B,2,none⟩=some (.int .i64 var):=S.M.qc k4 2;have q3:w4.cell? ⟨B,3,none⟩=some (.slice a3 n c3):=S.M.qc k4 3;have r0:w4.cell? ⟨B + 1,0,none⟩=some (.string ⟨#[]⟩):=S.M.qc k4b 0;have r1:w4.cell? ⟨B + 1,1,none⟩=some (.bool false):=S.M.qc k4b 1;have r2:w4.cell? ⟨B + 1,2,none⟩=some (.int .i64 0):=S.M.qc k4b 2;have r3:w4.cell? ⟨B + 1,3,none⟩=some (.slice none 0 0):=S.M.qc k4b 3;have g0:w4.frozen? ⟨B + 1,0,none⟩=false:=by simp[World.frozen?,k4b]
 have g1:w4.frozen? ⟨B + 1,1,none⟩=false:=by simp[World.frozen?,k4b]
 have g2:w4.frozen? ⟨B + 1,2,none⟩=false:=by simp[World.frozen?,k4b]
 have g3:w4.frozen? ⟨B + 1,3,none⟩=false:=by simp[World.frozen?,k4b]
 have z0:w9.cell? ⟨B + 1,0,none⟩=some (.string lab):=S.M.qc k9 0;have z1:w9.cell? ⟨B + 1,1,none⟩=some (.bool fl):=S.M.qc k9 1;have z2:w9.cell? ⟨B + 1,2,none⟩=some (.int .i64 var):=S.M.qc k9 2;have z3:w9.cell? ⟨B + 1,3,none⟩=some (.slice a3 n c3):=S.M.qc k9 3;clear hv' hb3 h2 k3 k3b hw4 ch4 k4 k4b hB3 hw9 k9 ch9 CL KA B4 V4;go_upto_region 2 with fail;rw[←HW4.out];clear HW4 p3 f3;go_wp2_with fail;rw[←HW9.out];clear HW9;refine bodyPost_ret (by simp[results,Tryz.results68,go_sem,z0,z1,z2,z3];try rfl) rfl ?_;exact⟨_,_,rfl,FI.out.1,FI.out.2⟩
def q3q (l:List F.Hy)(p:Int):F.Hy:=l.getD p.toNat ⟨⟨#[]⟩,false,0,[]⟩
section
variable {N:Nat} {w:World} {lb:Nat} {txt:ByteArray} {k:Nat} {L:Ld} {nf:ByteArray→Option Nat} {m:LdM}
theorem qbt (h:xg N w lb txt k L nf m)(N1:Nat)(v:Value)(ps:List Int)(ho:w.ownsRow N1 3 1 v ps.length (F.xw ps))(hn:ps.length≤1048576)(hp:∀p ∈ ps,∃i:Nat,p=i∧i < L.hy.length)(hlen:∀y ∈ L.hy,y.ex.length≤17592186044416) :
  Calls Tryz.prog 123 #[.pointer (some ⟨m.Bb,0,none⟩),v] w fun e w'=>Below w.heap.size w w'∧∃v' ts,e=.returned v'∧F.jq w.heap.size w' v' ts∧ts.map (·.h)=ps.map (q3q L.hy):=by
 obtain⟨iH,hiH,iHz,iHs,iHb⟩:=info_parts F.qaw;obtain⟨ap,cp,rfl,_,hnp⟩:=F.q3n ho;obtain⟨n,hnn⟩:=eXb ps.length;have HL:=hid hnn;rw[hnn] at hn;rw[hnn];have HP:=hid hnp;have HI:Hid (∀p ∈ ps,∃i:Nat,p=i∧∃y,m.hs[i]?=some y∧q3q L.hy p=y.h):=fun p hp1=>by
  obtain⟨i,rfl,hi⟩:=hp p hp1;have hi2:i < m.hs.length:=by rw[←h.hya,lMa] at hi;exact hi
  refine⟨i,rfl,_,gEq hi2,?_⟩;unfold q3q;rw[←h.hya];simp[hi2]
 have HE:Hid (∀y ∈ m.hs,w.ownsRow N 3 1 y.ve y.h.ex.length (F.xw y.h.ex)∧y.h.ex.length≤17592186044416):=fun y hy=>⟨(h.cold.e y hy).1,hlen y.h (by rw[←h.hya];exact List.mem_map_of_mem hy)⟩
 obtain⟨av,cv,hva,_⟩:=S.ql h.hyr;have b3:w.cell? ⟨m.Bb,3,none⟩=some m.vh:=S.M.qc h.bbox 3;have HR:Hid (w.ownsRow N 57 4 m.vh m.hs.length (F.uf m.hs)):=h.hyr;rw[hva] at HR b3;have HB3:=hid b3;obtain⟨N0,hN⟩:∃N,w.heap.size=N:=⟨_,rfl⟩;have HN:=hid hN;rw[hN];obtain⟨nh,hnh⟩:=eXb m.hs.length;have HH:=hid hnh;rw[hnh] at HR HB3;generalize m.Bb=Bb at *;generalize m.hs=hs at *;generalize L.hy=hy at *;clear h ho hnp hp hlen hva b3 hN hnh hnn;go_enter Tryz.func123,Tryz.ntmps123;obtain⟨wm,hmk,hom,hgm⟩:=run_make_own (P:=Tryz.prog) w N0 44 57 iH _ 4 Tryz.underlying44 hiH iHz iHs .i64 .i64 n (by rw[iHb];omega) (by unfold maxLen;omega) (Nat.le_of_eq HN.out.symm);have BM:Hid (Below N0 w wm):=(Below.refl N0 w).grown hgm (Nat.le_of_eq HN.out.symm) (fun g e=>by cases e);have OM:Hid (F.jq N0 wm (.slice (some ⟨w.heap.size,0,none⟩) 0 n) []):=⟨hom,(fun y hy=>by cases hy),List.Pairwise.nil⟩;clear hom hgm;go_wp2_with fail;clear hmk
 go_loopw [5,13] (fun v5 v13 wx=>∃(j:Nat) (us:List F.HyC),j≤n∧v13=.int .i64 j∧Hid (F.jq N0 wx v5 us)∧Hid (us.map (·.h)=(ps.take j).map (q3q hy))∧Hid (Below N0 w wx)) (fun _ v13 _=>n - (intOf v13).toNat)
 case atStart=>exact⟨0,[],Nat.zero_le _,rfl,OM.out,rfl,BM.out⟩
 case round =>
  clear OM BM;obtain⟨j,us,hj,rfl,hU,hS,hB⟩:=hrel;have HNr:Hid (N0≤wr.heap.size):=by have h1:=hB.out.size;have h2:=HN.out;show N0≤_;omega
  by_cases hlt:j < n
  ·have n1:(j:Int) < (n:Int):=by omega
   obtain⟨p,hp1⟩:∃p,ps[j]?=some p:=⟨_,gEq (by rw[HL.out];exact hlt)⟩;obtain⟨pb,po,rfl,px⟩:=HP.out j p hp1;replace px:=uh px HN.out hB.out;obtain⟨i,rfl,y,hy1,hya⟩:=HI.out p (mGe hp1);have hin:i < nh:=by rw[←HH.out];exact (List.getElem?_eq_some_iff.1 hy1).1
   have HT:Hid ((ps.take (j + 1)).map (q3q hy)=(ps.take j).map (q3q hy)++[y.h]):=by show _=_;rw[List.take_add_one,hp1,Option.toList_some,List.map_append,List.map_singleton,hya]
   obtain⟨gh,ch',eh,_,_,_⟩:=S.M.q0h HR.out (by omega)
   cases eh;obtain⟨y0,y1,y2,y3⟩:=F.qb9 HR.out i y hy1;replace y0:=uh y0 HN.out hB.out;replace y1:=uh y1 HN.out hB.out;replace y2:=uh y2 HN.out hB.out;replace y3:=uh y3 HN.out hB.out;have b3:=uh HB3.out HN.out hB.out;obtain⟨he1,he2⟩:=HE.out y (mGe hy1);have her:wr.ownsRow N 3 1 y.ve y.h.ex.length (F.xw y.h.ex):=S.M.qh he1 (S.M.Ch.oB (X:=fun _=>False) (by rw[HN.out];exact hB.out)) fun _ _ e=>e
   obtain⟨⟨lab,fl,var,ex⟩,ve⟩:=y;dsimp only at *;have CC:Hid _:=qjb wr N lab fl var ve ex her he2;have hul:us.length=j:=by have h1:=congrArg List.length hS.out;simp only[lMa,List.length_take] at h1;have h2:=HL.out;omega
   have HU:=hid hul;obtain⟨ae,ce,hae,_⟩:=S.ql her;rw[hae] at y3 CC;have i0:(0:Int)≤(i:Int):=by omega
   have i1:(i:Int) < (nh:Int):=by omega
   obtain⟨ne,hne⟩:=eXb ex.length;have HNE:=hid hne;rw[hne] at y3 CC;clear hp1 hy1 hya her he1 he2 hae hul hne hin;go_wp2_with fail;refine cMo CC.out ?_;rintro e w4 ⟨a3,c3,rfl,ho4,hb4⟩;have B4:=hid hb4;have V4:=hid ho4;have U4:Hid (F.jq N0 w4 u5 us):=hU.out.below hb4;have O4:Hid (w4.ownsRow N0 57 4 u5 j (F.uf us)):=by have h:=U4.out.own;rw[HU.out] at h;exact h
   have HN4:Hid (N0≤w4.heap.size):=nLt HNr.out hb4.size;clear hb4 ho4 CC y0 y1 y2 y3 px b3
   go_wp2_with (at_builtin;refine wpList_append_lies (w:=w4.alloc (.cells #[.string lab,.bool fl,.int .i64 var,.slice a3 ne c3] 57)) rfl _ _ 44 rfl N0 57 iH _ 4 56 Tryz.underlying44 hiH iHz iHs iHb rfl (by decide) _ j (F.uf us) (by rfl) (S.M.zk O4.out _) ⟨w4.heap.size,0,none⟩ 1 1 [.string lab,.bool fl,.int .i64 var,.slice a3 ne c3] (by rfl) (by rfl) (World.news_of_block (cs:=#[.string lab,.bool fl,.int .i64 var,.slice a3 ne c3]) (t:=57) (fr:=(0,0)) (World.alloc_heap_new w4 _)) (by simp[Value.oneCell']) (by omega) (by unfold maxLen;omega) (by omega) (nLt HN4.out (S.qg w4 _).size) _ rfl ?_;intro gg cap' w8 hown8 hgrow hat hlt8;have O8:=hid hown8;have C8:Hid (S.M.Ch (fun b=>Value.ownBlock u5=some b) w4 w8):=((S.M.Ch.oB (S.qg w4 _)).trans (S.M.Ch.jw hgrow));clear hown8 hgrow hat hlt8)
   have hT8:Hid (F.jq N0 w8 (.slice (some ⟨gg,0,none⟩) (j + 1) cap') (us++[⟨⟨lab,fl,var,ex⟩,.slice a3 ne c3⟩])):=by
    show F.jq _ _ _ _
    refine⟨?_,fun z hz=>?_,List.pairwise_append.2 ⟨hU.out.ap,by simp,fun z hz z' hz'=>?_⟩⟩
    ·rw[lAp,HU.out,F.q3m];exact O8.out
    ·rcases mAp.1 hz with hz | hz
     ·have h1:=U4.out.e z hz;exact S.M.qh h1 C8.out fun b hb e=>F.q00 h1 U4.out.own (by decide) b hb e
     ·rw[mSg.1 hz]
      show w8.ownsRow N0 3 1 (.slice a3 ne c3) ex.length (F.xw ex)
      rw[HNE.out];exact S.M.qp (S.M.qh V4.out C8.out fun b hb e=>F.q00 V4.out U4.out.own (by decide) b hb e) HNr.out
    ·rw[mSg.1 hz'];intro b hb e;have h1:=S.M.jr (hU.out.e z hz) b hb;have h2:=S.M.zf V4.out b e;omega
   have hB8:Hid (Below N0 w w8):=hB.out.trans ((B4.out.mono HNr.out).trans (C8.out.below HN4.out fun b e=>S.M.zf U4.out.own b e));exact⟨⟨j + 1,us++[F.HyC.mk (F.Hy.mk lab fl var ex) (Value.slice a3 ne c3)],by omega,by go_num,hT8.out,by show _=_;rw[HT.out,List.map_append,hS.out];rfl,hB8.out⟩,by simp[intOf];omega⟩
  ·have n1:¬(j:Int) < (n:Int):=by omega
   have hje:j=n:=by omega
   subst hje;have hS2:Hid (us.map (·.h)=ps.map (q3q hy)):=by have h:=hS.out;rw[List.take_of_length_le (Nat.le_of_eq HL.out)] at h;exact h
   obtain⟨a5,c5,rfl,_⟩:=S.ql hU.out.own;clear hS
   go_wp2
   go_ret
   exact⟨hB.out,_,rfl,us,hU.out,hS2.out⟩
end
structure qa8 (hy:List F.Hy)(z:As):Prop where
 g:z.goal.length≤17592186044416
 n:z.needed.length≤1048576∧∀p ∈ z.needed,∃i:Nat,p=i∧i < hy.length
 p:z.apart.length≤1048576
 a:z.active.length≤1048576∧∀p ∈ z.active,∃i:Nat,p=i∧i < hy.length
 q:z.pairs.length≤1048576
 f:z.proof.length≤1048576
 e:∀y ∈ hy,y.ex.length≤17592186044416
def asA (x:AsC):Array Value:=#[.string x.a.label.text,.int .i64 x.a.label.off,.int .i64 x.a.label.line,.int .i64 x.a.label.col,.bool x.a.thm,x.vg,x.vn,x.vp,x.va,x.vq,x.vf,.string x.a.fin.text,.int .i64 x.a.fin.off,.int .i64 x.a.fin.line,.int .i64 x.a.fin.col]
structure FrT (N:Nat)(W:World)(hy:List F.Hy)(a:As)(vh vp vg:Value)(ts:List F.HyC):Prop where
 t:F.jq N W vh ts
 h:ts.map (·.h)=a.needed.map (q3q hy)
 p:W.ownsRow N 130 2 vp a.apart.length (F.jh a.apart)
 g:W.ownsRow N 3 1 vg a.goal.length (F.xw a.goal)
 ap:∀b,vg.ownBlock=some b→∀y ∈ ts,y.ve.ownBlock≠some b
structure ScT (N:Nat)(W:World)(hy:List F.Hy)(a:As)(vh vp:Value)(ts:List F.HyC):Prop where
 t:F.jq N W vh ts
 h:ts.map (·.h)=a.active.map (q3q hy)
 p:W.ownsRow N 130 2 vp a.pairs.length (F.jh a.pairs)
section
variable {N:Nat} {w:World} {lb:Nat} {txt:ByteArray} {k:Nat} {L:Ld} {nf:ByteArray→Option Nat} {m:LdM}
theorem qgo (h:xg N w lb txt k L nf m)(x:AsC)(hx:qa7 N w x)(hi:qa8 L.hy x.a) :
  Calls Tryz.prog 65 #[.pointer (some ⟨m.Bb,0,none⟩),.agg (asA x)] w fun e w'=>Below w.heap.size w w'∧∃vh vp vg ts,e=.returned (.agg #[vh,vp,vg])∧FrT w.heap.size w' L.hy x.a vh vp vg ts:=by
 obtain⟨B,hB⟩:=eXb w.heap.size;have HB:=hid hB;obtain⟨wa,hwa⟩:=eXa ((w.alloc (.cells (asA x) 123)).alloc (.cells #[.slice none 0 0,.slice none 0 0,.slice none 0 0] 47));have HWA:=hid hwa;have k0:(w.alloc (.cells (asA x) 123)).heap[B]?=some (.cells (asA x) 123 (0,0)):=by rw[←hB];exact World.alloc_heap_new w _
 have s0:(w.alloc (.cells (asA x) 123)).heap.size=B + 1:=by simp[hB]
 have ka:wa.heap[B]?=some (.cells (asA x) 123 (0,0)):=by rw[hwa];exact ((S.qg _ _).block B (by omega)).trans k0
 have kb:wa.heap[B + 1]?=some (.cells #[.slice none 0 0,.slice none 0 0,.slice none 0 0] 47 (0,0)):=by rw[hwa,←s0];exact World.alloc_heap_new _ _
 have ba:Below B w wa:=by rw[hwa];exact (show Below B w _ by rw[←hB];exact S.qg _ _).trans ((S.qg _ _).mono (by omega))
 have sa:wa.heap.size=B + 2:=by rw[hwa];simp[hB]
 have hba:Below w.heap.size w wa:=by rw[hB];exact ba
 obtain⟨vA,hvA⟩:=eXb x.vn;obtain⟨vP,hvP⟩:=eXb x.vp;obtain⟨vG,hvG⟩:=eXb x.vg;have SA:Hid (∀wx,Below wa.heap.size wa wx→(fun w'=>w'.cell? ⟨B,6,none⟩=some vA∧w'.cell? ⟨B,7,none⟩=some vP∧w'.cell? ⟨B,5,none⟩=some vG) wx∧wx.heap[B + 1]?=some (.cells #[.slice none 0 0,.slice none 0 0,.slice none 0 0] 47 (0,0))):=fun wx hb=>by
  have kx:=(hb.block B (by omega)).trans ka;have h0:wx.cell? ⟨B,6,none⟩=some x.vn:=S.M.qc kx 6;have h1:wx.cell? ⟨B,7,none⟩=some x.vp:=S.M.qc kx 7;have h2:wx.cell? ⟨B,5,none⟩=some x.vg:=S.M.qc kx 5;rw[hvA] at h0;rw[hvP] at h1;rw[hvG] at h2;exact⟨⟨h0,h1,h2⟩,(hb.block (B + 1) (by omega)).trans kb⟩
 have C1:Hid (∀wx,Below wa.heap.size wa wx→Calls Tryz.prog 123 #[.pointer (some ⟨m.Bb,0,none⟩),vA] wx fun e w'=>Below wx.heap.size wx w'∧∃v' ts,e=.returned v'∧F.jq wx.heap.size w' v' ts∧ts.map (·.h)=x.a.needed.map (q3q L.hy)):=fun wx hb=>by
  have hbx:Below w.heap.size w wx:=hba.trans (hb.mono hba.size);rw[←hvA];exact qbt (h.below hbx) N _ _ (S.M.qh hx.n (S.M.Ch.oB (X:=fun _=>False) hbx) fun _ _ e=>e) hi.n.1 hi.n.2 hi.e
 have C2:Hid (∀wx,Below wa.heap.size wa wx→Calls Tryz.prog 124 #[vP] wx fun e w'=>∃v',e=.returned v'∧w'.ownsRow wx.heap.size 130 2 v' x.a.apart.length (F.jh x.a.apart)∧Below wx.heap.size wx w'):=fun wx hb=>by
  have hbx:Below w.heap.size w wx:=hba.trans (hb.mono hba.size);rw[←hvP];exact qbr wx N _ _ _ rfl (by have:=hi.p;omega) (S.M.qh hx.p (S.M.Ch.oB (X:=fun _=>False) hbx) fun _ _ e=>e)
 have C3:Hid (∀wx,Below wa.heap.size wa wx→Calls Tryz.prog 72 #[vG] wx fun e w'=>∃v',e=.returned v'∧w'.ownsRow wx.heap.size 3 1 v' x.a.goal.length (F.xw x.a.goal)∧Below wx.heap.size wx w'):=fun wx hb=>by
  have hbx:Below w.heap.size w wx:=hba.trans (hb.mono hba.size);rw[←hvG];have ho:=S.M.qh hx.g (S.M.Ch.oB (X:=fun _=>False) hbx) fun _ _ e=>e
  obtain⟨ag,cg,eg,_,hns⟩:=F.q3n ho;rw[eg];exact F.clone_any wx ag _ cg x.a.goal rfl hi.g hns
 have BA:Hid (Below B w wa∧wa.heap.size=B + 2):=⟨ba,sa⟩;rw[hB];generalize m.Bb=Bb at *;have HAS:Hid (asA x=#[.string x.a.label.text,.int .i64 x.a.label.off,.int .i64 x.a.label.line,.int .i64 x.a.label.col,.bool x.a.thm,vG,vA,vP,x.va,x.vq,x.vf,.string x.a.fin.text,.int .i64 x.a.fin.off,.int .i64 x.a.fin.line,.int .i64 x.a.fin.col]):=by show _=_;unfold asA;rw[hvA,hvP,hvG]
 clear hwa k0 s0 ka kb ba sa hba hx hi h hvA hvP hvG;go_enter Tryz.func65,Tryz.ntmps65;go_upto_region 1 with fail;rw[←HWA.out];clear HWA HAS hB;have BD:Hid (Below wa.heap.size wa wa.drew):=S.M.zi bRf 1;refine wp_region_held_drew (S:=fun w'=>w'.cell? ⟨B,6,none⟩=some vA∧w'.cell? ⟨B,7,none⟩=some vP∧w'.cell? ⟨B,5,none⟩=some vG) (by kernel_rfl) ?_ (fun hZ=>?_)
 ·exact (SA.out _ BD.out).1
 refine tkq 0 hZ ?_;refine tkq 1 hZ ?_;refine tkq 2 hZ ?_;refine tkq 4 hZ ?_;refine tkq 5 hZ ?_;refine tkq 7 hZ ?_;refine tkq 8 hZ ?_;refine rkq 3 fun K hK=>?_
 go_simp;go_at_call 123;refine cMo (C1.out _ BD.out) ?_;rintro ee w1 ⟨hb1,v1,ts,rfl,ht1,hm1⟩;obtain⟨a1,c1,rfl,_⟩:=S.ql ht1.own;have B1:=bTr BD hb1;have BB1:Hid (Below wa.heap.size wa w1∧w1.heap.size≤w1.heap.size):=⟨B1.out,Nat.le_refl _⟩;have T1:Hid (F.jq wa.heap.size w1 (.slice a1 ts.length c1) ts∧ts.map (·.h)=x.a.needed.map (q3q L.hy)):=⟨ht1,hm1⟩;clear hb1 ht1 hm1;refine aQq hK ?_ fun hZ_3=>?_
 ·exact (SA.out _ B1.out).1
 clear hK K;refine rkq 6 fun K hK=>?_
 go_simp;go_at_call 124;refine cMo (C2.out _ B1.out) ?_;rintro ee w2 ⟨v2,rfl,ho2,hb2⟩;obtain⟨a2,c2,rfl,_⟩:=S.ql ho2;have B2:=bTr B1 hb2;have D2:=hid hb2;have P2:=hid ho2;clear hb2 ho2;refine aQq hK ?_ fun hZ_6=>?_
 ·exact (SA.out _ B2.out).1
 clear hK K;refine rkq 9 fun K hK=>?_
 go_simp;go_at_call 72;refine cMo (C3.out _ B2.out) ?_;rintro ee w3 ⟨v3,rfl,ho3,hb3⟩;obtain⟨a3,c3,rfl,_⟩:=S.ql ho3;have B3:=bTr B2 hb3;have D3:=hid hb3;have G3:=hid ho3;clear hb3 ho3;have kz:=(SA.out _ B3.out).2;have y0:w3.cell? ⟨B + 1,0,none⟩=some (.slice none 0 0):=S.M.qc kz 0;have f0:w3.frozen? ⟨B + 1,0,none⟩=false:=by simp[World.frozen?,kz]
 have y1:w3.cell? ⟨B + 1,1,none⟩=some (.slice none 0 0):=S.M.qc kz 1;have f1:w3.frozen? ⟨B + 1,1,none⟩=false:=by simp[World.frozen?,kz]
 have y2:w3.cell? ⟨B + 1,2,none⟩=some (.slice none 0 0):=S.M.qc kz 2;have f2:w3.frozen? ⟨B + 1,2,none⟩=false:=by simp[World.frozen?,kz]
 obtain⟨w9,hw9⟩:=eXa (((w3.setCell ⟨B + 1,0,none⟩ (.slice a1 ts.length c1)).setCell ⟨B + 1,1,none⟩ (.slice a2 x.a.apart.length c2)).setCell ⟨B + 1,2,none⟩ (.slice a3 x.a.goal.length c3));have HW9:=hid hw9;have k9:w9.heap[B + 1]?=some (.cells #[(.slice a1 ts.length c1),(.slice a2 x.a.apart.length c2),(.slice a3 x.a.goal.length c3)] 47 (0,0)):=by rw[hw9];exact S.M.qj (S.M.qj (S.M.qj kz))
 have ch9:S.M.Ch (fun b=>b=B + 1) w3 w9:=by rw[hw9];exact ((S.M.jc w3 (B + 1) 0 _).trans (S.M.jc _ (B + 1) 1 _)).trans (S.M.jc _ (B + 1) 2 _)
 have z0:w9.cell? ⟨B + 1,0,none⟩=some (.slice a1 ts.length c1):=S.M.qc k9 0;have z1:w9.cell? ⟨B + 1,1,none⟩=some (.slice a2 x.a.apart.length c2):=S.M.qc k9 1;have z2:w9.cell? ⟨B + 1,2,none⟩=some (.slice a3 x.a.goal.length c3):=S.M.qc k9 2;have S9:Hid ((fun w'=>w'.cell? ⟨B,6,none⟩=some vA∧w'.cell? ⟨B,7,none⟩=some vP∧w'.cell? ⟨B,5,none⟩=some vG) w9):=by (obtain⟨h0,h1,h2⟩:=(SA.out _ B3.out).1;have o:∀i,w9.cell? ⟨B,i,none⟩=w3.cell? ⟨B,i,none⟩:=(fun i=>World.cell?_of_block (a:=⟨B,i,none⟩) (by have hs:=B3.out.size;have hs2:=BA.out.2;exact ch9.block B (by omega) (by omega)));exact⟨(o _).trans h0,(o _).trans h1,(o _).trans h2⟩)
 have FI:Hid (Below B w w9∧FrT B w9 L.hy x.a (.slice a1 ts.length c1) (.slice a2 x.a.apart.length c2) (.slice a3 x.a.goal.length c3) ts):=by (have s1:=B1.out.size;have s2:=D2.out.size;have s3:=D3.out.size;have s0:=BA.out.2;have T3:=(T1.out.1.below D2.out).below D3.out;have P3:w3.ownsRow w1.heap.size 130 2 (.slice a2 x.a.apart.length c2) x.a.apart.length (F.jh x.a.apart):=S.M.qh P2.out (S.M.Ch.oB (X:=fun _=>False) D3.out) (fun _ _ e=>e);refine⟨(BA.out.1.trans (B3.out.mono (by omega))).trans (ch9.below (by have:=B3.out.size;omega) fun b e=>by omega),⟨⟨S.M.qp (S.M.qh T3.own ch9 fun b hb e=>by have h1:=S.M.zf T3.own b hb;omega) (by omega),fun y hy=>S.M.qp (S.M.qh (T3.e y hy) ch9 fun b hb e=>by have h1:=S.M.zf (T3.e y hy) b hb;omega) (by omega),T3.ap⟩,T1.out.2,S.M.qp (S.M.qh P3 ch9 fun b hb e=>by have h1:=S.M.zf P3 b hb;omega) (by omega),S.M.qp (S.M.qh G3.out ch9 fun b hb e=>by have h1:=S.M.zf G3.out b hb;omega) (by omega),fun b hb y hy e=>by have h1:=S.M.zf G3.out b hb;have h2:=S.M.jr (T1.out.1.e y hy) b e;omega⟩⟩)
 clear kz hw9 k9 ch9;refine aQq hK ?_ fun hZ_9=>?_
 ·exact (SA.out _ B3.out).1
 clear hK K;refine tkq 10 hZ_9 ?_;refine rkq 11 fun K hK=>?_
 go_simp;rw[←HW9.out];refine aQq hK ?_ fun hZ_11=>?_
 ·exact S9.out
 clear hK K;refine wpAnyH_done (by kernel_rfl) ?_ _;clear HW9;go_wp2_with fail;refine bodyPost_ret (by simp[results,Tryz.results65,go_sem,z0,z1,z2];try rfl) rfl ?_;exact⟨FI.out.1,_,_,_,rfl,ts,FI.out.2⟩
theorem qgp (h:xg N w lb txt k L nf m)(x:AsC)(hx:qa7 N w x)(hi:qa8 L.hy x.a) :
  Calls Tryz.prog 66 #[.pointer (some ⟨m.Bb,0,none⟩),.agg (asA x)] w fun e w'=>Below w.heap.size w w'∧∃vh vp ts,e=.returned (.agg #[vh,vp])∧ScT w.heap.size w' L.hy x.a vh vp ts:=by
 obtain⟨B,hB⟩:=eXb w.heap.size;have HB:=hid hB;obtain⟨wa,hwa⟩:=eXa ((w.alloc (.cells (asA x) 123)).alloc (.cells #[.slice none 0 0,.slice none 0 0] 49));have HWA:=hid hwa;have k0:(w.alloc (.cells (asA x) 123)).heap[B]?=some (.cells (asA x) 123 (0,0)):=by rw[←hB];exact World.alloc_heap_new w _
 have s0:(w.alloc (.cells (asA x) 123)).heap.size=B + 1:=by simp[hB]
 have ka:wa.heap[B]?=some (.cells (asA x) 123 (0,0)):=by rw[hwa];exact ((S.qg _ _).block B (by omega)).trans k0
 have kb:wa.heap[B + 1]?=some (.cells #[.slice none 0 0,.slice none 0 0] 49 (0,0)):=by rw[hwa,←s0];exact World.alloc_heap_new _ _
 have ba:Below B w wa:=by rw[hwa];exact (show Below B w _ by rw[←hB];exact S.qg _ _).trans ((S.qg _ _).mono (by omega))
 have sa:wa.heap.size=B + 2:=by rw[hwa];simp[hB]
 have hba:Below w.heap.size w wa:=by rw[hB];exact ba
 obtain⟨vA,hvA⟩:=eXb x.va;obtain⟨vP,hvP⟩:=eXb x.vq;have SA:Hid (∀wx,Below wa.heap.size wa wx→(fun w'=>w'.cell? ⟨B,8,none⟩=some vA∧w'.cell? ⟨B,9,none⟩=some vP) wx∧wx.heap[B + 1]?=some (.cells #[.slice none 0 0,.slice none 0 0] 49 (0,0))):=fun wx hb=>by
  have kx:=(hb.block B (by omega)).trans ka;have h0:wx.cell? ⟨B,8,none⟩=some x.va:=S.M.qc kx 8;have h1:wx.cell? ⟨B,9,none⟩=some x.vq:=S.M.qc kx 9;rw[hvA] at h0;rw[hvP] at h1;exact⟨⟨h0,h1⟩,(hb.block (B + 1) (by omega)).trans kb⟩
 have C1:Hid (∀wx,Below wa.heap.size wa wx→Calls Tryz.prog 123 #[.pointer (some ⟨m.Bb,0,none⟩),vA] wx fun e w'=>Below wx.heap.size wx w'∧∃v' ts,e=.returned v'∧F.jq wx.heap.size w' v' ts∧ts.map (·.h)=x.a.active.map (q3q L.hy)):=fun wx hb=>by
  have hbx:Below w.heap.size w wx:=hba.trans (hb.mono hba.size);rw[←hvA];exact qbt (h.below hbx) N _ _ (S.M.qh hx.a (S.M.Ch.oB (X:=fun _=>False) hbx) fun _ _ e=>e) hi.a.1 hi.a.2 hi.e
 have C2:Hid (∀wx,Below wa.heap.size wa wx→Calls Tryz.prog 124 #[vP] wx fun e w'=>∃v',e=.returned v'∧w'.ownsRow wx.heap.size 130 2 v' x.a.pairs.length (F.jh x.a.pairs)∧Below wx.heap.size wx w'):=fun wx hb=>by
  have hbx:Below w.heap.size w wx:=hba.trans (hb.mono hba.size);rw[←hvP];exact qbr wx N _ _ _ rfl (by have:=hi.q;omega) (S.M.qh hx.q (S.M.Ch.oB (X:=fun _=>False) hbx) fun _ _ e=>e)
 have BA:Hid (Below B w wa∧wa.heap.size=B + 2):=⟨ba,sa⟩;rw[hB];generalize m.Bb=Bb at *;have HAS:Hid (asA x=#[.string x.a.label.text,.int .i64 x.a.label.off,.int .i64 x.a.label.line,.int .i64 x.a.label.col,.bool x.a.thm,x.vg,x.vn,x.vp,vA,vP,x.vf,.string x.a.fin.text,.int .i64 x.a.fin.off,.int .i64 x.a.fin.line,.int .i64 x.a.fin.col]):=by show _=_;unfold asA;rw[hvA,hvP]
 clear hwa k0 s0 ka kb ba sa hba hx hi h hvA hvP;go_enter Tryz.func66,Tryz.ntmps66;go_upto_region 1 with fail;rw[←HWA.out];clear HWA HAS hB;have BD:Hid (Below wa.heap.size wa wa.drew):=S.M.zi bRf 1;refine wp_region_held_drew (S:=fun w'=>w'.cell? ⟨B,8,none⟩=some vA∧w'.cell? ⟨B,9,none⟩=some vP) (by kernel_rfl) ?_ (fun hZ=>?_)
 ·exact (SA.out _ BD.out).1
 refine tkq 0 hZ ?_;refine tkq 1 hZ ?_;refine tkq 2 hZ ?_;refine tkq 4 hZ ?_;refine tkq 5 hZ ?_;refine rkq 3 fun K hK=>?_
 go_simp;go_at_call 123;refine cMo (C1.out _ BD.out) ?_;rintro ee w1 ⟨hb1,v1,ts,rfl,ht1,hm1⟩;obtain⟨a1,c1,rfl,_⟩:=S.ql ht1.own;have B1:=bTr BD hb1;have BB1:Hid (Below wa.heap.size wa w1∧w1.heap.size≤w1.heap.size):=⟨B1.out,Nat.le_refl _⟩;have T1:Hid (F.jq wa.heap.size w1 (.slice a1 ts.length c1) ts∧ts.map (·.h)=x.a.active.map (q3q L.hy)):=⟨ht1,hm1⟩;clear hb1 ht1 hm1;refine aQq hK ?_ fun hZ_3=>?_
 ·exact (SA.out _ B1.out).1
 clear hK K;refine rkq 6 fun K hK=>?_
 go_simp;go_at_call 124;refine cMo (C2.out _ B1.out) ?_;rintro ee w2 ⟨v2,rfl,ho2,hb2⟩;obtain⟨a2,c2,rfl,_⟩:=S.ql ho2;have B2:=bTr B1 hb2;have D2:=hid hb2;have P2:=hid ho2;clear hb2 ho2;have kz:=(SA.out _ B2.out).2;have y0:w2.cell? ⟨B + 1,0,none⟩=some (.slice none 0 0):=S.M.qc kz 0;have f0:w2.frozen? ⟨B + 1,0,none⟩=false:=by simp[World.frozen?,kz]
 have y1:w2.cell? ⟨B + 1,1,none⟩=some (.slice none 0 0):=S.M.qc kz 1;have f1:w2.frozen? ⟨B + 1,1,none⟩=false:=by simp[World.frozen?,kz]
 obtain⟨w9,hw9⟩:=eXa ((w2.setCell ⟨B + 1,0,none⟩ (.slice a1 ts.length c1)).setCell ⟨B + 1,1,none⟩ (.slice a2 x.a.pairs.length c2));have HW9:=hid hw9;have k9:w9.heap[B + 1]?=some (.cells #[(.slice a1 ts.length c1),(.slice a2 x.a.pairs.length c2)] 49 (0,0)):=by rw[hw9];exact S.M.qj (S.M.qj kz)
 have ch9:S.M.Ch (fun b=>b=B + 1) w2 w9:=by rw[hw9];exact (S.M.jc w2 (B + 1) 0 _).trans (S.M.jc _ (B + 1) 1 _)
 have z0:w9.cell? ⟨B + 1,0,none⟩=some (.slice a1 ts.length c1):=S.M.qc k9 0;have z1:w9.cell? ⟨B + 1,1,none⟩=some (.slice a2 x.a.pairs.length c2):=S.M.qc k9 1;have S9:Hid ((fun w'=>w'.cell? ⟨B,8,none⟩=some vA∧w'.cell? ⟨B,9,none⟩=some vP) w9):=by (obtain⟨h0,h1⟩:=(SA.out _ B2.out).1;have o:∀i,w9.cell? ⟨B,i,none⟩=w2.cell? ⟨B,i,none⟩:=(fun i=>World.cell?_of_block (a:=⟨B,i,none⟩) (by have hs:=B2.out.size;have hs2:=BA.out.2;exact ch9.block B (by omega) (by omega)));exact⟨(o _).trans h0,(o _).trans h1⟩)
 have FI:Hid (Below B w w9∧ScT B w9 L.hy x.a (.slice a1 ts.length c1) (.slice a2 x.a.pairs.length c2) ts):=by (have s1:=B1.out.size;have s2:=D2.out.size;have s0:=BA.out.2;have T3:=T1.out.1.below D2.out;refine⟨(BA.out.1.trans (B2.out.mono (by omega))).trans (ch9.below (by have:=B2.out.size;omega) fun b e=>by omega),⟨⟨S.M.qp (S.M.qh T3.own ch9 fun b hb e=>by have h1:=S.M.zf T3.own b hb;omega) (by omega),fun y hy=>S.M.qp (S.M.qh (T3.e y hy) ch9 fun b hb e=>by have h1:=S.M.zf (T3.e y hy) b hb;omega) (by omega),T3.ap⟩,T1.out.2,S.M.qp (S.M.qh P2.out ch9 fun b hb e=>by have h1:=S.M.zf P2.out b hb;omega) (by omega)⟩⟩)
 clear kz hw9 k9 ch9;refine aQq hK ?_ fun hZ_6=>?_
 ·exact (SA.out _ B2.out).1
 clear hK K;refine tkq 7 hZ_6 ?_;refine rkq 8 fun K hK=>?_
 go_simp;rw[←HW9.out];refine aQq hK ?_ fun hZ_8=>?_
 ·exact S9.out
 clear hK K;refine wpAnyH_done (by kernel_rfl) ?_ _;clear HW9;go_wp2_with fail;refine bodyPost_ret (by simp[results,Tryz.results66,go_sem,z0,z1];try rfl) rfl ?_;exact⟨FI.out.1,_,_,rfl,ts,FI.out.2⟩
end
open Go.RowKit
def Does (N:Nat)(w:World)(lb:Nat)(txt:ByteArray)(m:LdM)(k':Nat)(r:Res Ld)(e:Ending)(w':World):Prop:=match r with
 | .ok L'=>e=.returned (.tuple #[])∧Goes N w lb txt m k' L' (Y.numOf L'.T.syms) w'
 | .error f=>S.M.Ch m.hot w w'∧Quits f.1 f.2 w.heap.size e w'
theorem gq {N:Nat}{w w':World}{lb:Nat}{txt:ByteArray}{m:LdM}{k':Nat}{r:Res Ld}{e:Ending}{L':Ld}(h:r=.ok L')(he:e=.returned (.tuple #[]))(hg:Goes N w lb txt m k' L' (Y.numOf L'.T.syms) w'):Does N w lb txt m k' r e w':=by
 subst h;exact⟨he,hg⟩
theorem q0y {N:Nat}{w w':World}{lb:Nat}{txt:ByteArray}{m:LdM}{k':Nat}{r:Res Ld}{e:Ending}{f:Tok × Int}(h:r=.error f)(hc:S.M.Ch m.hot w w')(hq:Quits f.1 f.2 w.heap.size e w'):Does N w lb txt m k' r e w':=by
 subst h;exact⟨hc,hq⟩
structure Declares (fid:Nat)(f:Y.Tab→ByteArray→Nat × Nat × Y.Tab):Prop where
 run:∀(w:World) (bs:List Nat) (B k:Nat) (T:Y.Tab) (s:ByteArray),T.Ok k→k < 17592186044414→s.size≤maxLen→Y.KB w→Y.TabAt w bs B k T →
  Calls Tryz.prog fid #[.pointer (some ⟨B,0,none⟩),.string s] w fun e w'=>e=.returned (.tuple #[.int .i64 ((f T s).1:Nat),.int .i64 ((f T s).2.1:Nat)])∧Y.Now bs w B k (f T s).2.2 w'
 ok:∀(T:Y.Tab) (s:ByteArray) (k:Nat),T.Ok k→(f T s).2.2.Ok (k + 2)
 num:∀(T:Y.Tab) (s:ByteArray),(f T s).2.1=0→(fun t=>if t=s then some (f T s).1 else Y.numOf T.syms t)=Y.numOf (f T s).2.2.syms
 le:∀(T:Y.Tab) (s:ByteArray) (k:Nat),T.Ok k→(f T s).1≤512
theorem q85 {l:List (ByteArray × Bool)}{s:ByteArray}{n:Nat}(h:Y.numOf l s=some n):(fun t=>if t=s then some n else Y.numOf l t)=Y.numOf l:=by
 funext t
 by_cases e:t=s
 ·rw[if_pos e,e,h]
 ·rw[if_neg e]
theorem qgr (T:Y.Tab)(s:ByteArray)(v:Bool)(hno:Y.numOf T.syms s=none)(h0:(Y.q1v T s v).2.1=0):(fun t=>if t=s then some (Y.q1v T s v).1 else Y.numOf T.syms t)=Y.numOf (Y.q1v T s v).2.2.syms:=by
 unfold Y.q1v at h0 ⊢
 split
 ·rename_i h
  rw[if_pos h] at h0
  cases h0
 ·exact Y.q97 T.syms s v hno
theorem ql3 (T:Y.Tab)(s:ByteArray)(v:Bool)(k:Nat)(h:T.Ok k):(Y.q1v T s v).1≤512:=by
 unfold Y.q1v
 split
 ·exact Nat.zero_le _
 ·exact h.syms
theorem q54:Declares 157 Y.q0b where
 run:=fun w bs B k T s h1 h2 h3 h4 h5=>Y.qn0 w bs B k T s h1 h2 h3 h4 h5
 ok:=fun T s k h=>Y.qgq s h
 num:=fun T s h0=>by
  unfold Y.q0b at h0 ⊢
  split
  ·rename_i h;rw[if_pos h] at h0;cases h0
  ·rename_i h
   rw[if_neg h] at h0
   split
   ·rename_i h;rw[if_pos h] at h0;cases h0
   ·rename_i h
    rw[if_neg h] at h0
    split
    ·rename_i h;rw[if_pos h] at h0;cases h0
    ·rename_i h
     rw[if_neg h] at h0;exact qgr T s false (by simpa using h) h0
 le:=fun T s k h=>by
  unfold Y.q0b
  split
  ·exact Nat.zero_le _
  ·split
   ·exact Nat.zero_le _
   ·split
    ·exact Nat.zero_le _
    ·exact ql3 T s false k h
theorem q79:Declares 110 Y.q3g where
 run:=fun w bs B k T s h1 h2 h3 h4 h5=>Y.var_any w bs B k T s h1 h2 h3 h4 h5
 ok:=fun T s k h=>Y.qqd s h
 num:=fun T s h0=>by
  unfold Y.q3g at h0 ⊢
  split
  ·rename_i h;rw[if_pos h] at h0;cases h0
  ·rename_i h
   rw[if_neg h] at h0
   split
   ·rename_i h;rw[if_pos h] at h0;cases h0
   ·rename_i h
    rw[if_neg h] at h0
    cases hn:Y.numOf T.syms s with
    | some n=>exact q85 hn
    | none =>
     rw[hn] at h0;exact qgr T s true hn h0
 le:=fun T s k h=>by
  unfold Y.q3g
  split
  ·exact Nat.zero_le _
  ·split
   ·exact Nat.zero_le _
   ·cases hn:Y.numOf T.syms s with
    | some n =>
     obtain⟨b,hb⟩:=Y.q5m hn;have:=(List.getElem?_eq_some_iff.1 hb).1
     have:=h.syms
     simp only;omega
    | none=>exact ql3 T s true k h
section
variable {N:Nat} {w W8:World} {lb:Nat} {txt:ByteArray} {k k':Nat} {L:Ld} {nf nf':ByteArray→Option Nat} {m:LdM}
theorem xg.numbered (h:xg N w lb txt k L nf m)(hk:k≤k')(hc:S.M.Ch (fun b=>some m.nb=some b) w W8)(hm:∃n,n≤k'∧Y.jg W8 m.nb n nf'):Goes N w lb txt m k' L nf' W8:=by
 obtain⟨c1,c2,c3,c4,c5,c6,c7,c8,c9,c10⟩:=h.mapped (x:=m.nb) (hy':=L.hy) (al':=L.al) (nf':=nf') hk (.inl rfl) hc (by rw[if_pos rfl];exact hm) (by rw[if_neg h.ne.1]) (by rw[if_neg h.ne.2.1]);exact⟨c1,m,⟨c2,c3.trans h.bbox,c4,c5,h.sca,c6,c7,h.hya,c8,c9,h.asa,c10,h.ta,h.qa,h.ne,h.low,nLt h.ge hc.size⟩,fun _=>.inl⟩
theorem qae (hKB:Y.KB w)(hN:1 < N)(h:xg N w lb txt k L nf m)(hc:S.M.Ch m.hot w W8):Y.KB W8:=hKB.kept (hc.block 1 hKB.pos fun hb=>by have:=h.low 1 hb;omega)
end
theorem qbu {X Y:Nat→Prop}{w wr W2:World}(h:S.M.Ch X w wr)(g:∀b,Y b→X b∨w.heap.size≤b)(c:S.M.Ch Y wr W2):S.M.Ch X w W2:=by
 have hs:=h.size;refine⟨c.os.trans h.os,c.tape.trans h.tape,c.output.trans h.output,nLt h.size c.size,fun b hb hne=>?_⟩;exact (c.block b (by omega) fun hm=>(g b hm).elim hne fun e=>by omega).trans (h.block b hb hne)
theorem q34 {N:Nat}{w wr W2:World}{lb:Nat}{txt:ByteArray}{m mr:LdM}{k1:Nat}{L1:Ld}{nf1:ByteArray→Option Nat}(h:S.M.Ch m.hot w wr)(g:∀b,mr.hot b→m.hot b∨w.heap.size≤b)(c:Goes N wr lb txt mr k1 L1 nf1 W2):Goes N w lb txt m k1 L1 nf1 W2:=by
 obtain⟨c4,m4,i4,g4⟩:=c;have hs:=h.size;exact⟨qbu h g c4,m4,i4,fun b hb=>(g4 b hb).elim (g b) fun e=>.inr (by omega)⟩
theorem Goes.q18 {N:Nat}{W Wa W2:World}{lb:Nat}{txt:ByteArray}{m:LdM}{k1:Nat}{L1:Ld}{nf1:ByteArray→Option Nat}(hb:Below W.heap.size W Wa)(h:Goes N Wa lb txt m k1 L1 nf1 W2):Goes N W lb txt m k1 L1 nf1 W2:=by
 obtain⟨c1,m1,i1,g1⟩:=h;have hs:=hb.size;exact⟨(S.M.Ch.oB hb).trans c1,m1,i1,fun b hm=>(g1 b hm).imp id fun e=>by omega⟩
theorem Goes.jd {N:Nat}{W Wa W2:World}{lb:Nat}{txt:ByteArray}{m:LdM}{k1:Nat}{L1:Ld}{nf1:ByteArray→Option Nat}(h:Goes N W lb txt m k1 L1 nf1 Wa)(hb:Below Wa.heap.size Wa W2):Goes N W lb txt m k1 L1 nf1 W2:=h.trans fun _ i=>Goes.same i hb
section
variable {N:Nat} {w W':World} {lb:Nat} {txt:ByteArray} {k k':Nat} {L L':Ld} {nf nf':ByteArray→Option Nat} {m m':LdM} {a:Option Addr} {ts:List Tok}
theorem xg.ptrs (h:xg N w lb txt k L nf m)(hc:S.M.Ch m.hot w W')(h':xg N W' lb txt k' L' nf' m'):m'.Bb=m.Bb∧m'.tq=m.tq∧m'.P=m.P:=by
 have e:=(hc.block lb (aIx h.cold.lbox) h.cold.lh).trans h.cold.lbox;rw[h'.cold.lbox] at e;simp only[Option.some.injEq,Obj.cells.injEq,Array.mk.injEq,List.cons.injEq,Value.pointer.injEq,Addr.mk.injEq] at e;exact⟨e.1.1.1,e.1.2.1.1,e.1.2.2.1.1⟩
def qbw (m:LdM)(w:World)(a:Option Addr)(ts:List Tok):Prop:=S.q0i w a ts∧∀b off,a=some ⟨b,off,none⟩→0 < ts.length→¬m.hot b
theorem qbw.ch (h:qbw m w a ts)(hc:S.M.Ch m.hot w W'):S.q0i W' a ts:=fun i t hi=>by
 obtain⟨b,off,e,h0,h1,h2,h3⟩:=h.1 i t hi;have hb:=hc.block b (bLt h0) (h.2 b off e (by have:=(List.getElem?_eq_some_iff.1 hi).1;omega));exact⟨b,off,e,(World.cell?_of_block (a:=⟨b,_,none⟩) hb).trans h0,(World.cell?_of_block (a:=⟨b,_,none⟩) hb).trans h1,(World.cell?_of_block (a:=⟨b,_,none⟩) hb).trans h2,(World.cell?_of_block (a:=⟨b,_,none⟩) hb).trans h3⟩
theorem qep (h:xg N w lb txt k L (Y.numOf L.T.syms) m)(hT:L.T.Ok k)(hk:k < 1000000000000)(hKB:Y.KB w)(hN:1 < N)(a:Option Addr)(n c:Nat)(ts:List Tok)(hl:ts.length=n)(hn:n≤1048576)(hA:qbw m w a ts)(hz:∀t ∈ ts,t.text.size≤281474976710656) :
  Calls Tryz.prog 109 #[.pointer (some ⟨lb,0,none⟩),.slice a n c,.func (.func 157) #[.pointer (some ⟨m.tq,0,none⟩)] #[]] w (Does N w lb txt m (k + 3 * n) (q0l Y.q0b L ts)):=by
 have HI:=hid h;have HA:=hid hA;have HL:=hid hl;have HZ:=hid hz;have HG:Hid (Goes N w lb txt m k L (Y.numOf L.T.syms) w):=Goes.same h bRf;have HT:=hid hT;have HK:Hid (Y.KB w∧1 < N):=⟨hKB,hN⟩;obtain⟨tq,htq⟩:=eXb m.tq;have HTQ:Hid (m.tq=tq):=htq;rw[htq];clear h hT hA hl hz hKB hN htq;go_enter Tryz.func109,Tryz.ntmps109;go_wp2_with fail
 go_loopw [12] (fun v12 wx=>∃(j:Nat) (L':Ld),j≤n∧v12=.int .i64 j∧Hid (q0l Y.q0b L ts=q0l Y.q0b L' (ts.drop j))∧Hid (L'.T.Ok (k + 3 * j))∧Hid (Goes N w lb txt m (k + 3 * j) L' (Y.numOf L'.T.syms) wx)) (fun v12 _=>n - (intOf v12).toNat)
 case atStart=>exact⟨0,L,Nat.zero_le _,rfl,rfl,HT.out,HG.out⟩
 case round =>
  clear HG HT;obtain⟨j,L',hj,rfl,hR,hT,hG⟩:=hrel
  by_cases hlt:j < n
  ·have n1:(j:Int) < (n:Int):=by omega
   obtain⟨t,ht⟩:∃t,ts[j]?=some t:=⟨_,gEq (by rw[HL.out];exact hlt)⟩;have hdr:ts.drop j=t :: ts.drop (j + 1):=by
    obtain⟨hlt2,e2⟩:=List.getElem?_eq_some_iff.1 ht;rw[List.drop_eq_getElem_cons hlt2,e2]
   have hzt:=HZ.out t (mGe ht);obtain⟨g,off,rfl,y0,y1,y2,y3⟩:=(HA.out.ch hG.out.1) j t ht;have HR2:Hid (q0l Y.q0b L ts=if (Y.q0b L'.T t.text).2.1=0 then q0l Y.q0b { L' with T:=(Y.q0b L'.T t.text).2.2 } (ts.drop (j + 1)) else .error (t,((Y.q0b L'.T t.text).2.1:Nat))):=hR.out.trans (by rw[hdr,q0l]);obtain⟨wa,hwa⟩:=eXa (wr.alloc (.cells (uq t) 36));have bA:Below wr.heap.size wr wa:=by rw[hwa];exact S.qg _ _
   have hG2:=hG.out;obtain⟨cG,mr,ir,gr⟩:=hG2;obtain⟨p1,p2,p3⟩:=HI.out.ptrs cG ir;rw[HTQ.out] at p2;have ia:=ir.below bA;have kbr:Y.KB wr:=qae HK.out.1 HK.out.2 HI.out cG;have kba:Y.KB wa:=kbr.kept (bA.block 1 kbr.pos);have DC:Hid _:=q54.run wa mr.bs mr.tq (k + 3 * j) L'.T t.text hT.out (by omega) (by unfold maxLen;omega) kba ia.tab;rw[p2] at DC;generalize hq:Y.q0b L'.T t.text=q at *;have hbox:wa.heap[wr.heap.size]?=some (.cells (uq t) 36 (0,0)):=by rw[hwa];exact World.alloc_heap_new wr _
   -- what is there behind the declaration
   have ST:Hid (∀w1,Y.Now mr.bs wa tq (k + 3 * j) q.2.2 w1→Goes N wr lb txt mr (k + 3 * j + 2) { L' with T:=q.2.2 } (Y.numOf L'.T.syms) w1∧w1.heap[wr.heap.size]?=some (.cells (uq t) 36 (0,0))):=fun w1 hn1=>by
    obtain⟨bs',ht1,hg1⟩:=hn1;have h1:=ia.qbq (k':=k + 3 * j + 2) (by omega) (by rw[p2];exact ht1) hg1;exact⟨h1.q18 bA,(hg1.turned.block _ (aIx hbox) fun hb=>by have:=ir.tab.low _ hb;omega).trans hbox⟩
   have HGr:Hid (Goes N w lb txt m (k + 3 * j) L' (Y.numOf L'.T.syms) wr):=hG.out;have HIr:=hid ir;have HSr:Hid (w.heap.size≤wr.heap.size):=cG.size;have GR:=hid gr;have HCr:=hid cG;have HQ:Hid (q.2.1=0→(fun u=>if u=t.text then some q.1 else Y.numOf L'.T.syms u)=Y.numOf q.2.2.syms):=fun e=>by rw[←hq];exact q54.num L'.T t.text (by rw[hq];exact e)
   have HOk:Hid (q.2.2.Ok (k + 3 * j + 2)):=by show Y.Tab.Ok _ _;rw[←hq];exact q54.ok L'.T t.text _ hT.out
   have HLe:Hid (q.1≤512):=by show _≤_;rw[←hq];exact q54.le L'.T t.text _ hT.out
   have HZt:=hid hzt;clear hG cG ir gr ia p1 p2 p3 kbr kba bA hq hbox hT hR hdr ht hzt;go_upto_region 3 with fail;rw[←hwa];have z0:wa.cell? ⟨wr.heap.size,0,none⟩=some (.string t.text):=by rw[hwa];exact (World.cell?_alloc_new wr _ 36 0).trans rfl
   clear hwa;go_wp2_with fail;refine cMo DC.out ?_;rintro e w1 ⟨rfl,hnow⟩;obtain⟨g1,hb1⟩:=ST.out w1 hnow;have G1:=hid g1;have HB1:=hid hb1;have u0:w1.cell? ⟨wr.heap.size,0,none⟩=some (.string t.text):=S.M.qc hb1 0;have u1:w1.cell? ⟨wr.heap.size,1,none⟩=some (.int .i64 t.off):=S.M.qc hb1 1;have u2:w1.cell? ⟨wr.heap.size,2,none⟩=some (.int .i64 t.line):=S.M.qc hb1 2;have u3:w1.cell? ⟨wr.heap.size,3,none⟩=some (.int .i64 t.col):=S.M.qc hb1 3;clear hnow DC ST z0 y0 y1 y2 y3 g1 hb1;have CK:Hid (Calls Tryz.prog 102 #[S.zo t,.int .i64 (q.2.1:Nat)] w1 (Chk t (q.2.1:Nat) w1)):=check_any w1 t _;unfold S.zo at CK
   by_cases hc0:q.2.1=0
   ·have HC0:Hid (q.2.1=0):=hc0;clear hc0;go_wp2_with fail;refine cMo CK.out ?_;rintro e w2 ⟨hb2,he⟩;rw[if_pos (by rw[HC0.out];rfl)] at he;subst he;have G2:Hid (Goes N wr lb txt mr (k + 3 * j + 2) { L' with T:=q.2.2 } (Y.numOf L'.T.syms) w2):=G1.out.jd hb2;have u0':=ug u0 hb2;obtain⟨c2,m2,i2,h2⟩:=G2.out;have I2:=hid i2;have x0:w2.cell? ⟨lb,0,none⟩=some (.pointer (some ⟨m2.Bb,0,none⟩)):=i2.cells.1;have x2:w2.cell? ⟨m2.Bb,2,none⟩=some (.map (some m2.nb)):=S.M.qc i2.bbox 2;obtain⟨n2,hn2,hm2⟩:=i2.num;obtain⟨W3,hmu,hm3,hg3⟩:=(show Y.jg w2.drew m2.nb n2 _ from hm2.kept rfl).put (by unfold maxLen;omega) t.text (by have:=HZt.out;unfold maxLen;omega) q.1 (by have:=HLe.out;omega);rw[HQ.out HC0.out] at hm3;have G3:Hid (Goes N wr lb txt mr (k + 3 * (j + 1)) { L' with T:=q.2.2 } (Y.numOf q.2.2.syms) W3):=by
     have hbd:Below w2.heap.size w2 w2.drew:=S.M.zi bRf 1;have h1:=((I2.out.below hbd).numbered (k':=k + 3 * (j + 1)) (by omega) (S.M.Ch.jw hg3) ⟨n2 + 1,by omega,hm3⟩).q18 hbd;exact q34 c2 h2 h1
    have R2:Hid (q0l Y.q0b L ts=q0l Y.q0b { L' with T:=q.2.2 } (ts.drop (j + 1))):=HR2.out.trans (if_pos HC0.out);have G4:Hid (Goes N w lb txt m (k + 3 * (j + 1)) { L' with T:=q.2.2 } (Y.numOf q.2.2.syms) W3):=by
     exact q34 HCr.out GR.out G3.out
    clear hb2 c2 i2 h2 hm2 hm3 hg3 u0 u1 u2 u3 CK G1 G2 HB1 hn2;go_upto_region 5 with fail
    go_region
    go_wp2
    exact⟨⟨j + 1,_,by omega,by go_num,R2.out,HOk.out.up (by omega),G4.out⟩,by simp[intOf];omega⟩
   ·have HC0:Hid (¬((q.2.1:Nat):Int)=0):=by show ¬_;omega
    have R2:Hid (q0l Y.q0b L ts=.error (t,(q.2.1:Nat))):=HR2.out.trans (if_neg hc0);clear hc0;go_wp2_with fail;refine cMo CK.out ?_;rintro e w2 ⟨hb2,he⟩;rw[if_neg HC0.out] at he;obtain⟨b,rfl,q2,q3⟩:=he;refine⟨rfl,q0y R2.out ?_ ⟨b,rfl,q2,?_⟩⟩
    ·exact qbu HCr.out GR.out (G1.out.1.trans (S.M.Ch.oB hb2))
    ·have h1:=HSr.out;have h2:=G1.out.1.size;omega
  ·have n1:¬(j:Int) < (n:Int):=by omega
   have hje:j=n:=by omega
   subst hje;have hall:ts.drop j=[]:=List.drop_eq_nil_of_le (by rw[HL.out];exact Nat.le_refl _);have R2:Hid (q0l Y.q0b L ts=.ok L'):=hR.out.trans (by rw[hall];rfl);clear hall hR hT
   go_wp2
   exact bodyPost_end (results_none rfl _ _ _) rfl (gq R2.out rfl hG.out)
theorem qeq (h:xg N w lb txt k L (Y.numOf L.T.syms) m)(hT:L.T.Ok k)(hk:k < 1000000000000)(hKB:Y.KB w)(hN:1 < N)(a:Option Addr)(n c:Nat)(ts:List Tok)(hl:ts.length=n)(hn:n≤1048576)(hA:qbw m w a ts)(hz:∀t ∈ ts,t.text.size≤281474976710656) :
  Calls Tryz.prog 109 #[.pointer (some ⟨lb,0,none⟩),.slice a n c,.func (.func 110) #[.pointer (some ⟨m.tq,0,none⟩)] #[]] w (Does N w lb txt m (k + 3 * n) (q0l Y.q3g L ts)):=by
 have HI:=hid h;have HA:=hid hA;have HL:=hid hl;have HZ:=hid hz;have HG:Hid (Goes N w lb txt m k L (Y.numOf L.T.syms) w):=Goes.same h bRf;have HT:=hid hT;have HK:Hid (Y.KB w∧1 < N):=⟨hKB,hN⟩;obtain⟨tq,htq⟩:=eXb m.tq;have HTQ:Hid (m.tq=tq):=htq;rw[htq];clear h hT hA hl hz hKB hN htq;go_enter Tryz.func109,Tryz.ntmps109;go_wp2_with fail
 go_loopw [12] (fun v12 wx=>∃(j:Nat) (L':Ld),j≤n∧v12=.int .i64 j∧Hid (q0l Y.q3g L ts=q0l Y.q3g L' (ts.drop j))∧Hid (L'.T.Ok (k + 3 * j))∧Hid (Goes N w lb txt m (k + 3 * j) L' (Y.numOf L'.T.syms) wx)) (fun v12 _=>n - (intOf v12).toNat)
 case atStart=>exact⟨0,L,Nat.zero_le _,rfl,rfl,HT.out,HG.out⟩
 case round =>
  clear HG HT;obtain⟨j,L',hj,rfl,hR,hT,hG⟩:=hrel
  by_cases hlt:j < n
  ·have n1:(j:Int) < (n:Int):=by omega
   obtain⟨t,ht⟩:∃t,ts[j]?=some t:=⟨_,gEq (by rw[HL.out];exact hlt)⟩;have hdr:ts.drop j=t :: ts.drop (j + 1):=by
    obtain⟨hlt2,e2⟩:=List.getElem?_eq_some_iff.1 ht;rw[List.drop_eq_getElem_cons hlt2,e2]
   have hzt:=HZ.out t (mGe ht);obtain⟨g,off,rfl,y0,y1,y2,y3⟩:=(HA.out.ch hG.out.1) j t ht;have HR2:Hid (q0l Y.q3g L ts=if (Y.q3g L'.T t.text).2.1=0 then q0l Y.q3g { L' with T:=(Y.q3g L'.T t.text).2.2 } (ts.drop (j + 1)) else .error (t,((Y.q3g L'.T t.text).2.1:Nat))):=hR.out.trans (by rw[hdr,q0l]);obtain⟨wa,hwa⟩:=eXa (wr.alloc (.cells (uq t) 36));have bA:Below wr.heap.size wr wa:=by rw[hwa];exact S.qg _ _
   have hG2:=hG.out;obtain⟨cG,mr,ir,gr⟩:=hG2;obtain⟨p1,p2,p3⟩:=HI.out.ptrs cG ir;rw[HTQ.out] at p2;have ia:=ir.below bA;have kbr:Y.KB wr:=qae HK.out.1 HK.out.2 HI.out cG;have kba:Y.KB wa:=kbr.kept (bA.block 1 kbr.pos);have DC:Hid _:=q79.run wa mr.bs mr.tq (k + 3 * j) L'.T t.text hT.out (by omega) (by unfold maxLen;omega) kba ia.tab;rw[p2] at DC;generalize hq:Y.q3g L'.T t.text=q at *;have hbox:wa.heap[wr.heap.size]?=some (.cells (uq t) 36 (0,0)):=by rw[hwa];exact World.alloc_heap_new wr _
   -- what is there behind the declaration
   have ST:Hid (∀w1,Y.Now mr.bs wa tq (k + 3 * j) q.2.2 w1→Goes N wr lb txt mr (k + 3 * j + 2) { L' with T:=q.2.2 } (Y.numOf L'.T.syms) w1∧w1.heap[wr.heap.size]?=some (.cells (uq t) 36 (0,0))):=fun w1 hn1=>by
    obtain⟨bs',ht1,hg1⟩:=hn1;have h1:=ia.qbq (k':=k + 3 * j + 2) (by omega) (by rw[p2];exact ht1) hg1;exact⟨h1.q18 bA,(hg1.turned.block _ (aIx hbox) fun hb=>by have:=ir.tab.low _ hb;omega).trans hbox⟩
   have HGr:Hid (Goes N w lb txt m (k + 3 * j) L' (Y.numOf L'.T.syms) wr):=hG.out;have HIr:=hid ir;have HSr:Hid (w.heap.size≤wr.heap.size):=cG.size;have GR:=hid gr;have HCr:=hid cG;have HQ:Hid (q.2.1=0→(fun u=>if u=t.text then some q.1 else Y.numOf L'.T.syms u)=Y.numOf q.2.2.syms):=fun e=>by rw[←hq];exact q79.num L'.T t.text (by rw[hq];exact e)
   have HOk:Hid (q.2.2.Ok (k + 3 * j + 2)):=by show Y.Tab.Ok _ _;rw[←hq];exact q79.ok L'.T t.text _ hT.out
   have HLe:Hid (q.1≤512):=by show _≤_;rw[←hq];exact q79.le L'.T t.text _ hT.out
   have HZt:=hid hzt;clear hG cG ir gr ia p1 p2 p3 kbr kba bA hq hbox hT hR hdr ht hzt;go_upto_region 3 with fail;rw[←hwa];have z0:wa.cell? ⟨wr.heap.size,0,none⟩=some (.string t.text):=by rw[hwa];exact (World.cell?_alloc_new wr _ 36 0).trans rfl
   clear hwa;go_wp2_with fail;refine cMo DC.out ?_;rintro e w1 ⟨rfl,hnow⟩;obtain⟨g1,hb1⟩:=ST.out w1 hnow;have G1:=hid g1;have HB1:=hid hb1;have u0:w1.cell? ⟨wr.heap.size,0,none⟩=some (.string t.text):=S.M.qc hb1 0;have u1:w1.cell? ⟨wr.heap.size,1,none⟩=some (.int .i64 t.off):=S.M.qc hb1 1;have u2:w1.cell? ⟨wr.heap.size,2,none⟩=some (.int .i64 t.line):=S.M.qc hb1 2;have u3:w1.cell? ⟨wr.heap.size,3,none⟩=some (.int .i64 t.col):=S.M.qc hb1 3;clear hnow DC ST z0 y0 y1 y2 y3 g1 hb1;have CK:Hid (Calls Tryz.prog 102 #[S.zo t,.int .i64 (q.2.1:Nat)] w1 (Chk t (q.2.1:Nat) w1)):=check_any w1 t _;unfold S.zo at CK
   by_cases hc0:q.2.1=0
   ·have HC0:Hid (q.2.1=0):=hc0;clear hc0;go_wp2_with fail;refine cMo CK.out ?_;rintro e w2 ⟨hb2,he⟩;rw[if_pos (by rw[HC0.out];rfl)] at he;subst he;have G2:Hid (Goes N wr lb txt mr (k + 3 * j + 2) { L' with T:=q.2.2 } (Y.numOf L'.T.syms) w2):=G1.out.jd hb2;have u0':=ug u0 hb2;obtain⟨c2,m2,i2,h2⟩:=G2.out;have I2:=hid i2;have x0:w2.cell? ⟨lb,0,none⟩=some (.pointer (some ⟨m2.Bb,0,none⟩)):=i2.cells.1;have x2:w2.cell? ⟨m2.Bb,2,none⟩=some (.map (some m2.nb)):=S.M.qc i2.bbox 2;obtain⟨n2,hn2,hm2⟩:=i2.num;obtain⟨W3,hmu,hm3,hg3⟩:=(show Y.jg w2.drew m2.nb n2 _ from hm2.kept rfl).put (by unfold maxLen;omega) t.text (by have:=HZt.out;unfold maxLen;omega) q.1 (by have:=HLe.out;omega);rw[HQ.out HC0.out] at hm3;have G3:Hid (Goes N wr lb txt mr (k + 3 * (j + 1)) { L' with T:=q.2.2 } (Y.numOf q.2.2.syms) W3):=by
     have hbd:Below w2.heap.size w2 w2.drew:=S.M.zi bRf 1;have h1:=((I2.out.below hbd).numbered (k':=k + 3 * (j + 1)) (by omega) (S.M.Ch.jw hg3) ⟨n2 + 1,by omega,hm3⟩).q18 hbd;exact q34 c2 h2 h1
    have R2:Hid (q0l Y.q3g L ts=q0l Y.q3g { L' with T:=q.2.2 } (ts.drop (j + 1))):=HR2.out.trans (if_pos HC0.out);have G4:Hid (Goes N w lb txt m (k + 3 * (j + 1)) { L' with T:=q.2.2 } (Y.numOf q.2.2.syms) W3):=by
     exact q34 HCr.out GR.out G3.out
    clear hb2 c2 i2 h2 hm2 hm3 hg3 u0 u1 u2 u3 CK G1 G2 HB1 hn2;go_upto_region 5 with fail
    go_region
    go_wp2
    exact⟨⟨j + 1,_,by omega,by go_num,R2.out,HOk.out.up (by omega),G4.out⟩,by simp[intOf];omega⟩
   ·have HC0:Hid (¬((q.2.1:Nat):Int)=0):=by show ¬_;omega
    have R2:Hid (q0l Y.q3g L ts=.error (t,(q.2.1:Nat))):=HR2.out.trans (if_neg hc0);clear hc0;go_wp2_with fail;refine cMo CK.out ?_;rintro e w2 ⟨hb2,he⟩;rw[if_neg HC0.out] at he;obtain⟨b,rfl,q2,q3⟩:=he;refine⟨rfl,q0y R2.out ?_ ⟨b,rfl,q2,?_⟩⟩
    ·exact qbu HCr.out GR.out (G1.out.1.trans (S.M.Ch.oB hb2))
    ·have h1:=HSr.out;have h2:=G1.out.1.size;omega
  ·have n1:¬(j:Int) < (n:Int):=by omega
   have hje:j=n:=by omega
   subst hje;have hall:ts.drop j=[]:=List.drop_eq_nil_of_le (by rw[HL.out];exact Nat.le_refl _);have R2:Hid (q0l Y.q3g L ts=.ok L'):=hR.out.trans (by rw[hall];rfl);clear hall hR hT
   go_wp2
   exact bodyPost_end (results_none rfl _ _ _) rfl (gq R2.out rfl hG.out)
end
structure Ld.Ok (L:Ld)(k:Nat):Prop where
 tab:L.T.Ok k
 sc1:1≤L.sc.length
 sc2:L.sc.length≤17
 hyl:L.hy.length + L.al.length≤L.T.labels.length
 sub:(jl L.sc).Sublist L.hy
 ex:∀h ∈ L.hy,h.ex.length≤200∧(∀x ∈ h.ex,F.wfN x)∧F.wfN h.var∧h.lab.size≤65536
 ps:(F.uo L.sc).length≤256
 pw:∀p ∈ F.uo L.sc,F.wfP p
 labs:∀s,s ∈ L.hy.map (·.lab)∨s ∈ L.al.map (·.label.text)→s ∈ L.T.labels
theorem Ld.Ok.up {L:Ld}{k k':Nat}(h:L.Ok k)(hk:k≤k'):L.Ok k':=⟨h.tab.up hk,h.sc1,h.sc2,h.hyl,h.sub,h.ex,h.ps,h.pw,h.labs⟩
theorem Ld.Ok.hy1 {L:Ld}{k:Nat}(h:L.Ok k):L.hy.length + L.al.length≤1024:=nLt h.hyl h.tab.labels
structure q1a (N:Nat)(m:LdM)(w:World)(s:Stm)(vw vp:Value):Prop where
 ow:w.ownsRow N 36 4 vw s.words.length (S.rowT s.words)
 op:w.ownsRow N 36 4 vp s.proof.length (S.rowT s.proof)
 cw:∀b,vw.ownBlock=some b→¬m.hot b
 cp:∀b,vp.ownBlock=some b→¬m.hot b
 lw:s.words.length≤16384
 lp:s.proof.length≤16384
 zw:∀t ∈ s.words,t.text.size≤65536
 zl:s.label.text.size≤65536
def yc (s:Stm)(vw vp:Value):Array Value:=S.q4w s.kind s.label s.key s.fin s.proving vw vp
def q0o (s:Stm)(vw vp:Value):Value:=.agg (yc s vw vp)
section
variable {N:Nat} {w W':World} {lb:Nat} {txt:ByteArray} {k k':Nat} {L L':Ld} {nf nf':ByteArray→Option Nat} {m m':LdM} {s:Stm} {vw vp:Value}
theorem q1a.words (h:q1a N m w s vw vp):∃a c,vw=.slice a s.words.length c∧qbw m w a s.words:=by
 obtain⟨a,c,e,_,ht⟩:=S.wo h.ow;refine⟨a,c,e,ht,fun b off eb h0=>?_⟩;obtain⟨g,c2,e2,_,_,_⟩:=S.M.q0h h.ow h0;rw[e,eb] at e2;simp only[Value.slice.injEq,Option.some.injEq,Addr.mk.injEq] at e2;exact h.cw b (by rw[e,eb,e2.1.2.1];rfl)
theorem q1a.ch {X:Nat→Prop}(h:q1a N m w s vw vp)(hc:S.M.Ch X w W')(hx:∀b,X b→m.hot b)(hh:∀b,m'.hot b→m.hot b∨w.heap.size≤b):q1a N m' W' s vw vp :=
 ⟨S.M.qh h.ow hc fun b e hb=>h.cw b e (hx b hb),S.M.qh h.op hc fun b e hb=>h.cp b e (hx b hb),fun b e hb=>(hh b hb).elim (h.cw b e) fun h2=>by have:=S.M.jr h.ow b e;omega,fun b e hb=>(hh b hb).elim (h.cp b e) fun h2=>by have:=S.M.jr h.op b e;omega,h.lw,h.lp,h.zw,h.zl⟩
theorem q1a.below (h:q1a N m w s vw vp)(hb:Below w.heap.size w W'):q1a N m W' s vw vp:=h.ch (S.M.Ch.oB (X:=fun _=>False) hb) (fun _ e=>e.elim) fun _=>.inl
theorem Does.q18 {r:Res Ld}{e:Ending}{Wa W2:World}(hb:Below w.heap.size w Wa)(h:Does N Wa lb txt m k r e W2):Does N w lb txt m k r e W2:=by
 cases r with
 | ok L'=>exact⟨h.1,h.2.q18 hb⟩
 | error f=>exact⟨(S.M.Ch.oB hb).trans h.1,h.2.le hb.size⟩
theorem Does.up {r:Res Ld}{e:Ending}{W2:World}(h:Does N w lb txt m k r e W2)(hk:k≤k'):Does N w lb txt m k' r e W2:=by
 cases r with
 | ok L'=>exact⟨h.1,h.2.up hk⟩
 | error f=>exact h
theorem q5p {w':World}(hb:Below (w.alloc (.cells (yc s vw vp) 95)).heap.size (w.alloc (.cells (yc s vw vp) 95)) w'):∀i,w'.cell? ⟨w.heap.size,i,none⟩=(yc s vw vp)[i]?:=fun i=>by
 by_cases hi:i < 16
 ·have h0:(w.alloc (.cells (yc s vw vp) 95)).cell? ⟨w.heap.size,i,none⟩=(yc s vw vp)[i]?:=World.cell?_alloc_new w (yc s vw vp) 95 i;rw[←h0];exact hb.cell (p:=⟨w.heap.size,i,none⟩) (by show _ < (w.heap.push _).size;simp)
 ·have h0:(w.alloc (.cells (yc s vw vp) 95)).cell? ⟨w.heap.size,i,none⟩=(yc s vw vp)[i]?:=World.cell?_alloc_new w (yc s vw vp) 95 i;rw[←h0];exact hb.cell (p:=⟨w.heap.size,i,none⟩) (by show _ < (w.heap.push _).size;simp)
theorem q14 {G:Prop}(h:G):wpAny Tryz.prog .any #[] (fun _ _ _=>True) 0 #[] { tmps:=#[],defers:=[] } default→G:=fun _=>h
theorem q7a (w:World)(s:Stm)(aw:Option Addr)(nw cw:Nat)(ap:Option Addr)(np cp:Nat):Calls Tryz.prog 165 #[q0o s (.slice aw nw cw) (.slice ap np cp)] w fun e w'=>e=.returned (.bool (q0m s.fin))∧Below w.heap.size w w':=by
 unfold q0o yc S.q4w;go_enter Tryz.func165,Tryz.ntmps165
 go_wp2
 go_ret
 refine⟨?_,S.qg w _⟩
 show _=Ending.returned (.bool (!s.fin.text.data.toList.isEmpty))
 rw[←ByteArray.toList_eq]
 rfl
theorem qcv (h:xg N w lb txt k L (Y.numOf L.T.syms) m)(hO:L.Ok k)(hk:k < 100000000000)(hKB:Y.KB w)(hN:1 < N)(hs:q1a N m w s vw vp):Calls Tryz.prog 108 #[.pointer (some ⟨lb,0,none⟩),q0o s vw vp] w (Does N w lb txt m (k + 49152) (q38 L s)):=by
 obtain⟨aw,cw,rfl,hW⟩:=hs.words;obtain⟨ap,cp,rfl,_⟩:=S.wo hs.op;obtain⟨_,x1,_⟩:=h.cells;have b0:Below w.heap.size w (w.alloc (.cells (yc s (.slice aw s.words.length cw) (.slice ap s.proof.length cp)) 95)):=S.qg _ _;have B0:=hid b0;have DE:Hid (∀wx,Below w.heap.size w wx→Calls Tryz.prog 156 #[.pointer (some ⟨m.tq,0,none⟩)] wx fun e w'=>e=.returned (.int .i64 L.T.scopes.length)∧w'=wx):=fun wx hb=>Y.q4i wx _ _ _ _ (h.below hb).tab
 have hT:=hO.tab.scopes;have GU:Hid (∀wx,Calls Tryz.prog 153 #[S.zo s.key,.int .i64 80] wx fun e w'=>Below wx.heap.size wx w'∧Quits s.key 80 wx.heap.size e w'):=fun wx=>q20 wx s.key 80
 have DC:Hid (∀wx,Below w.heap.size w wx→Calls Tryz.prog 109 #[.pointer (some ⟨lb,0,none⟩),.slice aw s.words.length cw,.func (.func 157) #[.pointer (some ⟨m.tq,0,none⟩)] #[]] wx (Does N w lb txt m (k + 49152) (q0l Y.q0b L s.words))):=fun wx hb=>by
  have hl:=hs.lw;refine (qep (h.below hb) hO.tab (by omega) (hKB.kept (hb.block 1 hKB.pos)) hN aw _ cw s.words rfl (by omega) ⟨hW.1.under hb,hW.2⟩ (fun t ht=>by have:=hs.zw t ht;omega)).mono fun e w' hd=>?_
  exact (hd.up (by omega)).q18 hb
 have C0:Hid (∀w',Below (w.alloc (.cells (yc s (.slice aw s.words.length cw) (.slice ap s.proof.length cp)) 95)).heap.size (w.alloc (.cells (yc s (.slice aw s.words.length cw) (.slice ap s.proof.length cp)) 95)) w'→∀i,w'.cell? ⟨w.heap.size,i,none⟩=(yc s (.slice aw s.words.length cw) (.slice ap s.proof.length cp))[i]?):=fun w' hb=>q5p hb
 have y1:=ug x1 b0;have HR:Hid (q38 L s=if 0 < L.T.scopes.length then .error (s.key,80) else q0l Y.q0b L s.words):=rfl;generalize hnl:s.words.length=n at *;obtain⟨w1,hw1⟩:=eXa (w.alloc (.cells (yc s (.slice aw n cw) (.slice ap s.proof.length cp)) 95));rw[←hw1] at B0 C0 y1;have z:=C0.out w1 bRf;have z5:w1.cell? ⟨w.heap.size,5,none⟩=some (.string s.key.text):=z 5;have z6:w1.cell? ⟨w.heap.size,6,none⟩=some (.int .i64 s.key.off):=z 6;have z7:w1.cell? ⟨w.heap.size,7,none⟩=some (.int .i64 s.key.line):=z 7;have z8:w1.cell? ⟨w.heap.size,8,none⟩=some (.int .i64 s.key.col):=z 8;have z10:w1.cell? ⟨w.heap.size,10,none⟩=some (.slice aw n cw):=z 10;clear h hO hKB hs hW x1 b0 z;generalize m.tq=tq at *;unfold q0o S.zo at *
 by_cases hd:0 < L.T.scopes.length
 ·have n1:(0:Int) < (L.T.scopes.length:Int):=by omega
  have hr2:Hid (q38 L s=.error (s.key,80)):=HR.out.trans (if_pos hd);generalize L.T.scopes.length=dl at *;clear hd DC;go_enter Tryz.func108,Tryz.ntmps108;go_upto_region 1 with fail;rw[←hw1];clear hw1;go_wp2_with fail;refine cMo (DE.out _ B0.out) ?_;rintro e wz ⟨rfl,hwz⟩;subst wz;go_wp2_with fail;refine cMo (GU.out _) ?_;rintro e w' ⟨hb,b,rfl,q2,q3⟩;have B1:=B0.out;exact⟨rfl,q0y hr2.out (S.M.Ch.oB (B1.trans (hb.mono B1.size))) ⟨b,rfl,q2,nLt B1.size q3⟩⟩
 ·have n1:¬(0:Int) < (L.T.scopes.length:Int):=by omega
  have hr2:Hid (q38 L s=q0l Y.q0b L s.words):=HR.out.trans (if_neg hd);generalize L.T.scopes.length=dl at *;generalize q0l Y.q0b L s.words=r at *;clear hd GU z5 z6 z7 z8;go_enter Tryz.func108,Tryz.ntmps108;go_upto_region 1 with fail;rw[←hw1];clear hw1;go_wp2_with fail;refine cMo (DE.out _ B0.out) ?_;rintro e wz ⟨rfl,hwz⟩;subst wz;have DC1:Hid _:=DC.out w1.drew (S.M.zi B0.out 1);clear DC DE
  cases r with
  | ok L' =>
   go_upto_region 3 with fail
   go_region_law (go_simp;go_at_call 109;refine cMo DC1.out ?_;rintro e w2 ⟨rfl,hg⟩;have HG:=hid hg;clear hg)
   all_goals go_wp2
   all_goals exact bodyPost_end (results_none rfl _ _ _) rfl (gq hr2.out rfl HG.out)
  | error f =>
   go_upto_region 3 with fail
   go_region_law (go_simp;go_at_call 109;refine cMo DC1.out ?_;rintro e w2 ⟨hc,b,rfl,q2,q3⟩;refine q14 (h:=⟨rfl,q0y hr2.out hc ⟨b,rfl,q2,q3⟩⟩) ?_)
   all_goals trivial
end
end B
end Go.Proofs.YtbancemhfjjmlaaGreatDoor
