/- Laid together. -/
import Derived.Test.YtbancemhfjjmlaaGreatDoorQB17
import Derived.Test.YtbancemhfjjmlaaGreatDoorRows
import Derived.Lib.LaidU8
import Derived.ChangeSame
import Derived.Deep.Slices
import Derived.OpenShut
import Derived.Deep.DeepHandedRow
import Derived.ChangeArms
import Derived.ChangeSlices
import Derived.ProofKit
import Derived.LaidMore
import Derived.ShutString
import Derived.Stop.Joined
import Derived.Lib.LaidTab
import Derived.MakeChecks
import Derived.Lay
set_option maxRecDepth 100000
set_option maxHeartbeats 32000000
namespace Go.Proofs.YtbancemhfjjmlaaGreatDoor
namespace B
open Go.Maps Go.RowKit Go.WideMaps
open F (uj yw HyC Pp)
open S (Tok q0i Stm)
structure StsEq (p:Bool)(l m:List Stm):Prop where
 len:l.length=m.length
 few:l.length≤1048576
 all:∀(j:Nat) (s u:Stm),l[j]?=some s→m[j]?=some u→q68 p s u
theorem qhh {w W:World}{b T:Nat}{cs:List Value}(h:w.heap[b]?=some (.cells cs.toArray T (0,0)))(hb:Below w.heap.size w W):W.rangeAt b 0 cs:=fun j v hv=>by
 rw[Nat.zero_add];exact zq hb ((S.M.qc h j).trans (by simpa using hv))
theorem q7h {ops:Array Oper} {rest:List Oper} {op:Oper} {a:Act} {w:World} {Q:Exit→Act→World→Prop} (hw:Region.wanted op (yielded ops a.tmps)=true) (ty:TypeId) (x:Operand) (ho:op.op=.load ty x)
  (b o:Nat) (hx:a.eval x=.pointer (some ⟨b,o,none⟩)) (cs:List Value) (d:TypeDesc) (hc:w.rangeAt b o cs)
  (hu:Tryz.prog.underlying ty=some d) (hd:d.isRow=true) (hi:(Tryz.prog.info? ty).map (·.size)=some cs.length)
  (h:wpList Tryz.prog ops Q rest (a.put op.dst (.agg cs.toArray)) w):wpList Tryz.prog ops Q (op :: rest) a w:=by
 unfold wpList;rw[if_pos hw];exact .inl (wp_load_mid ty x ho b o hx cs d hc hu hd hi h)
theorem alike_t {N N':Nat} {w:World} {lb lb':Nat} {txt txt':ByteArray} {k k':Nat} {L M:Ld} {nf nf':ByteArray→Option Nat} {m m':LdM} (hL:xg N w lb txt k L nf m) (hM:xg N' w lb' txt' k' M nf' m') (hR:S.RdW w) (h1:txt.size≤281474976710656) (h2:txt'.size≤281474976710656)
  (hq:qng false L M) (hs:StsEq false (S.je txt).1.l (S.je txt').1.l) (hi:∀a ∈ L.al,qa8 L.hy a) (hj:∀a ∈ M.al,qa8 M.hy a) (hT:L.T.syms.length≤512) (hc:L.al.length≤1024) :
  Yes 13 #[.pointer (some ⟨m.Bb,0,none⟩),.pointer (some ⟨m'.Bb,0,none⟩)] w:=by
 obtain⟨Ba,hBa⟩:∃B,m.Bb=B:=⟨_,rfl⟩;obtain⟨Bm,hBm⟩:∃B,m'.Bb=B:=⟨_,rfl⟩;rw[hBa,hBm];obtain⟨cnt,hcnt⟩:∃c,L.al.length=c:=⟨_,rfl⟩;obtain⟨nsy,hnsy⟩:∃c,L.T.syms.length=c:=⟨_,rfl⟩;have lcnt:cnt≤1024:=by omega
 have lnsy:nsy≤512:=by omega
 have hT2:M.T.syms.length≤512:=by rw[←hq.T];exact hT
 have UL:=fun W (hW:Below w.heap.size w W)=>hL.below hW
 have UM:=fun W (hW:Below w.heap.size w W)=>hM.below hW
 have NA:Hid (∀W,Below w.heap.size w W→Calls Tryz.prog 15 #[.pointer (some ⟨Ba,0,none⟩)] W fun e w'=>e=.returned (.int .i64 cnt)∧w'=W):=fun W hW=>by
  have h9:=count_any (UL W hW);rw[hcnt,hBa] at h9;exact h9
 have NB:Hid (∀W,Below w.heap.size w W→Calls Tryz.prog 15 #[.pointer (some ⟨Bm,0,none⟩)] W fun e w'=>e=.returned (.int .i64 cnt)∧w'=W):=fun W hW=>by
  have h9:=count_any (UM W hW);rw[←hq.al,hcnt,hBm] at h9;exact h9
 have YA:Hid (∀W,Below w.heap.size w W→Calls Tryz.prog 30 #[.pointer (some ⟨Ba,0,none⟩)] W fun e w'=>e=.returned (.int .i64 nsy)∧w'=W):=fun W hW=>by
  have h9:=q6w (UL W hW);rw[hnsy,hBa] at h9;exact h9
 have YB:Hid (∀W,Below w.heap.size w W→Calls Tryz.prog 30 #[.pointer (some ⟨Bm,0,none⟩)] W fun e w'=>e=.returned (.int .i64 nsy)∧w'=W):=fun W hW=>by
  have h9:=q6w (UM W hW);rw[←hq.T,hnsy,hBm] at h9;exact h9
 obtain⟨n,hn⟩:=eXb ((S.je txt).1.l.length);have SA:Hid (∀W,Below w.heap.size w W→Calls Tryz.prog 34 #[.pointer (some ⟨Ba,0,none⟩)] W fun e w'=>Below W.heap.size W w'∧∃a c,e=.returned (.slice a n c)∧q46 w' a (S.je txt).1.l):=fun W hW=>by
  have h9:=qdv (UL W hW) (hR.under hW) h1;rw[hn,hBa] at h9;exact h9
 have SB:Hid (∀W,Below w.heap.size w W→Calls Tryz.prog 34 #[.pointer (some ⟨Bm,0,none⟩)] W fun e w'=>Below W.heap.size W w'∧∃a c,e=.returned (.slice a n c)∧q46 w' a (S.je txt').1.l):=fun W hW=>by
  have h9:=qdv (UM W hW) (hR.under hW) h2;rw[←hs.len,hn,hBm] at h9;exact h9
 have ST:Hid (∀W a b c d,q46 W a (S.je txt).1.l→q46 W b (S.je txt').1.l→Yes 64 #[.slice a n c,.slice b n d,.bool false] W):=fun W a b c d ha hb=>qhg W a b n c d false _ _ hn (by rw[←hs.len,hn]) (by rw[←hn];exact hs.few) hs.all ha hb
 have AA:Hid (∀W,Below w.heap.size w W→∀i a,L.al[i]?=some a→Calls Tryz.prog 16 #[.pointer (some ⟨Ba,0,none⟩),.int .i64 (i:Nat)] W fun e w'=>Below W.heap.size W w'∧∃v1 v2 v3 v4 v5 v6 ts us,e=.returned (.tuple #[.agg (atV i a v1 v2 v3 v4 v5 v6),.int .i64 0])∧AtT W.heap.size w' L.hy a v1 v2 v3 v4 v5 v6 ts us):=fun W hW i a ha=>by
  have hx:=(UL W hW).asa;obtain⟨x,hx1,rfl⟩:∃x,m.ax[i]?=some x∧x.a=a:=by rw[←hx,List.getElem?_map] at ha;obtain⟨x,h3,h4⟩:=Option.map_eq_some_iff.1 ha;exact⟨x,h3,h4⟩
  have h9:=at_in (UL W hW) i x hx1 (hi _ (mGe ha));rw[hBa] at h9;exact h9
 have AB:Hid (∀W,Below w.heap.size w W→∀i a,M.al[i]?=some a→Calls Tryz.prog 16 #[.pointer (some ⟨Bm,0,none⟩),.int .i64 (i:Nat)] W fun e w'=>Below W.heap.size W w'∧∃v1 v2 v3 v4 v5 v6 ts us,e=.returned (.tuple #[.agg (atV i a v1 v2 v3 v4 v5 v6),.int .i64 0])∧AtT W.heap.size w' M.hy a v1 v2 v3 v4 v5 v6 ts us):=fun W hW i a ha=>by
  have hx:=(UM W hW).asa;obtain⟨x,hx1,rfl⟩:∃x,m'.ax[i]?=some x∧x.a=a:=by rw[←hx,List.getElem?_map] at ha;obtain⟨x,h3,h4⟩:=Option.map_eq_some_iff.1 ha;exact⟨x,h3,h4⟩
  have h9:=at_in (UM W hW) i x hx1 (hj _ (mGe ha));rw[hBm] at h9;exact h9
 have MA:Hid (∀W,Below w.heap.size w W→∀i:Int,Calls Tryz.prog 32 #[.pointer (some ⟨Ba,0,none⟩),.int .i64 i] W fun e w'=>e=.returned (.string (q7g L.T i))∧Below W.heap.size W w'):=fun W hW i=>by
  have h9:=q9f (UL W hW) (nLt hT (by decide)) i;rw[hBa] at h9;exact h9
 have MB:Hid (∀W,Below w.heap.size w W→∀i:Int,Calls Tryz.prog 32 #[.pointer (some ⟨Bm,0,none⟩),.int .i64 i] W fun e w'=>e=.returned (.string (q7g L.T i))∧Below W.heap.size W w'):=fun W hW i=>by
  have h9:=q9f (UM W hW) (nLt hT2 (by decide)) i;rw[←hq.T,hBm] at h9;exact h9
 have VA:Hid (∀W,Below w.heap.size w W→∀i:Int,Calls Tryz.prog 23 #[.pointer (some ⟨Ba,0,none⟩),.int .i64 i] W fun e w'=>e=.returned (.bool (zn L.T i))∧Below W.heap.size W w'):=fun W hW i=>by
  have h9:=qbx (UL W hW) (nLt hT (by decide)) i;rw[hBa] at h9;exact h9
 have VB:Hid (∀W,Below w.heap.size w W→∀i:Int,Calls Tryz.prog 23 #[.pointer (some ⟨Bm,0,none⟩),.int .i64 i] W fun e w'=>e=.returned (.bool (zn L.T i))∧Below W.heap.size W w'):=fun W hW i=>by
  have h9:=qbx (UM W hW) (nLt hT2 (by decide)) i;rw[←hq.T,hBm] at h9;exact h9
 have HQ:Hid (qng false L M∧(∀a ∈ L.al,qa8 L.hy a)∧L.al.length=cnt):=⟨hq,hi,hcnt⟩;have E0:Hid (Below w.heap.size w w):=bRf;clear hL hM hR h1 h2 hq hs hi hj hT hc hBa hBm hcnt hnsy hT2 UL UM hn;go_enter Tryz.func13,Tryz.ntmps13;go_wp2_with fail;refine cMo (NA.out w E0.out) ?_;rintro e wz ⟨rfl,hwz⟩;subst wz;go_wp2_with fail;refine cMo (NB.out w E0.out) ?_;rintro e wz ⟨rfl,hwz⟩;subst wz;go_wp2_with fail;refine cMo (YA.out w E0.out) ?_;rintro e wz ⟨rfl,hwz⟩;subst wz;go_wp2_with fail;refine cMo (YB.out w E0.out) ?_;rintro e wz ⟨rfl,hwz⟩;subst wz;go_wp2_with fail;refine cMo (SA.out w E0.out) ?_;rintro e w1 ⟨hb,sa,ca,rfl,hsa⟩;have E1:=bTr E0 hb;have TA:=hid hsa;clear hb hsa;go_wp2_with fail;refine cMo (SB.out w1 E1.out) ?_;rintro e w2 ⟨hb,sb,cb,rfl,hsb⟩;have E2:=bTr E1 hb;have CST:Hid _:=ST.out w2 sa sb ca cb (TA.out.under hb) hsb;clear hb hsb TA ST SA SB E1;go_wp2_with fail;refine cMo CST.out ?_;rintro e w3 ⟨rfl,hb⟩;have E3:=bTr E2 hb;clear hb CST E2;go_wp2_with fail
 go_loopw [5] (fun v5 wx=>∃i:Nat,i≤cnt∧v5=.int .i64 i∧Hid (Below w.heap.size w wx)) (fun v5 _=>cnt - (intOf v5).toNat)
 case atStart=>exact⟨0,Nat.zero_le _,rfl,E3.out⟩
 case round =>
  obtain⟨i,hi,rfl,hB⟩:=hrel;have BR:=hid hB;clear hB
  by_cases hlt:i < cnt
  ·as_aux_lemma =>
   have m1:(i:Int) < (cnt:Int):=by omega
   obtain⟨a,ha⟩:∃a,L.al[i]?=some a:=⟨_,gEq (by rw[HQ.out.2.2];exact hlt)⟩;obtain⟨b,hb⟩:∃b,M.al[i]?=some b:=⟨_,gEq (by rw[←HQ.out.1.al,HQ.out.2.2];exact hlt)⟩;have EQ:Hid (AsEq false a b∧qa8 L.hy a∧L.hy=M.hy):=⟨HQ.out.1.ass i a b ha hb,HQ.out.2.1 a (mGe ha),HQ.out.1.hy⟩;have CA:Hid _:=AA.out wr BR.out i a ha;have CB:Hid (∀W,Below w.heap.size w W→_):=fun W hW=>AB.out W hW i b hb
   clear ha hb AA AB HQ;go_wp2_with fail;refine cMo (NA.out wr BR.out) ?_;rintro e wz ⟨rfl,hwz⟩;subst wz;go_wp2_with fail;refine cMo CA.out ?_;rintro e q1 ⟨hb,v1,v2,v3,v4,v5,v6,ts,us,rfl,hat⟩;obtain⟨a1,a2,a3,a4,a5,a6,n1,n2,n3,n4,n5,n6,c1,c2,c3,c4,c5,c6,rfl,rfl,rfl,rfl,rfl,rfl,_⟩:=hat.parts;unfold atV;obtain⟨q2,hq2⟩:=eXa (q1.alloc (.cells #[.int .i64 (i:Nat),.string a.label.text,.bool a.thm,.slice a1 n1 c1,.slice a2 n2 c2,.slice a3 n3 c3,.slice a4 n4 c4,.slice a5 n5 c5,.slice a6 n6 c6,.string a.label.text,.int .i64 a.label.off,.int .i64 a.label.line,.int .i64 a.label.col,.string a.fin.text,.int .i64 a.fin.off,.int .i64 a.fin.line,.int .i64 a.fin.col] 51));have HQ2:=hid hq2;obtain⟨X,hX⟩:=eXb q1.heap.size;have HX:=hid hX;have kx:q2.heap[X]?=some (.cells #[.int .i64 (i:Nat),.string a.label.text,.bool a.thm,.slice a1 n1 c1,.slice a2 n2 c2,.slice a3 n3 c3,.slice a4 n4 c4,.slice a5 n5 c5,.slice a6 n6 c6,.string a.label.text,.int .i64 a.label.off,.int .i64 a.label.line,.int .i64 a.label.col,.string a.fin.text,.int .i64 a.fin.off,.int .i64 a.fin.line,.int .i64 a.fin.col] 51 (0,0)):=by rw[hq2,←hX];exact World.alloc_heap_new q1 _
   have bx:Below q1.heap.size q1 q2:=by rw[hq2];exact S.qg _ _
   have B2:Hid (Below w.heap.size w q2):=BR.out.trans ((hb.trans (bx.mono hb.size)).mono BR.out.size);have KX:=hid kx;have AT:Hid (∀W,Below q2.heap.size q2 W→AtT wr.heap.size W L.hy a (.slice a1 n1 c1) (.slice a2 n2 c2) (.slice a3 n3 c3) (.slice a4 n4 c4) (.slice a5 n5 c5) (.slice a6 n6 c6) ts us):=fun W hW=>(hat.below bx).below hW
   clear hb hat hq2 hX kx bx CA
   as_aux_lemma =>
    go_upto_region 7 with fail;rw[←HQ2.out,HX.out];clear HQ2;go_wp2_with fail;refine cMo (CB.out q2 B2.out) ?_;rintro e q3 ⟨hb,u1,u2,u3,u4,u5,u6,ts',us',rfl,hat⟩;obtain⟨b1,b2,b3,b4,b5,b6,k1,k2,k3,k4,k5,k6,d1,d2,d3,d4,d5,d6,rfl,rfl,rfl,rfl,rfl,rfl,_⟩:=hat.parts;unfold atV;obtain⟨q4,hq4⟩:=eXa (q3.alloc (.cells #[.int .i64 (i:Nat),.string b.label.text,.bool b.thm,.slice b1 k1 d1,.slice b2 k2 d2,.slice b3 k3 d3,.slice b4 k4 d4,.slice b5 k5 d5,.slice b6 k6 d6,.string b.label.text,.int .i64 b.label.off,.int .i64 b.label.line,.int .i64 b.label.col,.string b.fin.text,.int .i64 b.fin.off,.int .i64 b.fin.line,.int .i64 b.fin.col] 51));have HQ4:=hid hq4;obtain⟨Y,hY⟩:=eXb q3.heap.size;have HY:=hid hY;have ky:q4.heap[Y]?=some (.cells #[.int .i64 (i:Nat),.string b.label.text,.bool b.thm,.slice b1 k1 d1,.slice b2 k2 d2,.slice b3 k3 d3,.slice b4 k4 d4,.slice b5 k5 d5,.slice b6 k6 d6,.string b.label.text,.int .i64 b.label.off,.int .i64 b.label.line,.int .i64 b.label.col,.string b.fin.text,.int .i64 b.fin.off,.int .i64 b.fin.line,.int .i64 b.fin.col] 51 (0,0)):=by rw[hq4,←hY];exact World.alloc_heap_new q3 _
    have bx:Below q3.heap.size q3 q4:=by rw[hq4];exact S.qg _ _
    have bq:Below q2.heap.size q2 q4:=hb.trans (bx.mono hb.size);have B4:=bTr B2 bq;have RY:Hid (q4.rangeAt Y 0 [.int .i64 (i:Nat),.string b.label.text,.bool b.thm,.slice b1 k1 d1,.slice b2 k2 d2,.slice b3 k3 d3,.slice b4 k4 d4,.slice b5 k5 d5,.slice b6 k6 d6,.string b.label.text,.int .i64 b.label.off,.int .i64 b.label.line,.int .i64 b.label.col,.string b.fin.text,.int .i64 b.fin.off,.int .i64 b.fin.line,.int .i64 b.fin.col]):=qhh ky bRf;have key:=at_same (i:=i) EQ.out.1 EQ.out.2.1 (AT.out q4 bq) (by rw[EQ.out.2.2];exact hat.below bx);unfold atV at key;have KEY:Hid _:=key;have RX:Hid (q4.rangeAt X 0 [.int .i64 (i:Nat),.string a.label.text,.bool a.thm,.slice a1 n1 c1,.slice a2 n2 c2,.slice a3 n3 c3,.slice a4 n4 c4,.slice a5 n5 c5,.slice a6 n6 c6,.string a.label.text,.int .i64 a.label.off,.int .i64 a.label.line,.int .i64 a.label.col,.string a.fin.text,.int .i64 a.fin.off,.int .i64 a.fin.line,.int .i64 a.fin.col]):=qhh KX.out bq;clear hb hat hq4 hY ky bx bq CB key AT EQ KX
    as_aux_lemma =>
     go_upto_region 8 with fail;rw[←HQ4.out,HY.out];clear HQ4;refine wp_region_list ?_;refine wpList_plain rfl fun K hK=>?_
     go_simp;refine hK _ _ ?_;clear hK K;refine wpList_plain rfl fun K hK=>?_
     go_simp;refine hK _ _ ?_;clear hK K;refine wpList_plain rfl fun K hK=>?_
     go_simp;refine hK _ _ ?_;clear hK K;refine wpList_plain rfl fun K hK=>?_
     go_simp;refine hK _ _ ?_;clear hK K;refine q7h (by rfl) 51 _ rfl X 0 rfl [.int .i64 (i:Nat),.string a.label.text,.bool a.thm,.slice a1 n1 c1,.slice a2 n2 c2,.slice a3 n3 c3,.slice a4 n4 c4,.slice a5 n5 c5,.slice a6 n6 c6,.string a.label.text,.int .i64 a.label.off,.int .i64 a.label.line,.int .i64 a.label.col,.string a.fin.text,.int .i64 a.fin.off,.int .i64 a.fin.line,.int .i64 a.fin.col] _ RX.out Tryz.underlying51 rfl (by kernel_rfl) ?_;refine q7h (by rfl) 51 _ rfl Y 0 rfl [.int .i64 (i:Nat),.string b.label.text,.bool b.thm,.slice b1 k1 d1,.slice b2 k2 d2,.slice b3 k3 d3,.slice b4 k4 d4,.slice b5 k5 d5,.slice b6 k6 d6,.string b.label.text,.int .i64 b.label.off,.int .i64 b.label.line,.int .i64 b.label.col,.string b.fin.text,.int .i64 b.fin.off,.int .i64 b.fin.line,.int .i64 b.fin.col] _ RY.out Tryz.underlying51 rfl (by kernel_rfl) ?_;clear RX RY
     try simp only[Act.put,List.setIfInBounds_toArray,List.set_cons_zero,List.set_cons_succ]
     go_wp2_with fail;refine cMo KEY.out ?_;rintro e q5 ⟨rfl,hb⟩;have B5:=bTr B4 hb;clear hb KEY;go_wp2_with fail;exact⟨⟨i + 1,by omega,by go_num,B5.out⟩,by simp[intOf];omega⟩
  ·have m1:¬(i:Int) < (cnt:Int):=by omega
   go_wp2_with fail;refine cMo (NA.out wr BR.out) ?_;rintro e wz ⟨rfl,hwz⟩;subst wz;clear NA NB AA AB HQ YB;go_wp2_with fail
   go_loopw [10] (fun v10 wx=>∃j:Nat,j≤nsy∧v10=.int .i64 j∧Hid (Below w.heap.size w wx)) (fun v10 _=>nsy - (intOf v10).toNat)
   case atStart=>exact⟨0,Nat.zero_le _,rfl,BR.out⟩
   case round =>
    clear BR;obtain⟨j,hj,rfl,hB⟩:=hrel;have BS:=hid hB;clear hB
    by_cases hlt2:j < nsy
    ·have m2:(j:Int) < (nsy:Int):=by omega
     go_wp2_with fail;refine cMo (YA.out wr BS.out) ?_;rintro e wz ⟨rfl,hwz⟩;subst wz;go_wp2_with fail;refine cMo (MA.out _ BS.out _) ?_;rintro e z0 ⟨rfl,hb⟩;have F0:=bTr BS hb;clear hb;go_wp2_with fail;refine cMo (MB.out _ F0.out _) ?_;rintro e z1 ⟨rfl,hb⟩;have F1:=bTr F0 hb;clear hb;go_wp2_with fail;refine cMo (VA.out _ F1.out _) ?_;rintro e z2 ⟨rfl,hb⟩;have F2:=bTr F1 hb;clear hb;go_wp2_with fail;refine cMo (VB.out _ F2.out _) ?_;rintro e z3 ⟨rfl,hb⟩;have F3:=bTr F2 hb;clear hb;go_wp2_with fail;exact⟨⟨j + 1,by omega,by go_num,F3.out⟩,by simp[intOf];omega⟩
    ·have m2:¬(j:Int) < (nsy:Int):=by omega
     go_wp2_with fail;refine cMo (YA.out wr BS.out) ?_;rintro e wz ⟨rfl,hwz⟩;subst wz;go_wp2_with fail
     go_ret
     exact⟨rfl,BS.out⟩
end B
namespace S
open Go.RowKit
structure q56 (w:World)(P:Nat)(v:Value)(bs:List UInt8):Prop where
 box:∃p,(p=.pointer none∨p=.pointer (some ⟨P,0,none⟩))∧w.heap[P]?=some (.cells #[p,v] 137 (0,0))
 own:w.ownsRow (P + 1) 5 1 v bs.length (bs.map q0w)
 nil:bs=[]→v=.slice none 0 0
theorem q56.down {w w':World}{P:Nat}{v:Value}{bs:List UInt8}(h:q56 w P v bs)(hb:Below w.heap.size w w'):q56 w' P v bs:=by
 obtain⟨p,hp,hk⟩:=h.box;exact⟨⟨p,hp,(hb.block P (aIx hk)).trans hk⟩,M.qh h.own (M.Ch.oB (X:=fun _=>False) hb) (fun _ _ e=>e),h.nil⟩
theorem q56.lt {w:World}{P:Nat}{v:Value}{bs:List UInt8}(h:q56 w P v bs):P < w.heap.size:=by
 obtain⟨p,hp,hk⟩:=h.box;exact (aIx hk)
theorem Pg.under {P N:Nat}{a b:World}{u v:Value}{bs:List UInt8}(h:Pg P a u b v)(hp:q56 a P u bs)(hN:N≤P):Below N a b :=
 h.ch.below (by have:=hp.lt;omega) fun g e=>e.elim (fun e=>by omega) fun e=>by have:=M.zf hp.own g e;omega
theorem qdx (w:World)(P:Nat)(v:Value)(p:Value)(hp:p=.pointer none∨p=.pointer (some ⟨P,0,none⟩))(hk:w.heap[P]?=some (.cells #[p,v] 137 (0,0))) :
  Calls Tryz.prog 147 #[.pointer (some ⟨P,0,none⟩)] w fun e w'=>e=.returned (.tuple #[])∧w'.heap[P]?=some (.cells #[.pointer (some ⟨P,0,none⟩),v] 137 (0,0))∧M.Ch (fun g=>g=P) w w':=by
 obtain⟨j,hj,hjs⟩:∃j,Tryz.prog.info? 137=some j∧j.size=2:=Option.map_eq_some_iff.1 (show (Tryz.prog.info? 137).map (·.size)=some 2 by kernel_rfl);have h0:w.cell? ⟨P,0,none⟩=some p:=M.qc hk 0;have hfz:w.frozen? ⟨P,0,none⟩=false:=by simp[World.frozen?,hk]
 have hsh:w.shape? P=some (137,2):=by simp[World.shape?,hk]
 have HK:=hid hk;clear hk;rcases hp with rfl | rfl
 ·go_enter Tryz.func147,Tryz.ntmps147
  go_wp2
  rw[Lib.run_to_unsafe _ ⟨P,0,none⟩ Tryz.underlying135 Tryz.underlying255 hj (by rw[hjs];decide) hsh (by show 0 < 2;omega)];simp only[Result.andThen];rw[Oper.upon_value]
  go_wp2
  rw[run_callFunc_extern Tryz.func207 (by kernel_rfl) (by kernel_rfl) (by kernel_rfl) (e:=Extern.AbiNoEscape.same) (by kernel_rfl)];rw[Lib.run_noEscape];simp only[Result.andThen];rw[Oper.upon_value]
  go_wp2
  rw[Lib.run_from_unsafe _ ⟨P,0,none⟩ Tryz.underlying255 Tryz.underlying135 hj hsh (by kernel_rfl)];simp only[Result.andThen];rw[Oper.upon_value]
  go_wp2
  go_end0
  exact⟨rfl,M.qj HK.out,M.jc _ _ _ _⟩
 ·go_enter Tryz.func147,Tryz.ntmps147
  go_wp2
  rw[Lib.run_neq_ptr_same _ _ Tryz.underlying135 hj]
  go_wp2
  go_end0
  exact⟨rfl,HK.out,M.Ch.refl _ _⟩
theorem qcg (w:World)(P:Nat)(v p:Value)(bs:List UInt8)(word:ByteArray)(hp:p=.pointer none∨p=.pointer (some ⟨P,0,none⟩))(hk:w.heap[P]?=some (.cells #[p,v] 137 (0,0)))(hown:w.ownsRow (P + 1) 5 1 v bs.length (bs.map q0w))(hlen:bs.length + word.size≤1099511627776) :
  Calls Tryz.prog 94 #[.pointer (some ⟨P,0,none⟩),.string word] w fun e w'=>e=.returned (.tuple #[.int .i64 word.size,.nilIface])∧∃v',w'.heap[P]?=some (.cells #[.pointer (some ⟨P,0,none⟩),v'] 137 (0,0))∧w'.ownsRow (P + 1) 5 1 v' (bs++word.data.toList).length ((bs++word.data.toList).map q0w)∧Pg P w v w' v':=by
 obtain⟨i0,hi0,hz0,hz1,hz3⟩:=info_parts qk9;obtain⟨m,hm⟩:=eXb bs.length;rw[hm] at hown hlen;obtain⟨a,c,rfl,hc,_⟩:=M.xq hown;have CC:Hid _:=qdx w P (.slice a m c) p hp hk;have HO:=hid hown;have HP:Hid (P < w.heap.size):=(aIx hk);have HM:=hid hm;clear hp hk hown hm;go_enter Tryz.func94,Tryz.ntmps94;go_wp2_with fail;refine cMo CC.out ?_;rintro e w1 ⟨rfl,hk1,hc1⟩;have HO1:Hid (w1.ownsRow (P + 1) 5 1 (.slice a m c) m (bs.map q0w)):=M.qh HO.out hc1 fun g e hx=>by have h1:=M.zf HO.out g e;omega
 have C1:=hid hc1;have c1:w1.cell? ⟨P,1,none⟩=some (.slice a m c):=M.qc hk1 1;have HK1:=hid hk1;clear hk1 hc1 CC HO
 go_wp2_with (at_builtin;refine q4y (w:=w1) rfl _ _ _ _ rfl (P + 1) 5 i0 Tryz.underlying133 Tryz.underlying9 hi0 hz0 hz1 hz3 _ m (bs.map q0w) (by rfl) (by exact HO1.out) word (by rfl) (by unfold maxLen;omega) (by omega) (by have h1:=C1.out.size;have h2:=HP.out;omega) ?_;intro a2 c2 w2 ho2 hg2 hl2;have HO2:=hid ho2;have HG2:=hid hg2;have HL2:=hid hl2;clear ho2 hg2 hl2;have HK2:Hid (w2.heap[P]?=some (.cells #[.pointer (some ⟨P,0,none⟩),.slice a m c] 137 (0,0))):=(HG2.out.block P (by have h1:=C1.out.size;have h2:=HP.out;omega) (fun e=>by have h1:=M.zf HO1.out P e.symm;omega)).trans HK1.out;have c2':w2.cell? ⟨P,1,none⟩=some (.slice a m c):=M.qc HK2.out 1;have f2':w2.frozen? ⟨P,1,none⟩=false:=by simp[World.frozen?,HK2.out])
 go_ret2
 refine⟨rfl,.slice a2 (m + word.size) c2,M.qj HK2.out,?_,Pg.qka C1.out HG2.out HL2.out _⟩;rw[lAp,HM.out,q4h,List.map_append];exact M.qh HO2.out (M.jc w2 P 1 _) fun g e hx=>by have h1:=M.zf HO2.out g e;omega
theorem qo8 (w:World)(P:Nat)(v p:Value)(bs:List UInt8)(ch:UInt8)(ci:Int)(hci:(ch.toNat:Int)=ci)(hp:p=.pointer none∨p=.pointer (some ⟨P,0,none⟩))(hk:w.heap[P]?=some (.cells #[p,v] 137 (0,0)))(hown:w.ownsRow (P + 1) 5 1 v bs.length (bs.map q0w))(hlen:bs.length≤1099511627776) :
  Calls Tryz.prog 93 #[.pointer (some ⟨P,0,none⟩),.int .u8 ci] w fun e w'=>e=.returned .nilIface∧∃v',w'.heap[P]?=some (.cells #[.pointer (some ⟨P,0,none⟩),v'] 137 (0,0))∧w'.ownsRow (P + 1) 5 1 v' (bs++[ch]).length ((bs++[ch]).map q0w)∧Pg P w v w' v':=by
 obtain⟨i0,hi0,hz0,hz1,hz3⟩:=info_parts qk9;obtain⟨m,hm⟩:=eXb bs.length;rw[hm] at hown hlen;obtain⟨a,c,rfl,hc,_⟩:=M.xq hown;have CC:Hid _:=qdx w P (.slice a m c) p hp hk;have HO:=hid hown;have HP:Hid (P < w.heap.size):=(aIx hk);have HM:=hid hm;have HCI:=hid hci;clear hp hk hown hm hci;go_enter Tryz.func93,Tryz.ntmps93;go_wp2_with fail;refine cMo CC.out ?_;rintro e w1 ⟨rfl,hk1,hc1⟩;have HO1:Hid (w1.ownsRow (P + 1) 5 1 (.slice a m c) m (bs.map q0w)):=M.qh HO.out hc1 fun g e hx=>by have h1:=M.zf HO.out g e;omega
 have C1:=hid hc1;have c1:w1.cell? ⟨P,1,none⟩=some (.slice a m c):=M.qc hk1 1;have HK1:=hid hk1;clear hk1 hc1 CC HO
 go_wp2_with (at_builtin;refine wpList_append_lies (w:=w1.alloc (.cells #[.int .u8 ci] 5)) rfl _ _ _ rfl (P + 1) 5 i0 (.int .u8 0) 1 1 Tryz.underlying133 hi0 hz0 hz1 hz3 rfl (by decide) _ m (bs.map q0w) (by rfl) (by exact M.zk HO1.out _) ⟨w1.heap.size,0,none⟩ 1 1 [.int .u8 ci] (by rfl) (by rfl) (fun j' u hu=>World.news_of_block (cs:=#[.int .u8 ci]) (t:=5) (fr:=(0,0)) (heap_alloc_new w1 _) j' u hu) (by simp[Value.oneCell']) (by omega) (by unfold maxLen;omega) (by omega) (by have h1:=C1.out.size;have h2:=HP.out;simp;omega) _ rfl ?_;intro g2 c2 w2 ho2 hg2 hl2 _;have HO2:=hid ho2;have HG2:=hid hg2;have HL2:=hid hl2;clear ho2 hg2 hl2;have HK2:Hid (w2.heap[P]?=some (.cells #[.pointer (some ⟨P,0,none⟩),.slice a m c] 137 (0,0))):=(HG2.out.block P (by have h1:=C1.out.size;have h2:=HP.out;simp;omega) (fun e=>by have h1:=M.zf HO1.out P e.symm;omega)).trans (((qg w1 _).block P (by have h1:=C1.out.size;have h2:=HP.out;omega)).trans HK1.out);have c2':w2.cell? ⟨P,1,none⟩=some (.slice a m c):=M.qc HK2.out 1;have f2':w2.frozen? ⟨P,1,none⟩=false:=by simp[World.frozen?,HK2.out])
 go_ret
 refine⟨rfl,.slice (some ⟨g2,0,none⟩) (m + 1) c2,M.qj HK2.out,?_,?_⟩
 ·rw[lAp,HM.out,List.map_append];have h3:w2.ownsRow (P + 1) 5 1 (.slice (some ⟨g2,0,none⟩) (m + 1) c2) (m + 1) (bs.map q0w++[ch].map q0w):=by
   have h:=HO2.out;rw[←HCI.out] at h;exact h
  exact M.qh h3 (M.jc w2 P 1 _) fun g e hx=>by have h1:=M.zf HO2.out g e;omega
 ·refine Pg.trans (Pg.of_below (P:=P) (Below.refl _ w)) ?_;have hc3:M.Ch (fun g=>g=P) w (w1.alloc (.cells #[.int .u8 ci] 5)):=C1.out.trans (M.Ch.oB (qg w1 _));exact Pg.qka hc3 HG2.out (M.q4k HL2.out) _
theorem qr5 (w:World)(P:Nat)(v:Value)(bs:List UInt8)(h:q56 w P v bs):Calls Tryz.prog 78 #[.pointer (some ⟨P,0,none⟩)] w fun e w'=>e=.returned (.string ⟨bs.toArray⟩)∧Below (P + 1) w w':=by
 obtain⟨p,hp,hbk⟩:=h.box
 by_cases h0:bs=[]
 ·have hv:=h.nil h0;subst hv;rw[h0];have hUS:=Lib.run_unsafeString_none (P:=Tryz.prog) (w:=w.drew) 210 3 9;have c1:w.drew.cell? ⟨P,1,none⟩=some (.slice none 0 0):=M.qc hbk 1;have hSD:(Builtin.unsafeSliceData_ #[133] 210 #[.slice none 0 0]).run Tryz.prog w.drew=.ok (.pointer none) w.drew:=rfl;have mixed:Tryz.prog.follows Departure.mixedOrders=true:=by kernel_rfl
  clear h hbk hp h0;go_enter Tryz.func78,Tryz.ntmps78
  go_wp2
  go_region_o
  all_goals (go_wp2;go_ret;exact⟨rfl,Below.drew (Below.refl _ w)⟩)
 ·have hown:=h.own;have hl0:bs.length≠0:=by simpa using h0
  obtain⟨g,cap,cur,rfl,hbg,hg,hnc,hcm,hcs,htake⟩:∃g cap cur,v=.slice (some ⟨g,0,none⟩) bs.length cap∧P + 1≤g∧w.heap[g]?=some (.cells cur 5 (0,0))∧bs.length≤cap∧cap≤maxLen∧cur.size=cap * 1∧cur.toList.take (bs.length * 1)=bs.map q0w:=by
   rcases hown.2 with ⟨_,hz⟩ | ⟨g,cap,cur,hv,r⟩
   ·exact absurd hz hl0
   ·exact⟨g,cap,cur,hv,r⟩
  have c1:w.drew.cell? ⟨P,1,none⟩=some (.slice (some ⟨g,0,none⟩) bs.length cap):=M.qc hbk 1;have hSD:(Builtin.unsafeSliceData_ #[133] 210 #[.slice (some ⟨g,0,none⟩) bs.length cap]).run Tryz.prog w.drew=.ok (.pointer (some ⟨g,0,none⟩)) w.drew:=Lib.run_unsafeSliceData_row _ _ _ _ _ _ (by omega);have hUS:(Builtin.unsafeString_ #[210,3] 9 #[.pointer (some ⟨g,0,none⟩),.int .i64 bs.length]).run Tryz.prog w.drew=.ok (.string ⟨bs.toArray⟩) (w.drew.freeze ⟨g,0,none⟩ bs.length):=by
   refine Lib.run_unsafeString_row w.drew 210 3 9 5 Tryz.underlying210 (by kernel_rfl) g cur.size (by have hg':w.drew.heap[g]?=some (.cells cur 5 (0,0)):=hg;simp[World.shape?,hg']) bs h0 (by omega) (by unfold maxLen at hcm;omega) ?_;intro j x hx;have:=hown.cells (g:=g) rfl j (.int .u8 x.toNat) (by simp[hx,q0w])
   exact this
  have mixed:Tryz.prog.follows Departure.mixedOrders=true:=by kernel_rfl
  clear h hbk hp htake hown;go_enter Tryz.func78,Tryz.ntmps78
  go_wp2
  go_region_o
  all_goals (go_wp2;go_ret;exact⟨rfl,Lib.below_freeze (Below.drew (Below.refl _ w)) (p:=⟨g,0,none⟩) hbg _⟩)
end S
namespace B
open Go.RowKit
open S (Tok Stm)
def q2f (T:Y.Tab)(n:Int):ByteArray:=if (q7g T n).data.toList.isEmpty=true then ⟨#[63]⟩ else q7g T n
theorem qhi (T:Y.Tab)(n:Int):(q2f T n).data.toList≠[]:=by
 unfold q2f
 split
 ·simp
 ·rename_i h
  exact fun e=>h (by rw[e];rfl)
def q3c (T:Y.Tab):List Int→List UInt8
 | []=>[]
 | x :: r=>(q2f T x).data.toList++r.flatMap fun y=>32 :: (q2f T y).data.toList
theorem qhj (T:Y.Tab)(x:Int):∀l:List Int,q3c T (l++[x])=if l.length=0 then (q2f T x).data.toList else q3c T l++32 :: (q2f T x).data.toList
 | []=>by simp[q3c]
 | y :: r=>by simp[q3c]
theorem qjy {T:Y.Tab}(h:∀n,(q2f T n).size≤65536):∀l:List Int,(q3c T l).length≤65537 * l.length
 | []=>by simp[q3c]
 | x :: r=>by
  have hr:(r.flatMap fun y=>32 :: (q2f T y).data.toList).length≤65537 * r.length:=by
   induction r with
   | nil=>simp
   | cons y r ih =>
    have h1:=h y;rw[←S.q4h] at h1;simp only[List.flatMap_cons,lAp,List.length_cons];omega
  have h1:=h x;rw[←S.q4h] at h1;simp only[q3c,lAp,List.length_cons];omega
section
variable {N:Nat} {w:World} {lb:Nat} {txt:ByteArray} {k:Nat} {L:Ld} {nf:ByteArray→Option Nat} {m:LdM}
theorem qr6 (h:xg N w lb txt k L nf m)(hT:L.T.syms.length≤4611686018427387904)(n:Int):Calls Tryz.prog 95 #[.pointer (some ⟨m.Bb,0,none⟩),.int .i64 n] w fun e w'=>e=.returned (.string (q2f L.T n))∧Below w.heap.size w w':=by
 have NM:Hid _:=q9f h hT n;have HW:Hid (q2f L.T n=if (q7g L.T n).data.toList.isEmpty=true then ⟨#[63]⟩ else q7g L.T n):=rfl;generalize q7g L.T n=s at *;generalize q2f L.T n=t at *;clear h
 cases he:s.data.toList.isEmpty with
 | true =>
  have hl:(!s.toList.isEmpty)=false:=by rw[ByteArray.toList_eq,he];rfl
  have HT:Hid (t=⟨#[63]⟩):=HW.out.trans (if_pos he);clear he HW;go_enter Tryz.func95,Tryz.ntmps95;go_wp2_with fail;refine cMo NM.out ?_;rintro e w1 ⟨rfl,hb⟩;clear NM
  go_wp2
  go_ret
  exact⟨by rw[HT.out];rfl,hb⟩
 | false =>
  have hl:(!s.toList.isEmpty)=true:=by rw[ByteArray.toList_eq,he];rfl
  have HT:Hid (t=s):=HW.out.trans (if_neg (by rw[he];exact Bool.false_ne_true));clear he HW;go_enter Tryz.func95,Tryz.ntmps95;go_wp2_with fail;refine cMo NM.out ?_;rintro e w1 ⟨rfl,hb⟩;clear NM
  go_wp2
  go_ret
  exact⟨by rw[HT.out];rfl,hb⟩
theorem print_any (h:xg N w lb txt k L nf m)(hT:L.T.syms.length≤4611686018427387904)(hm:∀n,(q2f L.T n).size≤65536)(a:Option Addr)(n c:Nat)(l:List Int)(hl:l.length=n)(hn:n≤1048576)(hA:F.uj w a l) :
  Calls Tryz.prog 48 #[.pointer (some ⟨m.Bb,0,none⟩),.slice a n c] w fun e w'=>e=.returned (.string ⟨(q3c L.T l).toArray⟩)∧Below w.heap.size w w':=by
 obtain⟨N0,hN⟩:∃N,w.heap.size=N:=⟨_,rfl⟩;have HN:=hid hN;have WD:Hid (∀wx,Below N0 w wx→∀x:Int,Calls Tryz.prog 95 #[.pointer (some ⟨m.Bb,0,none⟩),.int .i64 x] wx fun e w'=>e=.returned (.string (q2f L.T x))∧Below wx.heap.size wx w'):=fun wx hb x=>qr6 (h.below (by rw[hN];exact hb)) hT x
 have HL:=hid hl;have HA:=hid hA;have HM:=hid hm;have HW:Hid (Below N0 w (w.alloc (.cells #[.pointer none,.slice none 0 0] 137))∧S.q56 (w.alloc (.cells #[.pointer none,.slice none 0 0] 137)) N0 (.slice none 0 0) []):=by
  refine⟨by rw[←hN];exact S.qg _ _,⟨_,.inl rfl,by rw[←hN];exact World.alloc_heap_new w _⟩,World.ownsRow_nil _ _ _ _,fun _=>rfl⟩
 rw[hN];generalize m.Bb=Bb at *;generalize L.T=T at *;clear h hl hA hm;go_enter Tryz.func48,Tryz.ntmps48;go_wp2_with fail;clear hN
 go_loopw [10] (fun v10 wx=>∃(j:Nat) (v:Value) (bs:List UInt8),j≤n∧v10=.int .i64 j∧Hid (S.q56 wx N0 v bs)∧Hid (bs=q3c T (l.take j))∧Hid (Below N0 w wx)) (fun v10 _=>n - (intOf v10).toNat)
 case atStart=>exact⟨0,_,[],Nat.zero_le _,rfl,HW.out.2,rfl,HW.out.1⟩
 case round =>
  obtain⟨j,v,bs,hj,rfl,hU,hE,hB⟩:=hrel;have HNr:Hid (N0≤wr.heap.size):=by have h1:=hB.out.size;have h2:=HN.out;show N0≤_;omega
  by_cases hlt:j < n
  ·have n1:(j:Int) < (n:Int):=by omega
   obtain⟨x,hx⟩:∃x,l[j]?=some x:=⟨_,gEq (by rw[HL.out];exact hlt)⟩;obtain⟨g,off,rfl,y0⟩:=HA.out j x hx;replace y0:=uh y0 HN.out hB.out;have hlen:Hid (bs.length≤68720525312):=by
    have h1:=qjy HM.out (l.take j);rw[←hE.out,List.length_take] at h1
    show _≤_
    omega
   have HS:Hid (q3c T (l.take (j + 1))=if (l.take j).length=0 then (q2f T x).data.toList else q3c T (l.take j)++32 :: (q2f T x).data.toList):=by
    show _=_
    rw[List.take_add_one,hx,Option.toList_some];exact qhj T x _
   have HTL:Hid ((l.take j).length=j):=by show _=_;rw[List.length_take,HL.out];omega
   clear hx
   by_cases hz:j=0
   ·have nz:¬(0:Int) < (j:Int):=by omega
    have E2:Hid (bs++(q2f T x).data.toList=q3c T (l.take (j + 1))):=by
     show _=_
     rw[HS.out,if_pos (by rw[HTL.out];exact hz),hE.out,hz]
     rfl
    clear hz;have WW:Hid _:=WD.out wr hB.out x;go_wp2_with fail;refine cMo WW.out ?_;rintro e w1 ⟨rfl,hb1⟩;have BU1:Hid (S.q56 w1 N0 v bs):=(hU.out).down hb1;have HB1:Hid (Below N0 w w1):=hB.out.trans (hb1.mono HNr.out);obtain⟨p,hp,hk⟩:=BU1.out.box;have WT:Hid _:=S.qcg w1 N0 v p bs (q2f T x) hp hk BU1.out.own (by have h1:=hlen.out;have h2:=HM.out x;omega);clear hb1 hp hk WW;go_wp2_with fail;refine cMo WT.out ?_;rintro e w2 ⟨rfl,v2,hk2,ho2,hg2⟩;have BU2:Hid (S.q56 w2 N0 v2 (bs++(q2f T x).data.toList)):=⟨⟨_,.inr rfl,hk2⟩,ho2,fun e=>absurd (List.append_eq_nil_iff.1 e).2 (qhi T x)⟩;have HB2:Hid (Below N0 w w2):=HB1.out.trans (hg2.under BU1.out (Nat.le_refl _));clear hk2 ho2 hg2 WT
    go_wp2
    exact⟨⟨j + 1,v2,_,by omega,by go_num,BU2.out,E2.out,HB2.out⟩,by simp[intOf];omega⟩
   ·have nz:(0:Int) < (j:Int):=by omega
    have E2:Hid ((bs++[32])++(q2f T x).data.toList=q3c T (l.take (j + 1))):=by
     show _=_
     rw[HS.out,if_neg (by rw[HTL.out];exact hz),hE.out,List.append_assoc]
     rfl
    clear hz;obtain⟨p0,hp0,hk0⟩:=hU.out.box;have BY:Hid _:=S.qo8 wr N0 v p0 bs 32 32 rfl hp0 hk0 hU.out.own (by have h1:=hlen.out;omega);clear hp0 hk0;go_wp2_with fail;refine cMo BY.out ?_;rintro e w3 ⟨rfl,v3,hk3,ho3,hg3⟩;have BU3:Hid (S.q56 w3 N0 v3 (bs++[32])):=⟨⟨_,.inr rfl,hk3⟩,ho3,fun e=>by simp at e⟩;have HB3:Hid (Below N0 w w3):=hB.out.trans (hg3.under hU.out (Nat.le_refl _));have HN3:Hid (N0≤w3.heap.size):=by have h1:=HB3.out.size;have h2:=HN.out;show N0≤_;omega
    clear hk3 ho3 hg3 BY;have WW:Hid _:=WD.out w3 HB3.out x;go_wp2_with fail;refine cMo WW.out ?_;rintro e w1 ⟨rfl,hb1⟩;have BU1:Hid (S.q56 w1 N0 v3 (bs++[32])):=(BU3.out).down hb1;have HB1:Hid (Below N0 w w1):=HB3.out.trans (hb1.mono HN3.out);obtain⟨p,hp,hk⟩:=BU1.out.box;have WT:Hid _:=S.qcg w1 N0 v3 p (bs++[32]) (q2f T x) hp hk BU1.out.own (by have h1:=(show (bs++[32]).length≤68720525313 by have h1:=hlen.out;simp;omega);have h2:=HM.out x;omega);clear hb1 hp hk WW;go_wp2_with fail;refine cMo WT.out ?_;rintro e w2 ⟨rfl,v2,hk2,ho2,hg2⟩;have BU2:Hid (S.q56 w2 N0 v2 ((bs++[32])++(q2f T x).data.toList)):=⟨⟨_,.inr rfl,hk2⟩,ho2,fun e=>absurd (List.append_eq_nil_iff.1 e).2 (qhi T x)⟩;have HB2:Hid (Below N0 w w2):=HB1.out.trans (hg2.under BU1.out (Nat.le_refl _));clear hk2 ho2 hg2 WT
    go_wp2
    exact⟨⟨j + 1,v2,_,by omega,by go_num,BU2.out,E2.out,HB2.out⟩,by simp[intOf];omega⟩
  ·have n1:¬(j:Int) < (n:Int):=by omega
   have hall:l.take j=l:=List.take_of_length_le (by rw[HL.out];omega);have E2:Hid (bs=q3c T l):=by have h:=hE.out;rw[hall] at h;exact h
   have ST:Hid _:=S.qr5 wr N0 v bs hU.out;clear hall hE;go_wp2_with fail;refine cMo ST.out ?_;rintro e w4 ⟨rfl,hb4⟩;have HB4:Hid (Below N0 w w4):=hB.out.trans (hb4.mono (Nat.le_succ _));clear hb4 ST
   go_wp2
   go_ret
   exact⟨by rw[E2.out];rfl,HB4.out⟩
end
theorem qhk:∀(a b:List Stm) (L:Ld),wu L (a++b)=match wu L a with | .ok L1=>wu L1 b | .error f=>.error f
 | [],b,L=>rfl
 | s :: a,b,L=>by
  rw[List.cons_append,wu,wu]
  cases qm L s with
  | ok L1=>exact qhk a b L1
  | error f=>rfl
def qr7 (s:ByteArray)(i:Nat)(f:Tok × Int):Prop:=∀(s':ByteArray) (rest:List Tok),S.q0e s'=(S.q0e s).take (i + 1)++rest→q1j s'=.error f
theorem qr7.up {s:ByteArray}{i j:Nat}{f:Tok × Int}(h:qr7 s i f)(hij:i≤j):qr7 s j f:=fun s' rest e=>by
 refine h s' (((S.q0e s).take (j + 1)).drop (i + 1)++rest) ?_;rw[e,←List.append_assoc]
 congr 1
 have:=List.take_append_drop (i + 1) ((S.q0e s).take (j + 1))
 rw[List.take_take,Nat.min_eq_left (by omega)] at this;exact this.symm
def q7q:ByteArray:=⟨#[36,99,32,40,32,45,62,32,124,45,32,119,102,102,32,36,46,32,36,118,32,112,32,113,32,36,46,32,119,112,32,36,102,32,119,102,102,32,112,32,36,46,32,119,113,32,36,102,32,119,102,102,32,113,32,36,46,32,119,105,32,36,97,32,119,102,102,32,40,32,112,32,45,62,32,113,32,36,46,32,36,123,32,109,110,32,36,101,32,124,45,32,112,32,36,46,32,36,100,32,112,32,113,32,36,46,32,109,112,32,36,97,32,124,45,32,40,32,112,32,45,62,32,113,32,36,46,32,36,125,32,105,100,32,36,112,32,124,45,32,112,32,36,61,32,119,112,32,36,46]⟩
def qjz:ByteArray:=⟨#[36,99,32,97,32,97,32,36,46]⟩
def q7r:List Stm:=(S.je q7q).1.l
def getL (r:Res Ld):Ld:=match r with
 | .ok L=>L
 | .error _=>ld0
def L7:Ld:=getL (wu ld0 (q7r.take 7))
def s8:Stm:=match q7r.drop 7 with
 | s :: _=>s
 | []=>S.newS 0 S.q2i S.q2i
def qr8:List Stm:=q7r.drop 8
def L8:Ld:={ L7 with sc:=F.q1c (fun a=>⟨a.hs,a.ps++(F.q6r [4,5]).filter fun p=>!F.q3w (F.uo L7.sc) p⟩) L7.sc }
def LS:Ld:=getL (wu L8 qr8)
def aS:As:=match LS.al.drop 1 with
 | a :: _=>a
 | []=>⟨S.q2i,false,[],[],[],[],[],[],S.q2i⟩
set_option maxRecDepth 1000000
theorem qk0:(S.je q7q).2=none:=by kernel_rfl
theorem qhl:q7r=q7r.take 7++s8 :: qr8:=by kernel_rfl
theorem qhm:wu ld0 (q7r.take 7)=.ok L7:=by kernel_rfl
theorem qo9:q3y L7 s8.label=.ok L7:=by kernel_rfl
theorem qk1:zy L7 s8=q2s L7 s8:=by kernel_rfl
theorem qk2:q1k L7 [] (q05 (F.uo L7.sc)) s8.words=.ok [4,5]:=by kernel_rfl
theorem qoa:q0m s8.fin=true:=by kernel_rfl
theorem qr9:([4,5]:List Int).filter (zn L7.T)=[4,5]:=by kernel_rfl
theorem ms45:([4,5]:List Int).mergeSort (fun x y=>decide (x≤y))=[4,5]:=by
 simp[List.mergeSort]
theorem cp45:Lib.compact ([4,5]:List Int)=[4,5]:=by kernel_rfl
theorem qra:F.varsOf (isV:=zn L7.T) [4,5]=[4,5]:=by
 unfold F.varsOf;rw[qr9,ms45,cp45]
theorem qch:F.q1w (isV:=zn L7.T) L7.sc [4,5]=0:=by
 unfold F.q1w F.q2p;rw[qra]
 kernel_rfl
theorem qhn:qm L7 s8=.ok L8:=by
 unfold qm;rw[qo9];dsimp only;rw[qk1];unfold q2s;rw[qk2];dsimp only;rw[if_pos qoa,qch];unfold yj;rw[if_pos rfl];unfold F.q1l;rw[if_pos qch];unfold F.q2p;rw[qra]
 rfl
theorem qk3:wu L8 qr8=.ok LS:=by kernel_rfl
theorem qk4:¬1 < LS.sc.length:=by
 have h:decide (1 < LS.sc.length)=false:=by kernel_rfl
 exact of_decide_eq_false h
theorem qrb:q1j q7q=.ok LS:=by
 have hl:wu ld0 (S.je q7q).1.l=.ok LS:=by
  show wu ld0 q7r=_
  rw[qhl,qhk,qhm];dsimp only;rw[wu,qhn];exact qk3
 unfold q1j;rw[hl];dsimp only;rw[qk0];dsimp only;rw[if_neg qk4]
theorem qrc:q1j qjz=.error (⟨⟨#[97]⟩,5,1,6⟩,20):=by kernel_rfl
theorem qho:LS.al.length=3:=by kernel_rfl
theorem qdy:LS.T.syms.length=6:=by kernel_rfl
theorem qrd:LS.al[1]?=some aS:=by kernel_rfl
theorem qhp:aS.label.text=⟨#[109,112]⟩:=by kernel_rfl
theorem qob:aS.thm=false:=by kernel_rfl
theorem q8i:aS.needed.length=3:=by kernel_rfl
theorem q9x:aS.apart.length=1:=by kernel_rfl
theorem qk5:q3c LS.T aS.goal=[124,45,32,40,32,112,32,45,62,32,113]:=by kernel_rfl
theorem q9n:aS.goal.length=5:=by kernel_rfl
def qez (hy:List F.Hy)(l:List Int):Bool:=l.all fun p=>decide (0≤p) && decide (p.toNat < hy.length)
theorem qdz {hy:List F.Hy}{l:List Int}(h:qez hy l=true):∀p ∈ l,∃i:Nat,p=i∧i < hy.length:=fun p hp=>by
 have h1:=List.all_eq_true.1 h p hp;rw[Bool.and_eq_true] at h1;have h2:=of_decide_eq_true h1.1;exact⟨p.toNat,by omega,of_decide_eq_true h1.2⟩
theorem qre:qa8 LS.hy aS:=by
 have h1:decide (aS.active.length≤1048576)=true:=by kernel_rfl
 have h2:qez LS.hy aS.needed=true:=by kernel_rfl
 have h3:qez LS.hy aS.active=true:=by kernel_rfl
 have h4:decide (aS.pairs.length≤1048576)=true:=by kernel_rfl
 have h5:decide (aS.proof.length≤1048576)=true:=by kernel_rfl
 have h6:(LS.hy.all fun y=>decide (y.ex.length≤17592186044416))=true:=by kernel_rfl
 exact⟨by rw[q9n];omega,⟨by rw[q8i];omega,qdz h2⟩,by rw[q9x];omega,⟨of_decide_eq_true h1,qdz h3⟩,of_decide_eq_true h4,of_decide_eq_true h5,fun y hy=>of_decide_eq_true (List.all_eq_true.1 h6 y hy)⟩
theorem qhq:∀n,(q2f LS.T n).size≤65536:=fun n=>by
 have h:(LS.T.syms.all fun p=>decide (p.1.size≤65536))=true:=by kernel_rfl
 have hn:(q7g LS.T n).size≤65536:=by
  unfold q7g Y.q31
  split
  ·cases hs:LS.T.syms[n.toNat]? with
   | none=>exact Nat.zero_le _
   | some p=>exact of_decide_eq_true (List.all_eq_true.1 h p (mGe hs))
  ·exact Nat.zero_le _
 unfold q2f
 split
 ·decide
 ·exact hn
open Go.RowKit Go.Maps Go.WideMaps
theorem qoc (w:World):Calls Tryz.prog 59 #[] w fun e w'=>e=.returned (.string q7q)∧w'=w:=by
 go_enter Tryz.func59,Tryz.ntmps59
 go_wp2
 go_ret
 exact⟨by kernel_rfl,rfl⟩
theorem alive_any (w:World)(hR:S.RdW w):Calls Tryz.prog 10 #[] w fun e w'=>e=.returned (.bool true)∧Below w.heap.size w w':=by
 have SM:Hid _:=qoc w;have LD:Hid (∀wx,Below w.heap.size w wx→∀t:ByteArray,t.size≤281474976710656→Calls Tryz.prog 9 #[.string t] wx (Loaded wx t)):=fun wx hb t ht=>qcf wx t ht (hR.under hb) (q7c t)
 go_enter Tryz.func10,Tryz.ntmps10;go_wp2_with fail;refine cMo SM.out ?_;rintro e wz ⟨rfl,hwz⟩;subst wz;clear SM;have L1:Hid _:=LD.out w bRf q7q (by decide);go_wp2_with fail;refine cMo L1.out ?_;rintro e w1 ⟨hb1,hm⟩;rw[qrb] at hm;obtain⟨lb,m,rfl,hI⟩:=hm;have I1:=hid hI;have B1:=hid hb1;have CT:Hid (Calls Tryz.prog 15 #[.pointer (some ⟨m.Bb,0,none⟩)] w1 fun e w'=>e=.returned (.int .i64 3)∧w'=w1):=by
  have h:=count_any hI;rw[qho] at h;exact h
 have SY:Hid (Calls Tryz.prog 30 #[.pointer (some ⟨m.Bb,0,none⟩)] w1 fun e w'=>e=.returned (.int .i64 6)∧w'=w1):=by
  have h:=q6w hI;rw[qdy] at h;exact h
 obtain⟨x,hx,hxa⟩:∃x,m.ax[1]?=some x∧x.a=aS:=by
  have h:=qrd;rw[←hI.asa,List.getElem?_map] at h
  cases hx:m.ax[1]? with
  | none=>rw[hx] at h;cases h
  | some x=>rw[hx] at h;exact⟨x,rfl,by simpa using h⟩
 have AT:Hid (Calls Tryz.prog 16 #[.pointer (some ⟨m.Bb,0,none⟩),.int .i64 1] w1 fun e w'=>Below w1.heap.size w1 w'∧∃v1 v2 v3 v4 v5 v6 ts us,e=.returned (.tuple #[.agg (atV 1 aS v1 v2 v3 v4 v5 v6),.int .i64 0])∧AtT w1.heap.size w' LS.hy aS v1 v2 v3 v4 v5 v6 ts us):=by
  have h:=at_in hI 1 x hx (by rw[hxa];exact qre);rw[hxa] at h;exact h
 have PR:Hid (∀wx,Below w1.heap.size w1 wx→∀(a:Option Addr) (c:Nat),F.uj wx a aS.goal→Calls Tryz.prog 48 #[.pointer (some ⟨m.Bb,0,none⟩),.slice a 5 c] wx fun e w'=>e=.returned (.string ⟨#[124,45,32,40,32,112,32,45,62,32,113]⟩)∧Below wx.heap.size wx w'):=fun wx hb a c ha=>by
  have h:=print_any (hI.below hb) (by rw[qdy];omega) qhq a 5 c aS.goal q9n (by omega) ha;rw[qk5] at h;exact h
 generalize m.Bb=Bb at *;clear hI hb1 hx hxa L1 I1;go_wp2_with fail;refine cMo CT.out ?_;rintro e wz ⟨rfl,hwz⟩;subst wz;clear CT;go_wp2_with fail;refine cMo SY.out ?_;rintro e wz ⟨rfl,hwz⟩;subst wz;clear SY;go_upto_region 4 with fail;go_wp2_with fail;refine cMo AT.out ?_;rintro e w2 ⟨hb2,v1,v2,v3,v4,v5,v6,ts,us,rfl,ht⟩
 rename_i K0 k0 K1 k1
 have hts:ts.length=3:=by
  have h:=congrArg List.length ht.fr.h;rw[lMa,lMa,q8i] at h;exact h
 obtain⟨a1,c1,e1,_⟩:=S.ql ht.fr.t.own;obtain⟨a2,c2,e2,_⟩:=S.ql ht.fr.p;obtain⟨a3,c3,e3,_,hn3⟩:=F.q3n ht.fr.g;obtain⟨a4,c4,e4,_⟩:=S.ql ht.sc.t.own;obtain⟨a5,c5,e5,_⟩:=S.ql ht.sc.p;obtain⟨a6,c6,e6,_⟩:=S.ql ht.f;rw[hts] at e1;rw[q9x] at e2;rw[q9n] at e3;subst e1 e2 e3 e4 e5 e6;have N3:=hid hn3;have B2:=hid hb2;have L17:Hid (atV 1 aS (.slice a1 3 c1) (.slice a2 1 c2) (.slice a3 5 c3) (.slice a4 us.length c4) (.slice a5 aS.pairs.length c5) (.slice a6 aS.proof.length c6)=#[.int .i64 ((1:Nat):Int),.string ⟨#[109,112]⟩,.bool false,.slice a1 3 c1,.slice a2 1 c2,.slice a3 5 c3,.slice a4 us.length c4,.slice a5 aS.pairs.length c5,.slice a6 aS.proof.length c6,.string aS.label.text,.int .i64 aS.label.off,.int .i64 aS.label.line,.int .i64 aS.label.col,.string aS.fin.text,.int .i64 aS.fin.off,.int .i64 aS.fin.line,.int .i64 aS.fin.col]):=by
  show _=_
  unfold atV;rw[qhp,qob]
 rw[L17.out];obtain⟨n4,hn4⟩:=eXb us.length;obtain⟨n5,hn5⟩:=eXb aS.pairs.length;obtain⟨n6,hn6⟩:=eXb aS.proof.length;rw[hn4,hn5,hn6];clear hts ht hn3 hb2 L17 hn4 hn5 hn6 AT;dsimp only;refine k1 _ _ ?_;clear k1 K1;obtain⟨R,hRR⟩:=eXb w2.heap.size;have KR:Hid ((w2.alloc (.cells #[.int .i64 0,.string ⟨#[]⟩,.bool false,.slice none 0 0,.slice none 0 0,.slice none 0 0,.slice none 0 0,.slice none 0 0,.slice none 0 0,.string ⟨#[]⟩,.int .i64 0,.int .i64 0,.int .i64 0,.string ⟨#[]⟩,.int .i64 0,.int .i64 0,.int .i64 0] 51)).heap[R]?=some (.cells #[.int .i64 0,.string ⟨#[]⟩,.bool false,.slice none 0 0,.slice none 0 0,.slice none 0 0,.slice none 0 0,.slice none 0 0,.slice none 0 0,.string ⟨#[]⟩,.int .i64 0,.int .i64 0,.int .i64 0,.string ⟨#[]⟩,.int .i64 0,.int .i64 0,.int .i64 0] 51 (0,0))):=by show _=_;rw[←hRR];exact World.alloc_heap_new w2 _
 refine wpList_plain rfl fun K hK=>?_
 go_simp;refine hK _ _ ?_;clear hK K;refine wpList_plain rfl fun K hK=>?_
 go_simp;refine hK _ _ ?_;clear hK K;refine wpList_plain rfl fun K hK=>?_
 go_simp;refine hK _ _ ?_;clear hK K;refine wpList_plain rfl fun K hK=>?_
 go_simp;refine hK _ _ ?_;clear hK K
 try rw[hRR]
 refine wpList_store_mid rfl 51 _ _ rfl R 0 #[.int .i64 ((1:Nat):Int),.string ⟨#[109,112]⟩,.bool false,.slice a1 3 c1,.slice a2 1 c2,.slice a3 5 c3,.slice a4 n4 c4,.slice a5 n5 c5,.slice a6 n6 c6,.string aS.label.text,.int .i64 aS.label.off,.int .i64 aS.label.line,.int .i64 aS.label.col,.string aS.fin.text,.int .i64 aS.fin.off,.int .i64 aS.fin.line,.int .i64 aS.fin.col] rfl rfl (show (w2.alloc (.cells #[.int .i64 0,.string ⟨#[]⟩,.bool false,.slice none 0 0,.slice none 0 0,.slice none 0 0,.slice none 0 0,.slice none 0 0,.slice none 0 0,.string ⟨#[]⟩,.int .i64 0,.int .i64 0,.int .i64 0,.string ⟨#[]⟩,.int .i64 0,.int .i64 0,.int .i64 0] 51)).there R 0 17 from S.q3d (cs:=#[.int .i64 0,.string ⟨#[]⟩,.bool false,.slice none 0 0,.slice none 0 0,.slice none 0 0,.slice none 0 0,.slice none 0 0,.slice none 0 0,.string ⟨#[]⟩,.int .i64 0,.int .i64 0,.int .i64 0,.string ⟨#[]⟩,.int .i64 0,.int .i64 0,.int .i64 0]) (t:=51) KR.out) (by kernel_rfl) (by simp[Value.oneCell']) ?_;obtain⟨w3,hw3⟩:=eXa ((w2.alloc (.cells #[.int .i64 0,.string ⟨#[]⟩,.bool false,.slice none 0 0,.slice none 0 0,.slice none 0 0,.slice none 0 0,.slice none 0 0,.slice none 0 0,.string ⟨#[]⟩,.int .i64 0,.int .i64 0,.int .i64 0,.string ⟨#[]⟩,.int .i64 0,.int .i64 0,.int .i64 0] 51)).setCells R 0 (#[.int .i64 ((1:Nat):Int),.string ⟨#[109,112]⟩,.bool false,.slice a1 3 c1,.slice a2 1 c2,.slice a3 5 c3,.slice a4 n4 c4,.slice a5 n5 c5,.slice a6 n6 c6,.string aS.label.text,.int .i64 aS.label.off,.int .i64 aS.label.line,.int .i64 aS.label.col,.string aS.fin.text,.int .i64 aS.fin.off,.int .i64 aS.fin.line,.int .i64 aS.fin.col]:Array Value).toList);have K3:w3.heap[R]?=some (.cells #[.int .i64 ((1:Nat):Int),.string ⟨#[109,112]⟩,.bool false,.slice a1 3 c1,.slice a2 1 c2,.slice a3 5 c3,.slice a4 n4 c4,.slice a5 n5 c5,.slice a6 n6 c6,.string aS.label.text,.int .i64 aS.label.off,.int .i64 aS.label.line,.int .i64 aS.label.col,.string aS.fin.text,.int .i64 aS.fin.off,.int .i64 aS.fin.line,.int .i64 aS.fin.col] 51 (0,0)):=by rw[hw3];exact S.q1f R 51 [.int .i64 ((1:Nat):Int),.string ⟨#[109,112]⟩,.bool false,.slice a1 3 c1,.slice a2 1 c2,.slice a3 5 c3,.slice a4 n4 c4,.slice a5 n5 c5,.slice a6 n6 c6,.string aS.label.text,.int .i64 aS.label.off,.int .i64 aS.label.line,.int .i64 aS.label.col,.string aS.fin.text,.int .i64 aS.fin.off,.int .i64 aS.fin.line,.int .i64 aS.fin.col] [] [.int .i64 0,.string ⟨#[]⟩,.bool false,.slice none 0 0,.slice none 0 0,.slice none 0 0,.slice none 0 0,.slice none 0 0,.slice none 0 0,.string ⟨#[]⟩,.int .i64 0,.int .i64 0,.int .i64 0,.string ⟨#[]⟩,.int .i64 0,.int .i64 0,.int .i64 0] _ KR.out rfl
 have ch3:S.M.Ch (fun b=>b=R) (w2.alloc (.cells #[.int .i64 0,.string ⟨#[]⟩,.bool false,.slice none 0 0,.slice none 0 0,.slice none 0 0,.slice none 0 0,.slice none 0 0,.slice none 0 0,.string ⟨#[]⟩,.int .i64 0,.int .i64 0,.int .i64 0,.string ⟨#[]⟩,.int .i64 0,.int .i64 0,.int .i64 0] 51)) w3:=by rw[hw3];exact F.q77 R _ 0 _
 have b23:Below w2.heap.size w2 w3:=(S.qg w2 _).trans (ch3.below (by simp) fun b e=>by omega);have B3:=bTr B2 b23;have P3:Hid _:=PR.out w3 B3.out a3 c3 (N3.out.under b23);rw[←hw3];have z1:w3.cell? ⟨R,1,none⟩=some (.string ⟨#[109,112]⟩):=S.M.qc K3 1;have z2:w3.cell? ⟨R,2,none⟩=some (.bool false):=S.M.qc K3 2;have z3:w3.cell? ⟨R,3,none⟩=some (.slice a1 3 c1):=S.M.qc K3 3;have z4:w3.cell? ⟨R,4,none⟩=some (.slice a2 1 c2):=S.M.qc K3 4;have z5:w3.cell? ⟨R,5,none⟩=some (.slice a3 5 c3):=S.M.qc K3 5;clear hw3 K3 ch3 b23 KR N3 B2 PR hRR;go_wp2_with fail;refine cMo P3.out ?_;rintro e w4 ⟨rfl,hb4⟩;have B4:=bTr B3 hb4;clear hb4 P3 B3 z1 z2 z3 z4 z5;have BW:Hid (Below w.heap.size w w4):=B1.out.trans (B4.out.mono B1.out.size);have L2:Hid (Calls Tryz.prog 9 #[.string ⟨#[36,99,32,97,32,97,32,36,46]⟩] w4 (Loaded w4 qjz)):=LD.out w4 BW.out qjz (by decide);clear LD B4 B1;go_wp2_with fail;refine cMo L2.out ?_;rintro e w5 ⟨hb5,hm⟩;rw[qrc] at hm;obtain⟨b,rfl,hge,hf⟩:=hm;have B5:=bTr BW hb5;have f0:w5.cell? ⟨b,0,none⟩=some (.int .i64 5):=S.M.qc hf 0;have f4:w5.cell? ⟨b,4,none⟩=some (.int .i64 20):=S.M.qc hf 4;clear hb5 hge hf L2 BW
 go_wp2
 go_ret
 exact⟨rfl,B5.out⟩
open Go.Maps Go.RowKit Go.WideMaps
theorem qrf {N:Nat}{w:World}{lb:Nat}{txt:ByteArray}{k:Nat}{L:Ld}{nf:ByteArray→Option Nat}{m:LdM}(h:xg N w lb txt k L nf m):Calls Tryz.prog 14 #[.pointer (some ⟨m.Bb,0,none⟩)] w fun e w'=>e=.returned (.string txt)∧w'=w:=by
 obtain⟨b0,_⟩:=h.base;generalize m.Bb=Bb at *;clear h;go_enter Tryz.func14,Tryz.ntmps14;go_wp2_with fail
 go_ret
 exact⟨rfl,rfl⟩
theorem qrg (i n:Nat):Int.tmod (i:Int) (n:Int)=((i % n:Nat):Int):=by
 rw[Int.tmod_eq_emod_of_nonneg (by omega)]
 rfl
theorem qod (w:World)(s:ByteArray)(ab:Option Addr)(nb cb:Nat)(bl:List Int)(hs:s.size≤140737488355328)(hR:S.RdW w)(hbl:bl.length=nb)(hnb:nb≤9223372036854775807)(hA:F.uj w ab bl)(L:Ld)(hF:q1j s=.ok L) :
  Calls Tryz.prog 4 #[.string s,.slice ab nb cb] w fun e w'=>e=.returned (.bool true)∧Below w.heap.size w w':=by
 have LD:Hid (∀wx,Below w.heap.size w wx→∀t:ByteArray,t.size≤281474976710656→Calls Tryz.prog 9 #[.string t] wx (Loaded wx t)):=fun wx hb t ht=>qcf wx t ht (hR.under hb) (q7c t)
 have AL:Hid (∀wx,Below w.heap.size w wx→Calls Tryz.prog 10 #[] wx fun e w'=>e=.returned (.bool true)∧Below wx.heap.size wx w'):=fun wx hb=>alive_any wx (hR.under hb)
 have SC:Hid (∀wx,Below w.heap.size w wx→Calls Tryz.prog 11 #[.string s] wx (S.K.q4n s wx)):=fun wx hb=>by
  obtain⟨mx,hmx⟩:=(hR.under hb).mx;exact callsIn_wide.1 (S.K.scan_in s wx mx (by omega) (hR.under hb).kb hmx)
 have L1:Hid _:=LD.out w bRf s (by omega);have HR:Hid (S.RdW w):=hR;have HF:=hid hF;have HA:Hid (F.uj w ab bl∧bl.length=nb):=⟨hA,hbl⟩;have HZ:=hid hs;clear hR hs hA hbl;go_enter Tryz.func4,Tryz.ntmps4;go_wp2_with fail;refine cMo L1.out ?_;rintro e w1 ⟨hb1,hm⟩;rw[hF] at hm;obtain⟨lb,m,rfl,hld⟩:=hm;have B1:=hid hb1;have A1:Hid _:=AL.out w1 hb1;obtain⟨Ba,hBa⟩:=eXb m.Bb;rw[hBa];have HBa:Hid (m.Bb=Ba):=hBa;have H1:=hid hld;clear hb1 L1 hF hld hBa AL;go_wp2_with fail;refine cMo A1.out ?_;rintro e w2 ⟨rfl,hb2⟩;have B2:=bTr B1 hb2;have H2:Hid (xg w.heap.size w2 lb s 1000000000 L (Y.numOf L.T.syms) m):=H1.out.below hb2;clear hb2 A1 B1 H1;go_wp2_with fail;refine cMo (SC.out w2 B2.out) ?_;rintro e w3 ⟨v,fv,rfl,ho,hb3⟩;have hfv:fv=.pointer none:=by
  have h9:=ho.2;rw[qnx (qdt HF.out)] at h9;exact h9
 subst hfv;replace ho:=ho.1;rw[S.qd2] at ho;obtain⟨nw,hnw⟩:=eXb ((S.q0e s).length);have hnw2:(S.K.yt s).1.length=nw:=by rw[←hnw];unfold S.q0e;rw[lMa]
 rw[hnw2] at ho;obtain⟨av,cv,rfl,_,hto⟩:=S.wo ho;have HW:=hid hto;have HNW:Hid ((S.q0e s).length=nw∧(S.K.yt s).1.length=nw):=⟨hnw,hnw2⟩;have lnw:nw≤16384:=by rw[←hnw];exact S.q8v s
 have B3:=bTr B2 hb3;have H3:Hid (xg w.heap.size w3 lb s 1000000000 L (Y.numOf L.T.syms) m):=H2.out.below hb3;clear ho hb3 hnw hnw2 hto B2 H2 SC;go_wp2_with fail
 go_loopw [9,10] (fun v9 v10 wx=>∃(i:Nat) (o:ByteArray),v10=.int .i64 i∧v9=.string o∧i≤nw∧Hid (S.K.Oth (S.K.yt s).1 i o)∧Hid (Below w3.heap.size w3 wx)) (fun _ v10 _=>nw - (intOf v10).toNat)
 case atStart=>exact⟨0,_,rfl,rfl,Nat.zero_le _,S.K.Oth.zero _,bRf⟩
 case round =>
  obtain⟨i,o,rfl,rfl,hi,hO,hB⟩:=hrel;have BR:=hid hB;clear hB;have lo:o.size≤1074790400:=by have h9:=hO.out.len;omega
  by_cases hlt:i < nw
  ·as_aux_lemma =>
   have n1:(i:Int) < (nw:Int):=by omega
   obtain⟨t,ht⟩:∃t,(S.K.yt s).1[i]?=some t:=⟨_,gEq (by rw[HNW.out.2];exact hlt)⟩;have ht2:(S.q0e s)[i]?=some (S.toT t):=by unfold S.q0e;rw[List.getElem?_map,ht];rfl
   obtain⟨g,og,eg,x0,_⟩:=(HW.out.under BR.out) i _ ht2;subst eg;replace x0:wr.cell? ⟨g,og + i * 4,none⟩=some (.string t.text):=x0;have lt6:t.text.size≤65536:=by
    obtain⟨q,hq⟩:=(S.K.q6h s).1;obtain⟨n,m',hst⟩:=S.K.q9w hq t (mGe ht);exact (S.K.qds hst).2
   have X0:=hid x0;have HT:=hid ht;clear ht ht2 x0
   by_cases hb0:nb=0
   ·as_aux_lemma =>
    subst hb0;have q1:¬(9223372036854775807 < o.size + t.text.size):=by omega
    go_upto_region 16 with fail;have BRd:Hid (Below wr.heap.size wr wr.drew):=S.below_drewN bRf 1;refine wp_region_held_drew (S:=fun w'=>w'.cell? ⟨g,og + i * 4,none⟩=some (.string t.text)) (by kernel_rfl) ?_ (fun hZ=>?_)
    ·exact zq BRd.out X0.out
    refine tkr 0 hZ ?_;refine tkr 1 hZ ?_;refine tkr 2 hZ ?_;refine tkr 3 hZ ?_;refine tkr 4 hZ ?_;refine tkr 5 hZ ?_;refine tkr 6 hZ ?_;refine tkr 7 hZ ?_;refine rkq 8 fun K hK=>?_
    go_simp;go_at_call 12;refine cMo (qd6 _ _) ?_;rintro e wz ⟨⟨kb,rfl⟩,hwz⟩;subst wz;have q0:=S.K.qe8 kb;have q2:¬(9223372036854775807 < o.size + t.text.size + (S.K.q8y kb).length):=by omega
    clear q0
    try go_wp2_with fail
    refine aQq hK ?_ fun hZ_8=>?_
    ·exact zq BRd.out X0.out
    clear hK K;refine tkr 9 hZ_8 ?_;refine tkr 10 hZ_8 ?_;refine wpAnyH_done (by kernel_rfl) ?_ _;have BE:Hid (Below w3.heap.size w3 wr.drew):=S.below_drewN BR.out 1;have OE:Hid (S.K.Oth (S.K.yt s).1 (i + 1) (o++t.text++⟨(S.K.q8y kb).toArray⟩)):=hO.out.step HT.out kb
    go_wp2
    exact⟨⟨i + 1,_,by go_num,rfl,by omega,OE.out,BE.out⟩,by simp[intOf];omega⟩
   ·as_aux_lemma =>
    have p1:(0:Int) < (nb:Int):=by omega
    have hr:i % nb < nb:=Nat.mod_lt _ (by omega);obtain⟨r,hr0⟩:=eXb (i % nb);have p2:Int.tmod (i:Int) (nb:Int)=(r:Int):=by rw[qrg,hr0]
    rw[hr0] at hr;have p3:(r:Int) < (nb:Int):=by omega
    have p4:((nb:Int) == 0)=false:=by rw[beq_eq_false_iff_ne];omega
    obtain⟨y,hy⟩:∃y,bl[r]?=some y:=⟨_,gEq (by rw[HA.out.2];exact hr)⟩;obtain⟨gb,ob,eb,z0⟩:=(HA.out.1.under (B3.out.trans (BR.out.mono B3.out.size))) r y hy;subst eb;clear hr0 hy;have q1:¬(9223372036854775807 < o.size + t.text.size):=by omega
    go_upto_region 16 with fail;have BRd:Hid (Below wr.heap.size wr wr.drew):=S.below_drewN bRf 1;refine wp_region_held_drew (S:=fun w'=>w'.cell? ⟨g,og + i * 4,none⟩=some (.string t.text)) (by kernel_rfl) ?_ (fun hZ=>?_)
    ·exact zq BRd.out X0.out
    refine tkr 0 hZ ?_;refine tkr 1 hZ ?_;refine tkr 2 hZ ?_;refine tkr 3 hZ ?_;refine tkr 4 hZ ?_;refine tkr 5 hZ ?_;refine tkr 6 hZ ?_;refine tkr 7 hZ ?_;refine rkq 8 fun K hK=>?_
    go_simp;go_at_call 12;refine cMo (qd6 _ _) ?_;rintro e wz ⟨⟨kb,rfl⟩,hwz⟩;subst wz;have q0:=S.K.qe8 kb;have q2:¬(9223372036854775807 < o.size + t.text.size + (S.K.q8y kb).length):=by omega
    clear q0
    try go_wp2_with fail
    refine aQq hK ?_ fun hZ_8=>?_
    ·exact zq BRd.out X0.out
    clear hK K;refine tkr 9 hZ_8 ?_;refine tkr 10 hZ_8 ?_;refine wpAnyH_done (by kernel_rfl) ?_ _;have BE:Hid (Below w3.heap.size w3 wr.drew):=S.below_drewN BR.out 1;have OE:Hid (S.K.Oth (S.K.yt s).1 (i + 1) (o++t.text++⟨(S.K.q8y kb).toArray⟩)):=hO.out.step HT.out kb
    go_wp2
    exact⟨⟨i + 1,_,by go_num,rfl,by omega,OE.out,BE.out⟩,by simp[intOf];omega⟩
  ·have n1:¬(i:Int) < (nw:Int):=by omega
   obtain rfl:i=nw:=by omega
   have BE:Hid (Below w.heap.size w wr):=B3.out.trans (BR.out.mono B3.out.size);have HL:Hid (xg w.heap.size wr lb s 1000000000 L (Y.numOf L.T.syms) m):=H3.out.below BR.out;obtain⟨no,hno⟩:=eXb o.size;have HNO:=hid hno
   by_cases hz:65536 < no
   ·have z1:(65536:Int) < (no:Int):=by omega
    clear H3 HW LD;go_wp2_with fail
    go_ret
    exact⟨rfl,BE.out⟩
   ·as_aux_lemma =>
    have z1:¬(65536:Int) < (no:Int):=by omega
    obtain⟨M,hM,hq,hlen,hall⟩:=qhc HF.out (by rw[HNW.out.2];exact hO.out) (by omega) (by rw[HNW.out.2];exact lnw) (fun x hx=>⟨nLt ((q7c s).each x hx).2.2.1 (by decide),nLt ((q7c s).each x hx).2.2.2.1 (by decide)⟩);have L2:Hid _:=LD.out wr BE.out o (by omega);have GA:Hid (∀a ∈ L.al,qa8 L.hy a):=fun a ha=>by obtain⟨j,hj⟩:=List.mem_iff_getElem?.1 ha;exact (qr0 HF.out hj).inn
    have GB:Hid (∀a ∈ M.al,qa8 M.hy a):=fun a ha=>by obtain⟨j,hj⟩:=List.mem_iff_getElem?.1 ha;exact (qr0 hM hj).inn
    have OK:Hid (L.Ok 1000000000):=(qdq HF.out).2;have HM:=hid hM;have HQ:=hid hq;have HS:Hid (StsEq false (S.je s).1.l (S.je o).1.l):=⟨hlen,nLt (q7c s).len (by decide),hall⟩;clear hM hq hlen hall H3 HW LD hO;go_wp2_with fail;refine cMo L2.out ?_;rintro e w5 ⟨hb5,hm⟩;rw[HM.out] at hm;obtain⟨lb',m',rfl,hld⟩:=hm;have B5:=bTr BE hb5;obtain⟨Bm,hBm⟩:=eXb m'.Bb;rw[hBm];have K13:Hid (Yes 13 #[.pointer (some ⟨Ba,0,none⟩),.pointer (some ⟨Bm,0,none⟩)] w5):=by
     have h9:=alike_t (HL.out.below hb5) hld (HR.out.under B5.out) (by have:=HZ.out;omega) (by omega) HQ.out HS.out GA.out GB.out OK.out.tab.syms (by have:=OK.out.hy1;omega);rw[HBa.out,hBm] at h9;exact h9
    have K14:Hid (∀W,Below w5.heap.size w5 W→Calls Tryz.prog 14 #[.pointer (some ⟨Bm,0,none⟩)] W fun e w'=>e=.returned (.string o)∧w'=W):=fun W hW=>by
     have h9:=qrf (hld.below hW);rw[hBm] at h9;exact h9
    clear hb5 hld hBm L2 GA GB OK HM HQ HS HL;go_wp2_with fail;refine cMo K13.out ?_;rintro e w6 ⟨rfl,hb6⟩;have B6:=bTr B5 hb6;go_wp2_with fail;refine cMo (K14.out w6 hb6) ?_;rintro e wz ⟨rfl,hwz⟩;subst wz;clear hb6 K13 K14;go_wp2_with fail
    go_ret
    exact⟨rfl,B6.out⟩
end B
namespace S
open Go.ChangeShapes Go.WideShapes Go.ChangeAt Go.RowKit Go.Deep Go.Shelf Go.Lib
theorem cells9:Tryz.prog.cellsOf 9=1:=by kernel_rfl
theorem cells3:Tryz.prog.cellsOf 3=1:=by kernel_rfl
theorem cells4:Tryz.prog.cellsOf 4=1:=by kernel_rfl
theorem qfg:Tryz.prog.cellsOf 193=4:=by kernel_rfl
theorem four {cs:List Value}(h:cs.length=4):∃a b c d,cs=[a,b,c,d]:=by
 match cs,h with
 | [a,b,c,d],_=>exact⟨a,b,c,d,rfl⟩
theorem qi8 {H:Type} {enc:TypeId × Value→H} {W:World} {fuel base:Nat} {sp:Nat→Bool} {held:Bool} {cs:List Value} {x:DataW H × List MemPlace}
  (h:DataW.trod enc Tryz.prog W base sp held fuel 193 cs=some x):∃(s:ByteArray) (b:Bool) (i j:Int),cs=[.string s,.bool b,.int .i64 i,.int .i64 j]∧x.1=.agg [.lit (.string s.data.toList),.lit (.bool b),.lit (.int .i64 i),.lit (.int .i64 j)]:=by
 obtain⟨xs,n,_,hx,hl,hlen,hf⟩:=DataW.trod_struct Tryz.underlying193 h;rw[qfg] at hl;obtain⟨c0,c1,c2,c3,rfl⟩:=four hl
 match xs,hlen with
 | [y0,y1,y2,y3],_ =>
  have h0:DataW.trod enc Tryz.prog W base sp held n 9 (List.take (Tryz.prog.cellsOf 9) (List.drop 0 [c0,c1,c2,c3]))=some y0:=hf 0 _ rfl;have h1:DataW.trod enc Tryz.prog W base sp held n 4 (List.take (Tryz.prog.cellsOf 4) (List.drop 1 [c0,c1,c2,c3]))=some y1:=hf 1 _ rfl;have h2:DataW.trod enc Tryz.prog W base sp held n 3 (List.take (Tryz.prog.cellsOf 3) (List.drop 2 [c0,c1,c2,c3]))=some y2:=hf 2 _ rfl;have h3:DataW.trod enc Tryz.prog W base sp held n 3 (List.take (Tryz.prog.cellsOf 3) (List.drop 3 [c0,c1,c2,c3]))=some y3:=hf 3 _ rfl;rw[cells9] at h0;rw[cells4] at h1;rw[cells3] at h2 h3;obtain⟨s,e0,r0,_⟩:=DataW.trod_string Tryz.underlying9 h0;obtain⟨b,e1,r1⟩:=DataW.trod_bool Tryz.underlying4 h1;obtain⟨i,e2,r2,_⟩:=DataW.trod_int Tryz.underlying3 h2;obtain⟨j,e3,r3,_⟩:=DataW.trod_int Tryz.underlying3 h3;simp at e0 e1 e2 e3;subst e0 e1 e2 e3;refine⟨s,b,i,j,rfl,?_⟩;rw[hx];simp only[List.map_cons,List.map_nil,r0,r1,r2,r3]
def qi9 (k:Nat):DataW Unit:=.agg [.lit (.string (q6a.getD k ([],false,0,0)).1),.lit (.bool (qhs k)),.lit (.int .i64 (q9z k)),.lit (.int .i64 (qf2 k))]
theorem qfh:(Rows.laid_lemma_stmt_shapes:DataW Unit)=.agg ((List.range 10).map qi9):=by kernel_rfl
theorem qm6 {W:World}(h:Lib.VarReads Tryz.prog W "lemma/stmt.shapes" Rows.laid_lemma_stmt_shapes):gy W:=fun k hk=>by
 obtain⟨g,t,cs,fuel,p,hg,hty,hvar,hd⟩:=h;obtain rfl:g=0:=Option.some.inj (hg.symm.trans (by kernel_rfl));obtain rfl:t=194:=Option.some.inj (hty.symm.trans (by kernel_rfl));rw[qfh] at hd;obtain⟨fuel',d,q,hdi,he⟩:=Lib.array_elem Tryz.underlying194 hd k hk;simp only[List.getElem?_map,List.getElem?_range hk,Option.map_some,Option.some.injEq] at hdi;subst hdi;rw[qfg] at he;obtain⟨s,b,i,j,hcs,hx⟩:=qi8 he;have hx2:qi9 k=.agg [.lit (.string s.data.toList),.lit (.bool b),.lit (.int .i64 i),.lit (.int .i64 j)]:=hx;unfold qi9 at hx2;simp only[DataW.agg.injEq,List.cons.injEq,DataW.lit.injEq,Lit.string.injEq,Lit.bool.injEq,Lit.int.injEq,and_true,true_and] at hx2;obtain⟨t0,t1,t2,t3⟩:=hx2;have hs:s=kwB k:=by
  obtain⟨dd⟩:=s;unfold kwB;rw[t0]
 have hc:∀q,q < 4→W.cell? ⟨0,k * 4 + q,none⟩=((cs.toList.drop (k * 4)).take 4)[q]?:=fun q hq=>by
  rw[World.var?_cell hg hvar (k * 4 + q),List.getElem?_take,if_pos hq,List.getElem?_drop,←Array.getElem?_toList]
 rw[hcs] at hc;refine⟨?_,?_,?_,?_⟩
 ·rw[←hs];exact hc 0 (by omega)
 ·rw[t1];exact hc 1 (by omega)
 ·rw[t2];exact hc 2 (by omega)
 ·rw[t3];exact hc 3 (by omega)
theorem rown:ownKnob Tryz.prog.godebug=none:=by kernel_rfl
theorem qp6:laidOutB Tryz.prog=true:=by kernel_rfl
theorem qp7:Tryz.prog.globalNamed "lemma/scan.kinds"=some 1:=by kernel_rfl
theorem tKinds:(Tryz.prog.globals[1]?).map (·.type)=some 245:=by kernel_rfl
def qd4:List (String × DataW Unit):=[("lemma/scan.kinds",Rows.laid_lemma_scan_kinds),("lemma/stmt.shapes",Rows.laid_lemma_stmt_shapes)]
theorem qm7:qd4=[("lemma/scan.kinds",Lib.tabData .u8 K.tbl),("lemma/stmt.shapes",Rows.laid_lemma_stmt_shapes)]:=by kernel_rfl
theorem c5:Tryz.prog.cellsOf 5=1:=by kernel_rfl
theorem c245:Tryz.prog.cellsOf 245=128:=by kernel_rfl
theorem qfi {W:World}(h:laidMetH Tryz.prog qd4 W)(hsh:W.ShapedOpen Tryz.prog):RdW W:=by
 rw[MakeChecks.laidMetH_plain _ _ _ (by kernel_rfl)] at h;have h2:=Lib.laidMet.reads h (List.Mem.tail _ (List.Mem.head _));rw[qm7] at h;have hv:=Lib.tabIs_of_head qp7 tKinds Tryz.underlying245 Tryz.underlying5 c5 c245 h;refine⟨fun i hi=>?_,Tryz.laysM144.s1_3 W hsh,qm6 h2⟩;have hc:=World.var?_cell qp7 hv i;rw[hc];have hl:i < K.tbl.length:=hi;simp[hl]
theorem door_met (os:Os)(args:Array Value):laidMetH Tryz.prog qd4 ((World.doorLaid Tryz.prog 400 os).forCall (fun _ _=>0) ⟨#[],args,[]⟩).memory :=
 laidMetH_of_parts3 (fuel:=8) (laidMet_of_run' 8 (by kernel_rfl) (by kernel_rfl)) (by kernel_rfl) (by kernel_rfl)
end S
end Go.Proofs.YtbancemhfjjmlaaGreatDoor
