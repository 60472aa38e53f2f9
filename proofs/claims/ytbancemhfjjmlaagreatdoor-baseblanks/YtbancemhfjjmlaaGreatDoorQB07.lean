/- Laid together. -/
import Derived.Test.YtbancemhfjjmlaaGreatDoorQB02
import Derived.Lib.SmallJoins
import Derived.Test.YtbancemhfjjmlaaGreatDoorQB03
import Derived.Test.YtbancemhfjjmlaaGreatDoorQB06
set_option maxRecDepth 100000
set_option maxHeartbeats 32000000
namespace Go.Proofs.YtbancemhfjjmlaaGreatDoor
namespace S.K
open Go.RowKit
theorem q6k (t:ByteArray):isOpen t=(t.data.toList == [36,40]):=by unfold isOpen;rw[Lib.toList_data]
theorem q50 (t:ByteArray):q2v t=(t.data.toList == [36,41]):=by unfold q2v;rw[Lib.toList_data]
def q39:Nat→List UInt8→List UInt8→List (Nat × List UInt8) × List UInt8
 | _,cur,[]=>([],cur)
 | k,cur,b :: r=>if zy b.toNat=1 then ((if cur.isEmpty then [] else [(k - cur.length,cur)])++(q39 (k + 1) [] r).1,(q39 (k + 1) [] r).2) else q39 (k + 1) (cur++[b]) r
def q7f (e:Tok × Int):(Int × List UInt8) × Int:=((e.1.off,e.1.text.data.toList),e.2)
def qcm (w:Nat × List UInt8):(Int × List UInt8) × Int:=(((w.1:Int),w.2),0)
theorem qe7 (s:ByteArray)(start k:Nat)(h1:start≤k)(h2:k≤s.size):((s.data.toList.drop start).take (k - start)).length=k - start:=by
 have:s.data.toList.length=s.size:=rfl
 rw[List.length_take,List.length_drop,this];omega
theorem qm8 (s:ByteArray)(start k:Nat)(h1:start≤k)(h2:k≤s.size):((s.data.toList.drop start).take (k - start)).isEmpty=!decide (start < k):=by
 have h:=qe7 s start k h1 h2
 cases hc:(s.data.toList.drop start).take (k - start) with
 | nil =>
  rw[hc] at h;simp at h;simp;omega
 | cons a m =>
  rw[hc] at h;simp at h;simp;omega
theorem qp8 (s:ByteArray)(start k line ls:Nat):(wordAt s start k line ls).text.data.toList=(s.data.toList.drop start).take (k - start):=by
 unfold wordAt;rw[Lib.extract_data]
theorem qp9 (s:ByteArray)(start k:Nat)(h1:start≤k)(h2:k < s.size):(s.data.toList.drop start).take (k + 1 - start)=(s.data.toList.drop start).take (k - start)++[s[k]]:=by
 rw[show k + 1 - start=k - start + 1 by omega,List.take_add_one]
 congr 1
 rw[List.getElem?_drop,show start + (k - start)=k by omega,gEq (by simpa using h2)]
 rfl
theorem app2 {α:Type}{a b c d:List α}(h1:a=c)(h2:b=d):a++b=c++d:=by rw[h1,h2]
def mid (s:ByteArray)(k m:Nat):List UInt8:=(s.data.toList.drop k).take (m - k)
theorem qpa (s:ByteArray)(k m:Nat)(h:k < m)(hm:m≤s.size):mid s k m=s[k] :: mid s (k + 1) m:=by
 unfold mid;rw[drop_cons s k (by omega),show m - k=(m - (k + 1)) + 1 by omega,List.take_succ_cons]
theorem evs_pre (s:ByteArray)(m:Nat)(hm:m≤s.size)(h6:m≤65536)(hk:∀k (h:k < s.size),k < m→zy s[k].toNat≠0):∀(j k start line ls:Nat),k + j=m→start≤k →
  ∃E line' ls',evs s (s.data.toList.drop k) k start line ls=E++evs s (s.data.toList.drop m) m (m - (q39 k ((s.data.toList.drop start).take (k - start)) (mid s k m)).2.length) line' ls'∧E.map q7f=(q39 k ((s.data.toList.drop start).take (k - start)) (mid s k m)).1.map qcm:=by
 intro j
 induction j with
 | zero =>
  intro k start line ls hj hst;obtain rfl:k=m:=by omega
  have e:mid s k k=[]:=by unfold mid;rw[Nat.sub_self,List.take_zero]
  rw[e,q39];refine⟨[],line,ls,?_,rfl⟩;dsimp only;rw[qe7 s start k hst hm,show k - (k - start)=start by omega,List.nil_append]
 | succ j ih =>
  intro k start line ls hj hst;have hlt:k < s.size:=by omega
  have hne:¬k=65536:=by omega
  have hc:q1x k s[k]=0:=by unfold q1x;rw[if_neg hne,if_neg (hk k hlt (by omega))]
  rw[qpa s k m (by omega) hm,q39]
  by_cases hb:zy s[k].toNat=1
  ·obtain⟨E,l1,l2,e1,e2⟩:=ih (k + 1) (k + 1) (if s[k]=10 then line + 1 else line) (if s[k]=10 then k + 1 else ls) (by omega) (Nat.le_refl _);rw[Nat.sub_self,List.take_zero] at e1 e2;rw[if_pos hb,qap s k start line ls hlt hc hb,e1,qm8 s start k hst (by omega),qe7 s start k hst (by omega)];refine⟨(if start < k then [(wordAt s start k line ls,0)] else [])++E,l1,l2,by rw[List.append_assoc],?_⟩;rw[List.map_append,List.map_append,e2];refine app2 ?_ rfl
   by_cases h:start < k
   ·rw[if_pos h,show k - (k - start)=start by omega];simp only[h,decide_true,Bool.not_true,List.map_cons,List.map_nil,Bool.false_eq_true,if_false];unfold q7f qcm;dsimp only;rw[qp8]
    rfl
   ·rw[if_neg h];simp[h]
  ·obtain⟨E,l1,l2,e1,e2⟩:=ih (k + 1) start line ls (by omega) (by omega);rw[qp9 s start k hst hlt] at e1 e2;rw[if_neg hb,qe3 s k start line ls hlt hc hb];exact⟨E,l1,l2,e1,e2⟩
theorem ev_part (s:ByteArray)(A B:List UInt8)(h:s.data.toList=A++B)(h6:A.length≤65536)(hk:∀b ∈ A,zy b.toNat≠0)(hc:(q39 0 [] A).2=[]) :
  ∃E line ls,events s=E++evs s B A.length A.length line ls∧E.map q7f=(q39 0 [] A).1.map qcm:=by
 have hsz:s.size=A.length + B.length:=by
  have:s.data.toList.length=s.size:=rfl
  rw[←this,h,lAp]
 have hA:mid s 0 A.length=A:=by unfold mid;rw[h];simp
 have hB:s.data.toList.drop A.length=B:=by rw[h];simp
 obtain⟨E,l1,l2,e1,e2⟩:=evs_pre s A.length (by omega) h6 (fun k hk' hkA=>hk _ (by
  have:s[k]=(A++B)[k]'(by rw[lAp];omega):=by
   have h2:s[k]=s.data.toList[k]'(by simpa using hk'):=rfl
   rw[h2];simp only[h]
  rw[this,List.getElem_append_left hkA]
  exact List.getElem_mem _)) A.length 0 0 1 0 (by omega) (Nat.le_refl _)
 rw[hA,Nat.sub_self,List.take_zero,hc,hB] at e1;rw[hA,Nat.sub_self,List.take_zero] at e2;exact⟨E,l1,l2,by unfold events;simpa using e1,e2⟩
def Wd (w:List UInt8):Prop:=w≠[]∧∀b ∈ w,2≤zy b.toNat
def Nb (w:List UInt8):Prop:=w≠[36,40]∧w≠[36,41]
theorem qm9 (w:List UInt8)(hw:∀b ∈ w,zy b.toNat≠1):∀(k:Nat) (cur r:List UInt8),q39 k cur (w++r)=q39 (k + w.length) (cur++w) r:=by
 induction w with
 | nil=>intro k cur r;simp
 | cons b w ih =>
  intro k cur r;rw[List.cons_append,q39,if_neg (hw b List.mem_cons_self),ih (fun x hx=>hw x (List.mem_cons_of_mem _ hx)),List.append_assoc,List.length_cons,show k + 1 + w.length=k + (w.length + 1) by omega];rfl
def qia (l:List (ByteArray × UInt8)):List UInt8:=l.flatMap fun p=>p.1.data.toList++[p.2]
theorem qpb (told:List Tok)(t:Tok)(h:Nb t.text.data.toList):qm ⟨told,q0x⟩ t=if told.length=16384 then (13,⟨told,q0x⟩) else (0,⟨told++[t],q0x⟩):=by
 have h0:¬q3k ⟨told,q0x⟩=true:=by rw[q3s];show ¬(!q0x.text.data.toList.isEmpty)=true;decide
 have h1:¬isOpen t.text=true:=by rw[q6k,beq_iff_eq];exact h.1
 have h2:¬q2v t.text=true:=by rw[q50,beq_iff_eq];exact h.2
 unfold qm;rw[if_neg h0,if_neg h1,if_neg h2]
theorem q5y (r:Rd)(t:Tok)(es:List (Tok × Int))(r':Rd)(h:qm r t=(0,r')):wu r ((t,0) :: es)=wu r' es:=by
 simp only[wu,h,if_true]
structure WsOk (l:List (ByteArray × UInt8)):Prop where
 w:∀p ∈ l,Wd p.1.data.toList∧zy p.2.toNat=1
 nb:∀p ∈ l,Nb p.1.data.toList
 b6:(qia l).length≤65536
 n:l.length≤16384
theorem WsOk.kinds {l:List (ByteArray × UInt8)}(h:WsOk l):∀b ∈ qia l,zy b.toNat≠0:=fun b hb=>by
 unfold qia at hb;obtain⟨p,hp,hb⟩:=List.mem_flatMap.1 hb;rcases mAp.1 hb with hb | hb
 ·have:=(h.w p hp).1.2 b hb;omega
 ·rw[mSg.1 hb];have:=(h.w p hp).2;omega
end S.K
namespace S.K
open Go.RowKit
theorem q51:∀(A B:List UInt8) (k:Nat) (cur:List UInt8),q39 k cur (A++B)=((q39 k cur A).1++(q39 (k + A.length) (q39 k cur A).2 B).1,(q39 (k + A.length) (q39 k cur A).2 B).2)
 | [],B,k,cur=>by simp[q39]
 | b :: A,B,k,cur=>by
  rw[List.cons_append,q39,q39]
  split
  ·rw[q51 A B,List.length_cons,show k + (A.length + 1)=k + 1 + A.length by omega];dsimp only;rw[List.append_assoc]
  ·rw[q51 A B,List.length_cons,show k + (A.length + 1)=k + 1 + A.length by omega]
structure Says (A:List UInt8)(ws:List (List UInt8)):Prop where
 c:∀j,(q39 j [] A).2=[]
 k:∀b ∈ A,zy b.toNat≠0
 r:∀j (E:List (Tok × Int)) (told:List Tok),E.map q7f=(q39 j [] A).1.map qcm→told.length + ws.length≤16384→∃ts,wu ⟨told,q0x⟩ E=(⟨told++ts,q0x⟩,none)∧ts.map (·.text.data.toList)=ws
theorem q7y:Says [] []:=⟨fun _=>rfl,(fun b h=>by cases h),fun j E told h _=>by
 have:E=[]:=by simpa [q39] using h
 subst this
 exact⟨[],by simp[wu],rfl⟩⟩
theorem Says.app {A B:List UInt8}{ws vs:List (List UInt8)}(h:Says A ws)(h2:Says B vs):Says (A++B) (ws++vs):=by
 refine⟨fun j=>?_,fun b hb=>?_,fun j E told hE hl=>?_⟩
 ·rw[q51,h.c];exact h2.c _
 ·rcases mAp.1 hb with hb | hb
  ·exact h.k b hb
  ·exact h2.k b hb
 ·rw[q51,h.c] at hE;dsimp only at hE;rw[List.map_append] at hE;obtain⟨E1,E2,rfl,e1,e2⟩:=List.map_eq_append_iff.1 hE;rw[lAp] at hl;obtain⟨ts,r1,t1⟩:=h.r j E1 told e1 (by omega);have hlen:ts.length=ws.length:=by rw[←t1,lMa]
  obtain⟨us,r2,t2⟩:=h2.r _ E2 (told++ts) e2 (by rw[lAp];omega);refine⟨ts++us,?_,by rw[List.map_append,t1,t2]⟩;rw[q43,r1];dsimp only;rw[r2,List.append_assoc]
theorem qkj {E:List (Tok × Int)}{x:Nat × List UInt8}{ws:List (Nat × List UInt8)}(h:E.map q7f=(x :: ws).map qcm):∃t E',E=(t,0) :: E'∧t.text.data.toList=x.2∧E'.map q7f=ws.map qcm:=by
 cases E with
 | nil=>simp at h
 | cons e E =>
  obtain⟨t,c⟩:=e;simp only[List.map_cons,List.cons.injEq,q7f,qcm,Prod.mk.injEq] at h;obtain⟨⟨⟨_,hx⟩,rfl⟩,hE⟩:=h;exact⟨t,E,rfl,hx,hE⟩
theorem qma {w:List UInt8}{b:UInt8}(hw:Wd w)(hn:Nb w)(hb:zy b.toNat=1):Says (w++[b]) [w]:=by
 have hc:∀j,q39 j [] (w++[b])=([(j,w)],[]):=fun j=>by
  rw[qm9 _ (fun b hb=>by have:=hw.2 b hb;omega),List.nil_append,q39,if_pos hb];have he:w.isEmpty=false:=by cases hp:w with
   | nil=>exact absurd hp hw.1
   | cons a b=>rfl
  rw[he,Nat.add_sub_cancel]
  rfl
 refine⟨fun j=>by rw[hc],fun x hx=>?_,fun j E told hE hl=>?_⟩
 ·rcases mAp.1 hx with hx | hx
  ·have:=hw.2 x hx;omega
  ·rw[mSg.1 hx];omega
 ·rw[hc] at hE;obtain⟨t,E',rfl,hx,h2⟩:=qkj hE;have:E'=[]:=by simpa using h2
  subst this;have hP:Nb t.text.data.toList:=by rw[hx];exact hn
  have htk:qm ⟨told,q0x⟩ t=(0,⟨told++[t],q0x⟩):=by rw[qpb told t hP,if_neg (by simp only[List.length_singleton] at hl;omega)]
  exact⟨[t],by rw[q5y _ _ _ _ htk];rfl,by rw[List.map_cons,List.map_nil,hx]⟩
theorem q7k {b:UInt8}(hb:zy b.toNat=1):Says [b] []:=by
 have hc:∀j,q39 j [] [b]=([],[]):=fun j=>by
  rw[q39,if_pos hb]
  rfl
 refine⟨fun j=>by rw[hc],fun x hx=>?_,fun j E told hE hl=>?_⟩
 ·rw[mSg.1 hx];omega
 ·rw[hc] at hE;have:E=[]:=by simpa using hE
  subst this;exact⟨[],by simp[wu],rfl⟩
theorem qd5 {told:List Tok}{t:Tok}{es:List (Tok × Int)}(h:t.text.data.toList=[36,40]):wu ⟨told,q0x⟩ ((t,0) :: es)=wu ⟨told,t⟩ es:=by
 have h0:¬q3k ⟨told,q0x⟩=true:=by rw[q3s];show ¬(!q0x.text.data.toList.isEmpty)=true;decide
 have h1:isOpen t.text=true:=by rw[q6k,beq_iff_eq];exact h
 refine q5y _ _ _ _ ?_;unfold qm;rw[if_neg h0,if_pos h1]
theorem qpc {told:List Tok}{o:Tok}(h:o.text.data.toList=[36,40]):q3k ⟨told,o⟩=true:=by rw[q3s];show (!o.text.data.toList.isEmpty)=true;rw[h];rfl
theorem qfj {told:List Tok}{o t:Tok}{es:List (Tok × Int)}{x:List UInt8}(ho:o.text.data.toList=[36,40])(h:t.text.data.toList=x)(hx:(x == [36,41])=false)(hm:(Lib.contains x [36,40] || Lib.contains x [36,41])=false):wu ⟨told,o⟩ ((t,0) :: es)=wu ⟨told,o⟩ es:=by
 refine q5y _ _ _ _ ?_;have h1:q2v t.text=false:=by rw[q50,h];exact hx
 have h2:q7w t.text=false:=by unfold q7w;rw[h];exact hm
 unfold qm takeC;rw[if_pos (qpc ho),h1,h2]
 rfl
theorem step_shut {told:List Tok}{o t:Tok}{es:List (Tok × Int)}(ho:o.text.data.toList=[36,40])(h:t.text.data.toList=[36,41]):wu ⟨told,o⟩ ((t,0) :: es)=wu ⟨told,q0x⟩ es:=by
 refine q5y _ _ _ _ ?_;have h1:q2v t.text=true:=by rw[q50,h];rfl
 unfold qm takeC;rw[if_pos (qpc ho),h1]
 rfl
def qfk:List UInt8→List UInt8→List (List UInt8) × List UInt8
 | cur,[]=>([],cur)
 | cur,b :: r=>if zy b.toNat=1 then ((if cur.isEmpty then [] else [cur])++(qfk [] r).1,(qfk [] r).2) else qfk (cur++[b]) r
theorem q8x:∀(A:List UInt8) (k:Nat) (cur:List UInt8),(q39 k cur A).1.map (·.2)=(qfk cur A).1∧(q39 k cur A).2=(qfk cur A).2
 | [],k,cur=>⟨rfl,rfl⟩
 | b :: r,k,cur=>by
  rw[q39,qfk]
  split
  ·obtain⟨h1,h2⟩:=q8x r (k + 1) [];refine⟨?_,h2⟩;rw[List.map_append,h1]
   split <;> rfl
  ·exact q8x r _ _
theorem q73 {E:List (Tok × Int)}{x:List UInt8}{xs:List (List UInt8)}{ws:List (Nat × List UInt8)}(h:E.map q7f=ws.map qcm)(hw:ws.map (·.2)=x :: xs):∃(t:Tok) (E':List (Tok × Int)) (ws':List (Nat × List UInt8)),E=(t,0) :: E'∧t.text.data.toList=x∧E'.map q7f=ws'.map qcm∧ws'.map (·.2)=xs:=by
 cases ws with
 | nil=>cases hw
 | cons y ws =>
  rw[List.map_cons] at hw
  injection hw with h1 h2
  obtain⟨t,E',e,ht,hE⟩:=qkj h;exact⟨t,E',ws,e,ht.trans h1,hE,h2⟩
theorem qkk {E:List (Tok × Int)}{ws:List (Nat × List UInt8)}(h:E.map q7f=ws.map qcm)(hw:ws.map (·.2)=[]):E=[]:=by
 have:ws=[]:=by simpa using hw
 subst this
 simpa using h
theorem qmb {s:ByteArray}{A:List UInt8}{ws:List (List UInt8)}(h:s.data.toList=A)(hA:Says A ws)(h6:A.length≤65536)(hn:ws.length≤16384):∃ts,yt s=(ts,none)∧ts.map (·.text.data.toList)=ws:=by
 obtain⟨E,l1,l2,e1,e2⟩:=ev_part s A [] (by rw[h,List.append_nil]) h6 hA.k (hA.c 0);have e3:events s=E:=by rw[e1];simp[evs]
 obtain⟨ts,h1,h2⟩:=hA.r 0 E [] e2 (by simpa using hn);refine⟨ts,?_,h2⟩;have h3:wu rd0 (events s)=(⟨ts,q0x⟩,none):=by rw[e3];simpa [rd0] using h1
 refine qaq s ⟨ts,q0x⟩ h3 ?_;rw[q3s]
 rfl
end S.K
namespace S.K
open Go.RowKit
def q8y:Nat→List UInt8
 | 0=>[32]
 | 1=>[10]
 | 2=>[9,13,10,32]
 | 3=>[32,36,40,32,97,32,99,111,109,109,101,110,116,32,36,41,32]
 | 4=>[12]
 | _=>[10,36,40,32,36,41,10]
def cmtC:List UInt8:=[36,40,32,97,32,99,111,109,109,101,110,116,32,36,41,32]
def cmtD:List UInt8:=[36,40,32,36,41,10]
theorem cutC:qfk [] cmtC=([[36,40],[97],[99,111,109,109,101,110,116],[36,41]],[]):=by decide +kernel
theorem cutD:qfk [] cmtD=([[36,40],[36,41]],[]):=by decide +kernel
theorem qmc:Says cmtC []:=by
 refine⟨fun j=>by rw[(q8x cmtC j []).2,cutC],by decide +kernel,fun j E told hE hl=>?_⟩;have hw:=(q8x cmtC j []).1;rw[cutC] at hw;obtain⟨t1,E1,ws,rfl,x1,hE,hw⟩:=q73 hE hw;obtain⟨t2,E2,ws,rfl,x2,hE,hw⟩:=q73 hE hw;obtain⟨t3,E3,ws,rfl,x3,hE,hw⟩:=q73 hE hw;obtain⟨t4,E4,ws,rfl,x4,hE,hw⟩:=q73 hE hw;obtain rfl:=qkk hE hw;refine⟨[],?_,rfl⟩;rw[qd5 x1,qfj x1 x2 (by decide +kernel) (by decide +kernel),qfj x1 x3 (by decide +kernel) (by decide +kernel),step_shut x1 x4,List.append_nil]
 rfl
theorem qmd:Says cmtD []:=by
 refine⟨fun j=>by rw[(q8x cmtD j []).2,cutD],by decide +kernel,fun j E told hE hl=>?_⟩;have hw:=(q8x cmtD j []).1;rw[cutD] at hw;obtain⟨t1,E1,ws,rfl,x1,hE,hw⟩:=q73 hE hw;obtain⟨t2,E2,ws,rfl,x2,hE,hw⟩:=q73 hE hw;obtain rfl:=qkk hE hw;refine⟨[],?_,rfl⟩;rw[qd5 x1,step_shut x1 x2,List.append_nil]
 rfl
theorem qme (k:Nat):∃b r,q8y k=b :: r∧zy b.toNat=1∧Says r []:=by
 match k with
 | 0=>exact⟨_,_,rfl,by decide +kernel,q7y⟩
 | 1=>exact⟨_,_,rfl,by decide +kernel,q7y⟩
 | 2=>exact⟨_,_,rfl,by decide +kernel,(q7k (b:=13) (by decide +kernel)).app ((q7k (b:=10) (by decide +kernel)).app (q7k (b:=32) (by decide +kernel)))⟩
 | 3=>exact⟨_,_,rfl,by decide +kernel,qmc⟩
 | 4=>exact⟨_,_,rfl,by decide +kernel,q7y⟩
 | n + 5=>exact⟨_,_,rfl,by decide +kernel,qmd⟩
theorem qpd {w:List UInt8}(hw:Wd w)(hn:Nb w)(k:Nat):Says (w++q8y k) [w]:=by
 obtain⟨b,r,e,hb,hr⟩:=qme k;rw[e,show w++b :: r=(w++[b])++r by simp];have:=(qma hw hn hb).app hr
 simpa using this
theorem qe8 (k:Nat):(q8y k).length≤17:=by
 match k with
 | 0=>decide
 | 1=>decide
 | 2=>decide
 | 3=>decide
 | 4=>decide
 | n + 5=>exact (by decide:([10,36,40,32,36,41,10]:List UInt8).length≤17)
theorem qkl {r:Rd}{t:Tok}(h:∀x ∈ r.told,Nb x.text.data.toList):∀x ∈ (qm r t).2.told,Nb x.text.data.toList:=by
 unfold qm
 split
 ·exact h
 ·split
  ·exact h
  ·rename_i h1
   split
   ·exact h
   ·rename_i h2
    split
    ·exact h
    ·intro x hx;rcases mAp.1 hx with hx | hx
     ·exact h x hx
     ·rw[mSg.1 hx];rw[q6k] at h1;rw[q50] at h2;exact⟨fun e=>h1 (by rw[e];rfl),fun e=>h2 (by rw[e];rfl)⟩
theorem qpe:∀(es:List (Tok × Int)) (r:Rd),(∀x ∈ r.told,Nb x.text.data.toList)→∀x ∈ (wu r es).1.told,Nb x.text.data.toList
 | [],_,h=>h
 | (t,c) :: es,r,h=>by
  unfold wu
  split
  ·split
   ·exact qpe es _ (qkl h)
   ·exact qkl h
  ·exact h
theorem scan_nb (s:ByteArray):∀x ∈ (yt s).1,Nb x.text.data.toList:=by
 have h:=qpe (events s) rd0 (fun x hx=>by cases hx);unfold yt;generalize wu rd0 (events s)=R at h ⊢;obtain⟨r,f⟩:=R
 cases f with
 | none=>exact h
 | some f=>exact h
end S.K
namespace B
open Go.RowKit
theorem qd6 (w:World)(n:Int):Calls Tryz.prog 12 #[.int .i64 n] w fun e w'=>(∃k,e=.returned (.string ⟨(S.K.q8y k).toArray⟩))∧w'=w:=by
 go_enter Tryz.func12,Tryz.ntmps12;go_wp2_with fail
 all_goals (go_ret;first | exact⟨⟨0,rfl⟩,rfl⟩ | exact⟨⟨1,rfl⟩,rfl⟩ | exact⟨⟨2,rfl⟩,rfl⟩ | exact⟨⟨3,rfl⟩,rfl⟩ | exact⟨⟨4,rfl⟩,rfl⟩ | exact⟨⟨5,rfl⟩,rfl⟩)
end B
namespace B
open Go.Maps Go.RowKit Go.WideMaps
open F (uj yw HyC Pp)
def q66 (w:World)(a:Option Addr)(ts:List HyC):Prop:=∀(i:Nat) (y:HyC),ts[i]?=some y→∃g,a=some ⟨g,0,none⟩∧w.cell? ⟨g,i * 4,none⟩=some (.string y.h.lab)∧w.cell? ⟨g,i * 4 + 1,none⟩=some (.bool y.h.fl)∧w.cell? ⟨g,i * 4 + 2,none⟩=some (.int .i64 y.h.var)∧∃a' c',w.cell? ⟨g,i * 4 + 3,none⟩=some (.slice a' y.h.ex.length c')∧uj w a' y.h.ex∧y.ve=.slice a' y.h.ex.length c'
theorem zq {w w':World}(hb:Below w.heap.size w w'){g i:Nat}{u:Value}(h:w.cell? ⟨g,i,none⟩=some u):w'.cell? ⟨g,i,none⟩=some u:=(hb.cell (p:=⟨g,i,none⟩) (bLt h)).trans h
theorem q66.under {w w':World}{a:Option Addr}{ts:List HyC}(h:q66 w a ts)(hb:Below w.heap.size w w'):q66 w' a ts:=fun i y hi=>by
 obtain⟨g,e,h0,h1,h2,a',c',h3,h4,h5⟩:=h i y hi;exact⟨g,e,zq hb h0,zq hb h1,zq hb h2,a',c',zq hb h3,h4.under hb,h5⟩
theorem qkt {N:Nat}{W:World}{v:Value}{ts:List HyC}(h:F.jq N W v ts):∃a c,v=.slice a ts.length c∧ts.length≤c∧q66 W a ts:=by
 obtain⟨a,c,rfl,hc,hcell⟩:=S.M.xq h.own;refine⟨a,c,rfl,hc,fun i y hi=>?_⟩;have hlt:=(List.getElem?_eq_some_iff.1 hi).1;obtain⟨g,c',e,_,_,_⟩:=S.M.q0h h.own (by omega)
 cases e;obtain⟨h0,h1,h2,h3⟩:=F.qb9 h.own i y hi;obtain⟨a',c',e,_,h4⟩:=F.q3n (h.e y (mGe hi));rw[e] at h3;exact⟨g,rfl,h0,h1,h2,a',c',h3,h4,e⟩
def qcs (l:List Int)(x:Int):Bool:=l.contains x
theorem map_at {ts us:List HyC}(h:ts.map (·.h)=us.map (·.h)){i:Nat}{y:HyC}(hi:ts[i]?=some y):∃z,us[i]?=some z∧z.h=y.h:=by
 have h1:=congrArg (fun l=>l[i]?) h;simp only[List.getElem?_map,hi,Option.map_some] at h1;obtain⟨z,hz,e⟩:=Option.map_eq_some_iff.1 h1.symm;exact⟨z,hz,e⟩
theorem qbb (w:World)(a b:Option Addr)(n c d:Nat)(l:List Int)(hl:l.length=n)(hn:n≤17592186044416)(hA:uj w a l)(hB:uj w b l) :
  Calls Tryz.prog 27 #[.slice a n c,.slice b n d] w fun e w'=>e=.returned (.bool true)∧Below w.heap.size w w':=by
 have HA:=hid hA;have HB:=hid hB;have HL:=hid hl;clear hA hB hl;go_enter Tryz.func27,Tryz.ntmps27;go_wp2_with fail
 go_loopw [5] (fun v5 wx=>∃j:Nat,j≤n∧v5=.int .i64 j∧Hid (Below w.heap.size w wx)) (fun v5 _=>n - (intOf v5).toNat)
 case atStart=>exact⟨0,Nat.zero_le _,rfl,bRf⟩
 case round =>
  obtain⟨j,hj,rfl,hB0⟩:=hrel
  by_cases hlt:j < n
  ·have n1:(j:Int) < (n:Int):=by omega
   obtain⟨x,hx⟩:∃x,l[j]?=some x:=⟨_,gEq (by rw[HL.out];exact hlt)⟩;obtain⟨ga,oa,ea,ca⟩:=(HA.out.under hB0.out) j x hx;obtain⟨gb,ob,eb,cb⟩:=(HB.out.under hB0.out) j x hx;subst ea;subst eb;clear hx;go_upto_region 6 with fail
   go_quiet (fail)
   go_wp2
   exact⟨⟨j + 1,by omega,by go_num,S.below_drewN hB0.out _⟩,by simp[intOf];omega⟩
  ·have n1:¬(j:Int) < (n:Int):=by omega
   go_wp2
   go_ret
   exact⟨rfl,hB0.out⟩
theorem qfz (w:World)(a b:Option Addr)(n c d:Nat)(l:List Pp)(hl:l.length=n)(hn:n≤1048576)(hA:yw w a l)(hB:yw w b l) :
  Calls Tryz.prog 26 #[.slice a n c,.slice b n d] w fun e w'=>e=.returned (.bool true)∧Below w.heap.size w w':=by
 have HA:=hid hA;have HB:=hid hB;have HL:=hid hl;clear hA hB hl;go_enter Tryz.func26,Tryz.ntmps26;go_wp2_with fail
 go_loopw [5] (fun v5 wx=>∃j:Nat,j≤n∧v5=.int .i64 j∧Hid (Below w.heap.size w wx)) (fun v5 _=>n - (intOf v5).toNat)
 case atStart=>exact⟨0,Nat.zero_le _,rfl,bRf⟩
 case round =>
  obtain⟨j,hj,rfl,hB0⟩:=hrel
  by_cases hlt:j < n
  ·have n1:(j:Int) < (n:Int):=by omega
   obtain⟨⟨x,y⟩,hx⟩:∃x,l[j]?=some x:=⟨_,gEq (by rw[HL.out];exact hlt)⟩;obtain⟨ga,oa,ea,ca,da⟩:=(HA.out.under hB0.out) j _ hx;obtain⟨gb,ob,eb,cb,db⟩:=(HB.out.under hB0.out) j _ hx;subst ea;subst eb;clear hx;go_wp2_with fail
   go_quiet (fail)
   go_wp2
   exact⟨⟨j + 1,by omega,by go_num,S.below_drewN hB0.out _⟩,by simp[intOf];omega⟩
  ·have n1:¬(j:Int) < (n:Int):=by omega
   go_wp2
   go_ret
   exact⟨rfl,hB0.out⟩
theorem qmp (w:World)(a b:Option Addr)(c d:Nat)(h:F.Hy)(hn:h.ex.length≤17592186044416)(hA:uj w a h.ex)(hB:uj w b h.ex) :
  Calls Tryz.prog 22 #[.agg #[.string h.lab,.bool h.fl,.int .i64 h.var,.slice a h.ex.length c],.agg #[.string h.lab,.bool h.fl,.int .i64 h.var,.slice b h.ex.length d]] w fun e w'=>e=.returned (.bool true)∧Below w.heap.size w w':=by
 obtain⟨w1,hw1⟩:=eXa ((w.alloc (.cells #[.string h.lab,.bool h.fl,.int .i64 h.var,.slice a h.ex.length c] 57)).alloc (.cells #[.string h.lab,.bool h.fl,.int .i64 h.var,.slice b h.ex.length d] 57));obtain⟨A,hA0⟩:=eXb w.heap.size;obtain⟨B,hB0⟩:=eXb (w.heap.size + 1);have b0:Below w.heap.size w (w.alloc (.cells #[.string h.lab,.bool h.fl,.int .i64 h.var,.slice a h.ex.length c] 57)):=S.qg _ _;have b1:Below (w.alloc (.cells #[.string h.lab,.bool h.fl,.int .i64 h.var,.slice a h.ex.length c] 57)).heap.size (w.alloc (.cells #[.string h.lab,.bool h.fl,.int .i64 h.var,.slice a h.ex.length c] 57)) w1:=by rw[hw1];exact S.qg _ _
 have k0:(w.alloc (.cells #[.string h.lab,.bool h.fl,.int .i64 h.var,.slice a h.ex.length c] 57)).heap[A]?=some (.cells #[.string h.lab,.bool h.fl,.int .i64 h.var,.slice a h.ex.length c] 57 (0,0)):=by rw[←hA0];exact World.alloc_heap_new w _
 have k1:w1.heap[B]?=some (.cells #[.string h.lab,.bool h.fl,.int .i64 h.var,.slice b h.ex.length d] 57 (0,0)):=by rw[hw1,←hB0,←show (w.alloc (.cells #[.string h.lab,.bool h.fl,.int .i64 h.var,.slice a h.ex.length c] 57)).heap.size=w.heap.size + 1 from Array.size_push _];exact World.alloc_heap_new _ _
 have k2:w1.heap[A]?=some (.cells #[.string h.lab,.bool h.fl,.int .i64 h.var,.slice a h.ex.length c] 57 (0,0)):=(b1.block A (aIx k0)).trans k0;have bb:Below w.heap.size w w1:=b0.trans (b1.mono b0.size);have B1:=hid bb;have HW1:=hid hw1;have HA0:=hid hA0;have HB0:=hid hB0;have x0:=S.M.qc k2 0;have y0:=S.M.qc k1 0;have x1:=S.M.qc k2 1;have y1:=S.M.qc k1 1;have x2:=S.M.qc k2 2;have y2:=S.M.qc k1 2;have x3:=S.M.qc k2 3;have y3:=S.M.qc k1 3;simp only[List.getElem?_toArray,List.getElem?_cons_zero,List.getElem?_cons_succ] at x0 y0 x1 y1 x2 y2 x3 y3;have C1:Hid _:=qbb w1 a b h.ex.length c d h.ex rfl hn (hA.under bb) (hB.under bb);clear hw1 hA0 hB0 b0 b1 k0 k1 k2 bb hA hB;go_enter Tryz.func22,Tryz.ntmps22;go_upto_region 1 with fail;rw[←HW1.out,HB0.out,HA0.out];clear HW1 HB0;go_wp2_with fail;refine cMo C1.out ?_;rintro e w2 ⟨rfl,hb2⟩;have B2:=bTr B1 hb2;rw[HA0.out] at B2;clear hb2 C1
 go_wp2
 go_ret
 exact⟨rfl,by first | exact B2.out | (rw[HA0.out];exact B2.out)⟩
theorem qir (w:World)(a b:Option Addr)(n c d:Nat)(ts us:List HyC)(hl:ts.length=n)(hn:n≤1048576)(he:∀y ∈ ts,y.h.ex.length≤17592186044416)(heq:ts.map (·.h)=us.map (·.h))(hA:q66 w a ts)(hB:q66 w b us) :
  Calls Tryz.prog 25 #[.slice a n c,.slice b n d] w fun e w'=>e=.returned (.bool true)∧Below w.heap.size w w':=by
 have HA:=hid hA;have HB:=hid hB;have HL:Hid (ts.length=n∧ts.map (·.h)=us.map (·.h)∧∀y ∈ ts,y.h.ex.length≤17592186044416):=⟨hl,heq,he⟩;clear hA hB hl heq he;go_enter Tryz.func25,Tryz.ntmps25;go_wp2_with fail
 go_loopw [5] (fun v5 wx=>∃j:Nat,j≤n∧v5=.int .i64 j∧Hid (Below w.heap.size w wx)) (fun v5 _=>n - (intOf v5).toNat)
 case atStart=>exact⟨0,Nat.zero_le _,rfl,bRf⟩
 case round =>
  obtain⟨j,hj,rfl,hB0⟩:=hrel
  by_cases hlt:j < n
  ·have n1:(j:Int) < (n:Int):=by omega
   obtain⟨y,hy⟩:∃y,ts[j]?=some y:=⟨_,gEq (by rw[HL.out.1];exact hlt)⟩;obtain⟨z,hz,ez⟩:=map_at HL.out.2.1 hy;obtain⟨ga,ea,p0,p1,p2,a1,c1,p3,p4,_⟩:=(HA.out.under hB0.out) j y hy;obtain⟨gb,eb,q0,q1,q2,a2,c2,q3,q4,_⟩:=(HB.out.under hB0.out) j z hz;rw[ez] at q0 q1 q2 q3 q4;have hex:=HL.out.2.2 y (mGe hy);subst ea;subst eb;have SA:Hid (∀W,Below wr.heap.size wr W→W.cell? ⟨ga,j * 4,none⟩=some (.string y.h.lab)∧W.cell? ⟨ga,j * 4 + 1,none⟩=some (.bool y.h.fl)∧W.cell? ⟨ga,j * 4 + 2,none⟩=some (.int .i64 y.h.var)∧W.cell? ⟨ga,j * 4 + 3,none⟩=some (.slice a1 y.h.ex.length c1)∧W.cell? ⟨gb,j * 4,none⟩=some (.string y.h.lab)∧W.cell? ⟨gb,j * 4 + 1,none⟩=some (.bool y.h.fl)∧W.cell? ⟨gb,j * 4 + 2,none⟩=some (.int .i64 y.h.var)∧W.cell? ⟨gb,j * 4 + 3,none⟩=some (.slice a2 y.h.ex.length c2)):=fun W hW=>⟨zq hW p0,zq hW p1,zq hW p2,zq hW p3,zq hW q0,zq hW q1,zq hW q2,zq hW q3⟩
   have C:Hid (∀W,Below wr.heap.size wr W→Calls Tryz.prog 22 #[.agg #[.string y.h.lab,.bool y.h.fl,.int .i64 y.h.var,.slice a1 y.h.ex.length c1],.agg #[.string y.h.lab,.bool y.h.fl,.int .i64 y.h.var,.slice a2 y.h.ex.length c2]] W fun e w'=>e=.returned (.bool true)∧w'.cell? ⟨ga,j * 4,none⟩=some (.string y.h.lab)∧w'.cell? ⟨ga,j * 4 + 1,none⟩=some (.bool y.h.fl)∧w'.cell? ⟨ga,j * 4 + 2,none⟩=some (.int .i64 y.h.var)∧w'.cell? ⟨ga,j * 4 + 3,none⟩=some (.slice a1 y.h.ex.length c1)∧w'.cell? ⟨gb,j * 4,none⟩=some (.string y.h.lab)∧w'.cell? ⟨gb,j * 4 + 1,none⟩=some (.bool y.h.fl)∧w'.cell? ⟨gb,j * 4 + 2,none⟩=some (.int .i64 y.h.var)∧w'.cell? ⟨gb,j * 4 + 3,none⟩=some (.slice a2 y.h.ex.length c2)∧Hid (Below wr.heap.size wr w')):=fun W hW=>by
    refine (qmp W a1 a2 c1 c2 y.h hex (p4.under hW) (q4.under hW)).mono ?_;rintro e w' ⟨he,hb⟩;have hb2:=hW.trans (hb.mono hW.size);obtain⟨s0,s1,s2,s3,s4,s5,s6,s7⟩:=SA.out w' hb2;exact⟨he,s0,s1,s2,s3,s4,s5,s6,s7,hb2⟩
   have BW:=hid hB0;have BR:Hid (Below wr.heap.size wr wr.drew):=S.below_drewN bRf 1;have SR:Hid (wr.drew.cell? ⟨ga,j * 4,none⟩=some (.string y.h.lab)∧wr.drew.cell? ⟨ga,j * 4 + 1,none⟩=some (.bool y.h.fl)∧wr.drew.cell? ⟨ga,j * 4 + 2,none⟩=some (.int .i64 y.h.var)∧wr.drew.cell? ⟨ga,j * 4 + 3,none⟩=some (.slice a1 y.h.ex.length c1)∧wr.drew.cell? ⟨gb,j * 4,none⟩=some (.string y.h.lab)∧wr.drew.cell? ⟨gb,j * 4 + 1,none⟩=some (.bool y.h.fl)∧wr.drew.cell? ⟨gb,j * 4 + 2,none⟩=some (.int .i64 y.h.var)∧wr.drew.cell? ⟨gb,j * 4 + 3,none⟩=some (.slice a2 y.h.ex.length c2)):=SA.out _ BR.out;clear p0 p1 p2 p3 p4 q0 q1 q2 q3 q4 hy hz ez hex hB0;go_upto_region 6 with fail;refine wp_region_held_drew (S:=fun w'=>w'.cell? ⟨ga,j * 4,none⟩=some (.string y.h.lab)∧w'.cell? ⟨ga,j * 4 + 1,none⟩=some (.bool y.h.fl)∧w'.cell? ⟨ga,j * 4 + 2,none⟩=some (.int .i64 y.h.var)∧w'.cell? ⟨ga,j * 4 + 3,none⟩=some (.slice a1 y.h.ex.length c1)∧w'.cell? ⟨gb,j * 4,none⟩=some (.string y.h.lab)∧w'.cell? ⟨gb,j * 4 + 1,none⟩=some (.bool y.h.fl)∧w'.cell? ⟨gb,j * 4 + 2,none⟩=some (.int .i64 y.h.var)∧w'.cell? ⟨gb,j * 4 + 3,none⟩=some (.slice a2 y.h.ex.length c2)) (by kernel_rfl) ?_ (fun hZ=>?_)
   ·exact SR.out
   refine tkq 0 hZ ?_;refine tkq 1 hZ ?_;refine tkq 2 hZ ?_;refine tkq 3 hZ ?_;refine tkq 4 hZ ?_;refine tkq 5 hZ ?_;refine tkq 6 hZ ?_;refine tkq 7 hZ ?_;refine rkq 8 fun K hK=>?_
   go_simp;go_at_call 22;refine cMo (C.out _ BR.out) ?_;rintro e w1 ⟨rfl,d0,d1,d2,d3,d4,d5,d6,d7,d8⟩
   try go_wp2_with fail
   refine aQq hK ?_ fun hZ_8=>?_
   ·exact⟨d0,d1,d2,d3,d4,d5,d6,d7⟩
   clear hK K;refine tkq 9 hZ_8 ?_;refine wpAnyH_done (by kernel_rfl) ?_ _;clear SA SR BR;have BE:Hid (Below w.heap.size w w1):=BW.out.trans (d8.out.mono BW.out.size)
   go_wp2
   exact⟨⟨j + 1,by omega,by go_num,BE.out⟩,by simp[intOf];omega⟩
  ·have n1:¬(j:Int) < (n:Int):=by omega
   go_wp2
   go_ret
   exact⟨rfl,hB0.out⟩
open Go.RowKit
open S (Tok q0i)
def q67 (p:Bool)(t u:Tok):Prop:=t.text=u.text∧(p=true→t=u)
def q57 (p:Bool)(ts us:List Tok):Prop:=ts.length=us.length∧∀(i:Nat) (t u:Tok),ts[i]?=some t→us[i]?=some u→q67 p t u
theorem qeh (w:World)(a b:Option Addr)(n c d:Nat)(p:Bool)(ts us:List Tok)(hl:ts.length=n)(hn:n≤1048576)(hq:q57 p ts us)(hA:q0i w a ts)(hB:q0i w b us) :
  Calls Tryz.prog 75 #[.slice a n c,.slice b n d,.bool p] w fun e w'=>e=.returned (.bool true)∧Below w.heap.size w w':=by
 have HA:=hid hA;have HB:=hid hB;have HL:Hid (ts.length=n∧q57 p ts us):=⟨hl,hq⟩;clear hA hB hl hq;go_enter Tryz.func75,Tryz.ntmps75;go_wp2_with fail
 go_loopw [7] (fun v7 wx=>∃j:Nat,j≤n∧v7=.int .i64 j∧Hid (Below w.heap.size w wx)) (fun v7 _=>n - (intOf v7).toNat)
 case atStart=>exact⟨0,Nat.zero_le _,rfl,bRf⟩
 case round =>
  obtain⟨j,hj,rfl,hB0⟩:=hrel
  by_cases hlt:j < n
  ·have n1:(j:Int) < (n:Int):=by omega
   obtain⟨t,ht⟩:∃x,ts[j]?=some x:=⟨_,gEq (by rw[HL.out.1];exact hlt)⟩;obtain⟨u,hu⟩:∃x,us[j]?=some x:=⟨_,gEq (by rw[←HL.out.2.1,HL.out.1];exact hlt)⟩;obtain⟨ga,oa,ea,a0,a1,a2,a3⟩:=(HA.out.under hB0.out) j _ ht;obtain⟨gb,ob,eb,b0,b1,b2,b3⟩:=(HB.out.under hB0.out) j _ hu;obtain⟨h1,h2⟩:=HL.out.2.2 j t u ht hu;subst ea;subst eb;clear ht hu;obtain⟨tx,o,l,k⟩:=t;obtain⟨ty,o',l',k'⟩:=u;dsimp only at *;subst h1
   cases p with
   | false =>
    clear h2 a1 a2 a3 b1 b2 b3;go_wp2_with fail
    go_quiet (fail)
    go_wp2
    exact⟨⟨j + 1,by omega,by go_num,S.below_drewN hB0.out _⟩,by simp[intOf];omega⟩
   | true =>
    have h3:=h2 rfl;simp only[Tok.mk.injEq,true_and] at h3;obtain⟨rfl,rfl,rfl⟩:=h3;clear h2;replace a2:wr.cell? ⟨ga,oa + j * 4 + 1 + 1,none⟩=some (.int .i64 l):=a2;replace a3:wr.cell? ⟨ga,oa + j * 4 + 1 + 2,none⟩=some (.int .i64 k):=a3;replace b2:wr.cell? ⟨gb,ob + j * 4 + 1 + 1,none⟩=some (.int .i64 l):=b2;replace b3:wr.cell? ⟨gb,ob + j * 4 + 1 + 2,none⟩=some (.int .i64 k):=b3;go_wp2_with fail
    go_quiet (fail)
    go_wp2
    exact⟨⟨j + 1,by omega,by go_num,S.below_drewN hB0.out _⟩,by simp[intOf];omega⟩
  ·have n1:¬(j:Int) < (n:Int):=by omega
   go_wp2
   go_ret
   exact⟨rfl,hB0.out⟩
theorem qku (w:World)(x y:Array Value)(t:TypeId):∃w1 A B,w1=(w.alloc (.cells x t)).alloc (.cells y t)∧w.heap.size=A∧w.heap.size + 1=B∧Below w.heap.size w w1∧w1.heap[A]?=some (.cells x t (0,0))∧w1.heap[B]?=some (.cells y t (0,0)):=by
 have b0:Below w.heap.size w (w.alloc (.cells x t)):=S.qg _ _;have b1:=S.qg (w.alloc (.cells x t)) (.cells y t);have e:(w.alloc (.cells x t)).heap.size=w.heap.size + 1:=Array.size_push ..;refine⟨_,_,_,rfl,rfl,rfl,b0.trans (b1.mono b0.size),(b1.block w.heap.size (by rw[e];omega)).trans (World.alloc_heap_new w _),?_⟩;rw[←e];exact World.alloc_heap_new _ _
theorem cells3 {w:World}{b:Nat}{t:TypeId}{f:Nat × Nat}{v0 v1 v2:Value}(h:w.heap[b]?=some (.cells #[v0,v1,v2] t f)):Hid (∀W,Below w.heap.size w W→W.cell? ⟨b,0,none⟩=some v0∧W.cell? ⟨b,1,none⟩=some v1∧W.cell? ⟨b,2,none⟩=some v2) :=
 fun _ hW=>⟨zq hW (S.M.qc h 0),zq hW (S.M.qc h 1),zq hW (S.M.qc h 2)⟩
theorem qkv {w:World}{b:Nat}{t:TypeId}{f:Nat × Nat}{v0 v1 v2 v3 v4 v5 v6 v7 v8 v9 v10 v11 v12 v13 v14 v15 v16:Value}(h:w.heap[b]?=some (.cells #[v0,v1,v2,v3,v4,v5,v6,v7,v8,v9,v10,v11,v12,v13,v14,v15,v16] t f)):Hid (∀W,Below w.heap.size w W→W.cell? ⟨b,0,none⟩=some v0∧W.cell? ⟨b,1,none⟩=some v1∧W.cell? ⟨b,2,none⟩=some v2∧W.cell? ⟨b,3,none⟩=some v3∧W.cell? ⟨b,4,none⟩=some v4∧W.cell? ⟨b,5,none⟩=some v5∧W.cell? ⟨b,6,none⟩=some v6∧W.cell? ⟨b,7,none⟩=some v7∧W.cell? ⟨b,8,none⟩=some v8∧W.cell? ⟨b,9,none⟩=some v9∧W.cell? ⟨b,10,none⟩=some v10∧W.cell? ⟨b,11,none⟩=some v11∧W.cell? ⟨b,12,none⟩=some v12∧W.cell? ⟨b,13,none⟩=some v13∧W.cell? ⟨b,14,none⟩=some v14∧W.cell? ⟨b,15,none⟩=some v15∧W.cell? ⟨b,16,none⟩=some v16) :=
 fun _ hW=>⟨zq hW (S.M.qc h 0),zq hW (S.M.qc h 1),zq hW (S.M.qc h 2),zq hW (S.M.qc h 3),zq hW (S.M.qc h 4),zq hW (S.M.qc h 5),zq hW (S.M.qc h 6),zq hW (S.M.qc h 7),zq hW (S.M.qc h 8),zq hW (S.M.qc h 9),zq hW (S.M.qc h 10),zq hW (S.M.qc h 11),zq hW (S.M.qc h 12),zq hW (S.M.qc h 13),zq hW (S.M.qc h 14),zq hW (S.M.qc h 15),zq hW (S.M.qc h 16)⟩
def qbc (w:World)(u v:Value):Prop:=∃a b n c d ts us,u=.slice a n c∧v=.slice b n d∧ts.length=n∧n≤1048576∧(∀y ∈ ts,y.h.ex.length≤17592186044416)∧ts.map (·.h)=us.map (·.h)∧q66 w a ts∧q66 w b us
def q61 (w:World)(u v:Value):Prop:=∃a b n c d l,u=.slice a n c∧v=.slice b n d∧l.length=n∧n≤1048576∧yw w a l∧yw w b l
def q93 (w:World)(u v:Value):Prop:=∃a b n c d l,u=.slice a n c∧v=.slice b n d∧l.length=n∧n≤17592186044416∧uj w a l∧uj w b l
def q82 (p:Bool)(w:World)(u v:Value):Prop:=∃a b n c d ts us,u=.slice a n c∧v=.slice b n d∧ts.length=n∧n≤1048576∧q57 p ts us∧q0i w a ts∧q0i w b us
theorem qbc.under {w w':World}{u v:Value}(h:qbc w u v)(hb:Below w.heap.size w w'):qbc w' u v:=by
 obtain⟨a,b,n,c,d,ts,us,h1,h2,h3,h4,h5,h6,h7,h8⟩:=h;exact⟨a,b,n,c,d,ts,us,h1,h2,h3,h4,h5,h6,h7.under hb,h8.under hb⟩
theorem q61.under {w w':World}{u v:Value}(h:q61 w u v)(hb:Below w.heap.size w w'):q61 w' u v:=by
 obtain⟨a,b,n,c,d,l,h1,h2,h3,h4,h5,h6⟩:=h;exact⟨a,b,n,c,d,l,h1,h2,h3,h4,h5.under hb,h6.under hb⟩
theorem q93.under {w w':World}{u v:Value}(h:q93 w u v)(hb:Below w.heap.size w w'):q93 w' u v:=by
 obtain⟨a,b,n,c,d,l,h1,h2,h3,h4,h5,h6⟩:=h;exact⟨a,b,n,c,d,l,h1,h2,h3,h4,h5.under hb,h6.under hb⟩
theorem q82.under {p:Bool}{w w':World}{u v:Value}(h:q82 p w u v)(hb:Below w.heap.size w w'):q82 p w' u v:=by
 obtain⟨a,b,n,c,d,ts,us,h1,h2,h3,h4,h5,h6,h7⟩:=h;exact⟨a,b,n,c,d,ts,us,h1,h2,h3,h4,h5,h6.under hb,h7.under hb⟩
abbrev Yes (f:Nat)(args:Array Value)(w:World):Prop:=Calls Tryz.prog f args w fun e w'=>e=.returned (.bool true)∧Below w.heap.size w w'
theorem qbe {w:World}{u v:Value}(h:qbc w u v):Yes 25 #[u,v] w:=by
 obtain⟨a,b,n,c,d,ts,us,rfl,rfl,h3,h4,h5,h6,h7,h8⟩:=h;exact qir w a b n c d ts us h3 h4 h5 h6 h7 h8
theorem q9u {w:World}{u v:Value}(h:q61 w u v):Yes 26 #[u,v] w:=by
 obtain⟨a,b,n,c,d,l,rfl,rfl,h3,h4,h5,h6⟩:=h;exact qfz w a b n c d l h3 h4 h5 h6
theorem qis {w:World}{u v:Value}(h:q93 w u v):Yes 27 #[u,v] w:=by
 obtain⟨a,b,n,c,d,l,rfl,rfl,h3,h4,h5,h6⟩:=h;exact qbb w a b n c d l h3 h4 h5 h6
theorem q4e {p:Bool}{w:World}{u v:Value}(h:q82 p w u v):Yes 75 #[u,v,.bool p] w:=by
 obtain⟨a,b,n,c,d,ts,us,rfl,rfl,h3,h4,h5,h6,h7⟩:=h;exact qeh w a b n c d p ts us h3 h4 h5 h6 h7
theorem qg0 {w:World}{u1 u2 u3 v1 v2 v3:Value}(h1:qbc w u1 v1)(h2:q61 w u2 v2)(h3:q93 w u3 v3):Yes 40 #[.agg #[u1,u2,u3],.agg #[v1,v2,v3]] w:=by
 obtain⟨w1,A,B,hw1,hA0,hB0,bb,kA,kB⟩:=qku w #[u1,u2,u3] #[v1,v2,v3] 47;have CA:=cells3 kA;have CB:=cells3 kB;have B1:=hid bb;have HW1:=hid hw1;have HA0:=hid hA0;have HB0:=hid hB0;have C1:Hid (∀W,Below w1.heap.size w1 W→Yes 25 #[u1,v1] W):=fun W hW=>qbe ((h1.under bb).under hW)
 have C2:Hid (∀W,Below w1.heap.size w1 W→Yes 26 #[u2,v2] W):=fun W hW=>q9u ((h2.under bb).under hW)
 have C3:Hid (∀W,Below w1.heap.size w1 W→Yes 27 #[u3,v3] W):=fun W hW=>qis ((h3.under bb).under hW)
 have E1:Hid (Below w1.heap.size w1 w1):=bRf;clear hw1 hA0 hB0 bb kA kB h1 h2 h3;go_enter Tryz.func40,Tryz.ntmps40;go_upto_region 1 with fail;rw[←HW1.out,HB0.out,HA0.out];clear HW1 HB0;obtain⟨x0,x1,x2⟩:=CA.out _ E1.out;obtain⟨y0,y1,y2⟩:=CB.out _ E1.out;go_wp2_with fail;refine cMo (C1.out _ E1.out) ?_;rintro e z1 ⟨rfl,hz⟩;have E2:=bTr E1 hz;clear hz x0 x1 x2 y0 y1 y2;obtain⟨x0,x1,x2⟩:=CA.out _ E2.out;obtain⟨y0,y1,y2⟩:=CB.out _ E2.out;go_wp2_with fail;refine cMo (C2.out _ E2.out) ?_;rintro e z2 ⟨rfl,hz⟩;have E3:=bTr E2 hz;clear hz x0 x1 x2 y0 y1 y2;obtain⟨x0,x1,x2⟩:=CA.out _ E3.out;obtain⟨y0,y1,y2⟩:=CB.out _ E3.out;go_wp2_with fail;refine cMo (C3.out _ E3.out) ?_;rintro e z3 ⟨rfl,hz⟩;have E4:=bTr E3 hz;clear hz x0 x1 x2 y0 y1 y2;have BE:Hid (Below w.heap.size w z3):=B1.out.trans (E4.out.mono B1.out.size);rw[HA0.out] at BE
 go_wp2
 go_ret
 exact⟨rfl,by first | exact BE.out | (rw[HA0.out];exact BE.out)⟩
theorem qa4 {w:World}(p:Bool)(i:Int)(lt:ByteArray)(th:Bool){u3 u4 u5 u6 u7 u8 v3 v4 v5 v6 v7 v8:Value}{t y f z:Tok}(ht:q67 p t y)(hf:q67 p f z)(h3:qbc w u3 v3)(h4:q61 w u4 v4)(h5:q93 w u5 v5)(h6:qbc w u6 v6)(h7:q61 w u7 v7)(h8:q82 p w u8 v8) :
  Yes 39 #[.agg #[.int .i64 i,.string lt,.bool th,u3,u4,u5,u6,u7,u8,.string t.text,.int .i64 t.off,.int .i64 t.line,.int .i64 t.col,.string f.text,.int .i64 f.off,.int .i64 f.line,.int .i64 f.col],.agg #[.int .i64 i,.string lt,.bool th,v3,v4,v5,v6,v7,v8,.string y.text,.int .i64 y.off,.int .i64 y.line,.int .i64 y.col,.string z.text,.int .i64 z.off,.int .i64 z.line,.int .i64 z.col],.bool p] w:=by
 obtain⟨w1,A,B,hw1,hA0,hB0,bb,kA,kB⟩:=qku w #[.int .i64 i,.string lt,.bool th,u3,u4,u5,u6,u7,u8,.string t.text,.int .i64 t.off,.int .i64 t.line,.int .i64 t.col,.string f.text,.int .i64 f.off,.int .i64 f.line,.int .i64 f.col] #[.int .i64 i,.string lt,.bool th,v3,v4,v5,v6,v7,v8,.string y.text,.int .i64 y.off,.int .i64 y.line,.int .i64 y.col,.string z.text,.int .i64 z.off,.int .i64 z.line,.int .i64 z.col] 51;have CA:=qkv kA;have CB:=qkv kB;have B1:=hid bb;have HW1:=hid hw1;have HA0:=hid hA0;have HB0:=hid hB0;have C1:Hid (∀W,Below w1.heap.size w1 W→Yes 40 #[.agg #[u3,u4,u5],.agg #[v3,v4,v5]] W):=fun W hW=>qg0 ((h3.under bb).under hW) ((h4.under bb).under hW) ((h5.under bb).under hW)
 have C2:Hid (∀W,Below w1.heap.size w1 W→Yes 25 #[u6,v6] W):=fun W hW=>qbe ((h6.under bb).under hW)
 have C3:Hid (∀W,Below w1.heap.size w1 W→Yes 26 #[u7,v7] W):=fun W hW=>q9u ((h7.under bb).under hW)
 have C4:Hid (∀W,Below w1.heap.size w1 W→Yes 75 #[u8,v8,.bool p] W):=fun W hW=>q4e ((h8.under bb).under hW)
 have E1:Hid (Below w1.heap.size w1 w1):=bRf;clear hw1 hA0 hB0 bb kA kB h3 h4 h5 h6 h7 h8;obtain⟨tx,t1,t2,t3⟩:=t;obtain⟨fx,f1,f2,f3⟩:=f;obtain⟨yx,y1,y2,y3⟩:=y;obtain⟨zx,z1,z2,z3⟩:=z;obtain⟨g1,g2⟩:=ht;obtain⟨g3,g4⟩:=hf;dsimp only at *;subst g1;subst g3;go_enter Tryz.func39,Tryz.ntmps39;go_upto_region 1 with fail;rw[←HW1.out,HB0.out,HA0.out];clear HW1 HB0;have G:Hid (p=true→(t1=y1∧t2=y2∧t3=y3)∧f1=z1∧f2=z2∧f3=z3):=fun e=>by
  have h1:=g2 e;have h2:=g4 e;simp only[Tok.mk.injEq,true_and] at h1 h2;exact⟨h1,h2⟩
 clear g2 g4;obtain⟨x0,x1,x2,x3,x4,x5,x6,x7,x8,x9,x10,x11,x12,x13,x14,x15,x16⟩:=CA.out _ E1.out;obtain⟨w0,wb1,w2,w3,w4,w5,w6,w7,w8,w9,w10,w11,w12,w13,w14,w15,w16⟩:=CB.out _ E1.out
 cases p with
 | false =>
  go_wp2_with fail;refine cMo (C1.out _ E1.out) ?_;rintro e q1 ⟨rfl,hz⟩;have E2:=bTr E1 hz;clear hz x0 x1 x2 x3 x4 x5 x6 x7 x8 x9 x10 x11 x12 x13 x14 x15 x16 w0 wb1 w2 w3 w4 w5 w6 w7 w8 w9 w10 w11 w12 w13 w14 w15 w16;obtain⟨x0,x1,x2,x3,x4,x5,x6,x7,x8,x9,x10,x11,x12,x13,x14,x15,x16⟩:=CA.out _ E2.out;obtain⟨w0,wb1,w2,w3,w4,w5,w6,w7,w8,w9,w10,w11,w12,w13,w14,w15,w16⟩:=CB.out _ E2.out;go_wp2_with fail;refine cMo (C2.out _ E2.out) ?_;rintro e q2 ⟨rfl,hz⟩;have E3:=bTr E2 hz;clear hz x0 x1 x2 x3 x4 x5 x6 x7 x8 x9 x10 x11 x12 x13 x14 x15 x16 w0 wb1 w2 w3 w4 w5 w6 w7 w8 w9 w10 w11 w12 w13 w14 w15 w16;obtain⟨x0,x1,x2,x3,x4,x5,x6,x7,x8,x9,x10,x11,x12,x13,x14,x15,x16⟩:=CA.out _ E3.out;obtain⟨w0,wb1,w2,w3,w4,w5,w6,w7,w8,w9,w10,w11,w12,w13,w14,w15,w16⟩:=CB.out _ E3.out;go_wp2_with fail;refine cMo (C3.out _ E3.out) ?_;rintro e q3 ⟨rfl,hz⟩;have E4:=bTr E3 hz;clear hz x0 x1 x2 x3 x4 x5 x6 x7 x8 x9 x10 x11 x12 x13 x14 x15 x16 w0 wb1 w2 w3 w4 w5 w6 w7 w8 w9 w10 w11 w12 w13 w14 w15 w16;obtain⟨x0,x1,x2,x3,x4,x5,x6,x7,x8,x9,x10,x11,x12,x13,x14,x15,x16⟩:=CA.out _ E4.out;obtain⟨w0,wb1,w2,w3,w4,w5,w6,w7,w8,w9,w10,w11,w12,w13,w14,w15,w16⟩:=CB.out _ E4.out;go_wp2_with fail;refine cMo (C4.out _ E4.out) ?_;rintro e q4 ⟨rfl,hz⟩;have E5:=bTr E4 hz;clear hz x0 x1 x2 x3 x4 x5 x6 x7 x8 x9 x10 x11 x12 x13 x14 x15 x16 w0 wb1 w2 w3 w4 w5 w6 w7 w8 w9 w10 w11 w12 w13 w14 w15 w16;have BE:Hid (Below w.heap.size w q4):=B1.out.trans (E5.out.mono B1.out.size);rw[HA0.out] at BE
  go_wp2
  go_ret
  exact⟨rfl,by first | exact BE.out | (rw[HA0.out];exact BE.out)⟩
 | true =>
  obtain⟨⟨rfl,rfl,rfl⟩,rfl,rfl,rfl⟩:=G.out rfl;go_wp2_with fail;refine cMo (C1.out _ E1.out) ?_;rintro e q1 ⟨rfl,hz⟩;have E2:=bTr E1 hz;clear hz x0 x1 x2 x3 x4 x5 x6 x7 x8 x9 x10 x11 x12 x13 x14 x15 x16 w0 wb1 w2 w3 w4 w5 w6 w7 w8 w9 w10 w11 w12 w13 w14 w15 w16;obtain⟨x0,x1,x2,x3,x4,x5,x6,x7,x8,x9,x10,x11,x12,x13,x14,x15,x16⟩:=CA.out _ E2.out;obtain⟨w0,wb1,w2,w3,w4,w5,w6,w7,w8,w9,w10,w11,w12,w13,w14,w15,w16⟩:=CB.out _ E2.out;go_wp2_with fail;refine cMo (C2.out _ E2.out) ?_;rintro e q2 ⟨rfl,hz⟩;have E3:=bTr E2 hz;clear hz x0 x1 x2 x3 x4 x5 x6 x7 x8 x9 x10 x11 x12 x13 x14 x15 x16 w0 wb1 w2 w3 w4 w5 w6 w7 w8 w9 w10 w11 w12 w13 w14 w15 w16;obtain⟨x0,x1,x2,x3,x4,x5,x6,x7,x8,x9,x10,x11,x12,x13,x14,x15,x16⟩:=CA.out _ E3.out;obtain⟨w0,wb1,w2,w3,w4,w5,w6,w7,w8,w9,w10,w11,w12,w13,w14,w15,w16⟩:=CB.out _ E3.out;go_wp2_with fail;refine cMo (C3.out _ E3.out) ?_;rintro e q3 ⟨rfl,hz⟩;have E4:=bTr E3 hz;clear hz x0 x1 x2 x3 x4 x5 x6 x7 x8 x9 x10 x11 x12 x13 x14 x15 x16 w0 wb1 w2 w3 w4 w5 w6 w7 w8 w9 w10 w11 w12 w13 w14 w15 w16;obtain⟨x0,x1,x2,x3,x4,x5,x6,x7,x8,x9,x10,x11,x12,x13,x14,x15,x16⟩:=CA.out _ E4.out;obtain⟨w0,wb1,w2,w3,w4,w5,w6,w7,w8,w9,w10,w11,w12,w13,w14,w15,w16⟩:=CB.out _ E4.out;go_wp2_with fail;refine cMo (C4.out _ E4.out) ?_;rintro e q4 ⟨rfl,hz⟩;have E5:=bTr E4 hz;clear hz x0 x1 x2 x3 x4 x5 x6 x7 x8 x9 x10 x11 x12 x13 x14 x15 x16 w0 wb1 w2 w3 w4 w5 w6 w7 w8 w9 w10 w11 w12 w13 w14 w15 w16;have BE:Hid (Below w.heap.size w q4):=B1.out.trans (E5.out.mono B1.out.size);rw[HA0.out] at BE
  go_wp2
  go_ret
  exact⟨rfl,by first | exact BE.out | (rw[HA0.out];exact BE.out)⟩
open Go.RowKit S
def q58 (t:Tok)(c:Int):Array Value:=#[.int .i64 t.off,.int .i64 t.line,.int .i64 t.col,.string t.text,.int .i64 c]
def Quits (t:Tok)(c:Int)(N:Nat)(e:Ending)(w':World):Prop:=∃b,e=.panicked [{ v:=.iface 23 (.pointer (some ⟨b,0,none⟩)),recovered:=false }]∧w'.heap[b]?=some (.cells (q58 t c) 31 (0,0))∧N≤b
theorem Quits.le {t:Tok}{c:Int}{N M:Nat}{e:Ending}{w':World}(h:Quits t c N e w')(hm:M≤N):Quits t c M e w':=by
 obtain⟨b,h1,h2,h3⟩:=h;exact⟨b,h1,h2,nLt hm h3⟩
theorem qj9 (w:World)(o p:Obj):((w.alloc o).alloc p).heap[w.heap.size + 1]?=some p∧Below w.heap.size w ((w.alloc o).alloc p):=by
 constructor
 ·show ((w.heap.push o).push p)[_]?=_
  rw[Array.getElem?_eq_getElem (by simp),Array.getElem_push,dif_neg (by simp)]
 ·exact (qg w o).alloc (qg w o).size p
theorem q20 (w:World)(t:Tok)(c:Int):Calls Tryz.prog 153 #[zo t,.int .i64 c] w fun e w'=>Below w.heap.size w w'∧Quits t c w.heap.size e w':=by
 unfold zo;go_enter Tryz.func153,Tryz.ntmps153
 go_wp2
 obtain⟨h1,h2⟩:=qj9 w (.cells #[.string t.text,.int .i64 t.off,.int .i64 t.line,.int .i64 t.col] 36) (.cells (q58 t c) 31);exact⟨rfl,h2,_,rfl,h1,by omega⟩
def Chk (t:Tok)(c:Int)(w:World)(e:Ending)(w':World):Prop:=Below w.heap.size w w'∧if c=0 then e=.returned (.tuple #[]) else Quits t c w.heap.size e w'
theorem check_any (w:World)(t:Tok)(c:Int):Calls Tryz.prog 102 #[zo t,.int .i64 c] w (Chk t c w):=by
 have H:Hid (∀wx,Calls Tryz.prog 153 #[zo t,.int .i64 c] wx fun e w'=>Below wx.heap.size wx w'∧Quits t c wx.heap.size e w'):=fun wx=>q20 wx t c
 unfold zo at H ⊢
 by_cases hc:c=0
 ·subst hc;go_enter Tryz.func102,Tryz.ntmps102
  go_wp2
  exact bodyPost_end (results_none rfl _ _ _) rfl ⟨(qg w _),rfl⟩
 ·have hc':(c != 0)=true:=by simpa using hc
  go_enter Tryz.func102,Tryz.ntmps102;go_wp2_with fail;refine cMo (H.out _) ?_;rintro e w' ⟨hb,b,rfl,h2,h3⟩;have hs:w.heap.size≤(w.alloc (.cells #[.string t.text,.int .i64 t.off,.int .i64 t.line,.int .i64 t.col] 36)).heap.size:=(qg w _).size;refine⟨rfl,(qg w _).trans (hb.mono hs),?_⟩;rw[if_neg hc];exact⟨b,rfl,h2,nLt hs h3⟩
open S (Tok Stm)
abbrev Res (α:Type):=Except (Tok × Int) α
def zn (T:Y.Tab)(n:Int):Bool:=Y.varOf (Y.q31 T n)
structure As where
 label:Tok
 thm:Bool
 goal:List Int
 needed:List Int
 apart:List F.Pp
 active:List Int
 pairs:List F.Pp
 proof:List Tok
 fin:Tok
structure Ld where
 T:Y.Tab
 sc:List F.Sa
 hy:List F.Hy
 al:List As
def ld0:Ld:=⟨Y.qit,[⟨[],[]⟩],[],[]⟩
def q33 (L:Ld)(t:Tok):Res Int:=match Y.q07 L.T t.text with
 | some n=>.ok (n:Int)
 | none=>.error (t,30)
def q08 (L:Ld)(t:Tok):Res Int:=match q33 L t with
 | .ok n=>if zn L.T n=true then .error (t,72) else .ok n
 | .error f=>.error f
def q3o (L:Ld)(t:Tok):Res Int:=match q33 L t with
 | .ok n=>if zn L.T n=true then .ok n else .error (t,71)
 | .error f=>.error f
def q04 (L:Ld)(t:Tok):Res Int:=match q3o L t with
 | .ok n=>if (F.tyA L.sc n).isSome=true then .error (t,70) else .ok n
 | .error f=>.error f
def q1h (L:Ld)(t:Tok):Res Int:=match q33 L t with
 | .ok n=>if (F.tyA L.sc n).isSome=false∧zn L.T n=true then .error (t,70) else .ok n
 | .error f=>.error f
def q0c (L:Ld):List Int→List Tok→Res (List Int)
 | e,[]=>.ok e
 | e,t :: ts=>if 200≤e.length then .error (t,31) else match (if e.length=0 then q08 L t else q1h L t) with
  | .ok n=>q0c L (e++[n]) ts
  | .error f=>.error f
def q17 (L:Ld):List Int→List Tok→Res (List Int)
 | e,[]=>.ok e
 | e,t :: ts=>match (if e.length=0 then q08 L t else q04 L t) with
  | .ok n=>q17 L (e++[n]) ts
  | .error f=>.error f
def q25 (l:List F.Pp)(p:F.Pp):List F.Pp:=if F.q3w l p=true then l else l++[p]
def q1k (L:Ld):List Int→List F.Pp→List Tok→Res (List Int)
 | a,_,[]=>.ok a
 | a,ps,t :: ts=>match q3o L t with
  | .ok v=>if a.contains v=true then .error (t,50) else if 256 < (a.foldl (fun l u=>q25 l (u,v)) ps).length then .error (t,22) else q1k L (a++[v]) (a.foldl (fun l u=>q25 l (u,v)) ps) ts
  | .error f=>.error f
def q0l (f:Y.Tab→ByteArray→Nat × Nat × Y.Tab):Ld→List Tok→Res Ld
 | L,[]=>.ok L
 | L,t :: ts=>if (f L.T t.text).2.1=0 then q0l f { L with T:=(f L.T t.text).2.2 } ts else .error (t,((f L.T t.text).2.1:Nat))
def q9d:List F.Pp→F.Pp→List F.Pp
 | [],p=>[p]
 | q :: l,p=>if p=q then q :: l else if F.ltP p q then p :: q :: l else q :: q9d l p
def q05 (l:List F.Pp):List F.Pp:=(l.filter fun p=>!(p.1 == p.2)).foldl (fun a p=>q9d a (F.jo p)) []
def jl (sc:List F.Sa):List F.Hy:=sc.flatMap (·.hs)
def q9e (l:List F.Hy):List Int:=l.flatMap fun h=>if h.fl=true then [] else h.ex
def qgj (T:Y.Tab)(sc:List F.Sa)(goal:List Int)(x:Int):Bool:=zn T x && (goal++q9e (jl sc)).contains x
def q4s (T:Y.Tab)(sc:List F.Sa)(goal:List Int):List F.Hy:=(jl sc).filter fun h=>qgj T sc goal h.var || !h.fl
def q7p (T:Y.Tab)(sc:List F.Sa)(goal:List Int):List F.Pp:=q05 ((F.uo sc).filter fun p=>qgj T sc goal p.1 && qgj T sc goal p.2)
def q1p (hy:List F.Hy)(s:ByteArray):Option Nat:=hy.findIdx? fun h=>h.lab=s
def q3a (l:List As)(s:ByteArray):Option Nat:=l.findIdx? fun a=>a.label.text=s
def yg (hy:List F.Hy)(h:F.Hy):Int:=((q1p hy h.lab).getD 0:Nat)
def q0m (t:Tok):Bool:=!(t.text.data.toList.isEmpty)
def yj (t:Tok)(c:Int)(L:Ld):Res Ld:=if c=0 then .ok L else .error (t,c)
def q3y (L:Ld)(t:Tok):Res Ld:=if q0m t=true then yj t ((Y.zh L.T t.text).1:Nat) { L with T:=(Y.zh L.T t.text).2 } else .ok L
def q89 (L:Ld)(t:Tok):Res Ld:=if (Y.jf L.T).1=0 then yj t (F.q1t L.sc) { L with T:=(Y.jf L.T).2,sc:=F.q0t L.sc } else .error (t,((Y.jf L.T).1:Nat))
def q63 (L:Ld)(t:Tok):Res Ld:=if (Y.xk L.T).1=0 then yj t (F.q0u L.sc) { L with T:=(Y.xk L.T).2,sc:=F.uy L.sc } else .error (t,((Y.xk L.T).1:Nat))
def q38 (L:Ld)(s:Stm):Res Ld:=if 0 < L.T.scopes.length then .error (s.key,80) else q0l Y.q0b L s.words
def q2s (L:Ld)(s:Stm):Res Ld:=match q1k L [] (q05 (F.uo L.sc)) s.words with
 | .ok a=>if q0m s.fin=true then yj s.fin (F.q1w (isV:=zn L.T) L.sc a) { L with sc:=F.q1l (isV:=zn L.T) L.sc a } else .ok L
 | .error f=>.error f
def q1s (L:Ld)(s:Stm):Res Ld:=match q17 L [] s.words with
 | .ok e=>if q0m s.fin=true then yj s.fin (F.q0s (isV:=zn L.T) L.sc (e.getD 0 0) (e.getD 1 0)) { L with sc:=F.q0j (isV:=zn L.T) L.sc s.label.text (e.getD 0 0) (e.getD 1 0),hy:=L.hy++[⟨s.label.text,true,e.getD 1 0,e⟩] } else .ok L
 | .error f=>.error f
def q7e (L:Ld)(s:Stm):Res Ld:=match q0c L [] s.words with
 | .ok e=>if q0m s.fin=true then yj s.fin (F.uw (isV:=zn L.T) L.sc e) { L with sc:=F.q4x (isV:=zn L.T) L.sc s.label.text e,hy:=L.hy++[⟨s.label.text,false,-1,e⟩] } else .ok L
 | .error f=>.error f
def q4f (L:Ld)(s:Stm)(goal:List Int):As:=⟨s.label,s.kind == 7,goal,(q4s L.T L.sc goal).map (yg L.hy),q7p L.T L.sc goal,(jl L.sc).map (yg L.hy),q05 (F.uo L.sc),s.proof,s.fin⟩
def q1m (L:Ld)(s:Stm):Res Ld:=match q0c L [] s.words with
 | .ok goal=>if q0m s.fin=true then yj s.fin (F.uw (isV:=zn L.T) L.sc goal) { L with al:=L.al++[q4f L s goal] } else .ok L
 | .error f=>.error f
def zy (L:Ld)(s:Stm):Res Ld :=
 if s.kind=8 then q89 L s.key else if s.kind=9 then q63 L s.key else if s.kind=1 then q38 L s else if s.kind=2 then q0l Y.q3g L s.words else
 if s.kind=5 then q2s L s else if s.kind=3 then q1s L s else if s.kind=4 then q7e L s else if s.kind=6∨s.kind=7 then q1m L s else .ok L
def qm (L:Ld)(s:Stm):Res Ld:=match q3y L s.label with
 | .ok L1=>zy L1 s
 | .error f=>.error f
def wu:Ld→List Stm→Res Ld
 | L,[]=>.ok L
 | L,s :: r=>match qm L s with
  | .ok L1=>wu L1 r
  | .error f=>.error f
theorem ql0 {L:Ld}{t:Tok}{n:Int}(h:q33 L t=.ok n):∃m:Nat,Y.q07 L.T t.text=some m∧n=m:=by
 unfold q33 at h
 cases ha:Y.q07 L.T t.text with
 | some m=>rw[ha] at h;exact⟨m,rfl,by cases h;rfl⟩
 | none=>rw[ha] at h;cases h
open F in
theorem ql1:∀(l:List Pp) (p:Pp),Up l→Up (q9d l p)∧∀x,x ∈ q9d l p↔x ∈ l∨x=p
 | [],p,_=>⟨List.pairwise_singleton _ _,fun x=>by simp[q9d]⟩
 | q :: l,p,h=>by
  obtain⟨h1,h2⟩:=List.pairwise_cons.1 h;unfold q9d
  by_cases e:p=q
  ·rw[if_pos e];subst e;exact⟨h,fun x=>⟨fun hx=>.inl hx,fun hx=>hx.elim id fun e=>by simp[e]⟩⟩
  ·rw[if_neg e]
   by_cases hl:ltP p q
   ·rw[if_pos hl];refine⟨List.pairwise_cons.2 ⟨fun x hx=>?_,h⟩,fun x=>?_⟩
    ·rcases List.mem_cons.1 hx with rfl | hx
     ·exact hl
     ·exact qdb hl (h1 x hx)
    ·simp only[List.mem_cons];constructor
     ·rintro (h | h | h)
      ·exact .inr h
      ·exact .inl (.inl h)
      ·exact .inl (.inr h)
     ·rintro ((h | h) | h)
      ·exact .inr (.inl h)
      ·exact .inr (.inr h)
      ·exact .inl h
   ·rw[if_neg hl];obtain⟨i1,i2⟩:=ql1 l p h2;refine⟨List.pairwise_cons.2 ⟨fun x hx=>?_,i1⟩,fun x=>?_⟩
    ·rcases (i2 x).1 hx with hx | rfl
     ·exact h1 x hx
     ·exact (qdc (fun e'=>e e'.symm)).resolve_right hl
    ·simp only[List.mem_cons,i2];constructor
     ·rintro (h | h | h)
      ·exact .inl (.inl h)
      ·exact .inl (.inr h)
      ·exact .inr h
     ·rintro ((h | h) | h)
      ·exact .inl h
      ·exact .inr (.inl h)
      ·exact .inr (.inr h)
open F in
theorem qgk:∀(l a:List Pp),Up a→Up (l.foldl (fun a p=>q9d a (jo p)) a)∧∀x,x ∈ l.foldl (fun a p=>q9d a (jo p)) a↔x ∈ a∨∃q ∈ l,jo q=x
 | [],a,h=>⟨h,fun x=>by simp⟩
 | p :: l,a,h=>by
  obtain⟨p1,p2⟩:=ql1 a (jo p) h;obtain⟨i1,i2⟩:=qgk l (q9d a (jo p)) p1;refine⟨i1,fun x=>?_⟩;rw[List.foldl_cons,i2,p2];constructor
  ·rintro ((h | h) | ⟨q,h,e⟩)
   ·exact .inl h
   ·exact .inr ⟨p,by simp,h.symm⟩
   ·exact .inr ⟨q,by simp[h],e⟩
  ·rintro (h | ⟨q,h,e⟩)
   ·exact .inl (.inl h)
   ·rcases List.mem_cons.1 h with rfl | h
    ·exact .inl (.inr e.symm)
    ·exact .inr ⟨q,h,e⟩
open F in
theorem qbn (l:List Pp):q3t l (q05 l):=by
 obtain⟨h1,h2⟩:=qgk (l.filter fun p=>!(p.1 == p.2)) [] List.Pairwise.nil;refine⟨h1,fun p=>(h2 p).trans ?_⟩;unfold inN;constructor
 ·rintro (h | ⟨q,hq,rfl⟩)
  ·cases h
  ·obtain⟨hq,hne⟩:=List.mem_filter.1 hq;have hne:q.1≠q.2:=by simpa using hne
   refine⟨?_,q,hq,rfl⟩;unfold jo;simp only;omega
 ·rintro⟨hlt,q,hq,rfl⟩;refine .inr ⟨q,List.mem_filter.2 ⟨hq,?_⟩,rfl⟩;unfold jo at hlt;simp only at hlt;have:q.1≠q.2:=by omega
  simpa using this
theorem norm_eq {l m:List F.Pp}(h:F.q3t l m):m=q05 l:=F.qpk h (qbn l)
theorem q6u (xs:List F.ScC):(F.vk xs).map (·.h)=jl (xs.map F.jm):=by
 unfold F.vk jl
 induction xs with
 | nil=>rfl
 | cons x r ih=>rw[List.flatMap_cons,List.map_append,ih,List.map_cons,List.flatMap_cons];rfl
theorem ess_abs (l:List F.HyC):F.q03 l=q9e (l.map (·.h)):=by
 unfold F.q03 q9e;rw[List.flatMap_map]
end B
end Go.Proofs.YtbancemhfjjmlaaGreatDoor
