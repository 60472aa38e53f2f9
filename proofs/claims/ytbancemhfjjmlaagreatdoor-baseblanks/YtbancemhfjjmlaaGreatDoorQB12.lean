/- Laid together. -/
import Derived.Test.YtbancemhfjjmlaaGreatDoorQB11
set_option maxRecDepth 100000
set_option maxHeartbeats 32000000
namespace Go.Proofs.YtbancemhfjjmlaaGreatDoor
namespace B
open S (Tok Stm)
structure Sim (L M:Ld):Prop where
 T:L.T=M.T
 sc:L.sc=M.sc
 hy:L.hy=M.hy
def Tx (ts us:List Tok):Prop:=ts.map (·.text)=us.map (·.text)
theorem Tx.cons {t u:Tok}{ts us:List Tok}(h:Tx (t :: ts) (u :: us)):t.text=u.text∧Tx ts us:=by
 simp only[Tx,List.map_cons,List.cons.injEq] at h;exact h
theorem q57.tx {ts us:List Tok}(h:q57 false ts us):Tx ts us:=by
 refine List.ext_getElem? fun i=>?_
 rw[List.getElem?_map,List.getElem?_map]
 cases ht:ts[i]? with
 | none =>
  have h1:=List.getElem?_eq_none_iff.1 ht;rw[List.getElem?_eq_none (by rw[←h.1];exact h1)]
 | some t =>
  have h1:=(List.getElem?_eq_some_iff.1 ht).1;obtain⟨u,hu⟩:∃u,us[i]?=some u:=⟨_,gEq (by rw[←h.1];exact h1)⟩;rw[hu,Option.map_some,Option.map_some,(h.2 i t u ht hu).1]
section
variable {L M L':Ld} {t u:Tok} {ts us:List Tok} {n:Int} {s v:Stm}
theorem qby (h:Sim L M)(e:t.text=u.text)(hs:q33 L t=.ok n):q33 M u=.ok n:=by
 unfold q33 at hs ⊢;rw[←h.T,←e]
 cases ha:Y.q07 L.T t.text with
 | some m=>rw[ha] at hs;exact hs
 | none=>rw[ha] at hs;cases hs
theorem qbz (h:Sim L M)(e:t.text=u.text)(hs:q08 L t=.ok n):q08 M u=.ok n:=by
 unfold q08 at hs ⊢
 cases ha:q33 L t with
 | error f=>rw[ha] at hs;cases hs
 | ok m =>
  rw[ha] at hs;rw[qby h e ha,←h.T];dsimp only at hs ⊢
  split at hs
  ·cases hs
  ·rename_i hc;rw[if_neg hc];exact hs
theorem qgt (h:Sim L M)(e:t.text=u.text)(hs:q3o L t=.ok n):q3o M u=.ok n:=by
 unfold q3o at hs ⊢
 cases ha:q33 L t with
 | error f=>rw[ha] at hs;cases hs
 | ok m =>
  rw[ha] at hs;rw[qby h e ha,←h.T];dsimp only at hs ⊢
  split at hs
  ·rename_i hc;rw[if_pos hc];exact hs
  ·cases hs
theorem qer (h:Sim L M)(e:t.text=u.text)(hs:q04 L t=.ok n):q04 M u=.ok n:=by
 unfold q04 at hs ⊢
 cases ha:q3o L t with
 | error f=>rw[ha] at hs;cases hs
 | ok m =>
  rw[ha] at hs;rw[qgt h e ha,←h.sc];dsimp only at hs ⊢
  split at hs
  ·cases hs
  ·rename_i hc;rw[if_neg hc];exact hs
theorem qjf (h:Sim L M)(e:t.text=u.text)(hs:q1h L t=.ok n):q1h M u=.ok n:=by
 unfold q1h at hs ⊢
 cases ha:q33 L t with
 | error f=>rw[ha] at hs;cases hs
 | ok m =>
  rw[ha] at hs;rw[qby h e ha,←h.sc,←h.T];dsimp only at hs ⊢
  split at hs
  ·cases hs
  ·rename_i hc;rw[if_neg hc];exact hs
theorem q9g (h:Sim L M):∀(ts us:List Tok) (e r:List Int),Tx ts us→q0c L e ts=.ok r→q0c M e us=.ok r
 | [],[],e,r,_,hs=>hs
 | [],u :: us,e,r,hx,_=>by cases hx
 | t :: ts,[],e,r,hx,_=>by cases hx
 | t :: ts,u :: us,e,r,hx,hs=>by
  obtain⟨e1,e2⟩:=hx.cons;unfold q0c at hs ⊢
  split at hs
  ·cases hs
  ·rename_i hc
   rw[if_neg hc]
   cases ha:(if e.length=0 then q08 L t else q1h L t) with
   | error f=>rw[ha] at hs;cases hs
   | ok m =>
    rw[ha] at hs;have hb:(if e.length=0 then q08 M u else q1h M u)=.ok m:=by
     split at ha
     ·rename_i h0;rw[if_pos h0];exact qbz h e1 ha
     ·rename_i h0;rw[if_neg h0];exact qjf h e1 ha
    rw[hb];exact q9g h ts us _ r e2 hs
theorem qc0 (h:Sim L M):∀(ts us:List Tok) (e r:List Int),Tx ts us→q17 L e ts=.ok r→q17 M e us=.ok r
 | [],[],e,r,_,hs=>hs
 | [],u :: us,e,r,hx,_=>by cases hx
 | t :: ts,[],e,r,hx,_=>by cases hx
 | t :: ts,u :: us,e,r,hx,hs=>by
  obtain⟨e1,e2⟩:=hx.cons;unfold q17 at hs ⊢
  cases ha:(if e.length=0 then q08 L t else q04 L t) with
  | error f=>rw[ha] at hs;cases hs
  | ok m =>
   rw[ha] at hs;have hb:(if e.length=0 then q08 M u else q04 M u)=.ok m:=by
    split at ha
    ·rename_i h0;rw[if_pos h0];exact qbz h e1 ha
    ·rename_i h0;rw[if_neg h0];exact qer h e1 ha
   rw[hb];exact qc0 h ts us _ r e2 hs
theorem qdl (h:Sim L M):∀(ts us:List Tok) (a:List Int) (ps:List F.Pp) (r:List Int),Tx ts us→q1k L a ps ts=.ok r→q1k M a ps us=.ok r
 | [],[],a,ps,r,_,hs=>hs
 | [],u :: us,a,ps,r,hx,_=>by cases hx
 | t :: ts,[],a,ps,r,hx,_=>by cases hx
 | t :: ts,u :: us,a,ps,r,hx,hs=>by
  obtain⟨e1,e2⟩:=hx.cons;unfold q1k at hs ⊢
  cases ha:q3o L t with
  | error f=>rw[ha] at hs;cases hs
  | ok m =>
   rw[ha] at hs;rw[qgt h e1 ha];dsimp only at hs ⊢
   split at hs
   ·cases hs
   ·rename_i h1
    rw[if_neg h1]
    split at hs
    ·cases hs
    ·rename_i h2
     rw[if_neg h2];exact qdl h ts us _ _ r e2 hs
structure Lk (L M:Ld):Prop extends Sim L M where
 al:L.al.length=M.al.length
 ass:∀(i:Nat) (a b:As),L.al[i]?=some a→M.al[i]?=some b→AsEq false a b
theorem Lk.ldeq (h:Lk L M):qng false L M:=⟨h.T,h.hy,h.al,h.ass⟩
theorem Lk.put (h:Lk L M)(T:Y.Tab)(sc:List F.Sa)(hy:List F.Hy):Lk { L with T:=T,sc:=sc,hy:=hy } { M with T:=T,sc:=sc,hy:=hy }:=⟨⟨rfl,rfl,rfl⟩,h.al,h.ass⟩
theorem q9h (f:Y.Tab→ByteArray→Nat × Nat × Y.Tab):∀(ts us:List Tok) (L M L':Ld),Lk L M→Tx ts us→q0l f L ts=.ok L'→∃M',q0l f M us=.ok M'∧Lk L' M'
 | [],[],L,M,L',h,_,hs=>by cases hs;exact⟨M,rfl,h⟩
 | [],u :: us,_,_,_,_,hx,_=>by cases hx
 | t :: ts,[],_,_,_,_,hx,_=>by cases hx
 | t :: ts,u :: us,L,M,L',h,hx,hs=>by
  obtain⟨e1,e2⟩:=hx.cons;unfold q0l at hs ⊢;rw[←h.T,←e1]
  split at hs
  ·rename_i hc
   rw[if_pos hc];refine q9h f ts us _ _ L' ?_ e2 hs;exact⟨⟨rfl,h.sc,h.hy⟩,h.al,h.ass⟩
  ·cases hs
theorem q3b {c:Int}{M1:Ld}(h:Lk L M1)(hs:yj t c L=.ok L'):∃M',yj u c M1=.ok M'∧Lk L' M':=by
 unfold yj at hs ⊢
 split at hs
 ·rename_i hc;cases hs;rw[if_pos hc];exact⟨_,rfl,h⟩
 ·cases hs
theorem q6x (e:t.text=u.text):q0m t=q0m u:=by unfold q0m;rw[e]
theorem qqm (h:Lk L M)(e:t.text=u.text)(hs:q3y L t=.ok L'):∃M',q3y M u=.ok M'∧Lk L' M':=by
 unfold q3y at hs ⊢;rw[←q6x e,←h.T,←e]
 split at hs
 ·rename_i hc
  rw[if_pos hc];have hk:Lk { L with T:=(Y.zh L.T t.text).2 } { M with T:=(Y.zh L.T t.text).2 }:=⟨⟨rfl,h.sc,h.hy⟩,h.al,h.ass⟩;exact q3b hk hs
 ·rename_i hc
  cases hs;rw[if_neg hc];exact⟨_,rfl,h⟩
theorem qqn (h:Lk L M)(q:q68 false s v)(g:List Int):Lk { L with al:=L.al++[q4f L s g] } { M with al:=M.al++[q4f M v g] }:=by
 refine⟨⟨h.T,h.sc,h.hy⟩,by simp[h.al],fun i a b ha hb=>?_⟩
 by_cases hi:i < L.al.length
 ·have ha':(L.al++[q4f L s g])[i]?=some a:=ha;have hb':(M.al++[q4f M v g])[i]?=some b:=hb;rw[List.getElem?_append_left hi] at ha';rw[List.getElem?_append_left (by rw[←h.al];exact hi)] at hb';exact h.ass i a b ha' hb'
 ·have ha':(L.al++[q4f L s g])[i]?=some a:=ha;have hb':(M.al++[q4f M v g])[i]?=some b:=hb;rw[List.getElem?_append_right (by omega)] at ha';rw[List.getElem?_append_right (by rw[←h.al];omega),←h.al] at hb';have h0:i - L.al.length=0:=by
   have:=(List.getElem?_eq_some_iff.1 ha').1
   simp at this;omega
  rw[h0] at ha' hb'
  cases ha'
  cases hb';unfold q4f;rw[←h.T,←h.sc,←h.hy];exact⟨by dsimp only;rw[q.kind],rfl,rfl,rfl,rfl,rfl,q.lab,q.fin,q.proof⟩
theorem qnh (h:Lk L M)(q:q68 false s v)(hs:zy L s=.ok L'):∃M',zy M v=.ok M'∧Lk L' M':=by
 have hw:=q.words.tx;unfold zy at hs ⊢;rw[←q.kind]
 split at hs
 ·rename_i hc
  rw[if_pos hc];unfold q89 at hs ⊢;rw[←h.T,←h.sc]
  split at hs
  ·rename_i hd
   rw[if_pos hd];have hk:Lk { L with T:=(Y.jf L.T).2,sc:=F.q0t L.sc } { M with T:=(Y.jf L.T).2,sc:=F.q0t L.sc }:=⟨⟨rfl,rfl,h.hy⟩,h.al,h.ass⟩;exact q3b hk hs
  ·cases hs
 ·rename_i hc
  rw[if_neg hc]
  split at hs
  ·rename_i hc
   rw[if_pos hc];unfold q63 at hs ⊢;rw[←h.T,←h.sc]
   split at hs
   ·rename_i hd
    rw[if_pos hd];have hk:Lk { L with T:=(Y.xk L.T).2,sc:=F.uy L.sc } { M with T:=(Y.xk L.T).2,sc:=F.uy L.sc }:=⟨⟨rfl,rfl,h.hy⟩,h.al,h.ass⟩;exact q3b hk hs
   ·cases hs
  ·rename_i hc
   rw[if_neg hc]
   split at hs
   ·rename_i hc
    rw[if_pos hc];unfold q38 at hs ⊢;rw[←h.T]
    split at hs
    ·cases hs
    ·rename_i hd
     rw[if_neg hd];exact q9h _ _ _ _ _ _ h hw hs
   ·rename_i hc
    rw[if_neg hc]
    split at hs
    ·rename_i hc
     rw[if_pos hc];exact q9h _ _ _ _ _ _ h hw hs
    ·rename_i hc
     rw[if_neg hc]
     split at hs
     ·rename_i hc
      rw[if_pos hc];unfold q2s at hs ⊢;rw[←h.T,←h.sc,←q6x q.fin.1]
      cases ha:q1k L [] (q05 (F.uo L.sc)) s.words with
      | error f=>rw[ha] at hs;cases hs
      | ok a =>
       rw[ha] at hs;rw[qdl h.toSim _ _ _ _ _ hw ha];dsimp only at hs ⊢
       split at hs
       ·rename_i hd
        rw[if_pos hd];refine q3b ?_ hs;exact⟨⟨rfl,rfl,h.hy⟩,h.al,h.ass⟩
       ·rename_i hd
        cases hs;rw[if_neg hd];exact⟨_,rfl,h⟩
     ·rename_i hc
      rw[if_neg hc]
      split at hs
      ·rename_i hc
       rw[if_pos hc];unfold q1s at hs ⊢;rw[←h.T,←h.sc,←h.hy,←q6x q.fin.1,←q.lab.1]
       cases ha:q17 L [] s.words with
       | error f=>rw[ha] at hs;cases hs
       | ok a =>
        rw[ha] at hs;rw[qc0 h.toSim _ _ _ _ hw ha];dsimp only at hs ⊢
        split at hs
        ·rename_i hd
         rw[if_pos hd];refine q3b ?_ hs;exact⟨⟨rfl,rfl,rfl⟩,h.al,h.ass⟩
        ·rename_i hd
         cases hs;rw[if_neg hd];exact⟨_,rfl,h⟩
      ·rename_i hc
       rw[if_neg hc]
       split at hs
       ·rename_i hc
        rw[if_pos hc];unfold q7e at hs ⊢;rw[←h.T,←h.sc,←h.hy,←q6x q.fin.1,←q.lab.1]
        cases ha:q0c L [] s.words with
        | error f=>rw[ha] at hs;cases hs
        | ok a =>
         rw[ha] at hs;rw[q9g h.toSim _ _ _ _ hw ha];dsimp only at hs ⊢
         split at hs
         ·rename_i hd
          rw[if_pos hd];refine q3b ?_ hs;exact⟨⟨rfl,rfl,rfl⟩,h.al,h.ass⟩
         ·rename_i hd
          cases hs;rw[if_neg hd];exact⟨_,rfl,h⟩
       ·rename_i hc
        rw[if_neg hc]
        split at hs
        ·rename_i hc
         rw[if_pos hc];unfold q1m at hs ⊢;rw[←h.T,←h.sc,←q6x q.fin.1]
         cases ha:q0c L [] s.words with
         | error f=>rw[ha] at hs;cases hs
         | ok a =>
          rw[ha] at hs;rw[q9g h.toSim _ _ _ _ hw ha];dsimp only at hs ⊢
          split at hs
          ·rename_i hd
           rw[if_pos hd];have h9:=qqn h q a;rw[←h.T,←h.sc] at h9;exact q3b h9 hs
          ·rename_i hd
           cases hs;rw[if_neg hd];exact⟨_,rfl,h⟩
        ·rename_i hc
         cases hs;rw[if_neg hc];exact⟨_,rfl,h⟩
theorem qni (h:Lk L M)(q:q68 false s v)(hs:qm L s=.ok L'):∃M',qm M v=.ok M'∧Lk L' M':=by
 unfold qm at hs ⊢
 cases hl:q3y L s.label with
 | error f=>rw[hl] at hs;cases hs
 | ok L1 =>
  rw[hl] at hs;obtain⟨M1,e1,h1⟩:=qqm h q.lab.1 hl;rw[e1];exact qnh h1 q hs
end
theorem qgu:∀(l m:List Stm) (L M L':Ld),l.length=m.length→(∀(j:Nat) (s u:Stm),l[j]?=some s→m[j]?=some u→q68 false s u)→Lk L M→wu L l=.ok L'→∃M',wu M m=.ok M'∧Lk L' M'
 | [],[],L,M,L',_,_,h,hs=>by cases hs;exact⟨M,rfl,h⟩
 | [],u :: m,_,_,_,hl,_,_,_=>by cases hl
 | s :: l,[],_,_,_,hl,_,_,_=>by cases hl
 | s :: l,u :: m,L,M,L',hl,hq,h,hs=>by
  unfold wu at hs ⊢
  cases ha:qm L s with
  | error f=>rw[ha] at hs;cases hs
  | ok L1 =>
   rw[ha] at hs;obtain⟨M1,e1,h1⟩:=qni h (hq 0 s u rfl rfl) ha;rw[e1];exact qgu l m L1 M1 L' (by simpa using hl) (fun j a b h2 h3=>hq (j + 1) a b h2 h3) h1 hs
theorem qnj {s t:ByteArray}{L:Ld}(h:q1j s=.ok L)(hl:(S.je s).1.l.length=(S.je t).1.l.length)(hq:∀(j:Nat) (a b:Stm),(S.je s).1.l[j]?=some a→(S.je t).1.l[j]?=some b→q68 false a b)(hf:(S.je t).2=none) :
  ∃M,q1j t=.ok M∧qng false L M:=by
 unfold q1j at h ⊢
 cases ha:wu ld0 (S.je s).1.l with
 | error f=>rw[ha] at h;cases h
 | ok L1 =>
  rw[ha] at h;obtain⟨M1,e1,h1⟩:=qgu _ _ ld0 ld0 L1 hl hq ⟨⟨rfl,rfl,rfl⟩,rfl,fun i a b hi=>by cases hi⟩ ha;rw[e1,hf];dsimp only at h ⊢
  cases hg:(S.je s).2 with
  | some f=>rw[hg] at h;cases h
  | none =>
   rw[hg] at h;dsimp only at h;rw[←h1.sc]
   split at h
   ·cases h
   ·rename_i hc
    cases h;rw[if_neg hc];exact⟨M1,rfl,h1.ldeq⟩
open S (Tok Stm PS)
def er (t:Tok):Tok:=⟨t.text,0,0,0⟩
def erS (s:Stm):Stm:=⟨s.kind,er s.label,er s.key,s.proving,s.words.map er,s.proof.map er,er s.fin⟩
def erP (P:PS):PS:=⟨P.l.map erS,P.opn,er P.wt⟩
theorem addF_er (s:Stm)(t:Tok):S.q69 (erS s) (er t)=((S.q69 s t).1,erS (S.q69 s t).2):=by
 unfold S.q69;simp only[erS,lMa]
 split
 ·simp
 ·split <;> simp
theorem begF_er (s:Stm):S.q5t (erS s)=((S.q5t s).1,erS (S.q5t s).2):=by
 unfold S.q5t;simp only[erS,lMa]
 split
 ·split
  ·rfl
  ·split <;> rfl
 ·rfl
theorem endF_er (s:Stm)(t:Tok):S.q3f (erS s) (er t)=((S.q3f s t).1,erS (S.q3f s t).2):=by
 unfold S.q3f;simp only[erS,lMa]
 split
 ·rfl
 ·split <;> rfl
theorem qjg (s:Stm)(t:Tok):S.yu (erS s) (er t)=((S.yu s t).1,erS (S.yu s t).2.1,(S.yu s t).2.2):=by
 unfold S.yu;rw[addF_er,begF_er,endF_er]
 show (if S.q2t t.text=true then _ else if t.text=S.eqS then _ else if t.text=S.dotS then _ else _)=_
 split
 ·rfl
 ·split
  ·rfl
  ·split <;> rfl
theorem newS_er (k:Int)(lb ky:Tok):S.newS k (er lb) (er ky)=erS (S.newS k lb ky):=by
 unfold S.newS
 split <;> rfl
theorem qgv (P:PS)(t:Tok):S.q0p (erP P) (er t)=((S.q0p P t).1,erP (S.q0p P t).2):=by
 unfold S.q0p
 show (if S.q2t t.text=true then (if S.wtB P.wt=true then _ else _) else if S.q1d t.text=0 then _ else if S.qhs (S.q1d t.text)≠S.wtB P.wt then _ else _)=_
 split
 ·split <;> rfl
 ·split
  ·rfl
  ·split
   ·rfl
   ·simp only[erP,newS_er,List.map_append,List.map_cons,List.map_nil]
    rfl
theorem qqo (P:PS)(t:Tok):S.qm (erP P) (er t)=((S.qm P t).1,erP (S.qm P t).2):=by
 unfold S.qm
 show (if P.opn=true then _ else _)=_
 split
 ·have e:(erP P).l.getLast?=P.l.getLast?.map erS:=by simp[erP]
  rw[e]
  cases P.l.getLast? with
  | none=>rfl
  | some s =>
   simp only[Option.map_some,qjg,erP,List.map_append,List.map_cons,List.map_nil,List.map_dropLast]
 ·exact qgv P t
theorem qes:∀(ts:List Tok) (P:PS),S.runT (erP P) (ts.map er)=(erP (S.runT P ts).1,(S.runT P ts).2.map fun f=>(er f.1,f.2))
 | [],P=>rfl
 | t :: ts,P=>by
  rw[List.map_cons];unfold S.runT;rw[qqo];dsimp only
  split
  ·exact qes ts _
  ·rfl
theorem er_map {ts us:List Tok}(h:ts.map (·.text)=us.map (·.text)):ts.map er=us.map er:=by
 have e:∀l:List Tok,l.map er=(l.map (·.text)).map fun x=>(⟨x,0,0,0⟩:Tok):=fun l=>by rw[List.map_map];rfl
 rw[e,e,h]
theorem qet {t u:Tok}(h:er t=er u):q67 false t u:=⟨congrArg (·.text) h,fun e=>by cases e⟩
theorem qla {ts us:List Tok}(h:ts.map er=us.map er):q57 false ts us:=by
 refine⟨by have:=congrArg List.length h;simpa using this,fun i t u ht hu=>qet ?_⟩;have h1:=congrArg (fun l=>l[i]?) h;simp only[List.getElem?_map,ht,hu,Option.map_some,Option.some.injEq] at h1;exact h1
theorem er_stm {s u:Stm}(h:erS s=erS u)(hf:s.words.length≤1048576∧s.proof.length≤1048576):q68 false s u:=by
 simp only[erS,Stm.mk.injEq] at h;obtain⟨h1,h2,h3,h4,h5,h6,h7⟩:=h;exact⟨h1,h4,qet h2,qet h3,qet h7,qla h5,qla h6,hf⟩
theorem qjh {s t:ByteArray}(h:(S.q0e s).map (·.text)=(S.q0e t).map (·.text))(hs:(S.je s).2=none)(ht:(S.K.yt t).2=none)(hf:∀x ∈ (S.je s).1.l,x.words.length≤1048576∧x.proof.length≤1048576) :
  (S.je t).2=none∧(S.je s).1.l.length=(S.je t).1.l.length∧∀(j:Nat) (a b:Stm),(S.je s).1.l[j]?=some a→(S.je t).1.l[j]?=some b→q68 false a b:=by
 have e1:=qes (S.q0e s) S.ps0;have e2:=qes (S.q0e t) S.ps0;rw[er_map h,e2] at e1;obtain⟨P,f,hP⟩:∃P f,S.runT S.ps0 (S.q0e s)=(P,f):=⟨_,_,rfl⟩;obtain⟨P',f',hP'⟩:∃P f,S.runT S.ps0 (S.q0e t)=(P,f):=⟨_,_,rfl⟩;rw[hP,hP'] at e1;simp only[Prod.mk.injEq] at e1;obtain⟨e3,e4⟩:=e1;unfold S.je at hs hf ⊢;rw[hP] at hs hf;rw[hP,hP']
 cases f with
 | some f=>cases hs
 | none =>
  cases f' with
  | some f'=>cases e4
  | none =>
   dsimp only at hs hf ⊢;rw[ht];have e5:P'.opn=P.opn:=congrArg (·.opn) e3;have e6:S.wtB P'.wt=S.wtB P.wt:=by
    have h8:=congrArg (fun Q:PS=>Q.wt.text) e3;have h9:P'.wt.text=P.wt.text:=h8;unfold S.wtB;rw[h9]
   cases hc:(S.K.yt s).2 with
   | some f=>rw[hc] at hs;cases hs
   | none =>
    rw[hc] at hs hf;dsimp only at hs hf ⊢;rw[e5,e6]
    split at hs
    ·cases hs
    ·rename_i hd
     rw[if_neg hd] at hf;rw[if_neg hd,if_neg hd];have e7:P'.l.map erS=P.l.map erS:=congrArg (·.l) e3;refine⟨rfl,by have:=congrArg List.length e7;simpa using this.symm,fun j a b ha hb=>?_⟩;have h1:=congrArg (fun l=>l[j]?) e7;have ha':P.l[j]?=some a:=ha;have hb':P'.l[j]?=some b:=hb;simp only[List.getElem?_map,ha',hb',Option.map_some,Option.some.injEq] at h1;exact er_stm h1.symm (hf a (mGe ha'))
open Go.RowKit Go.Maps Go.WideMaps
open F (uj HyC q03 xw)
section
variable {N:Nat} {w:World} {lb:Nat} {txt:ByteArray} {k:Nat} {L:Ld} {nf:ByteArray→Option Nat} {m:LdM}
theorem qgw {N0:Nat}{W W':World}{v:Value}{ts:List HyC}{b0:Nat}{cs:Array Value}(h:F.jq N0 W v ts)(k0:W.heap[b0]?=some (.cells cs 66 (0,0)))(hc:S.M.Ch (fun b=>b=b0) W W'):F.jq N0 W' v ts :=
 ⟨S.M.qh h.own hc fun b hb e=>F.own_ne h.own k0 (by decide) (by rw[hb,e]),fun y hy=>S.M.qh (h.e y hy) hc fun b hb e=>F.own_ne (h.e y hy) k0 (by decide) (by rw[hb,e]),h.ap⟩
structure qnk (N0:Nat)(W:World)(a:As)(v4 v5 v7:Value)(us ms:List HyC):Prop where
 s:F.jq N0 W v4 us
 p:W.ownsRow N0 130 2 v5 a.pairs.length (F.jh a.pairs)
 m:F.jq N0 W v7 ms
theorem qnk.off {N0:Nat}{W W':World}{a:As}{v4 v5 v7:Value}{us ms:List HyC}{b0:Nat}{cs:Array Value}(h:qnk N0 W a v4 v5 v7 us ms)(k0:W.heap[b0]?=some (.cells cs 66 (0,0)))(hc:S.M.Ch (fun b=>b=b0) W W'):qnk N0 W' a v4 v5 v7 us ms :=
 ⟨qgw h.s k0 hc,S.M.qh h.p hc fun b hb e=>F.own_ne h.p k0 (by decide) (by rw[hb,e]),qgw h.m k0 hc⟩
theorem qnk.below {N0:Nat}{W W':World}{a:As}{v4 v5 v7:Value}{us ms:List HyC}(h:qnk N0 W a v4 v5 v7 us ms)(hb:Below W.heap.size W W'):qnk N0 W' a v4 v5 v7 us ms :=
 ⟨h.s.below hb,S.M.qh h.p (S.M.Ch.oB (X:=fun _=>False) hb) fun _ _ e=>e,h.m.below hb⟩
end
open Go.RowKit
theorem qc7 {n:Nat}{A wx w':World}(hb:Below wx.heap.size wx w')(h:Hid (Below n A wx))(hn:n≤A.heap.size):Hid (Below n A w'):=h.out.trans (hb.mono (nLt hn h.out.size))
theorem qeu {A W:World}{v:Value}{base e size n:Nat}{xs:List Value}(h:A.ownsRow base e size v n xs)(hb:Hid (Below A.heap.size A W)):W.ownsRow base e size v n xs:=S.M.qh h (S.M.Ch.oB (X:=fun _=>False) hb.out) fun _ _ e=>e
theorem q6y {X:Nat→Prop}{A W:World}{o:Obj}(h:Hid (S.M.Ch X A W)):Hid (S.M.Ch X A (W.alloc o)):=h.out.trans (S.M.Ch.oB (S.qg W o))
section
variable {N:Nat} {w W':World} {lb:Nat} {txt:ByteArray} {k k':Nat} {L L':Ld} {nf nf':ByteArray→Option Nat} {m m':LdM} {s:Stm} {vw vp:Value}
theorem qji (h:xg N w lb txt k L (Y.numOf L.T.syms) m)(hO:L.Ok k)(hk:k < 100000000000)(hs:q1a N m w s vw vp)(hn:q3a L.al s.label.text=none):Calls Tryz.prog 114 #[.pointer (some ⟨lb,0,none⟩),q0o s vw vp] w (Does N w lb txt m (k + 1) (q1m L s)):=by
 obtain⟨aw,cw,rfl,hW⟩:=hs.words;obtain⟨ap,cp,rfl,_⟩:=S.wo hs.op;have b0:Below w.heap.size w (w.alloc (.cells (yc s (.slice aw s.words.length cw) (.slice ap s.proof.length cp)) 95)):=S.qg _ _;have hlw:=hs.lw;have HI:=hid h;have HO:Hid (L.Ok k):=hO;have EX:Hid (∀wx,Below w.heap.size w wx→Calls Tryz.prog 171 #[.pointer (some ⟨lb,0,none⟩),.slice aw s.words.length cw] wx (Lists wx.heap.size wx (q0c L [] s.words))):=fun wx hb=>q6v (h.below hb) hO.q3p hO.scN aw _ cw s.words rfl (by omega) (hW.1.under hb) fun t ht=>by have:=hs.zw t ht;unfold maxLen;omega
 have EN:Hid (∀wx,Calls Tryz.prog 165 #[q0o s (.slice aw s.words.length cw) (.slice ap s.proof.length cp)] wx fun e w'=>e=.returned (.bool (q0m s.fin))∧Below wx.heap.size wx w'):=fun wx=>q7a wx s aw _ cw ap _ cp
 have HR:Hid (q1m L s=match q0c L [] s.words with | .ok goal=>if q0m s.fin=true then yj s.fin (F.uw (isV:=zn L.T) L.sc goal) { L with al:=L.al++[q4f L s goal] } else .ok L | .error f=>.error f):=by unfold q1m;cases q0c L [] s.words <;> rfl
 have HE:Hid (∀e,q0c L [] s.words=.ok e→(∀x ∈ e,F.wfN x)∧e.length≤200):=fun e he=>by
  obtain⟨h1,h2,_⟩:=q5q hO.q3p s.words [] e he (fun x hx=>by cases hx) (by simp);exact⟨h1,h2⟩
 have C0:Hid (∀w',Below (w.alloc (.cells (yc s (.slice aw s.words.length cw) (.slice ap s.proof.length cp)) 95)).heap.size (w.alloc (.cells (yc s (.slice aw s.words.length cw) (.slice ap s.proof.length cp)) 95)) w'→∀i,w'.cell? ⟨w.heap.size,i,none⟩=(yc s (.slice aw s.words.length cw) (.slice ap s.proof.length cp))[i]?):=fun w' hb=>q5p hb
 have HZ:Hid (s.label.text.size≤281474976710656):=by have:=hs.zl;show _≤_;omega
 have HN:=hid hn;have HPF:Hid (w.ownsRow N 36 4 (.slice ap s.proof.length cp) s.proof.length (S.rowT s.proof)∧∀b,(Value.slice ap s.proof.length cp).ownBlock=some b→¬m.hot b):=⟨hs.op,hs.cp⟩;obtain⟨w1,hw1⟩:=eXa (w.alloc (.cells (yc s (.slice aw s.words.length cw) (.slice ap s.proof.length cp)) 95));have HS1:Hid (w.heap.size < w1.heap.size):=by rw[hw1];show _ < (w.heap.push _).size;simp
 have HX1:Hid (w1.heap[w.heap.size]?=some (.cells (yc s (.slice aw s.words.length cw) (.slice ap s.proof.length cp)) 95 (0,0))):=by show _=_;rw[hw1];exact World.alloc_heap_new w _
 generalize hnw:s.words.length=nw at *;generalize hnp:s.proof.length=np at *;have HNP:=hid hnp;rw[←hw1] at b0 C0;have B0:=hid b0;have z10:w1.cell? ⟨w.heap.size,10,none⟩=some (.slice aw nw cw):=C0.out w1 bRf 10;generalize hr:q0c L [] s.words=r at *;replace HR:=show Hid _ from HR.out;clear h hO hs hW b0 hn hnw hnp hr;unfold q0o at EN ⊢
 cases r with
 | error f =>
  clear EN HE;go_enter Tryz.func114,Tryz.ntmps114;go_upto_region 1 with fail;rw[←hw1];clear hw1;go_wp2_with fail;refine cMo (EX.out _ B0.out) ?_;rintro e w2 ⟨hb2,b,rfl,q2,q3⟩;have B1:=B0.out;exact⟨rfl,q0y HR.out (S.M.Ch.oB (B1.trans (hb2.mono B1.size))) ⟨b,rfl,q2,nLt B1.size q3⟩⟩
 | ok e =>
  have EX1:Hid _:=EX.out w1 B0.out;clear EX;go_enter Tryz.func114,Tryz.ntmps114;go_upto_region 1 with fail;rw[←hw1];clear hw1;go_wp2_with fail;refine cMo EX1.out ?_;rintro ee w2 ⟨hb2,v,rfl,hv⟩;have HV:=hid hv;have hB2:=hid hb2;have z:=C0.out w2 hb2;clear z10;have z0:w2.cell? ⟨w.heap.size,0,none⟩=some (.int .i64 s.kind):=z 0;have z1:w2.cell? ⟨w.heap.size,1,none⟩=some (.string s.label.text):=z 1;have z2:w2.cell? ⟨w.heap.size,2,none⟩=some (.int .i64 s.label.off):=z 2;have z3:w2.cell? ⟨w.heap.size,3,none⟩=some (.int .i64 s.label.line):=z 3;have z4:w2.cell? ⟨w.heap.size,4,none⟩=some (.int .i64 s.label.col):=z 4;have z5:w2.cell? ⟨w.heap.size,5,none⟩=some (.string s.key.text):=z 5;have z6:w2.cell? ⟨w.heap.size,6,none⟩=some (.int .i64 s.key.off):=z 6;have z7:w2.cell? ⟨w.heap.size,7,none⟩=some (.int .i64 s.key.line):=z 7;have z8:w2.cell? ⟨w.heap.size,8,none⟩=some (.int .i64 s.key.col):=z 8;have z9:w2.cell? ⟨w.heap.size,9,none⟩=some (.bool s.proving):=z 9;have z10:w2.cell? ⟨w.heap.size,10,none⟩=some (.slice aw nw cw):=z 10;have z11:w2.cell? ⟨w.heap.size,11,none⟩=some (.slice ap np cp):=z 11;have z12:w2.cell? ⟨w.heap.size,12,none⟩=some (.string s.fin.text):=z 12;have z13:w2.cell? ⟨w.heap.size,13,none⟩=some (.int .i64 s.fin.off):=z 13;have z14:w2.cell? ⟨w.heap.size,14,none⟩=some (.int .i64 s.fin.line):=z 14;have z15:w2.cell? ⟨w.heap.size,15,none⟩=some (.int .i64 s.fin.col):=z 15;clear hb2 hv EX1 z;have EN2:Hid _:=EN.out w2;unfold yc S.q4w at EN2;go_wp2_with fail;refine cMo EN2.out ?_;rintro ee w3 ⟨rfl,hb3⟩;clear z0 z1 z2 z3 z4 z5 z6 z7 z8 z9 z10 z11 z12 z13 z14 z15 EN EN2;have B3:=bTr hB2 hb3;have HV3:Hid (w3.ownsRow w1.heap.size 3 1 v e.length (F.xw e)):=S.M.qh HV.out (S.M.Ch.oB (X:=fun _=>False) hb3) fun _ _ e=>e
  clear hb3 HV hB2
  cases he:q0m s.fin with
  | false =>
   have R2:Hid (q1m L s=.ok L):=HR.out.trans (by rw[he];rfl)
   go_wp2
   have B4:Below w.heap.size w w3:=B0.out.trans (B3.out.mono B0.out.size);exact bodyPost_end (results_none rfl _ _ _) rfl (gq R2.out rfl ((Goes.same HI.out B4).up (by omega)))
  | true =>
   have R2:Hid (q1m L s=yj s.fin (F.uw (isV:=zn L.T) L.sc e) { L with al:=L.al++[q4f L s e] }):=HR.out.trans (by rw[he];rfl);clear HR he;obtain⟨av,cv,rfl,hcv,hAv⟩:=F.q3n HV3.out;obtain⟨nv,hnv⟩:=eXb e.length;have HNV:=hid hnv;have B3w:Hid (Below w.heap.size w w3):=B0.out.trans (B3.out.mono B0.out.size);have FR:Hid (Calls Tryz.prog 173 #[.pointer (some ⟨m.P,0,none⟩),.slice av nv cv] w3 fun ee w'=>Below w3.heap.size w3 w'∧∃vh vp vg,ee=.returned (.tuple #[.agg #[vh,vp,vg],.int .i64 (F.uw (isV:=zn L.T) L.sc e)])∧(∃a1 n1 c1 a2 n2 c2 a3 n3 c3,vh=.slice a1 n1 c1∧vp=.slice a2 n2 c2∧vg=.slice a3 n3 c3)∧(F.uw (isV:=zn L.T) L.sc e=0→∃ts,Needs w3.heap.size w' L e vh vp vg ts)):=HI.out.frame HO.out w3 B3w.out av nv cv e hnv (by have:=(HE.out e rfl).2;omega) hAv (HE.out e rfl).1;have x2:w3.cell? ⟨lb,2,none⟩=some (.pointer (some ⟨m.P,0,none⟩)):=(HI.out.below B3w.out).cells.2.2;have CK:Hid (∀wx,Calls Tryz.prog 102 #[S.zo s.fin,.int .i64 (F.uw (isV:=zn L.T) L.sc e)] wx (Chk s.fin (F.uw (isV:=zn L.T) L.sc e) wx)):=fun wx=>check_any wx s.fin _
   rw[hnv];unfold S.zo at CK;generalize hJJ:F.uw (isV:=zn L.T) L.sc e=J at *;clear hAv hcv hnv hJJ;go_wp2_with fail;refine cMo FR.out ?_;rintro ee w4 ⟨hb4,vh,vp,vg,rfl,⟨a1,n1,c1,a2,n2,c2,a3,n3,c3,rfl,rfl,rfl⟩,hnd⟩;have B4:=bTr B3 hb4;have B34:=hid hb4;have ND:=hid hnd;clear hb4 hnd FR x2
   -- the frame's box
   obtain⟨w5,hw5⟩:=eXa (w4.alloc (.cells #[.slice a1 n1 c1,.slice a2 n2 c2,.slice a3 n3 c3] 47));have B45:Hid (Below w4.heap.size w4 w5):=by show Below _ _ _;rw[hw5];exact S.qg _ _
   have XF:Hid (w5.heap[w4.heap.size]?=some (.cells #[.slice a1 n1 c1,.slice a2 n2 c2,.slice a3 n3 c3] 47 (0,0))):=by show _=_;rw[hw5];exact World.alloc_heap_new w4 _
   have B5:Hid (Below w1.heap.size w1 w5):=B4.out.trans (B45.out.mono B4.out.size);go_upto_region 4 with fail;rw[←hw5];clear hw5;have z:=C0.out w5 B5.out;have z12:w5.cell? ⟨w.heap.size,12,none⟩=some (.string s.fin.text):=z 12;have z13:w5.cell? ⟨w.heap.size,13,none⟩=some (.int .i64 s.fin.off):=z 13;have z14:w5.cell? ⟨w.heap.size,14,none⟩=some (.int .i64 s.fin.line):=z 14;have z15:w5.cell? ⟨w.heap.size,15,none⟩=some (.int .i64 s.fin.col):=z 15;clear z
   by_cases hJ:J=0
   ·have HJ:Hid (J=0):=hJ;have R3:Hid (q1m L s=.ok { L with al:=L.al++[q4f L s e] }):=R2.out.trans (if_pos hJ);obtain⟨ts,hts⟩:=ND.out hJ;have NE:=hid hts;clear hJ hts ND R2;go_wp2_with fail;refine cMo (CK.out _) ?_;rintro ee w6 ⟨hb6,he6⟩;rw[if_pos HJ.out] at he6;subst he6;have B6:=bTr B5 hb6;have B56:=hid hb6;have B6w:Hid (Below w.heap.size w w6):=B0.out.trans (B6.out.mono B0.out.size);have x2:w6.cell? ⟨lb,2,none⟩=some (.pointer (some ⟨m.P,0,none⟩)):=(HI.out.below B6w.out).cells.2.2;have SC:Hid (Calls Tryz.prog 161 #[.pointer (some ⟨m.P,0,none⟩)] w6 fun e w'=>Below w6.heap.size w6 w'∧∃vh vp ts,e=.returned (.agg #[vh,vp])∧F.jq w6.heap.size w' vh ts∧ts.map (·.h)=jl L.sc∧w'.ownsRow w6.heap.size 130 2 vp (q05 (F.uo L.sc)).length (F.jh (q05 (F.uo L.sc)))):=HI.out.scope HO.out w6 B6w.out;clear hb6 z12 z13 z14 z15 CK;go_wp2_with fail;refine cMo SC.out ?_;rintro ee w7 ⟨hb7,vh2,vp2,ts2,rfl,hto,hth,hpr⟩;obtain⟨a4,c4,e4,_⟩:=S.M.xq hto.own;obtain⟨a5,c5,e5,_⟩:=S.M.xq hpr;subst e4 e5;obtain⟨n4,hn4⟩:∃q,ts2.length=q:=⟨_,rfl⟩;obtain⟨n5,hn5⟩:∃q,(q05 (F.uo L.sc)).length=q:=⟨_,rfl⟩;have HN45:Hid (ts2.length=n4∧(q05 (F.uo L.sc)).length=n5):=⟨hn4,hn5⟩;have TO:Hid (F.jq w6.heap.size w7 (.slice a4 ts2.length c4) ts2∧ts2.map (·.h)=jl L.sc∧w7.ownsRow w6.heap.size 130 2 (.slice a5 (q05 (F.uo L.sc)).length c5) (q05 (F.uo L.sc)).length (F.jh (q05 (F.uo L.sc)))):=⟨hto,hth,hpr⟩;have B67:=hid hb7;rw[hn4,hn5];clear hto hth hpr hb7 hn4 hn5 SC x2;obtain⟨w8,hw8⟩:=eXa (w7.alloc (.cells #[.slice a4 n4 c4,.slice a5 n5 c5] 49));have B78:Hid (Below w7.heap.size w7 w8):=by show Below _ _ _;rw[hw8];exact S.qg _ _
    have XS:Hid (w8.heap[w7.heap.size]?=some (.cells #[.slice a4 n4 c4,.slice a5 n5 c5] 49 (0,0))):=by show _=_;rw[hw8];exact World.alloc_heap_new w7 _
    go_upto_region 6 with fail;rw[←hw8];clear hw8;have B78w:Hid (Below w.heap.size w w8):=B6w.out.trans (((B67.out).trans (B78.out.mono B67.out.size)).mono B6w.out.size);have I8:Hid (xg N w8 lb txt k L (Y.numOf L.T.syms) m):=HI.out.below B78w.out;have bd:Below w8.heap.size w8 w8.drew:=S.M.zi bRf 1;have CN:Hid (Calls Tryz.prog 15 #[.pointer (some ⟨m.Bb,0,none⟩)] w8.drew fun e w'=>e=.returned (.int .i64 L.al.length)∧w'=w8.drew):=count_any (I8.out.below bd);obtain⟨n9,hn9,hm9⟩:=I8.out.asm;have hal:L.al.length≤1024:=by have:=HO.out.hy1;omega
    obtain⟨w9,hmu,hm10,hg9⟩:=(show Y.jg w8.drew m.ab n9 _ from hm9.kept rfl).put (by unfold maxLen;omega) s.label.text (by have:=HZ.out;unfold maxLen;omega) L.al.length (by omega);have hsn:=qnf (al:=L.al) (a:=q4f L s e) HN.out;have M10:Hid (Y.jg w9 m.ab (n9 + 1) (q3a (L.al++[q4f L s e]))):=by show Y.jg _ _ _ _;rw[←hsn];exact hm10
    have HK9:Hid (n9 + 1≤k + 1):=by show _≤_;omega
    have C9:Hid (S.M.Ch (fun b=>b=m.ab) w8 w9):=(S.M.Ch.oB bd).trans ((S.M.Ch.jw hg9).mono fun b eb=>(Option.some.inj eb).symm);have HAB:Hid (m.Bb≠m.ab∧lb≠m.ab∧w.heap.size≠m.ab∧m.ab < w.heap.size):=by
     refine⟨fun e0=>?_,fun e0=>HI.out.cold.lh (e0 ▸ .inr (.inr (.inr (.inr (.inr (.inl rfl)))))),fun e0=>?_,HI.out.lt _ (.inr (.inr (.inr (.inr (.inr (.inl rfl))))))⟩
     ·obtain⟨_,es,ck,h2⟩:=map_lt HI.out.asm.choose_spec.2;rw[←e0,HI.out.bbox] at h2
      cases h2
     ·have:=HI.out.lt m.ab (.inr (.inr (.inr (.inr (.inr (.inl rfl))))))
      omega
    have X8:Hid (w8.heap[w.heap.size]?=some (.cells (yc s (.slice aw nw cw) (.slice ap np cp)) 95 (0,0))):=by
     have h1:=B67.out.trans (B78.out.mono B67.out.size);have h2:=B6.out.trans (h1.mono B6.out.size);exact (h2.block _ HS1.out).trans HX1.out
    have SA:Hid (∀wz,Hid (S.M.Ch (fun b=>b=m.ab) w8 wz)→wz.cell? ⟨lb,0,none⟩=some (.pointer (some ⟨m.Bb,0,none⟩))∧wz.cell? ⟨m.Bb,6,none⟩=some (.map (some m.ab))∧wz.cell? ⟨w.heap.size,1,none⟩=some (.string s.label.text)):=fun wz hc=>by
     have hl:=(hc.out.block lb (aIx I8.out.cold.lbox) HAB.out.2.1).trans I8.out.cold.lbox;have hb:=(hc.out.block m.Bb (aIx I8.out.bbox) HAB.out.1).trans I8.out.bbox;have hx:=(hc.out.block _ (aIx X8.out) HAB.out.2.2.1).trans X8.out;exact⟨S.M.qc hl 0,S.M.qc hb 6,S.M.qc hx 1⟩
    have CC8:Hid (S.M.Ch (fun b=>b=m.ab) w8 w8.drew):=S.M.Ch.oB bd;clear bd hn9 hm9 hm10 hg9 hsn hal
    go_region_held3 (fun w'=>w'.cell? ⟨lb,0,none⟩=some (.pointer (some ⟨m.Bb,0,none⟩))∧w'.cell? ⟨m.Bb,6,none⟩=some (.map (some m.ab))∧w'.cell? ⟨w.heap.size,1,none⟩=some (.string s.label.text)) (refine⟨?_,?_,?_⟩ <;> first | assumption | exact (SA.out _ (by assumption)).1 | exact (SA.out _ (by assumption)).2.1 | exact (SA.out _ (by assumption)).2.2)
     (first | (go_simp;go_at_call 15;refine cMo CN.out ?_;rintro ee wz ⟨rfl,hwz⟩;subst wz))
    clear hmu CC8 SA CN;have BBx:Hid (w9.heap[m.Bb]?=some (.cells #[.string txt,.pointer (some ⟨m.tq,0,none⟩),.map (some m.nb),m.vh,.map (some m.hb),m.va,.map (some m.ab)] 121 (0,0))):=(C9.out.block m.Bb (aIx I8.out.bbox) HAB.out.1).trans I8.out.bbox;have SZ:Hid (w.heap.size < w1.heap.size∧w1.heap.size≤w3.heap.size∧w3.heap.size≤w4.heap.size∧w4.heap.size < w5.heap.size∧w5.heap.size≤w6.heap.size∧w6.heap.size≤w7.heap.size∧w7.heap.size < w8.heap.size∧w8.heap.size≤w9.heap.size):=⟨HS1.out,B3.out.size,B34.out.size,(aIx XF.out),B56.out.size,B67.out.size,(aIx XS.out),C9.out.size⟩;have C49:Hid (S.M.Ch (fun b=>b=m.ab) w3 w9∧S.M.Ch (fun b=>b=m.ab) w4 w9∧S.M.Ch (fun b=>b=m.ab) w5 w9∧S.M.Ch (fun b=>b=m.ab) w7 w9∧S.M.Ch (fun b=>b=m.ab) w w9):=by
     have c8:=C9.out;have c7:=(S.M.Ch.oB (X:=fun b=>b=m.ab) B78.out).trans c8;have c5:=(S.M.Ch.oB (X:=fun b=>b=m.ab) (B56.out.trans (B67.out.mono B56.out.size))).trans c7;have c4:=(S.M.Ch.oB (X:=fun b=>b=m.ab) B45.out).trans c5;exact⟨(S.M.Ch.oB B34.out).trans c4,c4,c5,c7,(S.M.Ch.oB B78w.out).trans c8⟩
    have HLT:Hid (∀b,m.hot b→b < w.heap.size):=HI.out.lt;have HVA:Hid (∀b,m.va.ownBlock=some b→m.hot b):=fun b eb=>.inr (.inr (.inr (.inr (.inr (.inr (.inr eb))))))
    have HBB:Hid (m.hot m.Bb):=.inr (.inr (.inl rfl));have BT:Hid (m.Bb < w.heap.size):=HLT.out _ HBB.out;have X9:Hid (w9.heap[w.heap.size]?=some (.cells (yc s (.slice aw nw cw) (.slice ap np cp)) 95 (0,0))∧w9.heap[w4.heap.size]?=some (.cells #[.slice a1 n1 c1,.slice a2 n2 c2,.slice a3 n3 c3] 47 (0,0))∧w9.heap[w7.heap.size]?=some (.cells #[.slice a4 n4 c4,.slice a5 n5 c5] 49 (0,0))∧w9.heap[lb]?=some (.cells #[.pointer (some ⟨m.Bb,0,none⟩),.pointer (some ⟨m.tq,0,none⟩),.pointer (some ⟨m.P,0,none⟩)] 106 (0,0))):=by
     have hz:=SZ.out;have ha:=HAB.out.2.2.2;exact⟨(C9.out.block _ (by omega) (by show ¬_=_;omega)).trans X8.out,(C49.out.2.2.1.block _ (by omega) (by show ¬_=_;omega)).trans XF.out,(C9.out.block _ (by omega) (by show ¬_=_;omega)).trans XS.out,(C9.out.block lb (aIx I8.out.cold.lbox) HAB.out.2.1).trans I8.out.cold.lbox⟩
    have SA:Hid (∀wz,Hid (S.M.Ch (fun b=>b=m.Bb∨m.va.ownBlock=some b) w9 wz)→wz.cell? ⟨lb,0,none⟩=some (.pointer (some ⟨m.Bb,0,none⟩))∧wz.cell? ⟨w.heap.size,0,none⟩=some (.int .i64 s.kind)∧wz.cell? ⟨w.heap.size,1,none⟩=some (.string s.label.text)∧wz.cell? ⟨w.heap.size,2,none⟩=some (.int .i64 s.label.off)∧wz.cell? ⟨w.heap.size,3,none⟩=some (.int .i64 s.label.line)∧wz.cell? ⟨w.heap.size,4,none⟩=some (.int .i64 s.label.col)∧wz.cell? ⟨w.heap.size,11,none⟩=some (.slice ap np cp)∧wz.cell? ⟨w.heap.size,12,none⟩=some (.string s.fin.text)∧wz.cell? ⟨w.heap.size,13,none⟩=some (.int .i64 s.fin.off)∧wz.cell? ⟨w.heap.size,14,none⟩=some (.int .i64 s.fin.line)∧wz.cell? ⟨w.heap.size,15,none⟩=some (.int .i64 s.fin.col)∧wz.cell? ⟨w4.heap.size,0,none⟩=some (.slice a1 n1 c1)∧wz.cell? ⟨w4.heap.size,1,none⟩=some (.slice a2 n2 c2)∧wz.cell? ⟨w7.heap.size,0,none⟩=some (.slice a4 n4 c4)∧wz.cell? ⟨w7.heap.size,1,none⟩=some (.slice a5 n5 c5)):=fun wz hc=>by
     have hz:=SZ.out;obtain⟨g1,g2,g3,g4⟩:=X9.out;have nx:∀b,w.heap.size≤b→¬(b=m.Bb∨m.va.ownBlock=some b):=fun b hb e=>by
      rcases e with e | e
      ·have:=BT.out;omega
      ·have:=HLT.out b (HVA.out b e);omega
     have h1:=(hc.out.block _ (aIx g1) (nx _ (Nat.le_refl _))).trans g1;have h2:=(hc.out.block _ (aIx g2) (nx _ (by omega))).trans g2;have h3:=(hc.out.block _ (aIx g3) (nx _ (by omega))).trans g3;have h4:=(hc.out.block _ (aIx g4) (fun e=>HI.out.cold.lh (e.elim (fun e=>e ▸ HBB.out) (HVA.out lb)))).trans g4;exact⟨S.M.qc h4 0,S.M.qc h1 0,S.M.qc h1 1,S.M.qc h1 2,S.M.qc h1 3,S.M.qc h1 4,S.M.qc h1 11,S.M.qc h1 12,S.M.qc h1 13,S.M.qc h1 14,S.M.qc h1 15,S.M.qc h2 0,S.M.qc h2 1,S.M.qc h3 0,S.M.qc h3 1⟩
    have LEN:Hid (((q4s L.T L.sc e).map (yg L.hy)).length=n1∧((jl L.sc).map (yg L.hy)).length=n4∧ts.length=n1∧(q7p L.T L.sc e).length=n2):=by
     obtain⟨_,_,e1,_⟩:=S.M.xq NE.out.t.own;obtain⟨_,_,e2,_⟩:=S.M.xq NE.out.p;simp only[Value.slice.injEq] at e1 e2;have h1:=congrArg List.length NE.out.h;have h2:=congrArg List.length TO.out.2.1;rw[lMa] at h1 h2;refine⟨?_,?_,e1.2.1.symm,e2.2.1.symm⟩
     ·rw[lMa,←h1,e1.2.1]
     ·rw[lMa,←h2,HN45.out.1]
    have lab5:∀y ∈ jl L.sc,y.lab.size≤maxLen:=fun y hy=>by
     have h1:=(HO.out.ex y (HO.out.sub.subset hy)).2.2.2;unfold maxLen;omega
    have bd9:Below w9.heap.size w9 w9.drew:=S.M.zi bRf 1;have MH:Hid (∀wx,Hid (Below w9.heap.size w9.drew wx)→(∃n,n≤k∧Y.jg wx m.hb n (q1p L.hy))∧wx.cell? ⟨m.Bb,4,none⟩=some (.map (some m.hb))):=fun wx hb=>by
     have h1:=q1q I8.out.hym C9.out (fun e=>I8.out.ne.2.2 e);have b9:Below w9.heap.size w9 wx:=bd9.trans hb.out;have h2:=(b9.block m.Bb (aIx BBx.out)).trans BBx.out;exact⟨q1q (X:=fun _=>False) h1 (S.M.Ch.oB b9) id,S.M.qc h2 4⟩
    have n1s:n1≤1024:=by
     have h1:=LEN.out.1;rw[lMa] at h1;have h2:(q4s L.T L.sc e).length≤(jl L.sc).length:=List.length_filter_le _ _;have:=q8e HO.out
     omega
    have n4s:n4≤1024:=by
     have h1:=LEN.out.2.1;rw[lMa] at h1;have:=q8e HO.out
     omega
    have PO1:Hid (∀wx,Hid (Below w9.heap.size w9.drew wx)→Calls Tryz.prog 174 #[.pointer (some ⟨m.Bb,0,none⟩),.slice a1 n1 c1] wx fun ee w'=>Below wx.heap.size wx w'∧∃a6 c6,ee=.returned (.slice a6 n1 c6)∧w'.ownsRow w9.heap.size 3 1 (.slice a6 n1 c6) n1 (F.xw ((q4s L.T L.sc e).map (yg L.hy)))):=fun wx hb=>by
     have hz:=SZ.out;have ha:=HAB.out.2.2.2;have hto:=NE.out.t;have r9:=S.M.qh hto.own C49.out.2.1 fun b eb e=>by have:=S.M.zf hto.own b eb;omega
     have rx:=S.M.qh r9 (S.M.Ch.oB (X:=fun _=>False) (bd9.trans hb.out)) fun _ _ e=>e
     have h1:=q8d (MH.out wx hb).1 (MH.out wx hb).2 _ _ ts rx (by rw[LEN.out.2.2.1];omega) (ql4 hto) (fun y hy=>lab5 y.h (by
      have:y.h ∈ ts.map (·.h):=List.mem_map.2 ⟨y,hy,rfl⟩
      rw[NE.out.h] at this
      exact (List.mem_filter.1 this).1))
     refine h1.mono ?_;rintro ee w' ⟨hb2,v',rfl,ho⟩;have e1:(ts.map fun y=>yg L.hy y.h)=((q4s L.T L.sc e).map (yg L.hy)):=by rw[←NE.out.h,List.map_map];rfl
     rw[e1,LEN.out.2.2.1] at ho;obtain⟨a6,c6,rfl,_⟩:=S.M.xq ho;exact⟨hb2,a6,c6,rfl,S.M.qp ho hb.out.size⟩
    have PO2:Hid (∀wx,Hid (Below w9.heap.size w9.drew wx)→Calls Tryz.prog 174 #[.pointer (some ⟨m.Bb,0,none⟩),.slice a4 n4 c4] wx fun ee w'=>Below wx.heap.size wx w'∧∃a7 c7,ee=.returned (.slice a7 n4 c7)∧w'.ownsRow w9.heap.size 3 1 (.slice a7 n4 c7) n4 (F.xw ((jl L.sc).map (yg L.hy)))):=fun wx hb=>by
     have hz:=SZ.out;have ha:=HAB.out.2.2.2;have hto:=TO.out.1;have r9:=S.M.qh hto.own C49.out.2.2.2.1 fun b eb e=>by have:=S.M.zf hto.own b eb;omega
     have rx:=S.M.qh r9 (S.M.Ch.oB (X:=fun _=>False) (bd9.trans hb.out)) fun _ _ e=>e
     have h1:=q8d (MH.out wx hb).1 (MH.out wx hb).2 _ _ ts2 rx (by rw[HN45.out.1];omega) (ql4 hto) (fun y hy=>lab5 y.h (by
      have:y.h ∈ ts2.map (·.h):=List.mem_map.2 ⟨y,hy,rfl⟩
      rw[TO.out.2.1] at this
      exact this))
     rw[HN45.out.1] at h1;refine h1.mono ?_;rintro ee w' ⟨hb2,v',rfl,ho⟩;have e1:(ts2.map fun y=>yg L.hy y.h)=((jl L.sc).map (yg L.hy)):=by rw[←TO.out.2.1,List.map_map];rfl
     rw[e1] at ho;obtain⟨a7,c7,rfl,_⟩:=S.M.xq ho;exact⟨hb2,a7,c7,rfl,S.M.qp ho hb.out.size⟩
    obtain⟨avv,cvv,hva,_⟩:=S.M.xq HI.out.asr;obtain⟨na,hna⟩:∃q,m.ax.length=q:=⟨_,rfl⟩;have HNA:=hid hna;rw[hna] at hva;have HVV:=hid hva;have na6:na≤1024:=by
     have h1:=congrArg List.length HI.out.asa;rw[lMa,hna] at h1;have:=HO.out.hy1
     omega
    have VR:Hid (∀wz,Hid (Below w9.heap.size w9.drew wz)→wz.ownsRow N 123 15 (.slice avv na cvv) na (q4t m.ax)):=fun wz hb=>by
     have h1:=S.M.qh HI.out.asr C49.out.2.2.2.2 fun b eb e=>by
      have hx:=HI.out.asm.choose_spec.2;obtain⟨_,es,ck,h2⟩:=map_lt hx;obtain⟨cs,h3⟩:=F.um HI.out.asr eb;rw[e,h2] at h3
      cases h3
     have h2:=S.M.qh h1 (S.M.Ch.oB (X:=fun _=>False) (bd9.trans hb.out)) fun _ _ e=>e
     rw[HVV.out,HNA.out] at h2;exact h2
    have BV:Hid (∀wz,Hid (Below w9.heap.size w9.drew wz)→wz.cell? ⟨m.Bb,5,none⟩=some (.slice avv na cvv)∧m.Bb < wz.heap.size∧N≤wz.heap.size):=fun wz hb=>by
     have b9:Below w9.heap.size w9 wz:=bd9.trans hb.out;have h2:=(b9.block m.Bb (aIx BBx.out)).trans BBx.out;have h3:wz.cell? ⟨m.Bb,5,none⟩=some m.va:=S.M.qc h2 5;rw[HVV.out] at h3;have h4:=hb.out.size;have h5:=BT.out;have h6:=SZ.out;have h7:=HI.out.ge;have h8:w9.drew.heap.size=w9.heap.size:=rfl;exact⟨h3,by omega,by omega⟩
    have STEP:Hid (∀(wp:World) (a6:Option Addr) (c6:Nat) (a7:Option Addr) (c7:Nat),Hid (Below w9.heap.size w9.drew wp)→wp.ownsRow w9.heap.size 3 1 (.slice a6 n1 c6) n1 (F.xw ((q4s L.T L.sc e).map (yg L.hy)))→wp.ownsRow w9.heap.size 3 1 (.slice a7 n4 c7) n4 (F.xw ((jl L.sc).map (yg L.hy)))→∀(gg cap':Nat) (w3x:World),w3x.ownsRow N 123 15 (.slice (some ⟨gg,0,none⟩) (na + 1) cap') (na + 1) (q4t m.ax++[.string s.label.text,.int .i64 s.label.off,.int .i64 s.label.line,.int .i64 s.label.col,.bool (s.kind == 7),.slice av nv cv,.slice a6 n1 c6,.slice a2 n2 c2,.slice a7 n4 c7,.slice a5 n5 c5,.slice ap np cp,.string s.fin.text,.int .i64 s.fin.off,.int .i64 s.fin.line,.int .i64 s.fin.col])→(wp.alloc (.cells #[.string s.label.text,.int .i64 s.label.off,.int .i64 s.label.line,.int .i64 s.label.col,.bool (s.kind == 7),.slice av nv cv,.slice a6 n1 c6,.slice a2 n2 c2,.slice a7 n4 c7,.slice a5 n5 c5,.slice ap np cp,.string s.fin.text,.int .i64 s.fin.off,.int .i64 s.fin.line,.int .i64 s.fin.col] 123)).grownBy w3x (Value.slice avv na cvv).ownBlock→((Value.slice avv na cvv).ownBlock=some gg∨gg=wp.heap.size + 1) →
      w3x.cell? ⟨m.Bb,5,none⟩=some (.slice avv na cvv)∧w3x.frozen? ⟨m.Bb,5,none⟩=false∧Hid (S.M.Ch (fun b=>b=m.Bb∨m.va.ownBlock=some b) w9 w3x)∧Hid (S.M.Ch (fun b=>b=m.Bb∨m.va.ownBlock=some b) w9 (w3x.setCell ⟨m.Bb,5,none⟩ (.slice (some ⟨gg,0,none⟩) (na + 1) cap')))∧Goes N w lb txt m (k + 1) { L with al:=L.al++[q4f L s e] } (Y.numOf L.T.syms) (w3x.setCell ⟨m.Bb,5,none⟩ (.slice (some ⟨gg,0,none⟩) (na + 1) cap'))):=by
     intro wp a6 c6 a7 c7 hbp r1 r2 gg cap' w3x hown hgrow hat;have hz:=SZ.out;have ha:=HAB.out.2.2.2;have b9:Below w9.heap.size w9 wp:=bd9.trans hbp.out;rw[←HVV.out] at hgrow hat;have bAl:=S.qg wp (.cells #[.string s.label.text,.int .i64 s.label.off,.int .i64 s.label.line,.int .i64 s.label.col,.bool (s.kind == 7),.slice av nv cv,.slice a6 n1 c6,.slice a2 n2 c2,.slice a7 n4 c7,.slice a5 n5 c5,.slice ap np cp,.string s.fin.text,.int .i64 s.fin.off,.int .i64 s.fin.line,.int .i64 s.fin.col] 123);have hsA:(wp.alloc (.cells #[.string s.label.text,.int .i64 s.label.off,.int .i64 s.label.line,.int .i64 s.label.col,.bool (s.kind == 7),.slice av nv cv,.slice a6 n1 c6,.slice a2 n2 c2,.slice a7 n4 c7,.slice a5 n5 c5,.slice ap np cp,.string s.fin.text,.int .i64 s.fin.off,.int .i64 s.fin.line,.int .i64 s.fin.col] 123)).heap.size=wp.heap.size + 1:=by simp
     have cX:S.M.Ch (fun b=>m.va.ownBlock=some b) wp w3x:=(S.M.Ch.oB bAl).trans (S.M.Ch.jw hgrow);have cX9:S.M.Ch (fun b=>b=m.Bb∨m.va.ownBlock=some b) w9 w3x:=((S.M.Ch.oB b9).trans cX).mono fun b e=>.inr e
     have nB:∀b,m.va.ownBlock=some b→b≠m.Bb:=fun b eb e=>by
      obtain⟨cs,h2⟩:=F.um HI.out.asr eb;rw[e,HI.out.bbox] at h2
      cases h2
     have hB3:w3x.heap[m.Bb]?=some (.cells #[.string txt,.pointer (some ⟨m.tq,0,none⟩),.map (some m.nb),m.vh,.map (some m.hb),m.va,.map (some m.ab)] 121 (0,0)):=by
      have h1:=(b9.block m.Bb (aIx BBx.out)).trans BBx.out;exact (cX.block m.Bb (aIx h1) fun e=>nB _ e rfl).trans h1
     have cB5:w3x.cell? ⟨m.Bb,5,none⟩=some m.va:=S.M.qc hB3 5;rw[HVV.out] at cB5;have hgB:gg≠m.Bb:=by
      rcases hat with e | e
      ·exact nB gg e
      ·have:=BT.out;have:=b9.size;omega
     have cF:S.M.Ch (fun b=>b=m.Bb∨m.va.ownBlock=some b) w9 (w3x.setCell ⟨m.Bb,5,none⟩ (.slice (some ⟨gg,0,none⟩) (na + 1) cap')):=cX9.trans ((S.M.jc _ _ _ _).mono fun b e=>.inl e);refine⟨cB5,by simp[World.frozen?,hB3],cX9,cF,?_⟩;obtain⟨l1,l2,l3,l4⟩:=LEN.out
     -- the lists behind all
     have nva:∀b,w.heap.size≤b→m.va.ownBlock≠some b:=fun b hb e=>by have:=HLT.out b (HVA.out b e);omega
     have last:∀{v:Value} {base e size n:Nat} {xs:List Value},wp.ownsRow base e size v n xs→(∀b,v.ownBlock=some b→¬m.hot b)→(w3x.setCell ⟨m.Bb,5,none⟩ (.slice (some ⟨gg,0,none⟩) (na + 1) cap')).ownsRow base e size v n xs:=fun ho hno=>by
      refine S.M.qh (S.M.qh ho cX fun b eb e=>hno b eb (HVA.out b e)) (S.M.jc _ _ _ _) fun b eb e=>hno b eb (by rw[e];exact HBB.out)
     have old:∀b,w.heap.size≤b→¬m.hot b:=fun b hb e=>by have:=HLT.out b e;omega
     have upw:∀{u:World} {v:Value} {base e size n:Nat} {xs:List Value},u.ownsRow base e size v n xs→S.M.Ch (fun b=>b=m.ab) u w9→(∀b,v.ownBlock=some b→¬m.hot b)→wp.ownsRow base e size v n xs:=fun ho hc hno=>S.M.qh (S.M.qh ho hc fun b eb e=>hno b eb (by rw[e];exact .inr (.inr (.inr (.inr (.inr (.inl rfl))))))) (S.M.Ch.oB (X:=fun _=>False) b9) fun _ _ e=>e
     have g0:∀b,(Value.slice av e.length cv).ownBlock=some b→¬m.hot b:=fun b eb=>old b (by have:=S.M.zf HV3.out b eb;omega)
     have p0:∀b,(Value.slice a2 n2 c2).ownBlock=some b→¬m.hot b:=fun b eb=>old b (by have:=S.M.zf NE.out.p b eb;omega)
     have q0:∀b,(Value.slice a5 (q05 (F.uo L.sc)).length c5).ownBlock=some b→¬m.hot b:=fun b eb=>old b (by have:=S.M.zf TO.out.2.2 b eb;omega)
     have r1o:∀b,(Value.slice a6 n1 c6).ownBlock=some b→¬m.hot b:=fun b eb=>old b (by have:=S.M.zf r1 b eb;omega)
     have r2o:∀b,(Value.slice a7 n4 c7).ownBlock=some b→¬m.hot b:=fun b eb=>old b (by have:=S.M.zf r2 b eb;omega)
     have G:=S.M.qp (last (upw HV3.out C49.out.1 g0) g0) (base':=N) (by have:=HI.out.ge;omega);have Pp:=S.M.qp (last (upw NE.out.p C49.out.2.1 p0) p0) (base':=N) (by have:=HI.out.ge;omega);have Qq:=S.M.qp (last (upw TO.out.2.2 C49.out.2.2.2.1 q0) q0) (base':=N) (by have:=HI.out.ge;omega);have Ff:=last (upw HPF.out.1 C49.out.2.2.2.2 HPF.out.2) HPF.out.2;have N1:=S.M.qp (last r1 r1o) (base':=N) (by have:=HI.out.ge;omega);have A1:=S.M.qp (last r2 r2o) (base':=N) (by have:=HI.out.ge;omega);rw[HNV.out] at G g0;rw[HN45.out.2] at q0;refine (I8.out.asserted (va':=.slice (some ⟨gg,0,none⟩) (na + 1) cap') (y:=⟨q4f L s e,.slice av nv cv,.slice a6 n1 c6,.slice a2 n2 c2,.slice a7 n4 c7,.slice a5 n5 c5,.slice ap np cp⟩) (by omega) ⟨n9 + 1,HK9.out,M10.out.kept ?_⟩ ?_ ?_ ?_ ?_ ?_ ?_).q18 B78w.out
     ·refine cF.block _ (by have:=(map_lt M10.out).1;omega) fun e=>?_
      rcases e with e | e
      ·exact HAB.out.1 e.symm
      ·obtain⟨cs,h2⟩:=F.um HI.out.asr e;obtain⟨_,es,ck,h3⟩:=map_lt HI.out.asm.choose_spec.2;rw[h2] at h3
       cases h3
     ·rw[qjd,HNA.out];exact S.M.zu hown fun g eg=>by cases eg;exact Below.heap_setCell _ _ _ _ hgB
     ·exact S.M.qj hB3
     ·refine (C9.out.mono fun b e=>.inl e).trans (cF.mono fun b e=>.inr e)
     ·intro b eb
      cases eb;rcases hat with e | e
      ·exact .inl e
      ·refine .inr ?_
       show w8.heap.size≤gg
       have:=b9.size
       omega
     ·refine⟨?_,?_,?_,?_,?_,?_⟩
      ·show World.ownsRow _ _ _ _ _ e.length _
       rw[HNV.out];exact G
      ·show World.ownsRow _ _ _ _ _ ((q4s L.T L.sc e).map (yg L.hy)).length _
       rw[l1];exact N1
      ·show World.ownsRow _ _ _ _ _ (q7p L.T L.sc e).length _
       rw[l4] at Pp ⊢;exact Pp
      ·show World.ownsRow _ _ _ _ _ ((jl L.sc).map (yg L.hy)).length _
       rw[l2];exact A1
      ·show World.ownsRow _ _ _ _ _ (q05 (F.uo L.sc)).length _
       rw[HN45.out.2] at Qq ⊢;exact Qq
      ·show World.ownsRow _ _ _ _ _ s.proof.length _
       rw[HNP.out];exact Ff
     ·intro b hb;rcases hb with hb | hb | hb | hb | hb | hb
      ·exact g0 b hb
      ·exact r1o b hb
      ·exact p0 b hb
      ·exact r2o b hb
      ·exact q0 b hb
      ·exact HPF.out.2 b hb
    obtain⟨iA,hiA,iAz,iAs,iAb⟩:=info_parts infoAs;have BW0:Hid (Below w9.heap.size w9.drew w9.drew):=bRf;obtain⟨b50,ltB0,ltN0⟩:=BV.out w9.drew BW0;have CX0:Hid (S.M.Ch (fun b=>b=m.Bb∨m.va.ownBlock=some b) w9 w9.drew):=S.M.Ch.oB bd9;have BD9:Hid (Below w9.heap.size w9 w9.drew):=bd9;clear bd9 hva hna lab5 n1s n4s MH LEN X9 C49 HLT HVA HBB BT BBx XF XS X8 HAB SZ HK9 M10 C9 I8 B78w TO NE HV3 HPF HNV HNP HN45 HNA HVV B78 B67 B56 B6 B6w B5 B45 B34 B4 B3 B3w HI HO HZ HN HE HX1 HS1 C0;go_upto_region 7 with fail;refine wp_region_held_drew (S:=(fun w'=>w'.cell? ⟨lb,0,none⟩=some (.pointer (some ⟨m.Bb,0,none⟩))∧w'.cell? ⟨w.heap.size,0,none⟩=some (.int .i64 s.kind)∧w'.cell? ⟨w.heap.size,1,none⟩=some (.string s.label.text)∧w'.cell? ⟨w.heap.size,2,none⟩=some (.int .i64 s.label.off)∧w'.cell? ⟨w.heap.size,3,none⟩=some (.int .i64 s.label.line)∧w'.cell? ⟨w.heap.size,4,none⟩=some (.int .i64 s.label.col)∧w'.cell? ⟨w.heap.size,11,none⟩=some (.slice ap np cp)∧w'.cell? ⟨w.heap.size,12,none⟩=some (.string s.fin.text)∧w'.cell? ⟨w.heap.size,13,none⟩=some (.int .i64 s.fin.off)∧w'.cell? ⟨w.heap.size,14,none⟩=some (.int .i64 s.fin.line)∧w'.cell? ⟨w.heap.size,15,none⟩=some (.int .i64 s.fin.col)∧w'.cell? ⟨w4.heap.size,0,none⟩=some (.slice a1 n1 c1)∧w'.cell? ⟨w4.heap.size,1,none⟩=some (.slice a2 n2 c2)∧w'.cell? ⟨w7.heap.size,0,none⟩=some (.slice a4 n4 c4)∧w'.cell? ⟨w7.heap.size,1,none⟩=some (.slice a5 n5 c5))) (by kernel_rfl) ?_ (fun hHeld=>?_)
    ·exact SA.out _ CX0
    refine tkq 0 hHeld ?_;refine tkq 1 hHeld ?_;refine tkq 2 hHeld ?_;refine tkq 3 hHeld ?_;refine tkq 4 hHeld ?_;refine tkq 5 hHeld ?_;refine tkq 6 hHeld ?_;refine tkq 7 hHeld ?_;refine tkq 8 hHeld ?_;refine tkq 9 hHeld ?_;refine tkq 11 hHeld ?_;refine tkq 12 hHeld ?_;refine tkq 13 hHeld ?_;refine tkq 14 hHeld ?_;refine tkq 15 hHeld ?_;refine tkq 16 hHeld ?_;refine tkq 17 hHeld ?_;refine tkq 18 hHeld ?_;refine tkq 19 hHeld ?_;refine tkq 20 hHeld ?_;refine tkq 21 hHeld ?_;refine tkq 22 hHeld ?_;refine tkq 24 hHeld ?_;refine tkq 25 hHeld ?_;refine tkq 26 hHeld ?_;refine tkq 27 hHeld ?_;refine tkq 28 hHeld ?_;refine tkq 29 hHeld ?_;refine tkq 30 hHeld ?_;refine tkq 31 hHeld ?_;refine tkq 33 hHeld ?_;refine tkq 34 hHeld ?_;refine tkq 35 hHeld ?_;refine tkq 36 hHeld ?_;refine tkq 37 hHeld ?_;refine tkq 38 hHeld ?_;refine wpAnyH_ready (rs:=[10,23]) (by kernel_rfl) (by simp) ?_;refine AllReadyH.cons rfl (fun K hK=>?_) (AllReadyH.cons rfl (fun K hK=>?_) AllReadyH.nil)
    ·go_simp;refine aQq hK ?_ fun hHeld_10=>?_
     ·exact SA.out _ CX0
     clear hK K;refine rkq 23 fun K hK=>?_
     go_simp;go_at_call 174;refine cMo (PO1.out _ BW0) ?_;rintro ee wpa ⟨hba,a6,c6,rfl,ho6⟩;have BWa:Hid (Below w9.heap.size w9.drew wpa):=qc7 hba BW0 (Nat.le_refl _);have CXa:Hid (S.M.Ch (fun b=>b=m.Bb∨m.va.ownBlock=some b) w9 wpa):=S.M.Ch.oB (BD9.out.trans BWa.out);have R6:=hid ho6;obtain⟨b5a,ltBa,ltNa⟩:=BV.out wpa BWa;clear hba ho6 ltBa ltNa;refine aQq hK ?_ fun hHeld_23=>?_
     ·exact SA.out _ CXa
     clear hK K;refine rkq 32 fun K hK=>?_
     go_simp;go_at_call 174;refine cMo (PO2.out _ BWa) ?_;rintro ee wpb ⟨hbb,a7,c7,rfl,ho7⟩;have LB:=hid hbb;have BWb:Hid (Below w9.heap.size w9.drew wpb):=qc7 hbb BWa (Nat.le_refl _);have CXb:Hid (S.M.Ch (fun b=>b=m.Bb∨m.va.ownBlock=some b) w9 wpb):=S.M.Ch.oB (BD9.out.trans BWb.out);have R7:=hid ho7;obtain⟨b5b,ltBb,ltNb⟩:=BV.out wpb BWb;have b5c:=ug b5b (S.qg wpb (.cells #[.string s.label.text,.int .i64 s.label.off,.int .i64 s.label.line,.int .i64 s.label.col,.bool (s.kind == 7),.slice av nv cv,.slice a6 n1 c6,.slice a2 n2 c2,.slice a7 n4 c7,.slice a5 n5 c5,.slice ap np cp,.string s.fin.text,.int .i64 s.fin.off,.int .i64 s.fin.line,.int .i64 s.fin.col] 123));clear hbb ho7 ltBb;refine aQq hK ?_ fun hHeld_32=>?_
     ·exact SA.out _ CXb
     clear hK K;refine tkq 39 hHeld_32 ?_;refine rkq 40 fun K hK=>?_
     go_simp;refine aQq hK ?_ fun hHeld_40=>?_
     ·exact SA.out _ (q6y CXb)
     clear hK K;refine rkq 41 fun K hK=>?_
     (refine step_append_lies _ (by rfl) _ _ _ (by rfl) N 123 iA _ 15 232 Tryz.underlying119 hiA iAz iAs iAb rfl (by omega) _ na (q4t m.ax) (by rfl) (by exact (S.M.zk (VR.out wpb BWb) _)) ⟨wpb.heap.size,0,none⟩ 1 1 [.string s.label.text,.int .i64 s.label.off,.int .i64 s.label.line,.int .i64 s.label.col,.bool (s.kind == 7),.slice av nv cv,.slice a6 n1 c6,.slice a2 n2 c2,.slice a7 n4 c7,.slice a5 n5 c5,.slice ap np cp,.string s.fin.text,.int .i64 s.fin.off,.int .i64 s.fin.line,.int .i64 s.fin.col] (by rfl) (by rfl) (World.news_of_block (cs:=#[.string s.label.text,.int .i64 s.label.off,.int .i64 s.label.line,.int .i64 s.label.col,.bool (s.kind == 7),.slice av nv cv,.slice a6 n1 c6,.slice a2 n2 c2,.slice a7 n4 c7,.slice a5 n5 c5,.slice ap np cp,.string s.fin.text,.int .i64 s.fin.off,.int .i64 s.fin.line,.int .i64 s.fin.col]) (t:=123) (fr:=(0,0)) (World.alloc_heap_new wpb _)) (by simp[Value.oneCell']) (by omega) (by unfold maxLen;omega) (by omega) (by have:=ltNb;simp;omega) (wpb.heap.size + 1) (by simp) ?_;intro gg cap' w3x hown3 hgrow hat hlt3;obtain⟨d5,f5,hc1,hc2,hgo⟩:=STEP.out wpb a6 c6 a7 c7 BWb (qeu R6.out LB) R7.out gg cap' w3x hown3 hgrow hat;have GO:=hid hgo;clear hgo hgrow hat hown3 hlt3)
     refine aQq hK ?_ fun hHeld_41=>?_
     ·exact SA.out _ hc1
     clear hK K;refine tkq 42 hHeld_41 ?_;refine tkq 43 hHeld_41 ?_;refine rkq 44 fun K hK=>?_
     go_simp;refine aQq hK ?_ fun hHeld_44=>?_
     ·exact SA.out _ hc2
     clear hK K;refine wpAnyH_done (by kernel_rfl) ?_ _
     go_wp2
     exact bodyPost_end (results_none rfl _ _ _) rfl (gq R3.out rfl GO.out)
    ·go_simp;go_at_call 174;refine cMo (PO1.out _ BW0) ?_;rintro ee wpa ⟨hba,a6,c6,rfl,ho6⟩;have BWa:Hid (Below w9.heap.size w9.drew wpa):=qc7 hba BW0 (Nat.le_refl _);have CXa:Hid (S.M.Ch (fun b=>b=m.Bb∨m.va.ownBlock=some b) w9 wpa):=S.M.Ch.oB (BD9.out.trans BWa.out);have R6:=hid ho6;obtain⟨b5a,ltBa,ltNa⟩:=BV.out wpa BWa;clear hba ho6 ltBa ltNa;refine aQq hK ?_ fun hHeld_23=>?_
     ·exact SA.out _ CXa
     clear hK K;refine wpAnyH_ready (rs:=[10,32]) (by kernel_rfl) (by simp) ?_;refine AllReadyH.cons rfl (fun K hK=>?_) (AllReadyH.cons rfl (fun K hK=>?_) AllReadyH.nil)
     ·go_simp;refine aQq hK ?_ fun hHeld_10=>?_
      ·exact SA.out _ CXa
      clear hK K;refine rkq 32 fun K hK=>?_
      go_simp;go_at_call 174;refine cMo (PO2.out _ BWa) ?_;rintro ee wpb ⟨hbb,a7,c7,rfl,ho7⟩;have LB:=hid hbb;have BWb:Hid (Below w9.heap.size w9.drew wpb):=qc7 hbb BWa (Nat.le_refl _);have CXb:Hid (S.M.Ch (fun b=>b=m.Bb∨m.va.ownBlock=some b) w9 wpb):=S.M.Ch.oB (BD9.out.trans BWb.out);have R7:=hid ho7;obtain⟨b5b,ltBb,ltNb⟩:=BV.out wpb BWb;have b5c:=ug b5b (S.qg wpb (.cells #[.string s.label.text,.int .i64 s.label.off,.int .i64 s.label.line,.int .i64 s.label.col,.bool (s.kind == 7),.slice av nv cv,.slice a6 n1 c6,.slice a2 n2 c2,.slice a7 n4 c7,.slice a5 n5 c5,.slice ap np cp,.string s.fin.text,.int .i64 s.fin.off,.int .i64 s.fin.line,.int .i64 s.fin.col] 123));clear hbb ho7 ltBb;refine aQq hK ?_ fun hHeld_32=>?_
      ·exact SA.out _ CXb
      clear hK K;refine tkq 39 hHeld_32 ?_;refine rkq 40 fun K hK=>?_
      go_simp;refine aQq hK ?_ fun hHeld_40=>?_
      ·exact SA.out _ (q6y CXb)
      clear hK K;refine rkq 41 fun K hK=>?_
      (refine step_append_lies _ (by rfl) _ _ _ (by rfl) N 123 iA _ 15 232 Tryz.underlying119 hiA iAz iAs iAb rfl (by omega) _ na (q4t m.ax) (by rfl) (by exact (S.M.zk (VR.out wpb BWb) _)) ⟨wpb.heap.size,0,none⟩ 1 1 [.string s.label.text,.int .i64 s.label.off,.int .i64 s.label.line,.int .i64 s.label.col,.bool (s.kind == 7),.slice av nv cv,.slice a6 n1 c6,.slice a2 n2 c2,.slice a7 n4 c7,.slice a5 n5 c5,.slice ap np cp,.string s.fin.text,.int .i64 s.fin.off,.int .i64 s.fin.line,.int .i64 s.fin.col] (by rfl) (by rfl) (World.news_of_block (cs:=#[.string s.label.text,.int .i64 s.label.off,.int .i64 s.label.line,.int .i64 s.label.col,.bool (s.kind == 7),.slice av nv cv,.slice a6 n1 c6,.slice a2 n2 c2,.slice a7 n4 c7,.slice a5 n5 c5,.slice ap np cp,.string s.fin.text,.int .i64 s.fin.off,.int .i64 s.fin.line,.int .i64 s.fin.col]) (t:=123) (fr:=(0,0)) (World.alloc_heap_new wpb _)) (by simp[Value.oneCell']) (by omega) (by unfold maxLen;omega) (by omega) (by have:=ltNb;simp;omega) (wpb.heap.size + 1) (by simp) ?_;intro gg cap' w3x hown3 hgrow hat hlt3;obtain⟨d5,f5,hc1,hc2,hgo⟩:=STEP.out wpb a6 c6 a7 c7 BWb (qeu R6.out LB) R7.out gg cap' w3x hown3 hgrow hat;have GO:=hid hgo;clear hgo hgrow hat hown3 hlt3)
      refine aQq hK ?_ fun hHeld_41=>?_
      ·exact SA.out _ hc1
      clear hK K;refine tkq 42 hHeld_41 ?_;refine tkq 43 hHeld_41 ?_;refine rkq 44 fun K hK=>?_
      go_simp;refine aQq hK ?_ fun hHeld_44=>?_
      ·exact SA.out _ hc2
      clear hK K;refine wpAnyH_done (by kernel_rfl) ?_ _
      go_wp2
      exact bodyPost_end (results_none rfl _ _ _) rfl (gq R3.out rfl GO.out)
     ·go_simp;go_at_call 174;refine cMo (PO2.out _ BWa) ?_;rintro ee wpb ⟨hbb,a7,c7,rfl,ho7⟩;have LB:=hid hbb;have BWb:Hid (Below w9.heap.size w9.drew wpb):=qc7 hbb BWa (Nat.le_refl _);have CXb:Hid (S.M.Ch (fun b=>b=m.Bb∨m.va.ownBlock=some b) w9 wpb):=S.M.Ch.oB (BD9.out.trans BWb.out);have R7:=hid ho7;obtain⟨b5b,ltBb,ltNb⟩:=BV.out wpb BWb;have b5c:=ug b5b (S.qg wpb (.cells #[.string s.label.text,.int .i64 s.label.off,.int .i64 s.label.line,.int .i64 s.label.col,.bool (s.kind == 7),.slice av nv cv,.slice a6 n1 c6,.slice a2 n2 c2,.slice a7 n4 c7,.slice a5 n5 c5,.slice ap np cp,.string s.fin.text,.int .i64 s.fin.off,.int .i64 s.fin.line,.int .i64 s.fin.col] 123));clear hbb ho7 ltBb;refine aQq hK ?_ fun hHeld_32=>?_
      ·exact SA.out _ CXb
      clear hK K;refine tkq 39 hHeld_32 ?_;refine wpAnyH_ready (rs:=[10,40]) (by kernel_rfl) (by simp) ?_;refine AllReadyH.cons rfl (fun K hK=>?_) (AllReadyH.cons rfl (fun K hK=>?_) AllReadyH.nil)
      ·go_simp;refine aQq hK ?_ fun hHeld_10=>?_
       ·exact SA.out _ CXb
       clear hK K;refine rkq 40 fun K hK=>?_
       go_simp;refine aQq hK ?_ fun hHeld_40=>?_
       ·exact SA.out _ (q6y CXb)
       clear hK K;refine rkq 41 fun K hK=>?_
       (refine step_append_lies _ (by rfl) _ _ _ (by rfl) N 123 iA _ 15 232 Tryz.underlying119 hiA iAz iAs iAb rfl (by omega) _ na (q4t m.ax) (by rfl) (by exact (S.M.zk (VR.out wpb BWb) _)) ⟨wpb.heap.size,0,none⟩ 1 1 [.string s.label.text,.int .i64 s.label.off,.int .i64 s.label.line,.int .i64 s.label.col,.bool (s.kind == 7),.slice av nv cv,.slice a6 n1 c6,.slice a2 n2 c2,.slice a7 n4 c7,.slice a5 n5 c5,.slice ap np cp,.string s.fin.text,.int .i64 s.fin.off,.int .i64 s.fin.line,.int .i64 s.fin.col] (by rfl) (by rfl) (World.news_of_block (cs:=#[.string s.label.text,.int .i64 s.label.off,.int .i64 s.label.line,.int .i64 s.label.col,.bool (s.kind == 7),.slice av nv cv,.slice a6 n1 c6,.slice a2 n2 c2,.slice a7 n4 c7,.slice a5 n5 c5,.slice ap np cp,.string s.fin.text,.int .i64 s.fin.off,.int .i64 s.fin.line,.int .i64 s.fin.col]) (t:=123) (fr:=(0,0)) (World.alloc_heap_new wpb _)) (by simp[Value.oneCell']) (by omega) (by unfold maxLen;omega) (by omega) (by have:=ltNb;simp;omega) (wpb.heap.size + 1) (by simp) ?_;intro gg cap' w3x hown3 hgrow hat hlt3;obtain⟨d5,f5,hc1,hc2,hgo⟩:=STEP.out wpb a6 c6 a7 c7 BWb (qeu R6.out LB) R7.out gg cap' w3x hown3 hgrow hat;have GO:=hid hgo;clear hgo hgrow hat hown3 hlt3)
       refine aQq hK ?_ fun hHeld_41=>?_
       ·exact SA.out _ hc1
       clear hK K;refine tkq 42 hHeld_41 ?_;refine tkq 43 hHeld_41 ?_;refine rkq 44 fun K hK=>?_
       go_simp;refine aQq hK ?_ fun hHeld_44=>?_
       ·exact SA.out _ hc2
       clear hK K;refine wpAnyH_done (by kernel_rfl) ?_ _
       go_wp2
       exact bodyPost_end (results_none rfl _ _ _) rfl (gq R3.out rfl GO.out)
      ·go_simp;refine aQq hK ?_ fun hHeld_40=>?_
       ·exact SA.out _ (q6y CXb)
       clear hK K;refine rkq 10 fun K hK=>?_
       go_simp;refine aQq hK ?_ fun hHeld_10=>?_
       ·exact SA.out _ (q6y CXb)
       clear hK K;refine rkq 41 fun K hK=>?_
       (refine step_append_lies _ (by rfl) _ _ _ (by rfl) N 123 iA _ 15 232 Tryz.underlying119 hiA iAz iAs iAb rfl (by omega) _ na (q4t m.ax) (by rfl) (by exact (S.M.zk (VR.out wpb BWb) _)) ⟨wpb.heap.size,0,none⟩ 1 1 [.string s.label.text,.int .i64 s.label.off,.int .i64 s.label.line,.int .i64 s.label.col,.bool (s.kind == 7),.slice av nv cv,.slice a6 n1 c6,.slice a2 n2 c2,.slice a7 n4 c7,.slice a5 n5 c5,.slice ap np cp,.string s.fin.text,.int .i64 s.fin.off,.int .i64 s.fin.line,.int .i64 s.fin.col] (by rfl) (by rfl) (World.news_of_block (cs:=#[.string s.label.text,.int .i64 s.label.off,.int .i64 s.label.line,.int .i64 s.label.col,.bool (s.kind == 7),.slice av nv cv,.slice a6 n1 c6,.slice a2 n2 c2,.slice a7 n4 c7,.slice a5 n5 c5,.slice ap np cp,.string s.fin.text,.int .i64 s.fin.off,.int .i64 s.fin.line,.int .i64 s.fin.col]) (t:=123) (fr:=(0,0)) (World.alloc_heap_new wpb _)) (by simp[Value.oneCell']) (by omega) (by unfold maxLen;omega) (by omega) (by have:=ltNb;simp;omega) (wpb.heap.size + 1) (by simp) ?_;intro gg cap' w3x hown3 hgrow hat hlt3;obtain⟨d5,f5,hc1,hc2,hgo⟩:=STEP.out wpb a6 c6 a7 c7 BWb (qeu R6.out LB) R7.out gg cap' w3x hown3 hgrow hat;have GO:=hid hgo;clear hgo hgrow hat hown3 hlt3)
       refine aQq hK ?_ fun hHeld_41=>?_
       ·exact SA.out _ hc1
       clear hK K;refine tkq 42 hHeld_41 ?_;refine tkq 43 hHeld_41 ?_;refine rkq 44 fun K hK=>?_
       go_simp;refine aQq hK ?_ fun hHeld_44=>?_
       ·exact SA.out _ hc2
       clear hK K;refine wpAnyH_done (by kernel_rfl) ?_ _
       go_wp2
       exact bodyPost_end (results_none rfl _ _ _) rfl (gq R3.out rfl GO.out)
   ·have HJ:Hid (¬J=0):=hJ;have R3:Hid (q1m L s=.error (s.fin,J)):=R2.out.trans (if_neg hJ);clear hJ R2;go_wp2_with fail;refine cMo (CK.out _) ?_;rintro ee w6 ⟨hb6,he6⟩;rw[if_neg HJ.out] at he6;obtain⟨b,rfl,q2,q3⟩:=he6;have h1:=B0.out;have h2:=B5.out.mono h1.size;exact⟨rfl,q0y R3.out (S.M.Ch.oB (h1.trans (h2.trans (hb6.mono (by have:=h2.size;have:=h1.size;omega))))) ⟨b,rfl,q2,by have:=B5.out.size;have:=h1.size;omega⟩⟩
end
end B
end Go.Proofs.YtbancemhfjjmlaaGreatDoor
