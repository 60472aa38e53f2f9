/- Laid together. -/
import Derived.Test.YtbancemhfjjmlaaGreatDoorQF13
import Derived.Test.YtbancemhfjjmlaaGreatDoorQF02
import Derived.Test.YtbancemhfjjmlaaGreatDoorQF11
set_option maxRecDepth 100000
set_option maxHeartbeats 32000000
namespace Go.Proofs.YtbancemhfjjmlaaGreatDoor
namespace B
open Go.RowKit
open S (Tok Stm)
theorem qg1 (T:Y.Tab):(Y.jl T).2.labels=T.labels:=by unfold Y.jl;split <;> rfl
theorem qd0 (T:Y.Tab):(Y.xu T).2.labels=T.labels:=by unfold Y.xu;split <;> rfl
theorem qg2 (T:Y.Tab)(s:ByteArray)(v:Bool):(Y.q1q T s v).2.2.labels=T.labels:=by unfold Y.q1q;split <;> rfl
theorem qm8 (T:Y.Tab)(s:ByteArray):(Y.q09 T s).2.2.labels=T.labels:=by
 unfold Y.q09
 split
 ·rfl
 ·split
  ·rfl
  ·split
   ·rfl
   ·exact qg2 _ _ _
theorem lab_var (T:Y.Tab)(s:ByteArray):(Y.q3e T s).2.2.labels=T.labels:=by
 unfold Y.q3e
 split
 ·rfl
 ·split
  ·rfl
  ·split
   ·rfl
   ·exact qg2 _ _ _
section
variable {L L':Ld} {k k':Nat} {s:Stm}
theorem Ld.Ok.tabled {T':Y.Tab}(h:L.Ok k)(hT:T'.Ok k')(hl:T'.labels=L.T.labels):Ld.Ok { L with T:=T' } k' :=
 ⟨hT,h.sc1,h.sc2,by show _≤T'.labels.length;rw[hl];exact h.hyl,h.sub,h.ex,h.ps,h.pw,fun s hs=>by show s ∈ T'.labels;rw[hl];exact h.labs s hs⟩
theorem q94 {f:Y.Tab→ByteArray→Nat × Nat × Y.Tab}(hf:∀T s k,Y.Tab.Ok T k→(f T s).2.2.Ok (k + 2)∧(f T s).2.2.labels=T.labels):∀(ts:List Tok) (L L':Ld) (k:Nat),L.Ok k→q0k f L ts=.ok L'→L'.Ok (k + 2 * ts.length)
 | [],L,L',k,h,e=>by
  cases e;exact h.up (by omega)
 | t :: ts,L,L',k,h,e=>by
  unfold q0k at e
  split at e
  ·have h2:=hf L.T t.text k h.tab;exact (q94 hf ts _ L' (k + 2) (h.tabled h2.1 h2.2) e).up (by rw[List.length_cons];omega)
  ·cases e
theorem q9y (f:F.Sa→F.Sa){l:List F.Sa}(h:1≤l.length):∃p a,l=p++[a]∧F.q19 f l=p++[f a]:=by
 have hne:l≠[]:=by rintro rfl;simp at h
 obtain⟨p,a,e⟩:∃p a,l=p++[a]:=⟨_,_,(List.dropLast_concat_getLast hne).symm⟩;subst e;exact⟨p,a,rfl,F.q52 f p a⟩
theorem q2v (p:List F.Sa)(a:F.Sa):jq (p++[a])=jq p++a.hs:=by unfold jq;simp
theorem q26 (p:List F.Sa)(a:F.Sa):F.uq (p++[a])=F.uq p++a.ps:=by unfold F.uq;simp
theorem q05 {t:Tok}{c:Int}(h:uh t c L=.ok L'):c=0∧L'=L:=by
 unfold uh at h
 split at h
 ·cases h;exact⟨by assumption,rfl⟩
 ·cases h
theorem qm9 {t:Tok}(hO:L.Ok k)(h:q9i L t=.ok L'):L'.Ok k:=by
 unfold q9i at h
 split at h
 ·obtain⟨h1,rfl⟩:=q05 h;have h2:¬17≤L.sc.length:=fun hh=>by unfold F.q1r at h1;rw[if_pos hh] at h1;cases h1
  have e:F.q15 L.sc=L.sc++[⟨[],[]⟩]:=by unfold F.q15;rw[if_neg h2]
  have e2:jq (F.q15 L.sc)=jq L.sc:=by rw[e,q2v];exact List.append_nil _
  have e3:F.uq (F.q15 L.sc)=F.uq L.sc:=by rw[e,q26];exact List.append_nil _
  refine⟨Y.ok_open hO.tab,?_,?_,?_,?_,hO.ex,?_,?_,?_⟩
  ·show 1≤(F.q15 L.sc).length
   rw[e,lAp];exact Nat.le_add_left _ _
  ·show (F.q15 L.sc).length≤17
   rw[e,lAp]
   show L.sc.length + 1≤17
   omega
  ·show _≤(Y.jl L.T).2.labels.length
   rw[qg1];exact hO.hyl
  ·show (jq (F.q15 L.sc)).Sublist L.hy
   rw[e2];exact hO.sub
  ·show (F.uq (F.q15 L.sc)).length≤256
   rw[e3];exact hO.ps
  ·show ∀p ∈ F.uq (F.q15 L.sc),F.wfP p
   rw[e3];exact hO.pw
  ·intro x hx
   show x ∈ (Y.jl L.T).2.labels
   rw[qg1];exact hO.labs x hx
 ·cases h
theorem qif {t:Tok}(hO:L.Ok k)(h:q6l L t=.ok L'):L'.Ok k:=by
 unfold q6l at h
 split at h
 ·obtain⟨h1,rfl⟩:=q05 h;have h2:¬L.sc.length≤1:=fun hh=>by unfold F.q0q at h1;rw[if_pos hh] at h1;cases h1
  have e:F.q00 L.sc=L.sc.take (L.sc.length - 1):=by unfold F.q00;rw[if_neg h2]
  have hs:L.sc=F.q00 L.sc++L.sc.drop (L.sc.length - 1):=by rw[e,List.take_append_drop]
  have e2:jq L.sc=jq (F.q00 L.sc)++jq (L.sc.drop (L.sc.length - 1)):=by
   conv=>lhs;rw[hs]
   unfold jq;exact List.flatMap_append ..
  have e3:F.uq L.sc=F.uq (F.q00 L.sc)++F.uq (L.sc.drop (L.sc.length - 1)):=by
   conv=>lhs;rw[hs]
   unfold F.uq;exact List.flatMap_append ..
  have hl:(F.q00 L.sc).length=L.sc.length - 1:=by rw[e,List.length_take];omega
  have h17:=hO.sc2;refine⟨Y.qom hO.tab,?_,?_,?_,?_,hO.ex,?_,?_,?_⟩
  ·show 1≤(F.q00 L.sc).length
   omega
  ·show (F.q00 L.sc).length≤17
   omega
  ·show _≤(Y.xu L.T).2.labels.length
   rw[qd0];exact hO.hyl
  ·have h3:=hO.sub;rw[e2] at h3;exact (List.sublist_append_left _ _).trans h3
  ·have h3:=hO.ps;rw[e3,lAp] at h3
   show (F.uq (F.q00 L.sc)).length≤256
   omega
  ·intro p hp;exact hO.pw p (by rw[e3];exact List.mem_append_left _ hp)
  ·intro x hx
   show x ∈ (Y.xu L.T).2.labels
   rw[qd0];exact hO.labs x hx
 ·cases h
theorem Ld.Ok.declared (hO:L.Ok k)(hr:L.hy.length + L.al.length + 1≤L.T.labels.length)(x:F.Hy)(hx:x.ex.length≤200∧(∀y ∈ x.ex,F.wfN y)∧F.wfN x.var∧x.lab.size≤65536)(hl:x.lab ∈ L.T.labels):Ld.Ok { L with sc:=F.q19 (fun a=>⟨a.hs++[x],a.ps⟩) L.sc,hy:=L.hy++[x] } k:=by
 obtain⟨p,a,e1,e2⟩:=q9y (fun a=>⟨a.hs++[x],a.ps⟩) hO.sc1;have h1:=hO.sub;have h2:=hO.sc2;have h3:=hO.ps;have h4:=hO.pw;rw[e1] at h1 h2 h3 h4;rw[q2v] at h1;rw[q26] at h3 h4;rw[lAp] at h2;refine⟨hO.tab,?_,?_,?_,?_,?_,?_,?_,?_⟩
 ·show 1≤(F.q19 _ L.sc).length
  rw[e2,lAp];exact Nat.le_add_left _ _
 ·show (F.q19 _ L.sc).length≤17
  rw[e2,lAp];exact h2
 ·show (L.hy++[x]).length + _≤_
  rw[lAp]
  show L.hy.length + 1 + L.al.length≤L.T.labels.length
  omega
 ·show (jq (F.q19 _ L.sc)).Sublist (L.hy++[x])
  rw[e2,q2v]
  show (jq p++(a.hs++[x])).Sublist _
  rw[←List.append_assoc];exact h1.append (List.Sublist.refl _)
 ·intro y hy;rcases mAp.1 hy with hy | hy
  ·exact hO.ex y hy
  ·cases mSg.1 hy;exact hx
 ·show (F.uq (F.q19 _ L.sc)).length≤256
  rw[e2,q26];exact h3
 ·show ∀q ∈ F.uq (F.q19 _ L.sc),F.wfP q
  rw[e2,q26];exact h4
 ·rintro y (hy | hy)
  ·have hy':y ∈ (L.hy++[x]).map (·.lab):=hy;rw[List.map_append] at hy';rcases mAp.1 hy' with h | h
   ·exact hO.labs y (.inl h)
   ·cases mSg.1 h;exact hl
  ·exact hO.labs y (.inr hy)
theorem all_wf {m:List Int}(hm:∀x ∈ m,F.wfN x):∀p ∈ F.q6i m,F.wfP p:=fun p hp=>by
 unfold F.q6i F.q0f at hp;obtain⟨i,_,hp⟩:=List.mem_flatMap.1 hp;obtain⟨b,hb,rfl⟩:=List.mem_map.1 hp;have h0:F.wfN (m.getD i 0):=by
  rw[List.getD_eq_getElem?_getD]
  cases h:m[i]? with
  | none=>exact⟨by decide,by decide⟩
  | some y=>exact hm y (mGe h)
 exact⟨F.qdj h0,F.qdj (hm b (List.mem_of_mem_drop hb))⟩
theorem qma (hO:L.Ok k)(h:q36 L s=.ok L'):L'.Ok k:=by
 unfold q36 at h
 cases hp:q1u L [] (q04 (F.uq L.sc)) s.words with
 | error f=>rw[hp] at h;cases h
 | ok a =>
  rw[hp] at h;dsimp only at h
  split at h
  ·obtain⟨h1,rfl⟩:=q05 h;have hw:=(qbe hO.q3n s.words [] _ a hp (fun x hx=>by cases hx)).1;have e0:F.q1j (isV:=zu L.T) L.sc a=F.q19 (fun b=>⟨b.hs,b.ps++F.q2s (isV:=zu L.T) L.sc a⟩) L.sc:=by unfold F.q1j;rw[if_pos h1]
   have hlen:(F.uq L.sc).length + (F.q2s (isV:=zu L.T) L.sc a).length≤256:=by
    unfold F.q1t at h1
    split at h1
    ·cases h1
    ·split at h1
     ·cases h1
     ·split at h1
      ·cases h1
      ·split at h1
       ·cases h1
       ·omega
   have hf:∀p ∈ F.q2s (isV:=zu L.T) L.sc a,F.wfP p:=fun p hp=>by
    unfold F.q2s at hp;exact all_wf (fun x hx=>hw x (((F.q90 a).mem x).1 hx).1) p (List.mem_filter.1 hp).1
   obtain⟨p,b,e1,e2⟩:=q9y (fun b=>⟨b.hs,b.ps++F.q2s (isV:=zu L.T) L.sc a⟩) hO.sc1;rw[←e0] at e2;generalize F.q2s (isV:=zu L.T) L.sc a=fr at *;have h1:=hO.sub;have h2:=hO.sc2;have h4:=hO.pw;rw[e1] at h1 h2 hlen h4;rw[q2v] at h1;rw[q26] at hlen h4;rw[lAp] at h2 hlen;refine⟨hO.tab,?_,?_,hO.hyl,?_,hO.ex,?_,?_,hO.labs⟩
   ·show 1≤(F.q1j L.sc a).length
    rw[e2,lAp];exact Nat.le_add_left _ _
   ·show (F.q1j L.sc a).length≤17
    rw[e2,lAp];exact h2
   ·show (jq (F.q1j L.sc a)).Sublist L.hy
    rw[e2,q2v];exact h1
   ·show (F.uq (F.q1j L.sc a)).length≤256
    rw[e2,q26,lAp,lAp];omega
   ·show ∀q ∈ F.uq (F.q1j L.sc a),F.wfP q
    rw[e2,q26];intro q hq;rcases mAp.1 hq with hq | hq
    ·exact h4 q (List.mem_append_left _ hq)
    ·rcases mAp.1 hq with hq | hq
     ·exact h4 q (List.mem_append_right _ hq)
     ·exact hf q hq
  ·cases h;exact hO
theorem qig (hO:L.Ok k)(hr:L.hy.length + L.al.length + 1≤L.T.labels.length)(hl:s.label.text ∈ L.T.labels)(hz:s.label.text.size≤65536)(h2:q0i s.fin=true→s.words.length=2)(h:q20 L s=.ok L'):L'.Ok k:=by
 unfold q20 at h
 cases hp:q1l L [] s.words with
 | error f=>rw[hp] at h;cases h
 | ok e =>
  rw[hp] at h;dsimp only at h
  split at h
  ·rename_i he
   obtain⟨h1,rfl⟩:=q05 h;obtain⟨hw,hlen⟩:=q74 hO.q3n s.words [] e hp (fun x hx=>by cases hx);rw[h2 he] at hlen;obtain⟨x,y,rfl⟩:∃x y,e=[x,y]:=by
    match e,hlen with
    | [x,y],_=>exact⟨x,y,rfl⟩
   have h1':F.q0o (isV:=zu L.T) L.sc x y=0:=h1;have e0:F.q0e (isV:=zu L.T) L.sc s.label.text x y=F.q19 (fun a=>⟨a.hs++[⟨s.label.text,true,y,[x,y]⟩],a.ps⟩) L.sc:=by unfold F.q0e;rw[if_pos h1']
   have h5:=hO.declared hr ⟨s.label.text,true,y,[x,y]⟩ ⟨by show 2≤200;omega,hw,hw y (by simp),hz⟩ hl;rw[←e0] at h5;exact h5
  ·cases h;exact hO
theorem qoy (hO:L.Ok k)(hr:L.hy.length + L.al.length + 1≤L.T.labels.length)(hl:s.label.text ∈ L.T.labels)(hz:s.label.text.size≤65536)(h:q7g L s=.ok L'):L'.Ok k:=by
 unfold q7g at h
 cases hp:q0j L [] s.words with
 | error f=>rw[hp] at h;cases h
 | ok e =>
  rw[hp] at h;dsimp only at h
  split at h
  ·obtain⟨h1,rfl⟩:=q05 h;obtain⟨hw,hlen,_⟩:=q5o hO.q3n s.words [] e hp (fun x hx=>by cases hx) (by simp);have e0:F.q4x (isV:=zu L.T) L.sc s.label.text e=F.q19 (fun a=>⟨a.hs++[⟨s.label.text,false,-1,e⟩],a.ps⟩) L.sc:=by unfold F.q4x;rw[if_pos h1]
   have h5:=hO.declared hr ⟨s.label.text,false,-1,e⟩ ⟨hlen,hw,(show (-9223372036854775808:Int)≤-1∧(-1:Int)≤9223372036854775807 by decide),hz⟩ hl;rw[←e0] at h5;exact h5
  ·cases h;exact hO
theorem qg3 (hO:L.Ok k)(hr:L.hy.length + L.al.length + 1≤L.T.labels.length)(hl:s.label.text ∈ L.T.labels)(h:q1o L s=.ok L'):L'.Ok k:=by
 unfold q1o at h
 cases hp:q0j L [] s.words with
 | error f=>rw[hp] at h;cases h
 | ok e =>
  rw[hp] at h;dsimp only at h
  split at h
  ·obtain⟨_,rfl⟩:=q05 h;refine⟨hO.tab,hO.sc1,hO.sc2,?_,hO.sub,hO.ex,hO.ps,hO.pw,?_⟩
   ·show L.hy.length + (L.al++[q6m L s e]).length≤_
    rw[lAp]
    show L.hy.length + (L.al.length + 1)≤L.T.labels.length
    omega
   ·rintro y (hy | hy)
    ·exact hO.labs y (.inl hy)
    ·have hy':y ∈ (L.al++[q6m L s e]).map (·.label.text):=hy;rw[List.map_append] at hy';rcases mAp.1 hy' with h | h
     ·exact hO.labs y (.inr h)
     ·cases mSg.1 h;exact hl
  ·cases h;exact hO
theorem qg4 {t:Tok}(hO:L.Ok k)(h:q4t L t=.ok L'):L'.Ok k∧(q0i t=true→L'.hy.length + L'.al.length + 1≤L'.T.labels.length∧t.text ∈ L'.T.labels):=by
 unfold q4t at h
 split at h
 ·obtain⟨h1,rfl⟩:=q05 h;have h2:(Y.zn L.T t.text).1=0:=by omega
  refine⟨qox t.text hO,fun _=>?_⟩;have e:=(q6r h2).2;have h3:=hO.hyl;constructor
  ·show L.hy.length + L.al.length + 1≤(Y.zn L.T t.text).2.labels.length
   rw[e]
   show _≤(L.T.labels++[t.text]).length
   rw[lAp]
   show _≤L.T.labels.length + 1
   omega
  ·show t.text ∈ (Y.zn L.T t.text).2.labels
   rw[e];exact List.mem_append_right _ (mSg.2 rfl)
 ·rename_i hn
  cases h;exact⟨hO,fun he=>absurd he hn⟩
theorem qd1 (hO:L.Ok k)(hs:q1a s)(hz:s.label.text.size≤65536)(hw:s.words.length≤16384)(h:qp L s=.ok L'):L'.Ok (k + 60000):=by
 unfold qp at h
 cases hl:q4t L s.label with
 | error f=>rw[hl] at h;cases h
 | ok L1 =>
  rw[hl] at h;dsimp only at h;obtain⟨hO1,hr⟩:=qg4 hO hl;unfold jd at h
  split at h
  ·exact (qm9 hO1 h).up (by omega)
  ·split at h
   ·exact (qif hO1 h).up (by omega)
   ·split at h
    ·unfold q3m at h
     split at h
     ·cases h
     ·exact (q94 (fun T s k hT=>⟨Y.qfu s hT,qm8 T s⟩) s.words L1 L' k hO1 h).up (by omega)
    ·split at h
     ·exact (q94 (fun T s k hT=>⟨Y.qoo s hT,lab_var T s⟩) s.words L1 L' k hO1 h).up (by omega)
     ·split at h
      ·exact (qma hO1 h).up (by omega)
      ·split at h
       ·rename_i h3
        obtain⟨r1,r2⟩:=hr (hs.lab (.inl h3));exact (qig hO1 r1 r2 hz (hs.two h3) h).up (by omega)
       ·split at h
        ·rename_i h4
         obtain⟨r1,r2⟩:=hr (hs.lab (.inr (.inl h4)));exact (qoy hO1 r1 r2 hz h).up (by omega)
        ·split at h
         ·rename_i h6
          obtain⟨r1,r2⟩:=hr (hs.lab (by rcases h6 with h6 | h6 <;> simp[h6]));exact (qg3 hO1 r1 r2 h).up (by omega)
         ·cases h;exact hO1.up (by omega)
end
structure SOk (s:Stm):Prop where
 lab:s.kind=3∨s.kind=4∨s.kind=6∨s.kind=7→q0i s.label=true
 two:s.kind=3→s.words.length≤2∧(q0i s.fin=true→s.words.length=2)
 ls:s.label.text.size≤65536
 ws:∀t ∈ s.words,t.text.size≤65536
structure POk (P:S.PS):Prop where
 wt:P.wt.text.size≤65536
 all:∀s ∈ P.l,SOk s
 opn:P.opn=true→∀s,P.l.getLast?=some s→s.fin=S.q2l
theorem endB_wt (t:Tok):S.wtB t=q0i t:=by
 unfold S.wtB q0i;rw[ByteArray.toList_eq]
theorem qjx:S.q2l.text.size≤65536:=by decide
theorem endB_z:q0i S.q2l=false:=rfl
theorem qjy {s:Stm}{t:Tok}(h:SOk s)(hz:s.fin=S.q2l)(ht:t.text.size≤65536):SOk (S.q7r s t).2∧(S.q7r s t).2.fin=S.q2l:=by
 unfold S.q7r
 split
 ·exact⟨⟨h.lab,h.two,h.ls,h.ws⟩,hz⟩
 ·split
  ·exact⟨h,hz⟩
  ·rename_i h1 h2
   refine⟨⟨h.lab,fun h3=>?_,h.ls,fun u hu=>?_⟩,hz⟩
   ·have h3':s.kind=3:=h3;have hw:=(h.two h3').1;have h2':¬(s.words.length:Int)=2:=by rw[h3'] at h2;exact h2
    refine⟨by simp;omega,fun he=>?_⟩;have he':q0i s.fin=true:=he;rw[hz,endB_z] at he'
    cases he'
   ·rcases mAp.1 hu with hu | hu
    ·exact h.ws u hu
    ·rw[mSg.1 hu];exact ht
theorem qjz {s:Stm}(h:SOk s)(hz:s.fin=S.q2l):SOk (S.q77 s).2∧(S.q77 s).2.fin=S.q2l:=by
 unfold S.q77
 split
 ·split
  ·exact⟨h,hz⟩
  ·split
   ·exact⟨h,hz⟩
   ·exact⟨⟨h.lab,h.two,h.ls,h.ws⟩,hz⟩
 ·exact⟨h,hz⟩
theorem qk0 {s:Stm}{t:Tok}(h:SOk s)(hz:s.fin=S.q2l):SOk (S.q3v s t).2∧((S.q3v s t).1≠0→(S.q3v s t).2.fin=S.q2l):=by
 unfold S.q3v
 split
 ·exact⟨h,fun _=>hz⟩
 ·split
  ·exact⟨h,fun _=>hz⟩
  ·rename_i h1 h2
   refine⟨⟨h.lab,fun h3=>?_,h.ls,h.ws⟩,fun e=>absurd rfl e⟩;have h3':s.kind=3:=h3;have hw:=(h.two h3').1;have h2':¬(s.words.length:Int) < 2:=by rw[h3'] at h2;exact h2
   exact⟨hw,fun _=>by show s.words.length=2;omega⟩
theorem qih {s:Stm}{t:Tok}(h:SOk s)(hz:s.fin=S.q2l)(ht:t.text.size≤65536):SOk (S.q06 s t).2.1∧((S.q06 s t).2.2=false→(S.q06 s t).2.1.fin=S.q2l):=by
 unfold S.q06
 split
 ·exact⟨(qjy h hz ht).1,fun _=>(qjy h hz ht).2⟩
 ·split
  ·exact⟨(qjz h hz).1,fun _=>(qjz h hz).2⟩
  ·split
   ·exact⟨(qk0 h hz).1,fun e=>(qk0 h hz).2 (of_decide_eq_false e)⟩
   ·exact⟨h,fun _=>hz⟩
theorem newS_ok {k:Int}{lb ky:Tok}(hl:k=3∨k=4∨k=6∨k=7→q0i lb=true)(hz:lb.text.size≤65536):SOk (S.newS k lb ky)∧(S.brk k=false→(S.newS k lb ky).fin=S.q2l):=by
 unfold S.newS
 by_cases hb:S.brk k=true
 ·rw[if_pos hb];refine⟨⟨fun h=>?_,fun h=>?_,qjx,fun u hu=>by cases hu⟩,fun e=>by rw[hb] at e;cases e⟩
  ·have h':k=3∨k=4∨k=6∨k=7:=h
   exfalso
   rcases h' with rfl | rfl | rfl | rfl <;> cases hb
  ·have h':k=3:=h;subst h'
   cases hb
 ·rw[if_neg hb];refine⟨⟨hl,fun _=>⟨Nat.zero_le _,fun e=>by cases e⟩,hz,fun u hu=>by cases hu⟩,fun _=>rfl⟩
theorem qoz {P:S.PS}{t:Tok}(h:POk P)(ht:t.text.size≤65536):POk (S.qp P t).2:=by
 unfold S.qp
 split
 ·rename_i ho
  cases hl:P.l.getLast? with
  | none=>exact h
  | some s =>
   have hm:s ∈ P.l:=List.mem_of_getLast? hl;have hw:=qih (h.all s hm) (h.opn ho s hl) ht;refine⟨h.wt,fun u hu=>?_,fun e u hu=>?_⟩
   ·rcases mAp.1 hu with hu | hu
    ·exact h.all u (List.dropLast_subset _ hu)
    ·rw[mSg.1 hu];exact hw.1
   ·have e':(S.q06 s t).2.2=false:=by simpa using e
    have hu':(P.l.dropLast++[(S.q06 s t).2.1]).getLast?=some u:=hu;rw[List.getLast?_concat] at hu'
    cases hu';exact hw.2 e'
 ·rename_i ho
  unfold S.q1g
  split
  ·split
   ·exact h
   ·exact⟨ht,h.all,h.opn⟩
  ·split
   ·exact h
   ·split
    ·exact h
    ·rename_i h1 h2 h3
     have h3':S.qk5 (S.q1e t.text)=S.wtB P.wt:=Decidable.of_not_not h3
     have hn:=newS_ok (k:=(S.q1e t.text:Int)) (lb:=P.wt) (ky:=t) (fun hk=>by
      rw[←endB_wt,←h3']
      have hk':S.q1e t.text=3∨S.q1e t.text=4∨S.q1e t.text=6∨S.q1e t.text=7:=by omega
      rcases hk' with e | e | e | e <;> rw[e] <;> rfl) h.wt
     refine⟨qjx,fun u hu=>?_,fun e u hu=>?_⟩
     ·rcases mAp.1 hu with hu | hu
      ·exact h.all u hu
      ·rw[mSg.1 hu];exact hn.1
     ·have hu':(P.l++[S.newS (S.q1e t.text) P.wt t]).getLast?=some u:=hu;rw[List.getLast?_concat] at hu'
      cases hu';exact hn.2 (by simpa using e)
theorem qk1:∀(ts:List Tok) (P:S.PS) (j:Nat),POk P→S.q69 P j→(∀t ∈ ts,t.text.size≤65536)→POk (S.runT P ts).1∧S.q69 (S.runT P ts).1 (j + ts.length)
 | [],P,j,h,hs,_=>⟨h,hs⟩
 | t :: ts,P,j,h,hs,ht=>by
  have h1:=qoz h (ht t (List.mem_cons_self ..));have h2:=S.q6a (t:=t) hs;unfold S.runT
  split
  ·have:=qk1 ts _ (j + 1) h1 h2 fun u hu=>ht u (List.mem_cons_of_mem _ hu)
   have e:j + 1 + ts.length=j + (t :: ts).length:=by rw[List.length_cons];omega
   rw[e] at this;exact this
  ·refine⟨h1,nLt h2.1 (by rw[List.length_cons];omega),fun s hs=>?_⟩;have h3:=h2.2 s hs;exact⟨nLt h3.1 (by rw[List.length_cons];omega),nLt h3.2 (by rw[List.length_cons];omega)⟩
theorem readF_l (txt:ByteArray):(S.q1h txt).1=(S.runT S.ps0 (S.q3k txt)).1:=by
 unfold S.q1h
 split
 ·rename_i h;rw[h]
 ·rename_i h
  split
  ·rw[h]
  ·split <;> rw[h]
theorem q9z (txt:ByteArray):(S.q1h txt).1.l.length≤16384∧∀s ∈ (S.q1h txt).1.l,SOk s∧s.words.length≤16384∧s.proof.length≤16384:=by
 have h0:POk S.ps0:=⟨by decide,(fun s hs=>by cases hs),(fun e=>by cases e)⟩;have h1:S.q69 S.ps0 0:=⟨Nat.le_refl _,fun s hs=>by cases hs⟩;obtain⟨h2,h3⟩:=qk1 (S.q3k txt) S.ps0 0 h0 h1 (S.qad txt);have hw:=S.qci txt;rw[readF_l];refine⟨nLt h3.1 (by omega),fun s hs=>⟨h2.all s hs,?_,?_⟩⟩
 ·exact nLt (h3.2 s hs).1 (by omega)
 ·exact nLt (h3.2 s hs).2 (by omega)
def q2t (txt:ByteArray):Res Ld:=match q0a ld0 (S.q1h txt).1.l with
 | .error f=>.error f
 | .ok L=>match (S.q1h txt).2 with
  | some f=>.error f
  | none=>if 1 < L.sc.length then .error (S.q3l txt,23) else .ok L
def Grew (T T':Y.Tab):Prop:=∃r,T'.syms=T.syms++r
theorem Grew.refl (T:Y.Tab):Grew T T:=⟨[],by simp⟩
theorem Grew.trans {A B C:Y.Tab}(h:Grew A B)(g:Grew B C):Grew A C:=by
 obtain⟨r,hr⟩:=h;obtain⟨q,hq⟩:=g;exact⟨r++q,by rw[hq,hr,List.append_assoc]⟩
theorem Grew.of_eq {T T':Y.Tab}(h:T'.syms=T.syms):Grew T T':=⟨[],by simp[h]⟩
def q57 (T:Y.Tab)(x:Int):Prop:=∃i:Nat,x=i∧i < T.syms.length
theorem qii {T:Y.Tab}{x:Int}{p:ByteArray × Bool}(h:Y.q2w T x=some p):q57 T x:=by
 unfold Y.q2w at h
 split at h
 ·exact⟨x.toNat,by omega,(List.getElem?_eq_some_iff.1 h).1⟩
 ·cases h
theorem q41 {T:Y.Tab}{x:Int}(h:zu T x=true):q57 T x:=by
 unfold zu Y.varOf at h
 cases hs:Y.q2w T x with
 | none=>rw[hs] at h;cases h
 | some p=>exact qii hs
theorem q57.grew {T T':Y.Tab}{x:Int}(h:q57 T x)(g:Grew T T'):q57 T' x:=by
 obtain⟨i,e,hi⟩:=h;obtain⟨r,hr⟩:=g;exact⟨i,e,by rw[hr,lAp];omega⟩
theorem qij {T T':Y.Tab}{x:Int}(h:q57 T x)(g:Grew T T'):Y.q2w T' x=Y.q2w T x:=by
 obtain⟨i,rfl,hi⟩:=h;obtain⟨r,hr⟩:=g;unfold Y.q2w;rw[if_pos (by omega),if_pos (by omega),hr];exact List.getElem?_append_left (by simpa using hi)
theorem q2a {T T':Y.Tab}{x:Int}(h:q57 T x)(g:Grew T T'):zu T' x=zu T x:=by
 unfold zu;rw[qij h g]
theorem qg5 (T:Y.Tab):zu T (-1)=false:=by
 unfold zu Y.q2w;rw[if_neg (by omega)]
 rfl
structure q4e (T:Y.Tab)(e:List Int):Prop where
 pos:1≤e.length
 le:e.length≤200
 head:zu T (e.headD 0)=false
 sym:∀x ∈ e,q57 T x
theorem q4e.grew {T T':Y.Tab}{e:List Int}(h:q4e T e)(g:Grew T T'):q4e T' e:=by
 refine⟨h.pos,h.le,?_,fun x hx=>(h.sym x hx).grew g⟩;have hp:=h.pos
 match e,h,hp with
 | x :: r,h,_=>exact (q2a (h.sym x (by simp)) g).trans h.head
structure q95 (T:Y.Tab)(h:F.Hy):Prop where
 st:q4e T h.ex
 fl:h.fl=true→(∃c,h.ex=[c,h.var])∧zu T h.var=true
 es:h.fl=false→h.var=-1
theorem q95.sym {T:Y.Tab}{h:F.Hy}(hh:q95 T h)(hf:h.fl=true):q57 T h.var:=q41 (hh.fl hf).2
theorem q95.grew {T T':Y.Tab}{h:F.Hy}(hh:q95 T h)(g:Grew T T'):q95 T' h :=
 ⟨hh.st.grew g,fun hf=>⟨(hh.fl hf).1,by rw[q2a (hh.sym hf) g];exact (hh.fl hf).2⟩,hh.es⟩
theorem q95.qp0 {T T':Y.Tab}{h:F.Hy}(hh:q95 T h)(g:Grew T T'):zu T' h.var=zu T h.var:=by
 cases hf:h.fl with
 | true=>exact q2a (hh.sym hf) g
 | false=>rw[hh.es hf,qg5,qg5]
def q4v (T:Y.Tab)(hs:List F.Hy)(e:List Int):Prop:=∀x ∈ e,zu T x=true→∃g ∈ hs,g.fl=true∧g.var=x
def Typed (T:Y.Tab)(hs:List F.Hy):Prop:=∀h ∈ hs,h.fl=false→q4v T hs h.ex
theorem q4v.grew {T T':Y.Tab}{hs:List F.Hy}{e:List Int}(h:q4v T hs e)(he:∀x ∈ e,q57 T x)(g:Grew T T'):q4v T' hs e:=fun x hx hv=>h x hx (by rw[←q2a (he x hx) g];exact hv)
theorem q4v.more {T:Y.Tab}{hs hs':List F.Hy}{e:List Int}(h:q4v T hs e)(hh:∀x ∈ hs,x ∈ hs'):q4v T hs' e:=fun x hx hv=>by
 obtain⟨g,h1,h2⟩:=h x hx hv;exact⟨g,hh g h1,h2⟩
theorem Typed.grew {T T':Y.Tab}{hs:List F.Hy}(h:Typed T hs)(he:∀y ∈ hs,q95 T y)(g:Grew T T'):Typed T' hs:=fun y hy hf=>(h y hy hf).grew (he y hy).st.sym g
theorem Typed.snoc {T:Y.Tab}{hs:List F.Hy}{x:F.Hy}(h:Typed T hs)(hx:x.fl=false→q4v T (hs++[x]) x.ex):Typed T (hs++[x]):=fun y hy hf=>by
 rcases mAp.1 hy with hy | hy
 ·exact (h y hy hf).more fun z hz=>List.mem_append_left _ hz
 ·rw[mSg.1 hy] at hf ⊢;exact hx hf
def q54 (T:Y.Tab)(hs:List F.Hy)(goal:List Int)(x:Int):Bool:=zu T x && (goal++q93 hs).contains x
structure AlF (T:Y.Tab)(hy:List F.Hy)(a:As)(hs:List F.Hy)(ps:List F.Pp):Prop where
 act:a.active=hs.map (yu hy)
 nee:a.needed=(hs.filter fun h=>q54 T hs a.goal h.var || !h.fl).map (yu hy)
 pai:a.pairs=q04 ps
 apa:a.apart=q04 (ps.filter fun p=>q54 T hs a.goal p.1 && q54 T hs a.goal p.2)
 sub:hs.Sublist hy
 len:ps.length≤256
 pw:∀p ∈ ps,zu T p.1=true∧zu T p.2=true
 goal:q4e T a.goal
 ty:Typed T hs
 tg:q4v T hs a.goal
 pr:a.proof.length≤16384
theorem q96 {T T':Y.Tab}{hs:List F.Hy}{goal:List Int}{x:Int}(h:zu T' x=zu T x):q54 T' hs goal x=q54 T hs goal x:=by unfold q54;rw[h]
theorem q97 {hy:List F.Hy}(hn:(hy.map (·.lab)).Nodup){i:Nat}{h:F.Hy}(hi:hy[i]?=some h):q1c hy h.lab=some i:=by
 unfold q1c;rw[List.findIdx?_eq_some_iff_getElem];obtain⟨hlt,he⟩:=List.getElem?_eq_some_iff.1 hi;refine⟨hlt,by simp[he],fun j hj=>?_⟩;have hjl:j < hy.length:=by omega
 intro hc;have hc':hy[j].lab=h.lab:=by simpa using hc
 rw[←he] at hc';have h1:(hy.map (·.lab))[j]'(by simpa using hjl)=(hy.map (·.lab))[i]'(by simpa using hlt):=by simpa using hc'
 have h2:=(List.pairwise_iff_getElem.1 hn) j i (by simpa using hjl) (by simpa using hlt) hj;exact h2 h1
theorem qbf {hy:List F.Hy}(x:F.Hy)(hn:(hy.map (·.lab)).Nodup){h:F.Hy}(hh:h ∈ hy):yu (hy++[x]) h=yu hy h:=by
 obtain⟨i,hi⟩:=List.mem_iff_getElem?.1 hh;have h1:=q97 hn hi;have h2:q1c (hy++[x]) h.lab=some i:=by
  unfold q1c at h1 ⊢;rw[List.findIdx?_append,h1]
  rfl
 unfold yu;rw[h1,h2]
theorem qg6 {hy:List F.Hy}(hn:(hy.map (·.lab)).Nodup){h:F.Hy}(hh:h ∈ hy):∃i:Nat,yu hy h=i∧hy[i]?=some h:=by
 obtain⟨i,hi⟩:=List.mem_iff_getElem?.1 hh;exact⟨i,by unfold yu;rw[q97 hn hi];rfl,hi⟩
theorem AlF.more {T:Y.Tab}{hy hs:List F.Hy}{ps:List F.Pp}{a:As}(h:AlF T hy a hs ps)(hn:(hy.map (·.lab)).Nodup)(x:F.Hy):AlF T (hy++[x]) a hs ps:=by
 refine⟨?_,?_,h.pai,h.apa,h.sub.trans (List.sublist_append_left _ _),h.len,h.pw,h.goal,h.ty,h.tg,h.pr⟩
 ·rw[h.act];exact List.map_congr_left fun y hy'=>(qbf x hn (h.sub.subset hy')).symm
 ·rw[h.nee];exact List.map_congr_left fun y hy'=>(qbf x hn (h.sub.subset (List.mem_filter.1 hy').1)).symm
theorem AlF.grew {T T':Y.Tab}{hy hs:List F.Hy}{ps:List F.Pp}{a:As}(h:AlF T hy a hs ps)(hh:∀y ∈ hy,q95 T y)(g:Grew T T'):AlF T' hy a hs ps:=by
 refine⟨h.act,?_,h.pai,?_,h.sub,h.len,fun p hp=>?_,h.goal.grew g,h.ty.grew (fun y hy=>hh y (h.sub.subset hy)) g,h.tg.grew h.goal.sym g,h.pr⟩
 ·rw[h.nee]
  congr 1
  refine List.filter_congr fun y hy'=>?_
  rw[q96 ((hh y (h.sub.subset hy')).qp0 g)]
 ·rw[h.apa]
  congr 1
  refine List.filter_congr fun p hp=>?_
  rw[q96 (q2a (q41 (h.pw p hp).1) g),q96 (q2a (q41 (h.pw p hp).2) g)]
 ·rw[q2a (q41 (h.pw p hp).1) g,q2a (q41 (h.pw p hp).2) g];exact h.pw p hp
structure Fine (L:Ld):Prop where
 nd:(L.hy.map (·.lab)++L.al.map (·.label.text)).Nodup
 hyp:∀h ∈ L.hy,q95 L.T h
 ty:∀j,Typed L.T (jq (L.sc.take j))
 pw:∀p ∈ F.uq L.sc,zu L.T p.1=true∧zu L.T p.2=true
 al:∀a ∈ L.al,∃hs ps,AlF L.T L.hy a hs ps
section
variable {L L':Ld} {k:Nat} {s:Stm}
theorem Fine.tabled (h:Fine L)(hs:(jq L.sc).Sublist L.hy){T':Y.Tab}(g:Grew L.T T'):Fine { L with T:=T' } :=
 ⟨h.nd,fun y hy=>(h.hyp y hy).grew g,fun j=>(h.ty j).grew (fun y hy=>h.hyp y (hs.subset (by
  have e:jq L.sc=jq (L.sc.take j)++jq (L.sc.drop j):=by
   conv=>lhs;rw[←List.take_append_drop j L.sc]
   unfold jq
   rw[List.flatMap_append]
  rw[e]
  exact List.mem_append_left _ hy))) g,fun p hp=>by
  show zu T' p.1=true∧zu T' p.2=true
  rw[q2a (q41 (h.pw p hp).1) g,q2a (q41 (h.pw p hp).2) g]
  exact h.pw p hp,fun a ha=>by
  obtain⟨hs,ps,hA⟩:=h.al a ha
  exact⟨hs,ps,hA.grew h.hyp g⟩⟩
theorem qd2 (T:Y.Tab)(t:ByteArray)(v:Bool):Grew T (Y.q1q T t v).2.2:=by
 unfold Y.q1q
 split
 ·exact Grew.refl _
 ·exact⟨[(t,v)],rfl⟩
theorem qik (T:Y.Tab)(t:ByteArray):Grew T (Y.q09 T t).2.2:=by
 unfold Y.q09
 split
 ·exact Grew.refl _
 ·split
  ·exact Grew.refl _
  ·split
   ·exact Grew.refl _
   ·exact qd2 _ _ _
theorem qp1 (T:Y.Tab)(t:ByteArray):Grew T (Y.q3e T t).2.2:=by
 unfold Y.q3e
 split
 ·exact Grew.refl _
 ·split
  ·exact Grew.refl _
  ·split
   ·exact Grew.of_eq rfl
   ·exact qd2 _ _ _
theorem q98 {f:Y.Tab→ByteArray→Nat × Nat × Y.Tab}(hf:∀T s,Grew T (f T s).2.2):∀(ts:List Tok) (L L':Ld),Fine L→(jq L.sc).Sublist L.hy→q0k f L ts=.ok L'→Fine L'
 | [],L,L',h,_,e=>by cases e;exact h
 | t :: ts,L,L',h,hs,e=>by
  unfold q0k at e
  split at e
  ·exact q98 hf ts _ L' (h.tabled hs (hf _ _)) hs e
  ·cases e
theorem qmb {t:Tok}(hF:Fine L)(hs:(jq L.sc).Sublist L.hy)(h:q9i L t=.ok L'):Fine L':=by
 unfold q9i at h
 split at h
 ·obtain⟨h1,rfl⟩:=q05 h;have h2:¬17≤L.sc.length:=fun hh=>by unfold F.q1r at h1;rw[if_pos hh] at h1;cases h1
  have e:F.q15 L.sc=L.sc++[⟨[],[]⟩]:=by unfold F.q15;rw[if_neg h2]
  have g:Grew L.T (Y.jl L.T).2:=Grew.of_eq (by unfold Y.jl;split <;> rfl);have h3:=hF.tabled hs g;refine⟨h3.nd,h3.hyp,fun j=>?_,?_,h3.al⟩
  ·show Typed (Y.jl L.T).2 (jq ((F.q15 L.sc).take j))
   rw[e]
   by_cases hj:j≤L.sc.length
   ·rw[List.take_append_of_le_length hj];exact h3.ty j
   ·rw[List.take_of_length_le (by rw[lAp];simp;omega),q2v]
    show Typed _ (jq L.sc++[])
    rw[List.append_nil];have h4:=h3.ty L.sc.length;rw[show ({ L with T:=(Y.jl L.T).2 }:Ld).sc=L.sc from rfl,List.take_length] at h4;exact h4
  ·show ∀p ∈ F.uq (F.q15 L.sc),_
   rw[e,q26]
   show ∀p ∈ F.uq L.sc++[],_
   rw[List.append_nil];exact h3.pw
 ·cases h
theorem qil {t:Tok}(hF:Fine L)(hs:(jq L.sc).Sublist L.hy)(h:q6l L t=.ok L'):Fine L':=by
 unfold q6l at h
 split at h
 ·obtain⟨h1,rfl⟩:=q05 h;have h2:¬L.sc.length≤1:=fun hh=>by unfold F.q0q at h1;rw[if_pos hh] at h1;cases h1
  have e:F.q00 L.sc=L.sc.take (L.sc.length - 1):=by unfold F.q00;rw[if_neg h2]
  have g:Grew L.T (Y.xu L.T).2:=Grew.of_eq (by unfold Y.xu;split <;> rfl);have h3:=hF.tabled hs g;refine⟨h3.nd,h3.hyp,fun j=>?_,?_,h3.al⟩
  ·show Typed (Y.xu L.T).2 (jq ((F.q00 L.sc).take j))
   rw[e,List.take_take];exact h3.ty _
  ·show ∀p ∈ F.uq (F.q00 L.sc),_
   rw[e];intro p hp;refine h3.pw p ?_
   show p ∈ F.uq L.sc
   unfold F.uq at hp ⊢;obtain⟨a,ha,hp⟩:=List.mem_flatMap.1 hp;exact List.mem_flatMap.2 ⟨a,List.mem_of_mem_take ha,hp⟩
 ·cases h
theorem qp2 {m:List Int}{p:F.Pp}(hp:p ∈ F.q6i m):p.1 ∈ m∧p.2 ∈ m:=by
 unfold F.q6i F.q0f at hp;obtain⟨i,hi,hp⟩:=List.mem_flatMap.1 hp;obtain⟨b,hb,rfl⟩:=List.mem_map.1 hp;refine⟨?_,List.mem_of_mem_drop hb⟩
 show m.getD i 0 ∈ m
 have hi':i < m.length:=List.mem_range.1 hi;rw[List.getD_eq_getElem?_getD,gEq hi'];exact List.getElem_mem hi'
theorem qmc (hF:Fine L)(h1:1≤L.sc.length)(h:q36 L s=.ok L'):Fine L':=by
 unfold q36 at h
 cases hp:q1u L [] (q04 (F.uq L.sc)) s.words with
 | error f=>rw[hp] at h;cases h
 | ok a =>
  rw[hp] at h;dsimp only at h
  split at h
  ·obtain⟨hz,rfl⟩:=q05 h;have e0:F.q1j (isV:=zu L.T) L.sc a=F.q19 (fun b=>⟨b.hs,b.ps++F.q2s (isV:=zu L.T) L.sc a⟩) L.sc:=by unfold F.q1j;rw[if_pos hz]
   obtain⟨p,b,e1,e2⟩:=q9y (fun b=>⟨b.hs,b.ps++F.q2s (isV:=zu L.T) L.sc a⟩) h1;rw[←e0] at e2;have hv:∀x ∈ a,zu L.T x=true:=fun x hx=>by
    unfold F.q1t at hz
    split at hz
    ·cases hz
    ·rename_i hn
     cases hb:zu L.T x with
     | true=>rfl
     | false=>exact absurd (List.any_eq_true.2 ⟨x,hx,by rw[hb];rfl⟩) hn
   have hfr:∀q ∈ F.q2s (isV:=zu L.T) L.sc a,zu L.T q.1=true∧zu L.T q.2=true:=fun q hq=>by
    unfold F.q2s at hq;have hm:=qp2 (List.mem_filter.1 hq).1;have hin:∀x ∈ F.varsOf (isV:=zu L.T) a,zu L.T x=true:=fun x hx=>by
     unfold F.varsOf at hx;have h2:=(F.q34 (F.q5i (a.filter (zu L.T)))).2 x;have h3:=h2.1 hx;exact (List.mem_filter.1 ((List.mergeSort_perm _ _).mem_iff.1 h3)).2
    exact⟨hin _ hm.1,hin _ hm.2⟩
   refine⟨hF.nd,hF.hyp,fun j=>?_,?_,hF.al⟩
   ·show Typed L.T (jq ((F.q1j L.sc a).take j))
    have h2:=hF.ty j;rw[e1] at h2;rw[e2]
    by_cases hj:j≤p.length
    ·rw[List.take_append_of_le_length hj] at h2 ⊢;exact h2
    ·rw[List.take_of_length_le (by rw[lAp];simp;omega),q2v] at h2 ⊢;exact h2
   ·show ∀q ∈ F.uq (F.q1j L.sc a),_
    rw[e2,q26];intro q hq;have h3:=hF.pw q;rw[e1,q26] at h3;rcases mAp.1 hq with hq | hq
    ·exact h3 (List.mem_append_left _ hq)
    ·rcases mAp.1 hq with hq | hq
     ·exact h3 (List.mem_append_right _ hq)
     ·exact hfr q hq
  ·cases h;exact hF
theorem Fine.declared (hF:Fine L)(h1:1≤L.sc.length)(x:F.Hy)(hx:q95 L.T x)(hl:x.lab ∉ L.hy.map (·.lab)++L.al.map (·.label.text))(ht:x.fl=false→q4v L.T (jq L.sc) x.ex):Fine { L with sc:=F.q19 (fun a=>⟨a.hs++[x],a.ps⟩) L.sc,hy:=L.hy++[x] }:=by
 obtain⟨p,a,e1,e2⟩:=q9y (fun a=>⟨a.hs++[x],a.ps⟩) h1;have hn:(L.hy.map (·.lab)).Nodup:=(List.nodup_append.1 hF.nd).1;refine⟨?_,?_,fun j=>?_,?_,fun b hb=>?_⟩
 ·show ((L.hy++[x]).map (·.lab)++L.al.map (·.label.text)).Nodup
  have hp:((L.hy++[x]).map (·.lab)++L.al.map (·.label.text)).Perm (x.lab :: (L.hy.map (·.lab)++L.al.map (·.label.text))):=by
   rw[List.map_append,List.append_assoc];exact List.perm_middle
  exact hp.nodup_iff.2 (List.nodup_cons.2 ⟨hl,hF.nd⟩)
 ·intro h hh;rcases mAp.1 hh with hh | hh
  ·exact hF.hyp h hh
  ·rw[mSg.1 hh];exact hx
 ·show Typed L.T (jq ((F.q19 _ L.sc).take j))
  rw[e2];have h2:=hF.ty j;rw[e1] at h2
  by_cases hj:j≤p.length
  ·rw[List.take_append_of_le_length hj] at h2 ⊢;exact h2
  ·rw[List.take_of_length_le (by rw[lAp];simp;omega),q2v] at h2 ⊢
   show Typed L.T (jq p++(a.hs++[x]))
   rw[←List.append_assoc];refine h2.snoc fun hf=>?_
   have h3:=ht hf;rw[e1,q2v] at h3;exact h3.more fun z hz=>List.mem_append_left _ hz
 ·show ∀q ∈ F.uq (F.q19 _ L.sc),_
  rw[e2,q26];have h3:=hF.pw;rw[e1,q26] at h3;exact h3
 ·obtain⟨hs,ps,hA⟩:=hF.al b hb;exact⟨hs,ps,hA.more hn x⟩
theorem qim {t:Tok}{n:Int}(h:q40 L t=.ok n):q57 L.T n:=by
 obtain⟨m,h1,rfl⟩:=qjr h;unfold Y.q07 at h1;have h2:=(Option.filter_eq_some_iff.1 h1).1;unfold Y.numOf at h2;exact⟨m,rfl,(List.findIdx?_eq_some_iff_getElem.1 h2).1⟩
theorem qg7 {t:Tok}{n:Int}(h:q0x L t=.ok n):q57 L.T n:=by
 unfold q0x at h
 cases hs:q40 L t with
 | error f=>rw[hs] at h;cases h
 | ok m =>
  rw[hs] at h;dsimp only at h
  split at h
  ·cases h
  ·cases h;exact qim hs
theorem var_is {t:Tok}{n:Int}(h:q4c L t=.ok n):q57 L.T n:=by
 unfold q4c at h
 cases hs:q40 L t with
 | error f=>rw[hs] at h;cases h
 | ok m =>
  rw[hs] at h;dsimp only at h
  split at h
  ·cases h;exact qim hs
  ·cases h
theorem qp3 {t:Tok}{n:Int}(h:q2c L t=.ok n):q57 L.T n:=by
 unfold q2c at h
 cases hs:q40 L t with
 | error f=>rw[hs] at h;cases h
 | ok m =>
  rw[hs] at h;dsimp only at h
  split at h
  ·cases h
  ·cases h;exact qim hs
theorem qin {t:Tok}{n:Int}(h:q0r L t=.ok n):q57 L.T n:=by
 unfold q0r at h
 cases hs:q4c L t with
 | error f=>rw[hs] at h;cases h
 | ok m =>
  rw[hs] at h;dsimp only at h
  split at h
  ·cases h
  ·cases h;exact var_is hs
theorem q99:∀(ts:List Tok) (acc e:List Int),q0j L acc ts=.ok e→(∀x ∈ acc,q57 L.T x)→∀x ∈ e,q57 L.T x
 | [],acc,e,h,h1=>by cases h;exact h1
 | t :: ts,acc,e,h,h1=>by
  unfold q0j at h
  split at h
  ·cases h
  ·cases hr:(if acc.length=0 then q0x L t else q2c L t) with
   | error f=>rw[hr] at h;cases h
   | ok n =>
    rw[hr] at h;refine q99 ts _ e h fun x hx=>?_
    rcases mAp.1 hx with hx | hx
    ·exact h1 x hx
    ·rw[mSg.1 hx]
     split at hr
     ·exact qg7 hr
     ·exact qp3 hr
theorem qbg:∀(ts:List Tok) (acc e:List Int),q1l L acc ts=.ok e→(∀x ∈ acc,q57 L.T x)→∀x ∈ e,q57 L.T x
 | [],acc,e,h,h1=>by cases h;exact h1
 | t :: ts,acc,e,h,h1=>by
  unfold q1l at h
  cases hr:(if acc.length=0 then q0x L t else q0r L t) with
  | error f=>rw[hr] at h;cases h
  | ok n =>
   rw[hr] at h;refine qbg ts _ e h fun x hx=>?_
   rcases mAp.1 hx with hx | hx
   ·exact h1 x hx
   ·rw[mSg.1 hx]
    split at hr
    ·exact qg7 hr
    ·exact qin hr
theorem ty_some {l:List F.Sa}{v:Int}(h:(F.tyA l v).isSome=true):∃g ∈ jq l,g.fl=true∧g.var=v:=by
 unfold F.tyA at h;obtain⟨a,ha,h2⟩:=List.findSome?_isSome_iff.1 h;unfold F.q5f at h2;rw[Option.isSome_map] at h2;obtain⟨g,hg,h3⟩:=List.find?_isSome.1 h2;rw[Bool.and_eq_true] at h3;exact⟨g,List.mem_flatMap.2 ⟨a,ha,hg⟩,h3.1,of_decide_eq_true h3.2⟩
theorem judged {e:List Int}(h:F.uo (isV:=zu L.T) L.sc e=0)(hl:e.length≤200)(hs:∀x ∈ e,q57 L.T x):q4e L.T e∧q4v L.T (jq L.sc) e:=by
 unfold F.uo at h
 match e,hl,hs,h with
 | [],_,_,h=>cases h
 | x :: r,hl,hs,h =>
  dsimp only at h
  split at h
  ·cases h
  ·rename_i h0
   split at h
   ·cases h
   ·rename_i h1
    refine⟨⟨by simp,hl,by simpa using h0,hs⟩,fun v hv hb=>ty_some ?_⟩
    cases hq:(F.tyA L.sc v).isSome with
    | true=>rfl
    | false=>exact absurd (List.any_eq_true.2 ⟨v,hv,by rw[hb,Option.isSome_eq_false_iff.1 hq];rfl⟩) h1
theorem qio (hF:Fine L)(hO:L.Ok k)(hl:s.label.text ∉ L.hy.map (·.lab)++L.al.map (·.label.text))(h2:q0i s.fin=true→s.words.length=2)(h:q20 L s=.ok L'):Fine L':=by
 unfold q20 at h
 cases hp:q1l L [] s.words with
 | error f=>rw[hp] at h;cases h
 | ok e =>
  rw[hp] at h;dsimp only at h
  split at h
  ·rename_i he
   obtain⟨h1,rfl⟩:=q05 h;obtain⟨_,hlen⟩:=q74 hO.q3n s.words [] e hp (fun x hx=>by cases hx);have hsy:=qbg s.words [] e hp (fun x hx=>by cases hx);rw[h2 he] at hlen;obtain⟨x,y,rfl⟩:∃x y,e=[x,y]:=by
    match e,hlen with
    | [x,y],_=>exact⟨x,y,rfl⟩
   have h1':F.q0o (isV:=zu L.T) L.sc x y=0:=h1;have e0:F.q0e (isV:=zu L.T) L.sc s.label.text x y=F.q19 (fun a=>⟨a.hs++[⟨s.label.text,true,y,[x,y]⟩],a.ps⟩) L.sc:=by unfold F.q0e;rw[if_pos h1']
   have hy:zu L.T y=true∧zu L.T x=false:=by
    unfold F.q0o at h1'
    split at h1'
    ·cases h1'
    ·rename_i ha
     split at h1'
     ·cases h1'
     ·rename_i hb
      exact⟨by simpa using ha,by simpa using hb⟩
   have h5:=hF.declared hO.sc1 ⟨s.label.text,true,y,[x,y]⟩ ⟨⟨by simp,by simp,hy.2,hsy⟩,(fun _=>⟨⟨x,rfl⟩,hy.1⟩),(fun e=>by cases e)⟩ hl (fun e=>by cases e);rw[←e0] at h5;exact h5
  ·cases h;exact hF
theorem qp4 (hF:Fine L)(hO:L.Ok k)(hl:s.label.text ∉ L.hy.map (·.lab)++L.al.map (·.label.text))(h:q7g L s=.ok L'):Fine L':=by
 unfold q7g at h
 cases hp:q0j L [] s.words with
 | error f=>rw[hp] at h;cases h
 | ok e =>
  rw[hp] at h;dsimp only at h
  split at h
  ·obtain⟨h1,rfl⟩:=q05 h;obtain⟨_,hlen,_⟩:=q5o hO.q3n s.words [] e hp (fun x hx=>by cases hx) (by simp);have hsy:=q99 s.words [] e hp (fun x hx=>by cases hx);have e0:F.q4x (isV:=zu L.T) L.sc s.label.text e=F.q19 (fun a=>⟨a.hs++[⟨s.label.text,false,-1,e⟩],a.ps⟩) L.sc:=by unfold F.q4x;rw[if_pos h1]
   obtain⟨j1,j2⟩:=judged h1 hlen hsy;have h5:=hF.declared hO.sc1 ⟨s.label.text,false,-1,e⟩ ⟨j1,(fun e=>by cases e),(fun _=>rfl)⟩ hl (fun _=>j2);rw[←e0] at h5;exact h5
  ·cases h;exact hF
theorem qg8 (hF:Fine L)(hO:L.Ok k)(hl:s.label.text ∉ L.hy.map (·.lab)++L.al.map (·.label.text))(hpr:s.proof.length≤16384)(h:q1o L s=.ok L'):Fine L':=by
 unfold q1o at h
 cases hp:q0j L [] s.words with
 | error f=>rw[hp] at h;cases h
 | ok e =>
  rw[hp] at h;dsimp only at h
  split at h
  ·obtain⟨h1,rfl⟩:=q05 h;obtain⟨_,hlen,_⟩:=q5o hO.q3n s.words [] e hp (fun x hx=>by cases hx) (by simp);have hsy:=q99 s.words [] e hp (fun x hx=>by cases hx);obtain⟨j1,j2⟩:=judged h1 hlen hsy;refine⟨?_,hF.hyp,hF.ty,hF.pw,fun a ha=>?_⟩
   ·show (L.hy.map (·.lab)++(L.al++[q6m L s e]).map (·.label.text)).Nodup
    have hp:(L.hy.map (·.lab)++(L.al++[q6m L s e]).map (·.label.text)).Perm (s.label.text :: (L.hy.map (·.lab)++L.al.map (·.label.text))):=by
     rw[List.map_append,←List.append_assoc];exact (List.perm_append_comm).trans (List.Perm.refl _)
    exact hp.nodup_iff.2 (List.nodup_cons.2 ⟨hl,hF.nd⟩)
   ·rcases mAp.1 ha with ha | ha
    ·exact hF.al a ha
    ·rw[mSg.1 ha];have hty:=hF.ty L.sc.length;rw[List.take_length] at hty;exact⟨jq L.sc,F.uq L.sc,rfl,rfl,rfl,rfl,hO.sub,hO.ps,hF.pw,j1,hty,j2,hpr⟩
  ·cases h;exact hF
theorem qmd (hF:Fine L)(hO:L.Ok k)(hs:SOk s)(hpr:s.proof.length≤16384)(h:qp L s=.ok L'):Fine L':=by
 unfold qp at h
 cases hl:q4t L s.label with
 | error f=>rw[hl] at h;cases h
 | ok L1 =>
  rw[hl] at h;dsimp only at h;obtain⟨hO1,_⟩:=qg4 hO hl;obtain⟨hF1,hfr⟩:Fine L1∧(q0i s.label=true→s.label.text ∉ L1.hy.map (·.lab)++L1.al.map (·.label.text)):=by
   unfold q4t at hl
   split at hl
   ·obtain⟨h1,rfl⟩:=q05 hl;have h2:(Y.zn L.T s.label.text).1=0:=by omega
    obtain⟨e1,e2⟩:=q6r h2;refine⟨hF.tabled hO.sub (Grew.of_eq (by rw[e2];rfl)),fun _ hc=>?_⟩;have hm:s.label.text ∈ L.T.labels:=hO.labs _ (mAp.1 hc);unfold Y.q2f at e1;have:=List.findIdx?_eq_none_iff.1 e1 _ hm
    simp at this
   ·rename_i hn
    cases hl;exact⟨hF,fun he=>absurd he hn⟩
  unfold jd at h
  split at h
  ·exact qmb hF1 hO1.sub h
  ·split at h
   ·exact qil hF1 hO1.sub h
   ·split at h
    ·unfold q3m at h
     split at h
     ·cases h
     ·exact q98 qik s.words L1 L' hF1 hO1.sub h
    ·split at h
     ·exact q98 qp1 s.words L1 L' hF1 hO1.sub h
     ·split at h
      ·exact qmc hF1 hO1.sc1 h
      ·split at h
       ·rename_i hk
        exact qio hF1 hO1 (hfr (hs.lab (.inl hk))) (fun he=>(hs.two hk).2 he) h
       ·split at h
        ·rename_i hk
         exact qp4 hF1 hO1 (hfr (hs.lab (.inr (.inl hk)))) h
        ·split at h
         ·rename_i hk
          exact qg8 hF1 hO1 (hfr (hs.lab (.inr (.inr hk)))) hpr h
         ·cases h;exact hF1
end
theorem fine0:Fine ld0:=by
 refine⟨List.nodup_nil,(fun h hh=>by cases hh),fun j=>?_,(fun p hp=>by cases hp),(fun a ha=>by cases ha)⟩;have e:jq (ld0.sc.take j)=[]:=by
  show jq (List.take j [⟨[],[]⟩])=[]
  cases j with
  | zero=>rfl
  | succ j=>rw[List.take_succ_cons,List.take_nil];rfl
 rw[e];intro h hh
 cases hh
theorem qg9:∀(l:List Stm) (L L':Ld) (k:Nat),Fine L→L.Ok k→(∀s ∈ l,SOk s∧s.words.length≤16384∧s.proof.length≤16384)→q0a L l=.ok L'→Fine L'∧L'.Ok (k + 60000 * l.length)
 | [],L,L',k,hF,hO,_,h=>by
  cases h;exact⟨hF,hO⟩
 | s :: r,L,L',k,hF,hO,hs,h=>by
  unfold q0a at h
  cases ht:qp L s with
  | error f=>rw[ht] at h;cases h
  | ok L1 =>
   rw[ht] at h;obtain⟨s1,s2,s3⟩:=hs s (by simp);have h1:=qmd hF hO s1 s3 ht;have h2:=qd1 hO ⟨s1.lab,fun e he=>(s1.two e).2 he⟩ s1.ls s2 ht;obtain⟨h3,h4⟩:=qg9 r L1 L' _ h1 h2 (fun x hx=>hs x (by simp[hx])) h;exact⟨h3,h4.up (by rw[List.length_cons];omega)⟩
theorem ok0:Ld.Ok ld0 0:=by
 refine⟨⟨by decide,by decide,by decide,(fun p hp=>by cases hp),List.nodup_nil,(fun n hn=>by cases hn),(fun l hl=>by cases hl),(fun l hl=>by cases hl)⟩,by decide,by decide,by decide,List.Sublist.refl _,(fun h hh=>by cases hh),by decide,(fun p hp=>by cases hp),?_⟩;rintro s (h | h) <;> cases h
theorem q9a {txt:ByteArray}{L:Ld}(h:q2t txt=.ok L):Fine L∧L.Ok 1000000000:=by
 unfold q2t at h
 cases hr:q0a ld0 (S.q1h txt).1.l with
 | error f=>rw[hr] at h;cases h
 | ok L1 =>
  rw[hr] at h;dsimp only at h;obtain⟨r1,r2⟩:=q9z txt;obtain⟨h1,h2⟩:=qg9 _ _ _ 0 fine0 ok0 r2 hr
  cases hf:(S.q1h txt).2 with
  | some f=>rw[hf] at h;cases h
  | none =>
   rw[hf] at h;dsimp only at h
   split at h
   ·cases h
   ·cases h;exact⟨h1,h2.up (by omega)⟩
open Go.RowKit Go.Maps Go.WideMaps
open F (jr jh HyC Pp je q4j q6w zq)
def yg (l:List HyC):List Int:=l.flatMap fun y=>if y.h.fl=true then [y.h.var] else []
def gu (goal:List Int)(us:List HyC)(y:HyC):Bool:=!y.h.fl || q3f (goal++je us) y.h.var
def q42 (l:List Int)(p:Pp):Bool:=q3f l p.1 && q3f l p.2
structure qga (T:Y.Tab)(a:As)(ts us:List HyC):Prop where
 f:ts.map (·.h)=(us.filter (gu a.goal us)).map (·.h)
 p:∀q ∈ a.pairs,q.1 < q.2∧zu T q.1=true∧zu T q.2=true
 o:a.pairs.Pairwise F.ltP
 m:a.apart=a.pairs.filter (q42 (yg (us.filter (gu a.goal us))))
 v:∀x ∈ a.goal++je us,zu T x=true→q3f (yg (us.filter (gu a.goal us))) x=true
 e:∀y ∈ us,y.h.ex.length≤200
 l:a.goal.length≤200∧us.length≤1024∧a.pairs.length≤1048576
theorem qk2 (us:List HyC)(h:∀y ∈ us,y.h.ex.length≤200):(je us).length≤200 * us.length:=by
 induction us with
 | nil=>exact Nat.le_refl _
 | cons y r ih =>
  have e:je (y :: r)=(if y.h.fl=true then [] else y.h.ex)++je r:=rfl;have h1:=h y (by simp);have h2:=ih fun z hz=>h z (by simp[hz])
  have h3:(if y.h.fl=true then [] else y.h.ex).length≤200:=by
   split
   ·exact Nat.zero_le _
   ·exact h1
  rw[e,lAp,List.length_cons];omega
theorem qdy {α:Type}(F:α→Bool){l:List α}{i:Nat}{y:α}(h:l[i]?=some y)(hF:F y=true):(l.filter F)[((l.take i).filter F).length]?=some y:=by
 obtain⟨hlt,he⟩:=List.getElem?_eq_some_iff.1 h;have e:l.take i++y :: l.drop (i + 1)=l:=by rw[←he,←List.drop_eq_getElem_cons hlt,List.take_append_drop]
 have e2:l.filter F=(l.take i).filter F++y :: (l.drop (i + 1)).filter F:=by
  conv=>lhs;rw[←e,List.filter_append,List.filter_cons_of_pos hF]
 rw[e2,List.getElem?_append_right (Nat.le_refl _),Nat.sub_self]
 rfl
theorem q75 {α:Type}(F:α→Bool){l:List α}{i:Nat}{y:α}(h:l[i]?=some y):(l.take (i + 1)).filter F=(l.take i).filter F++if F y=true then [y] else []:=by
 rw[List.take_add_one,h,List.filter_append,Option.toList_some];rw[List.filter_cons,List.filter_nil]
theorem qgb (l m:List HyC):yg (l++m)=yg l++yg m:=by unfold yg;rw[List.flatMap_append]
theorem mine_le (l:List HyC):(yg l).length≤l.length:=by
 induction l with
 | nil=>exact Nat.le_refl _
 | cons y r ih =>
  have e:yg (y :: r)=(if y.h.fl=true then [y.h.var] else [])++yg r:=rfl;rw[e,lAp,List.length_cons]
  split <;> simp <;> omega
open F (HyC Pp je)
theorem putP_le (l:List Pp)(p:Pp):(q92 l p).length≤l.length + 1:=by
 induction l with
 | nil=>exact Nat.le_refl _
 | cons q l ih =>
  unfold q92
  split
  ·exact Nat.le_succ _
  ·split
   ·exact Nat.le_refl _
   ·rw[List.length_cons,List.length_cons];omega
theorem qbh (l:List Pp):(q04 l).length≤l.length:=by
 have h:∀(l a:List Pp),(l.foldl (fun a p=>q92 a (F.jy p)) a).length≤a.length + l.length:=by
  intro l
  induction l with
  | nil=>intro a;exact Nat.le_refl _
  | cons p l ih =>
   intro a;have h1:=ih (q92 a (F.jy p));have h2:=putP_le a (F.jy p);rw[List.foldl_cons,List.length_cons];omega
 have h1:=h (l.filter fun p=>!(p.1 == p.2)) [];have h2:=List.length_filter_le (fun p:Pp=>!(p.1 == p.2)) l;unfold q04;rw[List.length_nil] at h1;omega
theorem qme {hy:List F.Hy}(hn:(hy.map (·.lab)).Nodup){h:F.Hy}(hh:h ∈ hy):q3b hy (yu hy h)=h:=by
 obtain⟨i,e,hi⟩:=qg6 hn hh;rw[e];unfold q3b;rw[Int.toNat_natCast,List.getD_eq_getElem?_getD,hi]
 rfl
theorem q60 {hy:List F.Hy}(hn:(hy.map (·.lab)).Nodup){hs:List F.Hy}(hh:∀h ∈ hs,h ∈ hy):(hs.map (yu hy)).map (q3b hy)=hs:=by
 rw[List.map_map]
 conv=>rhs;rw[←List.map_id hs]
 exact List.map_congr_left fun h hm=>qme hn (hh h hm)
theorem qdz (us:List HyC):je us=q93 (us.map (·.h)):=by
 unfold je q93;rw[List.flatMap_map]
theorem qp5 {l:List HyC}{x:Int}:q3f (yg l) x=true↔∃y ∈ l,y.h.fl=true∧y.h.var=x:=by
 unfold q3f yg;rw[List.contains_iff_mem,List.mem_flatMap];constructor
 ·rintro⟨y,hy,hx⟩
  cases hf:y.h.fl with
  | true=>rw[hf,if_pos rfl] at hx;exact⟨y,hy,hf,(mSg.1 hx).symm⟩
  | false=>rw[hf,if_neg (by simp)] at hx;cases hx
 ·rintro⟨y,hy,hf,rfl⟩;exact⟨y,hy,by rw[hf,if_pos rfl];exact mSg.2 rfl⟩
theorem ess_mem {hs:List F.Hy}{x:Int}:x ∈ q93 hs↔∃h ∈ hs,h.fl=false∧x ∈ h.ex:=by
 unfold q93;rw[List.mem_flatMap];constructor
 ·rintro⟨y,hy,hx⟩
  cases hf:y.fl with
  | true=>rw[hf,if_pos rfl] at hx;cases hx
  | false=>rw[hf,if_neg (by simp)] at hx;exact⟨y,hy,hf,hx⟩
 ·rintro⟨y,hy,hf,hx⟩;exact⟨y,hy,by rw[hf,if_neg (by simp)];exact hx⟩
theorem q89 {T:Y.Tab}{hy:List F.Hy}{a:As}{hs:List F.Hy}{ps:List Pp}{us:List HyC}(hA:AlF T hy a hs ps)(hu:us.map (·.h)=hs){x:Int}(hx:zu T x=true):q3f (yg (us.filter (gu a.goal us))) x=(a.goal++je us).contains x:=by
 rw[Bool.eq_iff_iff,qp5,List.contains_iff_mem];constructor
 ·rintro⟨y,hm,hf,rfl⟩;have h2:=(List.mem_filter.1 hm).2;unfold gu q3f at h2;rw[hf] at h2;exact List.contains_iff_mem.1 (by simpa using h2)
 ·intro hm;have h1:∃g ∈ hs,g.fl=true∧g.var=x:=by
   rcases mAp.1 hm with h | h
   ·exact hA.tg x h hx
   ·rw[qdz,hu] at h;obtain⟨g,hg,hf,hxx⟩:=ess_mem.1 h;exact hA.ty g hg hf x hxx hx
  obtain⟨g,hg,hf,hv⟩:=h1;rw[←hu] at hg;obtain⟨y,hy',rfl⟩:=List.mem_map.1 hg;refine⟨y,List.mem_filter.2 ⟨hy',?_⟩,hf,hv⟩;unfold gu q3f;rw[hf,hv,List.contains_iff_mem.2 hm]
  rfl
theorem q8a {T:Y.Tab}{hs:List F.Hy}{goal:List Int}{us:List HyC}(hu:us.map (·.h)=hs){x:Int}(hx:zu T x=true):q54 T hs goal x=(goal++je us).contains x:=by
 unfold q54;rw[hx,qdz,hu,Bool.true_and]
theorem qgc {T:Y.Tab}{r q:Pp}(h:zu T r.1=true∧zu T r.2=true)(e:F.jy r=q):zu T q.1=true∧zu T q.2=true:=by
 subst e;unfold F.jy;rcases Int.le_total r.1 r.2 with h1 | h1
 ·rw[Int.min_eq_left h1,Int.max_eq_right h1];exact h
 ·rw[Int.min_eq_right h1,Int.max_eq_left h1];exact⟨h.2,h.1⟩
theorem qd3 {F1:Int→Bool}{r q:Pp}(e:F.jy r=q):(F1 q.1 && F1 q.2)=(F1 r.1 && F1 r.2):=by
 subst e;unfold F.jy;rcases Int.le_total r.1 r.2 with h1 | h1
 ·rw[Int.min_eq_left h1,Int.max_eq_right h1]
 ·rw[Int.min_eq_right h1,Int.max_eq_left h1,Bool.and_comm]
theorem need_of {L:Ld}(hF:Fine L)(hl:L.hy.length≤1024){a:As}{hs:List F.Hy}{ps:List Pp}(hA:AlF L.T L.hy a hs ps){ts us:List HyC}(ht:ts.map (·.h)=a.needed.map (q3b L.hy))(hu':us.map (·.h)=a.active.map (q3b L.hy)):qga L.T a ts us:=by
 have hn:(L.hy.map (·.lab)).Nodup:=(List.nodup_append.1 hF.nd).1;have hu:us.map (·.h)=hs:=by rw[hu',hA.act,q60 hn fun h hh=>hA.sub.subset hh]
 have hin:∀y ∈ us,y.h ∈ L.hy:=fun y hy=>hA.sub.subset (by rw[←hu];exact List.mem_map_of_mem hy)
 have hpn:=qb3 ps;have hps:∀q ∈ a.pairs,zu L.T q.1=true∧zu L.T q.2=true:=fun q hq=>by
  rw[hA.pai] at hq;obtain⟨_,r,hr,e⟩:=(hpn.mem q).1 hq;exact qgc (hA.pw r hr) e
 refine⟨?_,?_,?_,?_,?_,?_,?_⟩
 ·rw[ht,hA.nee,q60 hn fun h hh=>hA.sub.subset (List.mem_filter.1 hh).1,←hu,List.filter_map]
  congr 1
  refine List.filter_congr fun y hy=>?_
  show (q54 L.T (us.map (·.h)) a.goal y.h.var || !y.h.fl)=gu a.goal us y
  unfold gu q3f
  cases hf:y.h.fl with
  | false=>simp
  | true=>rw[q8a rfl ((hF.hyp _ (hin y hy)).fl hf).2];simp
 ·intro q hq;have h1:=hps q hq;rw[hA.pai] at hq;exact⟨((hpn.mem q).1 hq).1,h1⟩
 ·rw[hA.pai];exact hpn.up
 ·rw[hA.apa]
  symm
  refine norm_eq ⟨?_,fun q=>?_⟩
  ·rw[hA.pai];exact hpn.up.filter _
  ·rw[List.mem_filter];constructor
   ·rintro⟨hq,hb⟩;have hv:=hps q hq;rw[hA.pai] at hq;obtain⟨hlt,r,hr,e⟩:=(hpn.mem q).1 hq;refine⟨hlt,r,List.mem_filter.2 ⟨hr,?_⟩,e⟩;unfold q42 at hb;rw[q89 hA hu hv.1,q89 hA hu hv.2,←q8a (T:=L.T) hu hv.1,←q8a (T:=L.T) hu hv.2] at hb;rw[←qd3 (F1:=q54 L.T hs a.goal) e];exact hb
   ·rintro⟨hlt,r,hr,e⟩;obtain⟨hr,hb⟩:=List.mem_filter.1 hr;have hv:=qgc (hA.pw r hr) e;refine⟨by rw[hA.pai];exact (hpn.mem q).2 ⟨hlt,r,hr,e⟩,?_⟩;unfold q42;rw[q89 hA hu hv.1,q89 hA hu hv.2,←q8a (T:=L.T) hu hv.1,←q8a (T:=L.T) hu hv.2,qd3 (F1:=q54 L.T hs a.goal) e];exact hb
 ·intro x hx hv;rw[q89 hA hu hv];exact List.contains_iff_mem.2 hx
 ·intro y hy;exact (hF.hyp _ (hin y hy)).st.le
 ·refine⟨hA.goal.le,?_,?_⟩
  ·have h1:=congrArg List.length hu;rw[lMa] at h1;have h2:=hA.sub.length_le;omega
  ·rw[hA.pai];have h1:=qbh ps;have h2:=hA.len;omega
structure qp6 (L:Ld)(i:Nat)(a:As):Prop where
 inn:qi7 L.hy a
 fnd:q2h L.al a.label.text=some i
 hyp:q1c L.hy a.label.text=none
 siz:a.label.text.size≤maxLen
 goal:q4e L.T a.goal
 ned:∀ts us:List HyC,ts.map (·.h)=a.needed.map (q3b L.hy)→us.map (·.h)=a.active.map (q3b L.hy)→qga L.T a ts us
 mem:∀us:List HyC,us.map (·.h)=a.active.map (q3b L.hy)→∀y ∈ us,q95 L.T y.h∧(∃n,q1c L.hy y.h.lab=some n∧L.hy[n]?=some y.h)∧y.h.lab.size≤maxLen
 beh:∀ts us:List HyC,ts.map (·.h)=a.needed.map (q3b L.hy)→us.map (·.h)=a.active.map (q3b L.hy)→(us.filter (q61 L.T a.goal us)).map (·.h)=ts.map (·.h)
section
variable {L L':Ld} {s:Stm}
theorem qe0 {f:Y.Tab→ByteArray→Nat × Nat × Y.Tab}:∀(ts:List Tok) (L L':Ld),q0k f L ts=.ok L'→L'.al=L.al
 | [],L,L',e=>by cases e;rfl
 | t :: ts,L,L',e=>by
  unfold q0k at e
  split at e
  ·exact (qe0 ts _ L' e).trans rfl
  ·cases e
theorem take_al (h:qp L s=.ok L'):L'.al=L.al∨∃L1 g,L'.al=L.al++[q6m L1 s g]:=by
 unfold qp at h
 cases hl:q4t L s.label with
 | error f=>rw[hl] at h;cases h
 | ok L1 =>
  rw[hl] at h;dsimp only at h;have e1:L1.al=L.al:=by
   unfold q4t at hl
   split at hl
   ·obtain⟨_,rfl⟩:=q05 hl;rfl
   ·cases hl;rfl
  rw[←e1];unfold jd at h
  split at h
  ·unfold q9i at h
   split at h
   ·obtain⟨_,rfl⟩:=q05 h;exact .inl rfl
   ·cases h
  ·split at h
   ·unfold q6l at h
    split at h
    ·obtain⟨_,rfl⟩:=q05 h;exact .inl rfl
    ·cases h
   ·split at h
    ·unfold q3m at h
     split at h
     ·cases h
     ·exact .inl (qe0 _ _ _ h)
    ·split at h
     ·exact .inl (qe0 _ _ _ h)
     ·split at h
      ·unfold q36 at h
       split at h
       ·split at h
        ·obtain⟨_,rfl⟩:=q05 h;exact .inl rfl
        ·cases h;exact .inl rfl
       ·cases h
      ·split at h
       ·unfold q20 at h
        split at h
        ·split at h
         ·obtain⟨_,rfl⟩:=q05 h;exact .inl rfl
         ·cases h;exact .inl rfl
        ·cases h
       ·split at h
        ·unfold q7g at h
         split at h
         ·split at h
          ·obtain⟨_,rfl⟩:=q05 h;exact .inl rfl
          ·cases h;exact .inl rfl
         ·cases h
        ·split at h
         ·unfold q1o at h
          split at h
          ·split at h
           ·obtain⟨_,rfl⟩:=q05 h;exact .inr ⟨L1,_,rfl⟩
           ·cases h;exact .inl rfl
          ·cases h
         ·cases h;exact .inl rfl
end
theorem qp7:∀(l:List Stm) (L L':Ld),(∀s ∈ l,s.label.text.size≤65536)→(∀a ∈ L.al,a.label.text.size≤65536)→q0a L l=.ok L'→∀a ∈ L'.al,a.label.text.size≤65536
 | [],L,L',_,h,e=>by cases e;exact h
 | s :: r,L,L',hs,h,e=>by
  unfold q0a at e
  cases ht:qp L s with
  | error f=>rw[ht] at e;cases e
  | ok L1 =>
   rw[ht] at e;refine qp7 r L1 L' (fun x hx=>hs x (by simp[hx])) (fun a ha=>?_) e;rcases take_al ht with h1 | ⟨L2,g,h1⟩
   ·rw[h1] at ha;exact h a ha
   ·rw[h1] at ha;rcases mAp.1 ha with ha | ha
    ·exact h a ha
    ·rw[mSg.1 ha];exact hs s (by simp)
theorem load_al {txt:ByteArray}{L:Ld}(h:q2t txt=.ok L):∀a ∈ L.al,a.label.text.size≤65536:=by
 unfold q2t at h
 cases hr:q0a ld0 (S.q1h txt).1.l with
 | error f=>rw[hr] at h;cases h
 | ok L1 =>
  rw[hr] at h;dsimp only at h;have h1:=qp7 _ _ _ (fun s hs=>((q9z txt).2 s hs).1.ls) (fun a ha=>by cases ha) hr
  cases hf:(S.q1h txt).2 with
  | some f=>rw[hf] at h;cases h
  | none =>
   rw[hf] at h;dsimp only at h
   split at h
   ·cases h
   ·cases h;exact h1
theorem qmf {al:List As}(hn:(al.map (·.label.text)).Nodup){i:Nat}{a:As}(hi:al[i]?=some a):q2h al a.label.text=some i:=by
 unfold q2h;rw[List.findIdx?_eq_some_iff_getElem];obtain⟨hlt,he⟩:=List.getElem?_eq_some_iff.1 hi;refine⟨hlt,by simp[he],fun j hj=>?_⟩;have hjl:j < al.length:=by omega
 intro hc;have hc':al[j].label.text=a.label.text:=by simpa using hc
 rw[←he] at hc';have h1:(al.map (·.label.text))[j]'(by simpa using hjl)=(al.map (·.label.text))[i]'(by simpa using hlt):=by simpa using hc'
 have h2:=(List.pairwise_iff_getElem.1 hn) j i (by simpa using hjl) (by simpa using hlt) hj;exact h2 h1
theorem good_a {txt:ByteArray}{L:Ld}(h:q2t txt=.ok L){i:Nat}{a:As}(hi:L.al[i]?=some a):qp6 L i a:=by
 obtain⟨hF,hO⟩:=q9a h;have ha:a ∈ L.al:=mGe hi;obtain⟨hs,ps,hA⟩:=hF.al a ha;obtain⟨hn1,hn2,hn3⟩:=List.nodup_append.1 hF.nd;have hl1:=hO.hy1;have hl:L.hy.length≤1024:=by omega
 have hz:=load_al h a ha;have hact:∀us:List HyC,us.map (·.h)=a.active.map (q3b L.hy)→us.map (·.h)=hs:=fun us hu=>by rw[hu,hA.act,q60 hn1 fun h hh=>hA.sub.subset hh]
 have hlen:=hA.sub.length_le;have hpl:=qbh ps;have hap:a.apart.length≤ps.length:=by
  rw[hA.apa];exact nLt (qbh _) (List.length_filter_le _ _)
 have hpa:a.pairs.length≤ps.length:=by rw[hA.pai];exact hpl
 have h256:=hA.len;have hg:=hA.goal.le;have hpr:=hA.pr;have hin:∀p ∈ hs.map (yu L.hy),∃i:Nat,p=i∧i < L.hy.length:=fun p hp=>by
  obtain⟨g,hg,rfl⟩:=List.mem_map.1 hp;obtain⟨j,e,hj⟩:=qg6 hn1 (hA.sub.subset hg);exact⟨j,e,(List.getElem?_eq_some_iff.1 hj).1⟩
 refine⟨⟨by omega,⟨?_,?_⟩,by omega,⟨?_,?_⟩,by omega,by omega,fun y hy=>nLt (hO.ex y hy).1 (by decide)⟩,qmf hn2 hi,?_,nLt hz (by decide),hA.goal,fun ts us ht hu=>need_of hF hl hA ht hu,?_,?_⟩
 ·rw[hA.nee,lMa];have h2:=List.length_filter_le (fun h=>q54 L.T hs a.goal h.var || !h.fl) hs;omega
 ·intro p hp;rw[hA.nee] at hp;obtain⟨g,hg,e⟩:=List.mem_map.1 hp;exact hin p (List.mem_map.2 ⟨g,(List.mem_filter.1 hg).1,e⟩)
 ·rw[hA.act,lMa];omega
 ·rw[hA.act];exact hin
 ·unfold q1c;rw[List.findIdx?_eq_none_iff];intro y hy;have:=hn3 y.lab (List.mem_map_of_mem hy) a.label.text (List.mem_map_of_mem ha)
  simpa using this
 ·intro us hu y hy;have hm:y.h ∈ L.hy:=hA.sub.subset (by rw[←hact us hu];exact List.mem_map_of_mem hy);obtain⟨j,hj⟩:=List.mem_iff_getElem?.1 hm;exact⟨hF.hyp _ hm,⟨j,q97 hn1 hj,hj⟩,nLt (hO.ex _ hm).2.2.2 (by decide)⟩
 ·intro ts us ht hu;rw[ht,hA.nee,q60 hn1 fun h hh=>hA.sub.subset (List.mem_filter.1 hh).1,←hact us hu,List.filter_map]
  congr 1
  refine List.filter_congr fun y hy=>?_
  show q61 L.T a.goal us y=(q54 L.T (us.map (·.h)) a.goal y.h.var || !y.h.fl)
  unfold q61 q54;rw[qdz]
theorem named {txt:ByteArray}{L:Ld}(h:q2t txt=.ok L){n:Nat}(hn:n < L.T.syms.length):Y.numOf L.T.syms (q48 L.T n)=some n∧(q48 L.T n).size≤maxLen:=by
 obtain⟨_,hO⟩:=q9a h;have e0:L.T.syms[n]?=some L.T.syms[n]:=gEq hn;have e:q48 L.T n=(L.T.syms[n]).1:=by
  unfold q48 Y.q2w Y.nameOf;rw[if_pos (Int.natCast_nonneg n),Int.toNat_natCast,e0]
  rfl
 have hm:L.T.syms[n] ∈ L.T.syms:=List.getElem_mem hn;refine⟨?_,?_⟩
 ·rw[e];unfold Y.numOf;rw[List.findIdx?_eq_some_iff_getElem];refine⟨hn,by simp,fun j hj=>?_⟩;have hjl:j < L.T.syms.length:=by omega
  intro hc;have hc':L.T.syms[j].1=L.T.syms[n].1:=by simpa using hc
  have h1:(L.T.syms.map (·.1))[j]'(by simpa using hjl)=(L.T.syms.map (·.1))[n]'(by simpa using hn):=by simpa using hc'
  exact (List.pairwise_iff_getElem.1 hO.tab.nodup) j n (by simpa using hjl) (by simpa using hn) hj h1
 ·rw[e];exact nLt (Y.made_size (hO.tab.names _ hm)) (by decide)
end B
end Go.Proofs.YtbancemhfjjmlaaGreatDoor
