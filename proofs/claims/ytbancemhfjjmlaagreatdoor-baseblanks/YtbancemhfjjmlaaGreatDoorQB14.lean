/- Laid together. -/
import Derived.Test.YtbancemhfjjmlaaGreatDoorQB13
set_option maxRecDepth 100000
set_option maxHeartbeats 32000000
namespace Go.Proofs.YtbancemhfjjmlaaGreatDoor
namespace B
open Go.RowKit
open S (Tok Stm)
theorem qh0 (T:Y.Tab):(Y.jf T).2.labels=T.labels:=by unfold Y.jf;split <;> rfl
theorem qdn (T:Y.Tab):(Y.xk T).2.labels=T.labels:=by unfold Y.xk;split <;> rfl
theorem qh1 (T:Y.Tab)(s:ByteArray)(v:Bool):(Y.q1v T s v).2.2.labels=T.labels:=by unfold Y.q1v;split <;> rfl
theorem qnp (T:Y.Tab)(s:ByteArray):(Y.q0b T s).2.2.labels=T.labels:=by
 unfold Y.q0b
 split
 ·rfl
 ·split
  ·rfl
  ·split
   ·rfl
   ·exact qh1 _ _ _
theorem lab_var (T:Y.Tab)(s:ByteArray):(Y.q3g T s).2.2.labels=T.labels:=by
 unfold Y.q3g
 split
 ·rfl
 ·split
  ·rfl
  ·split
   ·rfl
   ·exact qh1 _ _ _
section
variable {L L':Ld} {k k':Nat} {s:Stm}
theorem Ld.Ok.tabled {T':Y.Tab}(h:L.Ok k)(hT:T'.Ok k')(hl:T'.labels=L.T.labels):Ld.Ok { L with T:=T' } k' :=
 ⟨hT,h.sc1,h.sc2,by show _≤T'.labels.length;rw[hl];exact h.hyl,h.sub,h.ex,h.ps,h.pw,fun s hs=>by show s ∈ T'.labels;rw[hl];exact h.labs s hs⟩
theorem q9i {f:Y.Tab→ByteArray→Nat × Nat × Y.Tab}(hf:∀T s k,Y.Tab.Ok T k→(f T s).2.2.Ok (k + 2)∧(f T s).2.2.labels=T.labels):∀(ts:List Tok) (L L':Ld) (k:Nat),L.Ok k→q0l f L ts=.ok L'→L'.Ok (k + 2 * ts.length)
 | [],L,L',k,h,e=>by
  cases e;exact h.up (by omega)
 | t :: ts,L,L',k,h,e=>by
  unfold q0l at e
  split at e
  ·have h2:=hf L.T t.text k h.tab;exact (q9i hf ts _ L' (k + 2) (h.tabled h2.1 h2.2) e).up (by rw[List.length_cons];omega)
  ·cases e
theorem qag (f:F.Sa→F.Sa){l:List F.Sa}(h:1≤l.length):∃p a,l=p++[a]∧F.q1c f l=p++[f a]:=by
 have hne:l≠[]:=by rintro rfl;simp at h
 obtain⟨p,a,e⟩:∃p a,l=p++[a]:=⟨_,_,(List.dropLast_concat_getLast hne).symm⟩;subst e;exact⟨p,a,rfl,F.q52 f p a⟩
theorem q2r (p:List F.Sa)(a:F.Sa):jl (p++[a])=jl p++a.hs:=by unfold jl;simp
theorem q26 (p:List F.Sa)(a:F.Sa):F.uo (p++[a])=F.uo p++a.ps:=by unfold F.uo;simp
theorem q09 {t:Tok}{c:Int}(h:yj t c L=.ok L'):c=0∧L'=L:=by
 unfold yj at h
 split at h
 ·cases h;exact⟨by assumption,rfl⟩
 ·cases h
theorem qnq {t:Tok}(hO:L.Ok k)(h:q89 L t=.ok L'):L'.Ok k:=by
 unfold q89 at h
 split at h
 ·obtain⟨h1,rfl⟩:=q09 h;have h2:¬17≤L.sc.length:=fun hh=>by unfold F.q1t at h1;rw[if_pos hh] at h1;cases h1
  have e:F.q0t L.sc=L.sc++[⟨[],[]⟩]:=by unfold F.q0t;rw[if_neg h2]
  have e2:jl (F.q0t L.sc)=jl L.sc:=by rw[e,q2r];exact List.append_nil _
  have e3:F.uo (F.q0t L.sc)=F.uo L.sc:=by rw[e,q26];exact List.append_nil _
  refine⟨Y.ok_open hO.tab,?_,?_,?_,?_,hO.ex,?_,?_,?_⟩
  ·show 1≤(F.q0t L.sc).length
   rw[e,lAp];exact Nat.le_add_left _ _
  ·show (F.q0t L.sc).length≤17
   rw[e,lAp]
   show L.sc.length + 1≤17
   omega
  ·show _≤(Y.jf L.T).2.labels.length
   rw[qh0];exact hO.hyl
  ·show (jl (F.q0t L.sc)).Sublist L.hy
   rw[e2];exact hO.sub
  ·show (F.uo (F.q0t L.sc)).length≤256
   rw[e3];exact hO.ps
  ·show ∀p ∈ F.uo (F.q0t L.sc),F.wfP p
   rw[e3];exact hO.pw
  ·intro x hx
   show x ∈ (Y.jf L.T).2.labels
   rw[qh0];exact hO.labs x hx
 ·cases h
theorem qjk {t:Tok}(hO:L.Ok k)(h:q63 L t=.ok L'):L'.Ok k:=by
 unfold q63 at h
 split at h
 ·obtain⟨h1,rfl⟩:=q09 h;have h2:¬L.sc.length≤1:=fun hh=>by unfold F.q0u at h1;rw[if_pos hh] at h1;cases h1
  have e:F.uy L.sc=L.sc.take (L.sc.length - 1):=by unfold F.uy;rw[if_neg h2]
  have hs:L.sc=F.uy L.sc++L.sc.drop (L.sc.length - 1):=by rw[e,List.take_append_drop]
  have e2:jl L.sc=jl (F.uy L.sc)++jl (L.sc.drop (L.sc.length - 1)):=by
   conv=>lhs;rw[hs]
   unfold jl;exact List.flatMap_append ..
  have e3:F.uo L.sc=F.uo (F.uy L.sc)++F.uo (L.sc.drop (L.sc.length - 1)):=by
   conv=>lhs;rw[hs]
   unfold F.uo;exact List.flatMap_append ..
  have hl:(F.uy L.sc).length=L.sc.length - 1:=by rw[e,List.length_take];omega
  have h17:=hO.sc2;refine⟨Y.qqb hO.tab,?_,?_,?_,?_,hO.ex,?_,?_,?_⟩
  ·show 1≤(F.uy L.sc).length
   omega
  ·show (F.uy L.sc).length≤17
   omega
  ·show _≤(Y.xk L.T).2.labels.length
   rw[qdn];exact hO.hyl
  ·have h3:=hO.sub;rw[e2] at h3;exact (List.sublist_append_left _ _).trans h3
  ·have h3:=hO.ps;rw[e3,lAp] at h3
   show (F.uo (F.uy L.sc)).length≤256
   omega
  ·intro p hp;exact hO.pw p (by rw[e3];exact List.mem_append_left _ hp)
  ·intro x hx
   show x ∈ (Y.xk L.T).2.labels
   rw[qdn];exact hO.labs x hx
 ·cases h
theorem Ld.Ok.declared (hO:L.Ok k)(hr:L.hy.length + L.al.length + 1≤L.T.labels.length)(x:F.Hy)(hx:x.ex.length≤200∧(∀y ∈ x.ex,F.wfN y)∧F.wfN x.var∧x.lab.size≤65536)(hl:x.lab ∈ L.T.labels):Ld.Ok { L with sc:=F.q1c (fun a=>⟨a.hs++[x],a.ps⟩) L.sc,hy:=L.hy++[x] } k:=by
 obtain⟨p,a,e1,e2⟩:=qag (fun a=>⟨a.hs++[x],a.ps⟩) hO.sc1;have h1:=hO.sub;have h2:=hO.sc2;have h3:=hO.ps;have h4:=hO.pw;rw[e1] at h1 h2 h3 h4;rw[q2r] at h1;rw[q26] at h3 h4;rw[lAp] at h2;refine⟨hO.tab,?_,?_,?_,?_,?_,?_,?_,?_⟩
 ·show 1≤(F.q1c _ L.sc).length
  rw[e2,lAp];exact Nat.le_add_left _ _
 ·show (F.q1c _ L.sc).length≤17
  rw[e2,lAp];exact h2
 ·show (L.hy++[x]).length + _≤_
  rw[lAp]
  show L.hy.length + 1 + L.al.length≤L.T.labels.length
  omega
 ·show (jl (F.q1c _ L.sc)).Sublist (L.hy++[x])
  rw[e2,q2r]
  show (jl p++(a.hs++[x])).Sublist _
  rw[←List.append_assoc];exact h1.append (List.Sublist.refl _)
 ·intro y hy;rcases mAp.1 hy with hy | hy
  ·exact hO.ex y hy
  ·cases mSg.1 hy;exact hx
 ·show (F.uo (F.q1c _ L.sc)).length≤256
  rw[e2,q26];exact h3
 ·show ∀q ∈ F.uo (F.q1c _ L.sc),F.wfP q
  rw[e2,q26];exact h4
 ·rintro y (hy | hy)
  ·have hy':y ∈ (L.hy++[x]).map (·.lab):=hy;rw[List.map_append] at hy';rcases mAp.1 hy' with h | h
   ·exact hO.labs y (.inl h)
   ·cases mSg.1 h;exact hl
  ·exact hO.labs y (.inr hy)
theorem all_wf {m:List Int}(hm:∀x ∈ m,F.wfN x):∀p ∈ F.q6r m,F.wfP p:=fun p hp=>by
 unfold F.q6r F.q0k at hp;obtain⟨i,_,hp⟩:=List.mem_flatMap.1 hp;obtain⟨b,hb,rfl⟩:=List.mem_map.1 hp;have h0:F.wfN (m.getD i 0):=by
  rw[List.getD_eq_getElem?_getD]
  cases h:m[i]? with
  | none=>exact⟨by decide,by decide⟩
  | some y=>exact hm y (mGe h)
 exact⟨F.qe9 h0,F.qe9 (hm b (List.mem_of_mem_drop hb))⟩
theorem qnr (hO:L.Ok k)(h:q2s L s=.ok L'):L'.Ok k:=by
 unfold q2s at h
 cases hp:q1k L [] (q05 (F.uo L.sc)) s.words with
 | error f=>rw[hp] at h;cases h
 | ok a =>
  rw[hp] at h;dsimp only at h
  split at h
  ·obtain⟨h1,rfl⟩:=q09 h;have hw:=(qc8 hO.q3p s.words [] _ a hp (fun x hx=>by cases hx)).1;have e0:F.q1l (isV:=zn L.T) L.sc a=F.q1c (fun b=>⟨b.hs,b.ps++F.q2p (isV:=zn L.T) L.sc a⟩) L.sc:=by unfold F.q1l;rw[if_pos h1]
   have hlen:(F.uo L.sc).length + (F.q2p (isV:=zn L.T) L.sc a).length≤256:=by
    unfold F.q1w at h1
    split at h1
    ·cases h1
    ·split at h1
     ·cases h1
     ·split at h1
      ·cases h1
      ·split at h1
       ·cases h1
       ·omega
   have hf:∀p ∈ F.q2p (isV:=zn L.T) L.sc a,F.wfP p:=fun p hp=>by
    unfold F.q2p at hp;exact all_wf (fun x hx=>hw x (((F.q9b a).mem x).1 hx).1) p (List.mem_filter.1 hp).1
   obtain⟨p,b,e1,e2⟩:=qag (fun b=>⟨b.hs,b.ps++F.q2p (isV:=zn L.T) L.sc a⟩) hO.sc1;rw[←e0] at e2;generalize F.q2p (isV:=zn L.T) L.sc a=fr at *;have h1:=hO.sub;have h2:=hO.sc2;have h4:=hO.pw;rw[e1] at h1 h2 hlen h4;rw[q2r] at h1;rw[q26] at hlen h4;rw[lAp] at h2 hlen;refine⟨hO.tab,?_,?_,hO.hyl,?_,hO.ex,?_,?_,hO.labs⟩
   ·show 1≤(F.q1l L.sc a).length
    rw[e2,lAp];exact Nat.le_add_left _ _
   ·show (F.q1l L.sc a).length≤17
    rw[e2,lAp];exact h2
   ·show (jl (F.q1l L.sc a)).Sublist L.hy
    rw[e2,q2r];exact h1
   ·show (F.uo (F.q1l L.sc a)).length≤256
    rw[e2,q26,lAp,lAp];omega
   ·show ∀q ∈ F.uo (F.q1l L.sc a),F.wfP q
    rw[e2,q26];intro q hq;rcases mAp.1 hq with hq | hq
    ·exact h4 q (List.mem_append_left _ hq)
    ·rcases mAp.1 hq with hq | hq
     ·exact h4 q (List.mem_append_right _ hq)
     ·exact hf q hq
  ·cases h;exact hO
theorem qjl (hO:L.Ok k)(hr:L.hy.length + L.al.length + 1≤L.T.labels.length)(hl:s.label.text ∈ L.T.labels)(hz:s.label.text.size≤65536)(h2:q0m s.fin=true→s.words.length=2)(h:q1s L s=.ok L'):L'.Ok k:=by
 unfold q1s at h
 cases hp:q17 L [] s.words with
 | error f=>rw[hp] at h;cases h
 | ok e =>
  rw[hp] at h;dsimp only at h
  split at h
  ·rename_i he
   obtain⟨h1,rfl⟩:=q09 h;obtain⟨hw,hlen⟩:=q7b hO.q3p s.words [] e hp (fun x hx=>by cases hx);rw[h2 he] at hlen;obtain⟨x,y,rfl⟩:∃x y,e=[x,y]:=by
    match e,hlen with
    | [x,y],_=>exact⟨x,y,rfl⟩
   have h1':F.q0s (isV:=zn L.T) L.sc x y=0:=h1;have e0:F.q0j (isV:=zn L.T) L.sc s.label.text x y=F.q1c (fun a=>⟨a.hs++[⟨s.label.text,true,y,[x,y]⟩],a.ps⟩) L.sc:=by unfold F.q0j;rw[if_pos h1']
   have h5:=hO.declared hr ⟨s.label.text,true,y,[x,y]⟩ ⟨by show 2≤200;omega,hw,hw y (by simp),hz⟩ hl;rw[←e0] at h5;exact h5
  ·cases h;exact hO
theorem qqr (hO:L.Ok k)(hr:L.hy.length + L.al.length + 1≤L.T.labels.length)(hl:s.label.text ∈ L.T.labels)(hz:s.label.text.size≤65536)(h:q7e L s=.ok L'):L'.Ok k:=by
 unfold q7e at h
 cases hp:q0c L [] s.words with
 | error f=>rw[hp] at h;cases h
 | ok e =>
  rw[hp] at h;dsimp only at h
  split at h
  ·obtain⟨h1,rfl⟩:=q09 h;obtain⟨hw,hlen,_⟩:=q5q hO.q3p s.words [] e hp (fun x hx=>by cases hx) (by simp);have e0:F.q4x (isV:=zn L.T) L.sc s.label.text e=F.q1c (fun a=>⟨a.hs++[⟨s.label.text,false,-1,e⟩],a.ps⟩) L.sc:=by unfold F.q4x;rw[if_pos h1]
   have h5:=hO.declared hr ⟨s.label.text,false,-1,e⟩ ⟨hlen,hw,(show (-9223372036854775808:Int)≤-1∧(-1:Int)≤9223372036854775807 by decide),hz⟩ hl;rw[←e0] at h5;exact h5
  ·cases h;exact hO
theorem qh2 (hO:L.Ok k)(hr:L.hy.length + L.al.length + 1≤L.T.labels.length)(hl:s.label.text ∈ L.T.labels)(h:q1m L s=.ok L'):L'.Ok k:=by
 unfold q1m at h
 cases hp:q0c L [] s.words with
 | error f=>rw[hp] at h;cases h
 | ok e =>
  rw[hp] at h;dsimp only at h
  split at h
  ·obtain⟨_,rfl⟩:=q09 h;refine⟨hO.tab,hO.sc1,hO.sc2,?_,hO.sub,hO.ex,hO.ps,hO.pw,?_⟩
   ·show L.hy.length + (L.al++[q4f L s e]).length≤_
    rw[lAp]
    show L.hy.length + (L.al.length + 1)≤L.T.labels.length
    omega
   ·rintro y (hy | hy)
    ·exact hO.labs y (.inl hy)
    ·have hy':y ∈ (L.al++[q4f L s e]).map (·.label.text):=hy;rw[List.map_append] at hy';rcases mAp.1 hy' with h | h
     ·exact hO.labs y (.inr h)
     ·cases mSg.1 h;exact hl
  ·cases h;exact hO
theorem qh3 {t:Tok}(hO:L.Ok k)(h:q3y L t=.ok L'):L'.Ok k∧(q0m t=true→L'.hy.length + L'.al.length + 1≤L'.T.labels.length∧t.text ∈ L'.T.labels):=by
 unfold q3y at h
 split at h
 ·obtain⟨h1,rfl⟩:=q09 h;have h2:(Y.zh L.T t.text).1=0:=by omega
  refine⟨qqq t.text hO,fun _=>?_⟩;have e:=(q70 h2).2;have h3:=hO.hyl;constructor
  ·show L.hy.length + L.al.length + 1≤(Y.zh L.T t.text).2.labels.length
   rw[e]
   show _≤(L.T.labels++[t.text]).length
   rw[lAp]
   show _≤L.T.labels.length + 1
   omega
  ·show t.text ∈ (Y.zh L.T t.text).2.labels
   rw[e];exact List.mem_append_right _ (mSg.2 rfl)
 ·rename_i hn
  cases h;exact⟨hO,fun he=>absurd he hn⟩
theorem qdo (hO:L.Ok k)(hs:q1e s)(hz:s.label.text.size≤65536)(hw:s.words.length≤16384)(h:qm L s=.ok L'):L'.Ok (k + 60000):=by
 unfold qm at h
 cases hl:q3y L s.label with
 | error f=>rw[hl] at h;cases h
 | ok L1 =>
  rw[hl] at h;dsimp only at h;obtain⟨hO1,hr⟩:=qh3 hO hl;unfold zy at h
  split at h
  ·exact (qnq hO1 h).up (by omega)
  ·split at h
   ·exact (qjk hO1 h).up (by omega)
   ·split at h
    ·unfold q38 at h
     split at h
     ·cases h
     ·exact (q9i (fun T s k hT=>⟨Y.qgq s hT,qnp T s⟩) s.words L1 L' k hO1 h).up (by omega)
    ·split at h
     ·exact (q9i (fun T s k hT=>⟨Y.qqd s hT,lab_var T s⟩) s.words L1 L' k hO1 h).up (by omega)
     ·split at h
      ·exact (qnr hO1 h).up (by omega)
      ·split at h
       ·rename_i h3
        obtain⟨r1,r2⟩:=hr (hs.lab (.inl h3));exact (qjl hO1 r1 r2 hz (hs.two h3) h).up (by omega)
       ·split at h
        ·rename_i h4
         obtain⟨r1,r2⟩:=hr (hs.lab (.inr (.inl h4)));exact (qqr hO1 r1 r2 hz h).up (by omega)
        ·split at h
         ·rename_i h6
          obtain⟨r1,r2⟩:=hr (hs.lab (by rcases h6 with h6 | h6 <;> simp[h6]));exact (qh2 hO1 r1 r2 h).up (by omega)
         ·cases h;exact hO1.up (by omega)
end
def Grew (T T':Y.Tab):Prop:=∃r,T'.syms=T.syms++r
theorem Grew.refl (T:Y.Tab):Grew T T:=⟨[],by simp⟩
theorem Grew.trans {A B C:Y.Tab}(h:Grew A B)(g:Grew B C):Grew A C:=by
 obtain⟨r,hr⟩:=h;obtain⟨q,hq⟩:=g;exact⟨r++q,by rw[hq,hr,List.append_assoc]⟩
theorem Grew.of_eq {T T':Y.Tab}(h:T'.syms=T.syms):Grew T T':=⟨[],by simp[h]⟩
def q5r (T:Y.Tab)(x:Int):Prop:=∃i:Nat,x=i∧i < T.syms.length
theorem qjm {T:Y.Tab}{x:Int}{p:ByteArray × Bool}(h:Y.q31 T x=some p):q5r T x:=by
 unfold Y.q31 at h
 split at h
 ·exact⟨x.toNat,by omega,(List.getElem?_eq_some_iff.1 h).1⟩
 ·cases h
theorem q4u {T:Y.Tab}{x:Int}(h:zn T x=true):q5r T x:=by
 unfold zn Y.varOf at h
 cases hs:Y.q31 T x with
 | none=>rw[hs] at h;cases h
 | some p=>exact qjm hs
theorem q5r.grew {T T':Y.Tab}{x:Int}(h:q5r T x)(g:Grew T T'):q5r T' x:=by
 obtain⟨i,e,hi⟩:=h;obtain⟨r,hr⟩:=g;exact⟨i,e,by rw[hr,lAp];omega⟩
theorem qjn {T T':Y.Tab}{x:Int}(h:q5r T x)(g:Grew T T'):Y.q31 T' x=Y.q31 T x:=by
 obtain⟨i,rfl,hi⟩:=h;obtain⟨r,hr⟩:=g;unfold Y.q31;rw[if_pos (by omega),if_pos (by omega),hr];exact List.getElem?_append_left (by simpa using hi)
theorem q2a {T T':Y.Tab}{x:Int}(h:q5r T x)(g:Grew T T'):zn T' x=zn T x:=by
 unfold zn;rw[qjn h g]
theorem qh4 (T:Y.Tab):zn T (-1)=false:=by
 unfold zn Y.q31;rw[if_neg (by omega)]
 rfl
structure q64 (T:Y.Tab)(e:List Int):Prop where
 pos:1≤e.length
 le:e.length≤200
 head:zn T (e.headD 0)=false
 sym:∀x ∈ e,q5r T x
theorem q64.grew {T T':Y.Tab}{e:List Int}(h:q64 T e)(g:Grew T T'):q64 T' e:=by
 refine⟨h.pos,h.le,?_,fun x hx=>(h.sym x hx).grew g⟩;have hp:=h.pos
 match e,h,hp with
 | x :: r,h,_=>exact (q2a (h.sym x (by simp)) g).trans h.head
structure qa9 (T:Y.Tab)(h:F.Hy):Prop where
 st:q64 T h.ex
 fl:h.fl=true→(∃c,h.ex=[c,h.var])∧zn T h.var=true
 es:h.fl=false→h.var=-1
theorem qa9.sym {T:Y.Tab}{h:F.Hy}(hh:qa9 T h)(hf:h.fl=true):q5r T h.var:=q4u (hh.fl hf).2
theorem qa9.grew {T T':Y.Tab}{h:F.Hy}(hh:qa9 T h)(g:Grew T T'):qa9 T' h :=
 ⟨hh.st.grew g,fun hf=>⟨(hh.fl hf).1,by rw[q2a (hh.sym hf) g];exact (hh.fl hf).2⟩,hh.es⟩
theorem qa9.qqs {T T':Y.Tab}{h:F.Hy}(hh:qa9 T h)(g:Grew T T'):zn T' h.var=zn T h.var:=by
 cases hf:h.fl with
 | true=>exact q2a (hh.sym hf) g
 | false=>rw[hh.es hf,qh4,qh4]
def q4v (T:Y.Tab)(hs:List F.Hy)(e:List Int):Prop:=∀x ∈ e,zn T x=true→∃g ∈ hs,g.fl=true∧g.var=x
def Typed (T:Y.Tab)(hs:List F.Hy):Prop:=∀h ∈ hs,h.fl=false→q4v T hs h.ex
theorem q4v.grew {T T':Y.Tab}{hs:List F.Hy}{e:List Int}(h:q4v T hs e)(he:∀x ∈ e,q5r T x)(g:Grew T T'):q4v T' hs e:=fun x hx hv=>h x hx (by rw[←q2a (he x hx) g];exact hv)
theorem q4v.more {T:Y.Tab}{hs hs':List F.Hy}{e:List Int}(h:q4v T hs e)(hh:∀x ∈ hs,x ∈ hs'):q4v T hs' e:=fun x hx hv=>by
 obtain⟨g,h1,h2⟩:=h x hx hv;exact⟨g,hh g h1,h2⟩
theorem Typed.grew {T T':Y.Tab}{hs:List F.Hy}(h:Typed T hs)(he:∀y ∈ hs,qa9 T y)(g:Grew T T'):Typed T' hs:=fun y hy hf=>(h y hy hf).grew (he y hy).st.sym g
theorem Typed.snoc {T:Y.Tab}{hs:List F.Hy}{x:F.Hy}(h:Typed T hs)(hx:x.fl=false→q4v T (hs++[x]) x.ex):Typed T (hs++[x]):=fun y hy hf=>by
 rcases mAp.1 hy with hy | hy
 ·exact (h y hy hf).more fun z hz=>List.mem_append_left _ hz
 ·rw[mSg.1 hy] at hf ⊢;exact hx hf
def q55 (T:Y.Tab)(hs:List F.Hy)(goal:List Int)(x:Int):Bool:=zn T x && (goal++q9e hs).contains x
structure AlF (T:Y.Tab)(hy:List F.Hy)(a:As)(hs:List F.Hy)(ps:List F.Pp):Prop where
 act:a.active=hs.map (yg hy)
 nee:a.needed=(hs.filter fun h=>q55 T hs a.goal h.var || !h.fl).map (yg hy)
 pai:a.pairs=q05 ps
 apa:a.apart=q05 (ps.filter fun p=>q55 T hs a.goal p.1 && q55 T hs a.goal p.2)
 sub:hs.Sublist hy
 len:ps.length≤256
 pw:∀p ∈ ps,zn T p.1=true∧zn T p.2=true
 goal:q64 T a.goal
 ty:Typed T hs
 tg:q4v T hs a.goal
 pr:a.proof.length≤16384
theorem q9j {T T':Y.Tab}{hs:List F.Hy}{goal:List Int}{x:Int}(h:zn T' x=zn T x):q55 T' hs goal x=q55 T hs goal x:=by unfold q55;rw[h]
theorem q9k {hy:List F.Hy}(hn:(hy.map (·.lab)).Nodup){i:Nat}{h:F.Hy}(hi:hy[i]?=some h):q1p hy h.lab=some i:=by
 unfold q1p;rw[List.findIdx?_eq_some_iff_getElem];obtain⟨hlt,he⟩:=List.getElem?_eq_some_iff.1 hi;refine⟨hlt,by simp[he],fun j hj=>?_⟩;have hjl:j < hy.length:=by omega
 intro hc;have hc':hy[j].lab=h.lab:=by simpa using hc
 rw[←he] at hc';have h1:(hy.map (·.lab))[j]'(by simpa using hjl)=(hy.map (·.lab))[i]'(by simpa using hlt):=by simpa using hc'
 have h2:=(List.pairwise_iff_getElem.1 hn) j i (by simpa using hjl) (by simpa using hlt) hj;exact h2 h1
theorem qc9 {hy:List F.Hy}(x:F.Hy)(hn:(hy.map (·.lab)).Nodup){h:F.Hy}(hh:h ∈ hy):yg (hy++[x]) h=yg hy h:=by
 obtain⟨i,hi⟩:=List.mem_iff_getElem?.1 hh;have h1:=q9k hn hi;have h2:q1p (hy++[x]) h.lab=some i:=by
  unfold q1p at h1 ⊢;rw[List.findIdx?_append,h1]
  rfl
 unfold yg;rw[h1,h2]
theorem qh5 {hy:List F.Hy}(hn:(hy.map (·.lab)).Nodup){h:F.Hy}(hh:h ∈ hy):∃i:Nat,yg hy h=i∧hy[i]?=some h:=by
 obtain⟨i,hi⟩:=List.mem_iff_getElem?.1 hh;exact⟨i,by unfold yg;rw[q9k hn hi];rfl,hi⟩
theorem AlF.more {T:Y.Tab}{hy hs:List F.Hy}{ps:List F.Pp}{a:As}(h:AlF T hy a hs ps)(hn:(hy.map (·.lab)).Nodup)(x:F.Hy):AlF T (hy++[x]) a hs ps:=by
 refine⟨?_,?_,h.pai,h.apa,h.sub.trans (List.sublist_append_left _ _),h.len,h.pw,h.goal,h.ty,h.tg,h.pr⟩
 ·rw[h.act];exact List.map_congr_left fun y hy'=>(qc9 x hn (h.sub.subset hy')).symm
 ·rw[h.nee];exact List.map_congr_left fun y hy'=>(qc9 x hn (h.sub.subset (List.mem_filter.1 hy').1)).symm
theorem AlF.grew {T T':Y.Tab}{hy hs:List F.Hy}{ps:List F.Pp}{a:As}(h:AlF T hy a hs ps)(hh:∀y ∈ hy,qa9 T y)(g:Grew T T'):AlF T' hy a hs ps:=by
 refine⟨h.act,?_,h.pai,?_,h.sub,h.len,fun p hp=>?_,h.goal.grew g,h.ty.grew (fun y hy=>hh y (h.sub.subset hy)) g,h.tg.grew h.goal.sym g,h.pr⟩
 ·rw[h.nee]
  congr 1
  refine List.filter_congr fun y hy'=>?_
  rw[q9j ((hh y (h.sub.subset hy')).qqs g)]
 ·rw[h.apa]
  congr 1
  refine List.filter_congr fun p hp=>?_
  rw[q9j (q2a (q4u (h.pw p hp).1) g),q9j (q2a (q4u (h.pw p hp).2) g)]
 ·rw[q2a (q4u (h.pw p hp).1) g,q2a (q4u (h.pw p hp).2) g];exact h.pw p hp
structure Fine (L:Ld):Prop where
 nd:(L.hy.map (·.lab)++L.al.map (·.label.text)).Nodup
 hyp:∀h ∈ L.hy,qa9 L.T h
 ty:∀j,Typed L.T (jl (L.sc.take j))
 pw:∀p ∈ F.uo L.sc,zn L.T p.1=true∧zn L.T p.2=true
 al:∀a ∈ L.al,∃hs ps,AlF L.T L.hy a hs ps
section
variable {L L':Ld} {k:Nat} {s:Stm}
theorem Fine.tabled (h:Fine L)(hs:(jl L.sc).Sublist L.hy){T':Y.Tab}(g:Grew L.T T'):Fine { L with T:=T' } :=
 ⟨h.nd,fun y hy=>(h.hyp y hy).grew g,fun j=>(h.ty j).grew (fun y hy=>h.hyp y (hs.subset (by
  have e:jl L.sc=jl (L.sc.take j)++jl (L.sc.drop j):=by
   conv=>lhs;rw[←List.take_append_drop j L.sc]
   unfold jl
   rw[List.flatMap_append]
  rw[e]
  exact List.mem_append_left _ hy))) g,fun p hp=>by
  show zn T' p.1=true∧zn T' p.2=true
  rw[q2a (q4u (h.pw p hp).1) g,q2a (q4u (h.pw p hp).2) g]
  exact h.pw p hp,fun a ha=>by
  obtain⟨hs,ps,hA⟩:=h.al a ha
  exact⟨hs,ps,hA.grew h.hyp g⟩⟩
theorem qdp (T:Y.Tab)(t:ByteArray)(v:Bool):Grew T (Y.q1v T t v).2.2:=by
 unfold Y.q1v
 split
 ·exact Grew.refl _
 ·exact⟨[(t,v)],rfl⟩
theorem qjo (T:Y.Tab)(t:ByteArray):Grew T (Y.q0b T t).2.2:=by
 unfold Y.q0b
 split
 ·exact Grew.refl _
 ·split
  ·exact Grew.refl _
  ·split
   ·exact Grew.refl _
   ·exact qdp _ _ _
theorem qqt (T:Y.Tab)(t:ByteArray):Grew T (Y.q3g T t).2.2:=by
 unfold Y.q3g
 split
 ·exact Grew.refl _
 ·split
  ·exact Grew.refl _
  ·split
   ·exact Grew.of_eq rfl
   ·exact qdp _ _ _
theorem q9l {f:Y.Tab→ByteArray→Nat × Nat × Y.Tab}(hf:∀T s,Grew T (f T s).2.2):∀(ts:List Tok) (L L':Ld),Fine L→(jl L.sc).Sublist L.hy→q0l f L ts=.ok L'→Fine L'
 | [],L,L',h,_,e=>by cases e;exact h
 | t :: ts,L,L',h,hs,e=>by
  unfold q0l at e
  split at e
  ·exact q9l hf ts _ L' (h.tabled hs (hf _ _)) hs e
  ·cases e
theorem qns {t:Tok}(hF:Fine L)(hs:(jl L.sc).Sublist L.hy)(h:q89 L t=.ok L'):Fine L':=by
 unfold q89 at h
 split at h
 ·obtain⟨h1,rfl⟩:=q09 h;have h2:¬17≤L.sc.length:=fun hh=>by unfold F.q1t at h1;rw[if_pos hh] at h1;cases h1
  have e:F.q0t L.sc=L.sc++[⟨[],[]⟩]:=by unfold F.q0t;rw[if_neg h2]
  have g:Grew L.T (Y.jf L.T).2:=Grew.of_eq (by unfold Y.jf;split <;> rfl);have h3:=hF.tabled hs g;refine⟨h3.nd,h3.hyp,fun j=>?_,?_,h3.al⟩
  ·show Typed (Y.jf L.T).2 (jl ((F.q0t L.sc).take j))
   rw[e]
   by_cases hj:j≤L.sc.length
   ·rw[List.take_append_of_le_length hj];exact h3.ty j
   ·rw[List.take_of_length_le (by rw[lAp];simp;omega),q2r]
    show Typed _ (jl L.sc++[])
    rw[List.append_nil];have h4:=h3.ty L.sc.length;rw[show ({ L with T:=(Y.jf L.T).2 }:Ld).sc=L.sc from rfl,List.take_length] at h4;exact h4
  ·show ∀p ∈ F.uo (F.q0t L.sc),_
   rw[e,q26]
   show ∀p ∈ F.uo L.sc++[],_
   rw[List.append_nil];exact h3.pw
 ·cases h
theorem qjp {t:Tok}(hF:Fine L)(hs:(jl L.sc).Sublist L.hy)(h:q63 L t=.ok L'):Fine L':=by
 unfold q63 at h
 split at h
 ·obtain⟨h1,rfl⟩:=q09 h;have h2:¬L.sc.length≤1:=fun hh=>by unfold F.q0u at h1;rw[if_pos hh] at h1;cases h1
  have e:F.uy L.sc=L.sc.take (L.sc.length - 1):=by unfold F.uy;rw[if_neg h2]
  have g:Grew L.T (Y.xk L.T).2:=Grew.of_eq (by unfold Y.xk;split <;> rfl);have h3:=hF.tabled hs g;refine⟨h3.nd,h3.hyp,fun j=>?_,?_,h3.al⟩
  ·show Typed (Y.xk L.T).2 (jl ((F.uy L.sc).take j))
   rw[e,List.take_take];exact h3.ty _
  ·show ∀p ∈ F.uo (F.uy L.sc),_
   rw[e];intro p hp;refine h3.pw p ?_
   show p ∈ F.uo L.sc
   unfold F.uo at hp ⊢;obtain⟨a,ha,hp⟩:=List.mem_flatMap.1 hp;exact List.mem_flatMap.2 ⟨a,List.mem_of_mem_take ha,hp⟩
 ·cases h
theorem qqu {m:List Int}{p:F.Pp}(hp:p ∈ F.q6r m):p.1 ∈ m∧p.2 ∈ m:=by
 unfold F.q6r F.q0k at hp;obtain⟨i,hi,hp⟩:=List.mem_flatMap.1 hp;obtain⟨b,hb,rfl⟩:=List.mem_map.1 hp;refine⟨?_,List.mem_of_mem_drop hb⟩
 show m.getD i 0 ∈ m
 have hi':i < m.length:=List.mem_range.1 hi;rw[List.getD_eq_getElem?_getD,gEq hi'];exact List.getElem_mem hi'
theorem qnt (hF:Fine L)(h1:1≤L.sc.length)(h:q2s L s=.ok L'):Fine L':=by
 unfold q2s at h
 cases hp:q1k L [] (q05 (F.uo L.sc)) s.words with
 | error f=>rw[hp] at h;cases h
 | ok a =>
  rw[hp] at h;dsimp only at h
  split at h
  ·obtain⟨hz,rfl⟩:=q09 h;have e0:F.q1l (isV:=zn L.T) L.sc a=F.q1c (fun b=>⟨b.hs,b.ps++F.q2p (isV:=zn L.T) L.sc a⟩) L.sc:=by unfold F.q1l;rw[if_pos hz]
   obtain⟨p,b,e1,e2⟩:=qag (fun b=>⟨b.hs,b.ps++F.q2p (isV:=zn L.T) L.sc a⟩) h1;rw[←e0] at e2;have hv:∀x ∈ a,zn L.T x=true:=fun x hx=>by
    unfold F.q1w at hz
    split at hz
    ·cases hz
    ·rename_i hn
     cases hb:zn L.T x with
     | true=>rfl
     | false=>exact absurd (List.any_eq_true.2 ⟨x,hx,by rw[hb];rfl⟩) hn
   have hfr:∀q ∈ F.q2p (isV:=zn L.T) L.sc a,zn L.T q.1=true∧zn L.T q.2=true:=fun q hq=>by
    unfold F.q2p at hq;have hm:=qqu (List.mem_filter.1 hq).1;have hin:∀x ∈ F.varsOf (isV:=zn L.T) a,zn L.T x=true:=fun x hx=>by
     unfold F.varsOf at hx;have h2:=(F.q2y (F.q5i (a.filter (zn L.T)))).2 x;have h3:=h2.1 hx;exact (List.mem_filter.1 ((List.mergeSort_perm _ _).mem_iff.1 h3)).2
    exact⟨hin _ hm.1,hin _ hm.2⟩
   refine⟨hF.nd,hF.hyp,fun j=>?_,?_,hF.al⟩
   ·show Typed L.T (jl ((F.q1l L.sc a).take j))
    have h2:=hF.ty j;rw[e1] at h2;rw[e2]
    by_cases hj:j≤p.length
    ·rw[List.take_append_of_le_length hj] at h2 ⊢;exact h2
    ·rw[List.take_of_length_le (by rw[lAp];simp;omega),q2r] at h2 ⊢;exact h2
   ·show ∀q ∈ F.uo (F.q1l L.sc a),_
    rw[e2,q26];intro q hq;have h3:=hF.pw q;rw[e1,q26] at h3;rcases mAp.1 hq with hq | hq
    ·exact h3 (List.mem_append_left _ hq)
    ·rcases mAp.1 hq with hq | hq
     ·exact h3 (List.mem_append_right _ hq)
     ·exact hfr q hq
  ·cases h;exact hF
theorem Fine.declared (hF:Fine L)(h1:1≤L.sc.length)(x:F.Hy)(hx:qa9 L.T x)(hl:x.lab ∉ L.hy.map (·.lab)++L.al.map (·.label.text))(ht:x.fl=false→q4v L.T (jl L.sc) x.ex):Fine { L with sc:=F.q1c (fun a=>⟨a.hs++[x],a.ps⟩) L.sc,hy:=L.hy++[x] }:=by
 obtain⟨p,a,e1,e2⟩:=qag (fun a=>⟨a.hs++[x],a.ps⟩) h1;have hn:(L.hy.map (·.lab)).Nodup:=(List.nodup_append.1 hF.nd).1;refine⟨?_,?_,fun j=>?_,?_,fun b hb=>?_⟩
 ·show ((L.hy++[x]).map (·.lab)++L.al.map (·.label.text)).Nodup
  have hp:((L.hy++[x]).map (·.lab)++L.al.map (·.label.text)).Perm (x.lab :: (L.hy.map (·.lab)++L.al.map (·.label.text))):=by
   rw[List.map_append,List.append_assoc];exact List.perm_middle
  exact hp.nodup_iff.2 (List.nodup_cons.2 ⟨hl,hF.nd⟩)
 ·intro h hh;rcases mAp.1 hh with hh | hh
  ·exact hF.hyp h hh
  ·rw[mSg.1 hh];exact hx
 ·show Typed L.T (jl ((F.q1c _ L.sc).take j))
  rw[e2];have h2:=hF.ty j;rw[e1] at h2
  by_cases hj:j≤p.length
  ·rw[List.take_append_of_le_length hj] at h2 ⊢;exact h2
  ·rw[List.take_of_length_le (by rw[lAp];simp;omega),q2r] at h2 ⊢
   show Typed L.T (jl p++(a.hs++[x]))
   rw[←List.append_assoc];refine h2.snoc fun hf=>?_
   have h3:=ht hf;rw[e1,q2r] at h3;exact h3.more fun z hz=>List.mem_append_left _ hz
 ·show ∀q ∈ F.uo (F.q1c _ L.sc),_
  rw[e2,q26];have h3:=hF.pw;rw[e1,q26] at h3;exact h3
 ·obtain⟨hs,ps,hA⟩:=hF.al b hb;exact⟨hs,ps,hA.more hn x⟩
theorem qjq {t:Tok}{n:Int}(h:q33 L t=.ok n):q5r L.T n:=by
 obtain⟨m,h1,rfl⟩:=ql0 h;unfold Y.q07 at h1;have h2:=(Option.filter_eq_some_iff.1 h1).1;unfold Y.numOf at h2;exact⟨m,rfl,(List.findIdx?_eq_some_iff_getElem.1 h2).1⟩
theorem qh6 {t:Tok}{n:Int}(h:q08 L t=.ok n):q5r L.T n:=by
 unfold q08 at h
 cases hs:q33 L t with
 | error f=>rw[hs] at h;cases h
 | ok m =>
  rw[hs] at h;dsimp only at h
  split at h
  ·cases h
  ·cases h;exact qjq hs
theorem var_is {t:Tok}{n:Int}(h:q3o L t=.ok n):q5r L.T n:=by
 unfold q3o at h
 cases hs:q33 L t with
 | error f=>rw[hs] at h;cases h
 | ok m =>
  rw[hs] at h;dsimp only at h
  split at h
  ·cases h;exact qjq hs
  ·cases h
theorem qqv {t:Tok}{n:Int}(h:q1h L t=.ok n):q5r L.T n:=by
 unfold q1h at h
 cases hs:q33 L t with
 | error f=>rw[hs] at h;cases h
 | ok m =>
  rw[hs] at h;dsimp only at h
  split at h
  ·cases h
  ·cases h;exact qjq hs
theorem qjr {t:Tok}{n:Int}(h:q04 L t=.ok n):q5r L.T n:=by
 unfold q04 at h
 cases hs:q3o L t with
 | error f=>rw[hs] at h;cases h
 | ok m =>
  rw[hs] at h;dsimp only at h
  split at h
  ·cases h
  ·cases h;exact var_is hs
theorem q9m:∀(ts:List Tok) (acc e:List Int),q0c L acc ts=.ok e→(∀x ∈ acc,q5r L.T x)→∀x ∈ e,q5r L.T x
 | [],acc,e,h,h1=>by cases h;exact h1
 | t :: ts,acc,e,h,h1=>by
  unfold q0c at h
  split at h
  ·cases h
  ·cases hr:(if acc.length=0 then q08 L t else q1h L t) with
   | error f=>rw[hr] at h;cases h
   | ok n =>
    rw[hr] at h;refine q9m ts _ e h fun x hx=>?_
    rcases mAp.1 hx with hx | hx
    ·exact h1 x hx
    ·rw[mSg.1 hx]
     split at hr
     ·exact qh6 hr
     ·exact qqv hr
theorem qca:∀(ts:List Tok) (acc e:List Int),q17 L acc ts=.ok e→(∀x ∈ acc,q5r L.T x)→∀x ∈ e,q5r L.T x
 | [],acc,e,h,h1=>by cases h;exact h1
 | t :: ts,acc,e,h,h1=>by
  unfold q17 at h
  cases hr:(if acc.length=0 then q08 L t else q04 L t) with
  | error f=>rw[hr] at h;cases h
  | ok n =>
   rw[hr] at h;refine qca ts _ e h fun x hx=>?_
   rcases mAp.1 hx with hx | hx
   ·exact h1 x hx
   ·rw[mSg.1 hx]
    split at hr
    ·exact qh6 hr
    ·exact qjr hr
theorem ty_some {l:List F.Sa}{v:Int}(h:(F.tyA l v).isSome=true):∃g ∈ jl l,g.fl=true∧g.var=v:=by
 unfold F.tyA at h;obtain⟨a,ha,h2⟩:=List.findSome?_isSome_iff.1 h;unfold F.q5f at h2;rw[Option.isSome_map] at h2;obtain⟨g,hg,h3⟩:=List.find?_isSome.1 h2;rw[Bool.and_eq_true] at h3;exact⟨g,List.mem_flatMap.2 ⟨a,ha,hg⟩,h3.1,of_decide_eq_true h3.2⟩
theorem judged {e:List Int}(h:F.uw (isV:=zn L.T) L.sc e=0)(hl:e.length≤200)(hs:∀x ∈ e,q5r L.T x):q64 L.T e∧q4v L.T (jl L.sc) e:=by
 unfold F.uw at h
 match e,hl,hs,h with
 | [],_,_,h=>cases h
 | x :: r,hl,hs,h =>
  dsimp only at h
  split at h
  ·cases h
  ·rename_i h0
   split at h
   ·cases h
   ·rename_i h1
    refine⟨⟨by simp,hl,by simpa using h0,hs⟩,fun v hv hb=>ty_some ?_⟩
    cases hq:(F.tyA L.sc v).isSome with
    | true=>rfl
    | false=>exact absurd (List.any_eq_true.2 ⟨v,hv,by rw[hb,Option.isSome_eq_false_iff.1 hq];rfl⟩) h1
theorem qjs (hF:Fine L)(hO:L.Ok k)(hl:s.label.text ∉ L.hy.map (·.lab)++L.al.map (·.label.text))(h2:q0m s.fin=true→s.words.length=2)(h:q1s L s=.ok L'):Fine L':=by
 unfold q1s at h
 cases hp:q17 L [] s.words with
 | error f=>rw[hp] at h;cases h
 | ok e =>
  rw[hp] at h;dsimp only at h
  split at h
  ·rename_i he
   obtain⟨h1,rfl⟩:=q09 h;obtain⟨_,hlen⟩:=q7b hO.q3p s.words [] e hp (fun x hx=>by cases hx);have hsy:=qca s.words [] e hp (fun x hx=>by cases hx);rw[h2 he] at hlen;obtain⟨x,y,rfl⟩:∃x y,e=[x,y]:=by
    match e,hlen with
    | [x,y],_=>exact⟨x,y,rfl⟩
   have h1':F.q0s (isV:=zn L.T) L.sc x y=0:=h1;have e0:F.q0j (isV:=zn L.T) L.sc s.label.text x y=F.q1c (fun a=>⟨a.hs++[⟨s.label.text,true,y,[x,y]⟩],a.ps⟩) L.sc:=by unfold F.q0j;rw[if_pos h1']
   have hy:zn L.T y=true∧zn L.T x=false:=by
    unfold F.q0s at h1'
    split at h1'
    ·cases h1'
    ·rename_i ha
     split at h1'
     ·cases h1'
     ·rename_i hb
      exact⟨by simpa using ha,by simpa using hb⟩
   have h5:=hF.declared hO.sc1 ⟨s.label.text,true,y,[x,y]⟩ ⟨⟨by simp,by simp,hy.2,hsy⟩,(fun _=>⟨⟨x,rfl⟩,hy.1⟩),(fun e=>by cases e)⟩ hl (fun e=>by cases e);rw[←e0] at h5;exact h5
  ·cases h;exact hF
theorem qqw (hF:Fine L)(hO:L.Ok k)(hl:s.label.text ∉ L.hy.map (·.lab)++L.al.map (·.label.text))(h:q7e L s=.ok L'):Fine L':=by
 unfold q7e at h
 cases hp:q0c L [] s.words with
 | error f=>rw[hp] at h;cases h
 | ok e =>
  rw[hp] at h;dsimp only at h
  split at h
  ·obtain⟨h1,rfl⟩:=q09 h;obtain⟨_,hlen,_⟩:=q5q hO.q3p s.words [] e hp (fun x hx=>by cases hx) (by simp);have hsy:=q9m s.words [] e hp (fun x hx=>by cases hx);have e0:F.q4x (isV:=zn L.T) L.sc s.label.text e=F.q1c (fun a=>⟨a.hs++[⟨s.label.text,false,-1,e⟩],a.ps⟩) L.sc:=by unfold F.q4x;rw[if_pos h1]
   obtain⟨j1,j2⟩:=judged h1 hlen hsy;have h5:=hF.declared hO.sc1 ⟨s.label.text,false,-1,e⟩ ⟨j1,(fun e=>by cases e),(fun _=>rfl)⟩ hl (fun _=>j2);rw[←e0] at h5;exact h5
  ·cases h;exact hF
theorem qh7 (hF:Fine L)(hO:L.Ok k)(hl:s.label.text ∉ L.hy.map (·.lab)++L.al.map (·.label.text))(hpr:s.proof.length≤16384)(h:q1m L s=.ok L'):Fine L':=by
 unfold q1m at h
 cases hp:q0c L [] s.words with
 | error f=>rw[hp] at h;cases h
 | ok e =>
  rw[hp] at h;dsimp only at h
  split at h
  ·obtain⟨h1,rfl⟩:=q09 h;obtain⟨_,hlen,_⟩:=q5q hO.q3p s.words [] e hp (fun x hx=>by cases hx) (by simp);have hsy:=q9m s.words [] e hp (fun x hx=>by cases hx);obtain⟨j1,j2⟩:=judged h1 hlen hsy;refine⟨?_,hF.hyp,hF.ty,hF.pw,fun a ha=>?_⟩
   ·show (L.hy.map (·.lab)++(L.al++[q4f L s e]).map (·.label.text)).Nodup
    have hp:(L.hy.map (·.lab)++(L.al++[q4f L s e]).map (·.label.text)).Perm (s.label.text :: (L.hy.map (·.lab)++L.al.map (·.label.text))):=by
     rw[List.map_append,←List.append_assoc];exact (List.perm_append_comm).trans (List.Perm.refl _)
    exact hp.nodup_iff.2 (List.nodup_cons.2 ⟨hl,hF.nd⟩)
   ·rcases mAp.1 ha with ha | ha
    ·exact hF.al a ha
    ·rw[mSg.1 ha];have hty:=hF.ty L.sc.length;rw[List.take_length] at hty;exact⟨jl L.sc,F.uo L.sc,rfl,rfl,rfl,rfl,hO.sub,hO.ps,hF.pw,j1,hty,j2,hpr⟩
  ·cases h;exact hF
theorem qnu (hF:Fine L)(hO:L.Ok k)(hs:SOk s)(hpr:s.proof.length≤16384)(h:qm L s=.ok L'):Fine L':=by
 unfold qm at h
 cases hl:q3y L s.label with
 | error f=>rw[hl] at h;cases h
 | ok L1 =>
  rw[hl] at h;dsimp only at h;obtain⟨hO1,_⟩:=qh3 hO hl;obtain⟨hF1,hfr⟩:Fine L1∧(q0m s.label=true→s.label.text ∉ L1.hy.map (·.lab)++L1.al.map (·.label.text)):=by
   unfold q3y at hl
   split at hl
   ·obtain⟨h1,rfl⟩:=q09 hl;have h2:(Y.zh L.T s.label.text).1=0:=by omega
    obtain⟨e1,e2⟩:=q70 h2;refine⟨hF.tabled hO.sub (Grew.of_eq (by rw[e2];rfl)),fun _ hc=>?_⟩;have hm:s.label.text ∈ L.T.labels:=hO.labs _ (mAp.1 hc);unfold Y.q2e at e1;have:=List.findIdx?_eq_none_iff.1 e1 _ hm
    simp at this
   ·rename_i hn
    cases hl;exact⟨hF,fun he=>absurd he hn⟩
  unfold zy at h
  split at h
  ·exact qns hF1 hO1.sub h
  ·split at h
   ·exact qjp hF1 hO1.sub h
   ·split at h
    ·unfold q38 at h
     split at h
     ·cases h
     ·exact q9l qjo s.words L1 L' hF1 hO1.sub h
    ·split at h
     ·exact q9l qqt s.words L1 L' hF1 hO1.sub h
     ·split at h
      ·exact qnt hF1 hO1.sc1 h
      ·split at h
       ·rename_i hk
        exact qjs hF1 hO1 (hfr (hs.lab (.inl hk))) (fun he=>(hs.two hk).2 he) h
       ·split at h
        ·rename_i hk
         exact qqw hF1 hO1 (hfr (hs.lab (.inr (.inl hk)))) h
        ·split at h
         ·rename_i hk
          exact qh7 hF1 hO1 (hfr (hs.lab (.inr (.inr hk)))) hpr h
         ·cases h;exact hF1
end
theorem fine0:Fine ld0:=by
 refine⟨List.nodup_nil,(fun h hh=>by cases hh),fun j=>?_,(fun p hp=>by cases hp),(fun a ha=>by cases ha)⟩;have e:jl (ld0.sc.take j)=[]:=by
  show jl (List.take j [⟨[],[]⟩])=[]
  cases j with
  | zero=>rfl
  | succ j=>rw[List.take_succ_cons,List.take_nil];rfl
 rw[e];intro h hh
 cases hh
theorem qh8:∀(l:List Stm) (L L':Ld) (k:Nat),Fine L→L.Ok k→(∀s ∈ l,SOk s∧s.words.length≤16384∧s.proof.length≤16384)→wu L l=.ok L'→Fine L'∧L'.Ok (k + 60000 * l.length)
 | [],L,L',k,hF,hO,_,h=>by
  cases h;exact⟨hF,hO⟩
 | s :: r,L,L',k,hF,hO,hs,h=>by
  unfold wu at h
  cases ht:qm L s with
  | error f=>rw[ht] at h;cases h
  | ok L1 =>
   rw[ht] at h;obtain⟨s1,s2,s3⟩:=hs s (by simp);have h1:=qnu hF hO s1 s3 ht;have h2:=qdo hO ⟨s1.lab,fun e he=>(s1.two e).2 he⟩ s1.ls s2 ht;obtain⟨h3,h4⟩:=qh8 r L1 L' _ h1 h2 (fun x hx=>hs x (by simp[hx])) h;exact⟨h3,h4.up (by rw[List.length_cons];omega)⟩
theorem ok0:Ld.Ok ld0 0:=by
 refine⟨⟨by decide,by decide,by decide,(fun p hp=>by cases hp),List.nodup_nil,(fun n hn=>by cases hn),(fun l hl=>by cases hl),(fun l hl=>by cases hl)⟩,by decide,by decide,by decide,List.Sublist.refl _,(fun h hh=>by cases hh),by decide,(fun p hp=>by cases hp),?_⟩;rintro s (h | h) <;> cases h
theorem qdq {txt:ByteArray}{L:Ld}(h:q1j txt=.ok L):Fine L∧L.Ok 1000000000:=by
 unfold q1j at h
 cases hr:wu ld0 (S.je txt).1.l with
 | error f=>rw[hr] at h;cases h
 | ok L1 =>
  rw[hr] at h;dsimp only at h;obtain⟨r1,r2⟩:=qaf txt;obtain⟨h1,h2⟩:=qh8 _ _ _ 0 fine0 ok0 r2 hr
  cases hf:(S.je txt).2 with
  | some f=>rw[hf] at h;cases h
  | none =>
   rw[hf] at h;dsimp only at h
   split at h
   ·cases h
   ·cases h;exact⟨h1,h2.up (by omega)⟩
open Go.RowKit Go.Maps Go.WideMaps
open F (uj yw HyC Pp q03 q99 qem xw)
def qh9 (l:List HyC):List Int:=l.flatMap fun y=>if y.h.fl=true then [y.h.var] else []
def qha (goal:List Int)(us:List HyC)(y:HyC):Bool:=!y.h.fl || qcs (goal++q03 us) y.h.var
def qqx (l:List Int)(p:Pp):Bool:=qcs l p.1 && qcs l p.2
structure NeedP (T:Y.Tab)(a:As)(ts us:List HyC):Prop where
 f:ts.map (·.h)=(us.filter (qha a.goal us)).map (·.h)
 p:∀q ∈ a.pairs,q.1 < q.2∧zn T q.1=true∧zn T q.2=true
 o:a.pairs.Pairwise F.ltP
 m:a.apart=a.pairs.filter (qqx (qh9 (us.filter (qha a.goal us))))
 v:∀x ∈ a.goal++q03 us,zn T x=true→qcs (qh9 (us.filter (qha a.goal us))) x=true
 e:∀y ∈ us,y.h.ex.length≤200
 l:a.goal.length≤200∧us.length≤1024∧a.pairs.length≤1048576
open F (HyC Pp q03)
theorem putP_le (l:List Pp)(p:Pp):(q9d l p).length≤l.length + 1:=by
 induction l with
 | nil=>exact Nat.le_refl _
 | cons q l ih =>
  unfold q9d
  split
  ·exact Nat.le_succ _
  ·split
   ·exact Nat.le_refl _
   ·rw[List.length_cons,List.length_cons];omega
theorem qcb (l:List Pp):(q05 l).length≤l.length:=by
 have h:∀(l a:List Pp),(l.foldl (fun a p=>q9d a (F.jo p)) a).length≤a.length + l.length:=by
  intro l
  induction l with
  | nil=>intro a;exact Nat.le_refl _
  | cons p l ih =>
   intro a;have h1:=ih (q9d a (F.jo p));have h2:=putP_le a (F.jo p);rw[List.foldl_cons,List.length_cons];omega
 have h1:=h (l.filter fun p=>!(p.1 == p.2)) [];have h2:=List.length_filter_le (fun p:Pp=>!(p.1 == p.2)) l;unfold q05;rw[List.length_nil] at h1;omega
theorem qnv {hy:List F.Hy}(hn:(hy.map (·.lab)).Nodup){h:F.Hy}(hh:h ∈ hy):q3q hy (yg hy h)=h:=by
 obtain⟨i,e,hi⟩:=qh5 hn hh;rw[e];unfold q3q;rw[Int.toNat_natCast,List.getD_eq_getElem?_getD,hi]
 rfl
theorem q65 {hy:List F.Hy}(hn:(hy.map (·.lab)).Nodup){hs:List F.Hy}(hh:∀h ∈ hs,h ∈ hy):(hs.map (yg hy)).map (q3q hy)=hs:=by
 rw[List.map_map]
 conv=>rhs;rw[←List.map_id hs]
 exact List.map_congr_left fun h hm=>qnv hn (hh h hm)
theorem qew (us:List HyC):q03 us=q9e (us.map (·.h)):=by
 unfold q03 q9e;rw[List.flatMap_map]
theorem qqy {l:List HyC}{x:Int}:qcs (qh9 l) x=true↔∃y ∈ l,y.h.fl=true∧y.h.var=x:=by
 unfold qcs qh9;rw[List.contains_iff_mem,List.mem_flatMap];constructor
 ·rintro⟨y,hy,hx⟩
  cases hf:y.h.fl with
  | true=>rw[hf,if_pos rfl] at hx;exact⟨y,hy,hf,(mSg.1 hx).symm⟩
  | false=>rw[hf,if_neg (by simp)] at hx;cases hx
 ·rintro⟨y,hy,hf,rfl⟩;exact⟨y,hy,by rw[hf,if_pos rfl];exact mSg.2 rfl⟩
theorem ess_mem {hs:List F.Hy}{x:Int}:x ∈ q9e hs↔∃h ∈ hs,h.fl=false∧x ∈ h.ex:=by
 unfold q9e;rw[List.mem_flatMap];constructor
 ·rintro⟨y,hy,hx⟩
  cases hf:y.fl with
  | true=>rw[hf,if_pos rfl] at hx;cases hx
  | false=>rw[hf,if_neg (by simp)] at hx;exact⟨y,hy,hf,hx⟩
 ·rintro⟨y,hy,hf,hx⟩;exact⟨y,hy,by rw[hf,if_neg (by simp)];exact hx⟩
theorem q8f {T:Y.Tab}{hy:List F.Hy}{a:As}{hs:List F.Hy}{ps:List Pp}{us:List HyC}(hA:AlF T hy a hs ps)(hu:us.map (·.h)=hs){x:Int}(hx:zn T x=true):qcs (qh9 (us.filter (qha a.goal us))) x=(a.goal++q03 us).contains x:=by
 rw[Bool.eq_iff_iff,qqy,List.contains_iff_mem];constructor
 ·rintro⟨y,hm,hf,rfl⟩;have h2:=(List.mem_filter.1 hm).2;unfold qha qcs at h2;rw[hf] at h2;exact List.contains_iff_mem.1 (by simpa using h2)
 ·intro hm;have h1:∃g ∈ hs,g.fl=true∧g.var=x:=by
   rcases mAp.1 hm with h | h
   ·exact hA.tg x h hx
   ·rw[qew,hu] at h;obtain⟨g,hg,hf,hxx⟩:=ess_mem.1 h;exact hA.ty g hg hf x hxx hx
  obtain⟨g,hg,hf,hv⟩:=h1;rw[←hu] at hg;obtain⟨y,hy',rfl⟩:=List.mem_map.1 hg;refine⟨y,List.mem_filter.2 ⟨hy',?_⟩,hf,hv⟩;unfold qha qcs;rw[hf,hv,List.contains_iff_mem.2 hm]
  rfl
theorem q8g {T:Y.Tab}{hs:List F.Hy}{goal:List Int}{us:List HyC}(hu:us.map (·.h)=hs){x:Int}(hx:zn T x=true):q55 T hs goal x=(goal++q03 us).contains x:=by
 unfold q55;rw[hx,qew,hu,Bool.true_and]
theorem qhb {T:Y.Tab}{r q:Pp}(h:zn T r.1=true∧zn T r.2=true)(e:F.jo r=q):zn T q.1=true∧zn T q.2=true:=by
 subst e;unfold F.jo;rcases Int.le_total r.1 r.2 with h1 | h1
 ·rw[Int.min_eq_left h1,Int.max_eq_right h1];exact h
 ·rw[Int.min_eq_right h1,Int.max_eq_left h1];exact⟨h.2,h.1⟩
theorem qdr {F1:Int→Bool}{r q:Pp}(e:F.jo r=q):(F1 q.1 && F1 q.2)=(F1 r.1 && F1 r.2):=by
 subst e;unfold F.jo;rcases Int.le_total r.1 r.2 with h1 | h1
 ·rw[Int.min_eq_left h1,Int.max_eq_right h1]
 ·rw[Int.min_eq_right h1,Int.max_eq_left h1,Bool.and_comm]
theorem need_of {L:Ld}(hF:Fine L)(hl:L.hy.length≤1024){a:As}{hs:List F.Hy}{ps:List Pp}(hA:AlF L.T L.hy a hs ps){ts us:List HyC}(ht:ts.map (·.h)=a.needed.map (q3q L.hy))(hu':us.map (·.h)=a.active.map (q3q L.hy)):NeedP L.T a ts us:=by
 have hn:(L.hy.map (·.lab)).Nodup:=(List.nodup_append.1 hF.nd).1;have hu:us.map (·.h)=hs:=by rw[hu',hA.act,q65 hn fun h hh=>hA.sub.subset hh]
 have hin:∀y ∈ us,y.h ∈ L.hy:=fun y hy=>hA.sub.subset (by rw[←hu];exact List.mem_map_of_mem hy)
 have hpn:=qbn ps;have hps:∀q ∈ a.pairs,zn L.T q.1=true∧zn L.T q.2=true:=fun q hq=>by
  rw[hA.pai] at hq;obtain⟨_,r,hr,e⟩:=(hpn.mem q).1 hq;exact qhb (hA.pw r hr) e
 refine⟨?_,?_,?_,?_,?_,?_,?_⟩
 ·rw[ht,hA.nee,q65 hn fun h hh=>hA.sub.subset (List.mem_filter.1 hh).1,←hu,List.filter_map]
  congr 1
  refine List.filter_congr fun y hy=>?_
  show (q55 L.T (us.map (·.h)) a.goal y.h.var || !y.h.fl)=qha a.goal us y
  unfold qha qcs
  cases hf:y.h.fl with
  | false=>simp
  | true=>rw[q8g rfl ((hF.hyp _ (hin y hy)).fl hf).2];simp
 ·intro q hq;have h1:=hps q hq;rw[hA.pai] at hq;exact⟨((hpn.mem q).1 hq).1,h1⟩
 ·rw[hA.pai];exact hpn.up
 ·rw[hA.apa]
  symm
  refine norm_eq ⟨?_,fun q=>?_⟩
  ·rw[hA.pai];exact hpn.up.filter _
  ·rw[List.mem_filter];constructor
   ·rintro⟨hq,hb⟩;have hv:=hps q hq;rw[hA.pai] at hq;obtain⟨hlt,r,hr,e⟩:=(hpn.mem q).1 hq;refine⟨hlt,r,List.mem_filter.2 ⟨hr,?_⟩,e⟩;unfold qqx at hb;rw[q8f hA hu hv.1,q8f hA hu hv.2,←q8g (T:=L.T) hu hv.1,←q8g (T:=L.T) hu hv.2] at hb;rw[←qdr (F1:=q55 L.T hs a.goal) e];exact hb
   ·rintro⟨hlt,r,hr,e⟩;obtain⟨hr,hb⟩:=List.mem_filter.1 hr;have hv:=qhb (hA.pw r hr) e;refine⟨by rw[hA.pai];exact (hpn.mem q).2 ⟨hlt,r,hr,e⟩,?_⟩;unfold qqx;rw[q8f hA hu hv.1,q8f hA hu hv.2,←q8g (T:=L.T) hu hv.1,←q8g (T:=L.T) hu hv.2,qdr (F1:=q55 L.T hs a.goal) e];exact hb
 ·intro x hx hv;rw[q8f hA hu hv];exact List.contains_iff_mem.2 hx
 ·intro y hy;exact (hF.hyp _ (hin y hy)).st.le
 ·refine⟨hA.goal.le,?_,?_⟩
  ·have h1:=congrArg List.length hu;rw[lMa] at h1;have h2:=hA.sub.length_le;omega
  ·rw[hA.pai];have h1:=qcb ps;have h2:=hA.len;omega
structure GoodA (L:Ld)(i:Nat)(a:As):Prop where
 inn:qa8 L.hy a
 fnd:q3a L.al a.label.text=some i
 hyp:q1p L.hy a.label.text=none
 siz:a.label.text.size≤maxLen
 goal:q64 L.T a.goal
 ned:∀ts us:List HyC,ts.map (·.h)=a.needed.map (q3q L.hy)→us.map (·.h)=a.active.map (q3q L.hy)→NeedP L.T a ts us
 mem:∀us:List HyC,us.map (·.h)=a.active.map (q3q L.hy)→∀y ∈ us,qa9 L.T y.h∧(∃n,q1p L.hy y.h.lab=some n∧L.hy[n]?=some y.h)∧y.h.lab.size≤maxLen
 beh:∀ts us:List HyC,ts.map (·.h)=a.needed.map (q3q L.hy)→us.map (·.h)=a.active.map (q3q L.hy)→(us.filter (qqj L.T a.goal us)).map (·.h)=ts.map (·.h)
section
variable {L L':Ld} {s:Stm}
theorem qex {f:Y.Tab→ByteArray→Nat × Nat × Y.Tab}:∀(ts:List Tok) (L L':Ld),q0l f L ts=.ok L'→L'.al=L.al
 | [],L,L',e=>by cases e;rfl
 | t :: ts,L,L',e=>by
  unfold q0l at e
  split at e
  ·exact (qex ts _ L' e).trans rfl
  ·cases e
theorem take_al (h:qm L s=.ok L'):L'.al=L.al∨∃L1 g,L'.al=L.al++[q4f L1 s g]:=by
 unfold qm at h
 cases hl:q3y L s.label with
 | error f=>rw[hl] at h;cases h
 | ok L1 =>
  rw[hl] at h;dsimp only at h;have e1:L1.al=L.al:=by
   unfold q3y at hl
   split at hl
   ·obtain⟨_,rfl⟩:=q09 hl;rfl
   ·cases hl;rfl
  rw[←e1];unfold zy at h
  split at h
  ·unfold q89 at h
   split at h
   ·obtain⟨_,rfl⟩:=q09 h;exact .inl rfl
   ·cases h
  ·split at h
   ·unfold q63 at h
    split at h
    ·obtain⟨_,rfl⟩:=q09 h;exact .inl rfl
    ·cases h
   ·split at h
    ·unfold q38 at h
     split at h
     ·cases h
     ·exact .inl (qex _ _ _ h)
    ·split at h
     ·exact .inl (qex _ _ _ h)
     ·split at h
      ·unfold q2s at h
       split at h
       ·split at h
        ·obtain⟨_,rfl⟩:=q09 h;exact .inl rfl
        ·cases h;exact .inl rfl
       ·cases h
      ·split at h
       ·unfold q1s at h
        split at h
        ·split at h
         ·obtain⟨_,rfl⟩:=q09 h;exact .inl rfl
         ·cases h;exact .inl rfl
        ·cases h
       ·split at h
        ·unfold q7e at h
         split at h
         ·split at h
          ·obtain⟨_,rfl⟩:=q09 h;exact .inl rfl
          ·cases h;exact .inl rfl
         ·cases h
        ·split at h
         ·unfold q1m at h
          split at h
          ·split at h
           ·obtain⟨_,rfl⟩:=q09 h;exact .inr ⟨L1,_,rfl⟩
           ·cases h;exact .inl rfl
          ·cases h
         ·cases h;exact .inl rfl
end
theorem qqz:∀(l:List Stm) (L L':Ld),(∀s ∈ l,s.label.text.size≤65536)→(∀a ∈ L.al,a.label.text.size≤65536)→wu L l=.ok L'→∀a ∈ L'.al,a.label.text.size≤65536
 | [],L,L',_,h,e=>by cases e;exact h
 | s :: r,L,L',hs,h,e=>by
  unfold wu at e
  cases ht:qm L s with
  | error f=>rw[ht] at e;cases e
  | ok L1 =>
   rw[ht] at e;refine qqz r L1 L' (fun x hx=>hs x (by simp[hx])) (fun a ha=>?_) e;rcases take_al ht with h1 | ⟨L2,g,h1⟩
   ·rw[h1] at ha;exact h a ha
   ·rw[h1] at ha;rcases mAp.1 ha with ha | ha
    ·exact h a ha
    ·rw[mSg.1 ha];exact hs s (by simp)
theorem load_al {txt:ByteArray}{L:Ld}(h:q1j txt=.ok L):∀a ∈ L.al,a.label.text.size≤65536:=by
 unfold q1j at h
 cases hr:wu ld0 (S.je txt).1.l with
 | error f=>rw[hr] at h;cases h
 | ok L1 =>
  rw[hr] at h;dsimp only at h;have h1:=qqz _ _ _ (fun s hs=>((qaf txt).2 s hs).1.ls) (fun a ha=>by cases ha) hr
  cases hf:(S.je txt).2 with
  | some f=>rw[hf] at h;cases h
  | none =>
   rw[hf] at h;dsimp only at h
   split at h
   ·cases h
   ·cases h;exact h1
theorem qnw {al:List As}(hn:(al.map (·.label.text)).Nodup){i:Nat}{a:As}(hi:al[i]?=some a):q3a al a.label.text=some i:=by
 unfold q3a;rw[List.findIdx?_eq_some_iff_getElem];obtain⟨hlt,he⟩:=List.getElem?_eq_some_iff.1 hi;refine⟨hlt,by simp[he],fun j hj=>?_⟩;have hjl:j < al.length:=by omega
 intro hc;have hc':al[j].label.text=a.label.text:=by simpa using hc
 rw[←he] at hc';have h1:(al.map (·.label.text))[j]'(by simpa using hjl)=(al.map (·.label.text))[i]'(by simpa using hlt):=by simpa using hc'
 have h2:=(List.pairwise_iff_getElem.1 hn) j i (by simpa using hjl) (by simpa using hlt) hj;exact h2 h1
theorem qr0 {txt:ByteArray}{L:Ld}(h:q1j txt=.ok L){i:Nat}{a:As}(hi:L.al[i]?=some a):GoodA L i a:=by
 obtain⟨hF,hO⟩:=qdq h;have ha:a ∈ L.al:=mGe hi;obtain⟨hs,ps,hA⟩:=hF.al a ha;obtain⟨hn1,hn2,hn3⟩:=List.nodup_append.1 hF.nd;have hl1:=hO.hy1;have hl:L.hy.length≤1024:=by omega
 have hz:=load_al h a ha;have hact:∀us:List HyC,us.map (·.h)=a.active.map (q3q L.hy)→us.map (·.h)=hs:=fun us hu=>by rw[hu,hA.act,q65 hn1 fun h hh=>hA.sub.subset hh]
 have hlen:=hA.sub.length_le;have hpl:=qcb ps;have hap:a.apart.length≤ps.length:=by
  rw[hA.apa];exact nLt (qcb _) (List.length_filter_le _ _)
 have hpa:a.pairs.length≤ps.length:=by rw[hA.pai];exact hpl
 have h256:=hA.len;have hg:=hA.goal.le;have hpr:=hA.pr;have hin:∀p ∈ hs.map (yg L.hy),∃i:Nat,p=i∧i < L.hy.length:=fun p hp=>by
  obtain⟨g,hg,rfl⟩:=List.mem_map.1 hp;obtain⟨j,e,hj⟩:=qh5 hn1 (hA.sub.subset hg);exact⟨j,e,(List.getElem?_eq_some_iff.1 hj).1⟩
 refine⟨⟨by omega,⟨?_,?_⟩,by omega,⟨?_,?_⟩,by omega,by omega,fun y hy=>nLt (hO.ex y hy).1 (by decide)⟩,qnw hn2 hi,?_,nLt hz (by decide),hA.goal,fun ts us ht hu=>need_of hF hl hA ht hu,?_,?_⟩
 ·rw[hA.nee,lMa];have h2:=List.length_filter_le (fun h=>q55 L.T hs a.goal h.var || !h.fl) hs;omega
 ·intro p hp;rw[hA.nee] at hp;obtain⟨g,hg,e⟩:=List.mem_map.1 hp;exact hin p (List.mem_map.2 ⟨g,(List.mem_filter.1 hg).1,e⟩)
 ·rw[hA.act,lMa];omega
 ·rw[hA.act];exact hin
 ·unfold q1p;rw[List.findIdx?_eq_none_iff];intro y hy;have:=hn3 y.lab (List.mem_map_of_mem hy) a.label.text (List.mem_map_of_mem ha)
  simpa using this
 ·intro us hu y hy;have hm:y.h ∈ L.hy:=hA.sub.subset (by rw[←hact us hu];exact List.mem_map_of_mem hy);obtain⟨j,hj⟩:=List.mem_iff_getElem?.1 hm;exact⟨hF.hyp _ hm,⟨j,q9k hn1 hj,hj⟩,nLt (hO.ex _ hm).2.2.2 (by decide)⟩
 ·intro ts us ht hu;rw[ht,hA.nee,q65 hn1 fun h hh=>hA.sub.subset (List.mem_filter.1 hh).1,←hact us hu,List.filter_map]
  congr 1
  refine List.filter_congr fun y hy=>?_
  show qqj L.T a.goal us y=(q55 L.T (us.map (·.h)) a.goal y.h.var || !y.h.fl)
  unfold qqj q55;rw[qew]
end B
namespace S.K
theorem q9w {s:ByteArray}{q:Nat}{l:List Tok}(h:ToldTo s q l):∀t ∈ l,∃n m,q5x s t n m:=by
 induction h with
 | nil=>intro t ht;cases ht
 | snoc _ _ hs _ _ _ ih =>
  intro t ht;rcases mAp.1 ht with ht | ht
  ·exact ih t ht
  ·rw[mSg.1 ht];exact⟨_,_,hs⟩
theorem qds {s:ByteArray}{t:Tok}{n m:Nat}(h:q5x s t n m):Wd t.text.data.toList∧t.text.size≤65536:=by
 have e:t.text.data.toList=(s.data.toList.drop n).take (m - n):=by rw[h.text,Lib.extract_data]
 have hl:(s.data.toList.drop n).take (m - n)≠[]:=by
  have h1:=h.lt;have h2:=h.le;intro h3;have h4:=congrArg List.length h3;rw[List.length_take,List.length_drop] at h4;have h5:s.data.toList.length=s.size:=rfl;rw[h5] at h4;simp only[List.length_nil] at h4;omega
 refine⟨⟨by rw[e];exact hl,fun b hb=>?_⟩,?_⟩
 ·rw[e] at hb;obtain⟨i,hi⟩:=List.mem_iff_getElem?.1 hb;have hlt:=(List.getElem?_eq_some_iff.1 hi).1;rw[List.length_take,List.length_drop] at hlt;have h5:s.data.toList.length=s.size:=rfl;rw[h5] at hlt;rw[List.getElem?_take_of_lt (by omega),List.getElem?_drop] at hi;have hk:=h.word (n + i) (by omega) (by omega) (by omega);have h6:s.data.toList[n + i]?=some (s[n + i]'(by omega)):=by
   rw[gEq (by rw[h5];omega)]
   rfl
  rw[h6] at hi
  cases hi;have h7:(2:Int)≤zy (s[n + i]'(by omega)).toNat:=hk;exact h7
 ·have h8:t.text.size=t.text.data.toList.length:=rfl;rw[h8,e,List.length_take];have:=h.le6
  omega
structure Oth (ts:List Tok)(j:Nat)(o:ByteArray):Prop where
 says:Says o.data.toList ((ts.take j).map (·.text.data.toList))
 len:o.size≤j * 65600
theorem Oth.zero (ts:List Tok):Oth ts 0 ⟨#[]⟩:=⟨q7y,Nat.zero_le _⟩
theorem Oth.step {s:ByteArray}{j:Nat}{o:ByteArray}{t:Tok}(h:Oth (yt s).1 j o)(ht:(yt s).1[j]?=some t)(k:Nat):Oth (yt s).1 (j + 1) (o++t.text++⟨(q8y k).toArray⟩):=by
 obtain⟨q,hq⟩:=(q6h s).1;have hm:=mGe ht;obtain⟨n,m,hs⟩:=q9w hq t hm;obtain⟨hw,hz⟩:=qds hs;have hb:=scan_nb s t hm;have e:(o++t.text++⟨(q8y k).toArray⟩:ByteArray).data.toList=o.data.toList++(t.text.data.toList++q8y k):=by
  simp[ByteArray.data_append]
 refine⟨?_,?_⟩
 ·rw[e,List.take_add_one,ht,List.map_append];exact h.says.app (qpd hw hb k)
 ·have h1:(o++t.text++⟨(q8y k).toArray⟩:ByteArray).size=o.size + (t.text.size + (q8y k).length):=by
   have:=congrArg List.length e
   simp only[lAp] at this;exact this
  have h2:=qe8 k;have h3:=h.len;rw[h1];omega
theorem Oth.scan {s o:ByteArray}(h:Oth (yt s).1 (yt s).1.length o)(hz:o.size≤65536)(hn:(yt s).1.length≤16384):∃us,yt o=(us,none)∧us.map (·.text.data.toList)=(yt s).1.map (·.text.data.toList):=by
 have hs:=h.says;rw[List.take_length] at hs;exact qmb rfl hs hz (by rw[lMa];exact hn)
end S.K
namespace B
open S (Tok Stm)
theorem qdt {s:ByteArray}{L:Ld}(h:q1j s=.ok L):(S.je s).2=none:=by
 unfold q1j at h
 cases ha:wu ld0 (S.je s).1.l with
 | error f=>rw[ha] at h;cases h
 | ok L1 =>
  rw[ha] at h;dsimp only at h
  cases hg:(S.je s).2 with
  | some f=>rw[hg] at h;cases h
  | none=>rfl
theorem qnx {s:ByteArray}(h:(S.je s).2=none):(S.K.yt s).2=none:=by
 unfold S.je at h;generalize S.runT S.ps0 (S.q0e s)=R at h;obtain⟨P,f⟩:=R
 cases f with
 | some f=>cases h
 | none =>
  dsimp only at h
  cases hc:(S.K.yt s).2 with
  | some f=>rw[hc] at h;cases h
  | none=>rfl
theorem qr1 {s o:ByteArray}{us:List S.K.Tok}(h:S.K.yt o=(us,none))(e:us.map (·.text.data.toList)=(S.K.yt s).1.map (·.text.data.toList)):(S.q0e s).map (·.text)=(S.q0e o).map (·.text):=by
 unfold S.q0e;rw[h];rw[List.map_map,List.map_map];have g:∀l:List S.K.Tok,l.map ((fun t:Tok=>t.text) ∘ S.toT)=(l.map (·.text.data.toList)).map fun b=>(⟨b.toArray⟩:ByteArray):=fun l=>by
  rw[List.map_map];exact List.map_congr_left fun t _=>by simp[S.toT]
 rw[g,g,e]
theorem qhc {s o:ByteArray}{L:Ld}(h:q1j s=.ok L)(ho:S.K.Oth (S.K.yt s).1 (S.K.yt s).1.length o)(hz:o.size≤65536)(hn:(S.K.yt s).1.length≤16384)(hf:∀x ∈ (S.je s).1.l,x.words.length≤1048576∧x.proof.length≤1048576) :
  ∃M,q1j o=.ok M∧qng false L M∧(S.je s).1.l.length=(S.je o).1.l.length∧∀(j:Nat) (a b:Stm),(S.je s).1.l[j]?=some a→(S.je o).1.l[j]?=some b→q68 false a b:=by
 obtain⟨us,e1,e2⟩:=ho.scan hz hn;obtain⟨r1,r2,r3⟩:=qjh (qr1 e1 e2) (qdt h) (by rw[e1]) hf;obtain⟨M,m1,m2⟩:=qnj h r2 r3 r1;exact⟨M,m1,m2,r2,r3⟩
end B
end Go.Proofs.YtbancemhfjjmlaaGreatDoor
