/- Laid together: SKTok, SKPlaces, SReadF, SRRead, SKLays. -/
import Derived.Test.YtbancemhfjjmlaaGreatDoorQA05
import Derived.Test.YtbancemhfjjmlaaGreatDoorQA04
import Derived.Test.YtbancemhfjjmlaaGreatDoorQA03
import Derived.Shelf.LaysM
import Derived.Test.YtbancemhfjjmlaaGreatDoorProg
set_option maxRecDepth 100000
set_option maxHeartbeats 32000000
namespace Go.Proofs.YtbancemhfjjmlaaGreatDoor
namespace S.K
theorem q9k (r:Rd):q3s r=!r.opn.text.data.toList.isEmpty:=by
 unfold q3s
 rw[ByteArray.toList_eq]
def q7t (s:ByteArray)(i:Nat)(p:Int→Prop):Prop:=∀h:i < s.size,p (xq (s[i]'h).toNat)
structure q6j (s:ByteArray)(t:Tok)(n m:Nat):Prop where
 off:t.off=n
 lt:n < m
 le:m≤s.size
 le6:m≤65536
 text:t.text=s.extract n m
 line:t.line=q2p (s.data.toList.take n)
 col:t.col=q6h (s.data.toList.take n)
 word:∀i,n≤i→i < m→q7t s i (2≤·)
 ahead:0 < n→q7t s (n - 1) (·=1)
 behind:q7t s m (·=1)
structure qid (s:ByteArray)(t:Tok)(c:Int)(n:Nat):Prop where
 text:t.text=⟨#[]⟩
 off:t.off=n
 lt:n < s.size
 line:t.line=q2p (s.data.toList.take n)
 col:t.col=q6h (s.data.toList.take n)
 code:c=13∧n=65536∨c=10∧n < 65536∧q7t s n (·=0)
inductive Chain (s:ByteArray):Nat→List (Tok × Int)→Prop
 | done {p:Nat}:s.size≤65536→Chain s p []
 | word {p n m:Nat} {t:Tok} {es:List (Tok × Int)}:p≤n→q6j s t n m→Chain s (m + 1) es→Chain s p ((t,0) :: es)
 | fault {p n:Nat} {t:Tok} {c:Int}:p≤n→qid s t c n→Chain s p [(t,c)]
theorem Chain.less {s:ByteArray}{p q:Nat}{es:List (Tok × Int)}(h:Chain s p es)(hq:q≤p):Chain s q es:=by
 cases h with
 | done h=>exact .done h
 | word a b c=>exact .word (Nat.le_trans hq a) b c
 | fault a b=>exact .fault (Nat.le_trans hq a) b
theorem qjt (s:ByteArray):∀(j k start:Nat) (line ls:Nat),k + j=s.size→k≤65536→start≤k→line=q2p (s.data.toList.take k)→line=q2p (s.data.toList.take start) →
  (q6h (s.data.toList.take k):Int)=k - ls + 1→(q6h (s.data.toList.take start):Int)=start - ls + 1→(∀i,start≤i→i < k→q7t s i (2≤·))→(0 < start→q7t s (start - 1) (·=1)) →
  Chain s start (evs s (s.data.toList.drop k) k start line ls):=by
 intro j
 induction j with
 | zero =>
  intro k start line ls hk hK hs hl1 hl2 hc1 hc2 hw ha
  rw[qmd s k start line ls (by omega)]
  by_cases h:start < k
  ·rw[if_pos h]
   exact .word (Nat.le_refl _) ⟨rfl,h,by omega,by omega,rfl,by show (line:Int)=_;omega,hc2.symm,hw,ha,fun hx=>by omega⟩ (.done (by omega))
  ·rw[if_neg h];exact .done (by omega)
 | succ j ih =>
  intro k start line ls hk hK hs hl1 hl2 hc1 hc2 hw ha
  have hlt:k < s.size:=by omega
  have hr:=q8i (s[k].toNat:Int) (by omega)
  by_cases hc:q1e k s[k]=0
  ·have hk6:k≠65536:=by intro e;unfold q1e at hc;rw[if_pos e] at hc;omega
   have hk0:xq s[k].toNat≠0:=by intro e;unfold q1e at hc;rw[if_neg hk6,if_pos e] at hc;omega
   by_cases hb:xq s[k].toNat=1
   ·rw[qdv s k start line ls hlt hc hb]
    have hC:Chain s (k + 1) (evs s (s.data.toList.drop (k + 1)) (k + 1) (k + 1) (if s[k]=10 then line + 1 else line) (if s[k]=10 then k + 1 else ls)):=by
     have e1:(if s[k]=10 then line + 1 else line)=q2p (s.data.toList.take (k + 1)):=by
      rw[take_snoc s k hlt,q9i,←hl1];split <;> rfl
     have e2:(q6h (s.data.toList.take (k + 1)):Int)=((k + 1:Nat):Int) - ((if s[k]=10 then k + 1 else ls:Nat):Int) + 1:=by
      rw[take_snoc s k hlt,q7p]
      by_cases e:s[k]=10
      ·rw[if_pos e,if_pos e];omega
      ·rw[if_neg e,if_neg e];omega
     refine ih (k + 1) (k + 1) _ _ (by omega) (by omega) (Nat.le_refl _) e1 e1 e2 e2 (fun i h1 h2=>by omega) (fun _ h=>?_)
     simpa using hb
    by_cases h:start < k
    ·rw[if_pos h]
     exact .word (Nat.le_refl _) ⟨rfl,h,by omega,by omega,rfl,by show (line:Int)=_;omega,hc2.symm,hw,ha,fun _=>hb⟩ hC
    ·rw[if_neg h];exact hC.less (by omega)
   ·rw[qia s k start line ls hlt hc hb]
    have hn:s[k]≠10:=by intro e;rw[e] at hb;exact hb (by decide)
    refine ih (k + 1) start line ls (by omega) (by omega) (by omega) ?_ hl2 ?_ hc2 (fun i h1 h2=>?_) ha
    ·rw[take_snoc s k hlt,q9i,if_neg hn];omega
    ·rw[take_snoc s k hlt,q7p,if_neg hn];omega
    ·by_cases e:i=k
     ·subst e;intro _;show (2:Int)≤_;omega
     ·exact hw i h1 (by omega)
  ·rw[qdu s k start line ls hlt hc]
   refine .fault (n:=k) hs ⟨rfl,rfl,hlt,by show (line:Int)=_;omega,hc1.symm,?_⟩
   unfold q1e
   by_cases e:k=65536
   ·rw[if_pos e];exact .inl ⟨rfl,e⟩
   ·rw[if_neg e]
    by_cases e0:xq s[k].toNat=0
    ·rw[if_pos e0];exact .inr ⟨rfl,by omega,fun _=>e0⟩
    ·exact absurd (by unfold q1e;rw[if_neg e,if_neg e0]) hc
theorem qcp (s:ByteArray):Chain s 0 (events s):=by
 unfold events
 have:=qjt s s.size 0 0 1 0 (by omega) (by omega) (Nat.le_refl _) rfl rfl (by rfl) (by rfl) (fun i h1 h2=>by omega) (fun h=>by omega)
 simpa using this
inductive ToldTo (s:ByteArray):Nat→List Tok→Prop
 | nil {q:Nat}:ToldTo s q []
 | snoc {p q n m:Nat} {l:List Tok} {t:Tok}:ToldTo s p l→p≤n→q6j s t n m→isOpen t.text=false→q46 t.text=false→m < q→ToldTo s q (l++[t])
theorem ToldTo.more {s:ByteArray}{p q:Nat}{l:List Tok}(h:ToldTo s p l)(hq:p≤q):ToldTo s q l:=by
 cases h with
 | nil=>exact .nil
 | snoc a b c d e f=>exact .snoc a b c d e (Nat.lt_of_lt_of_le f hq)
theorem ToldTo.last {s:ByteArray}{q:Nat}{l:List Tok}(h:ToldTo s q l)(t:Tok)(ht:l[l.length - 1]?=some t):∃n m,q6j s t n m∧m < q:=by
 cases h with
 | nil=>simp at ht
 | snoc a b c d e f =>
  simp only[List.length_append,List.length_singleton,Nat.add_sub_cancel,List.getElem?_concat_length,Option.some.injEq] at ht
  subst ht
  exact⟨_,_,c,f⟩
theorem ToldTo.at {s:ByteArray}{q:Nat}{l:List Tok}(h:ToldTo s q l):∀(i:Nat) (t:Tok),l[i]?=some t →
  ∃n m,q6j s t n m∧isOpen t.text=false∧q46 t.text=false∧∀t',0 < i→l[i - 1]?=some t'→∃n' m',q6j s t' n' m'∧m' < n:=by
 induction h with
 | nil=>intro i t h;simp at h
 | @snoc p q n m l x a b c d e f ih =>
  intro i t ht
  by_cases hi:i < l.length
  ·rw[List.getElem?_append_left hi] at ht
   obtain⟨n,m,h1,h2,h3,h4⟩:=ih i t ht
   refine⟨n,m,h1,h2,h3,fun t' h0 ht'=>h4 t' h0 ?_⟩
   rwa [List.getElem?_append_left (by omega)] at ht'
  ·have hi':i=l.length:=by
    have:=(List.getElem?_eq_some_iff.1 ht).1
    simp only[List.length_append,List.length_singleton] at this
    omega
   subst hi'
   simp only[List.getElem?_concat_length,Option.some.injEq] at ht
   subst ht
   refine⟨n,m,c,d,e,fun t' h0 ht'=>?_⟩
   rw[List.getElem?_append_left (by omega)] at ht'
   obtain⟨n',m',h1,h2⟩:=a.last t' ht'
   exact⟨n',m',h1,by omega⟩
def qie (s:ByteArray)(told:List Tok)(t:Tok)(c:Int):Prop :=
 (∃q n,ToldTo s q told∧q≤n∧qid s t c n)∨∃q n m,ToldTo s q told∧q≤n∧q6j s t n m∧(c=11∨c=12∧isOpen t.text=true∨c=13∧told.length=16384)
def qmj (s:ByteArray)(r:Rd):Prop:=q3s r=true→isOpen r.opn.text=true∧∃q n m,ToldTo s q r.told∧q≤n∧q6j s r.opn n m
theorem qg9 (o t:Tok):(takeC o t).1=0∨(takeC o t).1=11:=by
 unfold takeC;split
 ·exact .inl rfl
 ·split
  ·exact .inr rfl
  ·exact .inl rfl
theorem qju (o t:Tok):(takeC o t).2=o∨(takeC o t).2=q71:=by
 unfold takeC;split
 ·exact .inr rfl
 ·split
  ·exact .inl rfl
  ·exact .inl rfl
theorem qjv (s:ByteArray):∀(es:List (Tok × Int)) (p:Nat) (r:Rd),Chain s p es→ToldTo s p r.told→qmj s r →
  (∃q,ToldTo s q (xw r es).1.told)∧qmj s (xw r es).1∧((xw r es).2=none→s.size≤65536)∧∀t c,(xw r es).2=some (t,c)→qie s (xw r es).1.told t c:=by
 intro es
 induction es with
 | nil =>
  intro p r hC hT hO
  cases hC with
  | done h=>exact⟨⟨p,hT⟩,hO,fun _=>h,fun t c h=>by cases h⟩
 | cons e es ih =>
  intro p r hC hT hO
  cases hC with
  | fault hpn hf =>
   rename_i n t c
   have hne:c≠0:=by rcases hf.code with ⟨h,_⟩ | ⟨h,_⟩ <;> omega
   simp only[xw,if_neg hne]
   exact⟨⟨p,hT⟩,hO,fun h=>(by cases h),fun t' c' h=>by cases h;exact .inl ⟨p,n,hT,hpn,hf⟩⟩
  | word hp hs hC =>
   rename_i n m t
   simp only[xw,if_true]
   have hnm:=hs.lt
   by_cases hin:q3s r=true
   ·have e1:ql r t=((takeC r.opn t).1,{ r with opn:=(takeC r.opn t).2 }):=by unfold ql;rw[if_pos hin]
    have hO':qmj s { r with opn:=(takeC r.opn t).2 }:=by
     intro h
     rcases qju r.opn t with e | e
     ·simp only[e];exact hO hin
     ·simp only[q9k,e] at h;exact absurd h (by decide)
    rw[e1]
    by_cases hc:(takeC r.opn t).1=0
    ·simp only[hc,if_true]
     exact ih _ _ hC (hT.more (by omega)) hO'
    ·simp only[if_neg hc]
     have h11:(takeC r.opn t).1=11:=(qg9 r.opn t).resolve_left hc
     exact⟨⟨p,hT⟩,hO',fun h=>(by cases h),fun t' c' h=>by cases h;exact .inr ⟨p,n,m,hT,hp,hs,.inl h11⟩⟩
   ·by_cases ho:isOpen t.text=true
    ·have e1:ql r t=(0,{ r with opn:=t }):=by unfold ql;rw[if_neg hin,if_pos ho]
     rw[e1]
     simp only[if_true]
     exact ih _ _ hC (hT.more (by omega)) (fun _=>⟨ho,p,n,m,hT,hp,hs⟩)
    ·by_cases hsh:q46 t.text=true
     ·have e1:ql r t=(11,r):=by unfold ql;rw[if_neg hin,if_neg ho,if_pos hsh]
      rw[e1]
      simp only[show ¬(11:Int)=0 by omega,if_false]
      exact⟨⟨p,hT⟩,hO,fun h=>(by cases h),fun t' c' h=>by cases h;exact .inr ⟨p,n,m,hT,hp,hs,.inl rfl⟩⟩
     ·by_cases hl:r.told.length=16384
      ·have e1:ql r t=(13,r):=by unfold ql;rw[if_neg hin,if_neg ho,if_neg hsh,if_pos hl]
       rw[e1]
       simp only[show ¬(13:Int)=0 by omega,if_false]
       exact⟨⟨p,hT⟩,hO,fun h=>(by cases h),fun t' c' h=>by cases h;exact .inr ⟨p,n,m,hT,hp,hs,.inr (.inr ⟨rfl,hl⟩)⟩⟩
      ·have e1:ql r t=(0,{ r with told:=r.told++[t] }):=by unfold ql;rw[if_neg hin,if_neg ho,if_neg hsh,if_neg hl]
       rw[e1]
       simp only[if_true]
       exact ih _ _ hC (.snoc hT hp hs (by simpa using ho) (by simpa using hsh) (Nat.lt_succ_self m)) (fun h=>absurd h hin)
theorem q5o (s:ByteArray):(∃q,ToldTo s q (q0t s).1)∧((q0t s).2=none→s.size≤65536)∧∀t c,(q0t s).2=some (t,c)→qie s (q0t s).1 t c:=by
 obtain⟨h1,h2,h3,h4⟩:=qjv s (events s) 0 rd0 (qcp s) .nil (fun h=>absurd h (by rw[q9k];decide))
 unfold q0t
 generalize hR:xw rd0 (events s)=R at h1 h2 h3 h4 ⊢
 obtain⟨r,f⟩:=R
 cases f with
 | some f=>exact⟨h1,fun h=>(by cases h),h4⟩
 | none =>
  refine⟨h1,fun _=>h3 rfl,fun t c h=>?_⟩
  simp only at h
  by_cases hin:q3s r=true
  ·rw[if_pos hin] at h
   cases h
   obtain⟨ho,q,n,m,hT,hp,hs⟩:=h2 hin
   exact .inr ⟨q,n,m,hT,hp,hs,.inr (.inl ⟨rfl,ho⟩)⟩
  ·rw[if_neg hin] at h;cases h
theorem q9l (r:Rd)(t:Tok)(h:r.told.length≤16384):(ql r t).2.told.length≤16384:=by
 unfold ql
 split
 ·exact h
 ·split
  ·exact h
  ·split
   ·exact h
   ·split
    ·exact h
    ·simp;omega
theorem qbj:∀(es:List (Tok × Int)) (r:Rd),r.told.length≤16384→(xw r es).1.told.length≤16384
 | [],r,h=>h
 | (t,c) :: es,r,h=>by
  unfold xw
  split
  ·split
   ·exact qbj es _ (q9l r t h)
   ·exact q9l r t h
  ·exact h
theorem qjw (s:ByteArray):(q0t s).1.length≤16384:=by
 have h:=qbj (events s) rd0 (by decide)
 unfold q0t
 generalize xw rd0 (events s)=R at h ⊢
 obtain⟨r,f⟩:=R
 cases f <;> exact h
end S.K
namespace S.K
open Go.RowKit
theorem qdx (s:ByteArray)(off:Nat)(w:World)(hs:s.size≤281474976710656)(ho:off≤s.size) :
  Calls Tryz.prog 58 #[.string s,.int .i64 off] w fun e w'=>e=.returned (.tuple #[qg3 s off,.bool true])∧Below w.heap.size w w':=by
 have h0:(0:Int)≤off:=by omega
 have h1:(off:Int)≤s.size:=by omega
 have hlast:=qg2 (s.extract 0 off) 10 (s.extract 0 off).size
 rw[size_ext s off ho] at hlast
 have hx:(s.extract 0 off).size < 4611686018427387904:=by rw[size_ext s off ho];omega
 have hl:=qcm s off
 have hle:Hid (((Lib.countByte (s.extract 0 off).data.toList 10:Nat):Int) + 1=q2p (s.data.toList.take off)):=qmc s off
 have hce:Hid ((off:Int) - (Lib.lastIndexByte (s.extract 0 off) 10 + 1) + 1=q6h (s.data.toList.take off)):=col_ext s off ho
 obtain⟨C,hC⟩:∃C:Nat,C=Lib.countByte (s.extract 0 off).data.toList 10:=⟨_,rfl⟩
 obtain⟨D,hD⟩:∃D:Int,D=Lib.lastIndexByte (s.extract 0 off) 10:=⟨_,rfl⟩
 have hD0:-1≤D∧D < off:=by rw[hD];unfold Lib.lastIndexByte;rw[size_ext s off ho];exact hlast
 have hC0:(C:Int)≤off:=by have:=hle.out;rw[←hC] at this;omega
 rw[←hC] at hle
 rw[←hD] at hce
 have HC:Hid (C=Lib.countByte (s.extract 0 off).data.toList 10):=hC
 have HD:Hid (D=Lib.lastIndexByte (s.extract 0 off) 10):=hD
 clear hC hD hlast hl
 obtain⟨hD1,hD2⟩:=hD0
 go_enter Tryz.func58,Tryz.ntmps58
 go_wp2_with fail
 refine (Tryz.strings_Count_one _ _ _).mono ?_
 rintro e w1 ⟨rfl,hw1⟩
 subst hw1
 rw[←HC.out]
 go_wp2_with fail
 refine (Tryz.strings_LastIndexByte _ _ hx _).mono ?_
 rintro e w1 ⟨rfl,hw1⟩
 subst hw1
 rw[←HD.out]
 go_wp2
 refine bodyPost_ret (v:=.tuple #[qg3 s off,.bool true]) ?_ rfl ⟨rfl,(Below.refl _ _).alloc (Nat.le_refl _) _⟩
 unfold qg3
 rw[←hle.out,←hce.out]
 simp[results,Tryz.results58,go_sem]
end S.K
namespace S
open Go.RowKit
def toT (t:K.Tok):Tok:=⟨t.text,t.off,t.line,t.col⟩
def vk (s:ByteArray):List Tok:=(K.q0t s).1.map toT
theorem qbk (l:List K.Tok):K.rowOf l=rowT (l.map toT):=by
 unfold K.rowOf rowT
 rw[List.flatMap_map]
 rfl
def runT:PS→List Tok→PS × Option (Tok × Int)
 | P,[]=>(P,none)
 | P,t :: ts=>if (ql P t).1=0 then runT (ql P t).2 ts else ((ql P t).2,some (t,(ql P t).1))
def ps0:PS:=⟨[],false,q1v⟩
def q2u (s:ByteArray):Tok:=⟨⟨#[]⟩,s.size,K.q2p (s.data.toList.take s.size),K.q6h (s.data.toList.take s.size)⟩
def q0u (s:ByteArray):PS × Option (Tok × Int) :=
 match runT ps0 (vk s) with
 | (P,some f)=>(P,some f)
 | (P,none)=>match (K.q0t s).2 with
  | some f=>(P,some (toT f.1,f.2))
  | none=>if (P.opn || wtB P.wt)=true then (P,some (q2u s,63)) else (P,none)
theorem q7u:∀(ts:List Tok) (P:PS) (t:Tok) (Q:PS),runT P ts=(Q,none)→runT P (ts++[t])=if (ql Q t).1=0 then ((ql Q t).2,none) else ((ql Q t).2,some (t,(ql Q t).1))
 | [],P,t,Q,h=>by
  cases h
  rfl
 | u :: ts,P,t,Q,h=>by
  unfold runT at h
  rw[List.cons_append]
  unfold runT
  by_cases hc:(ql P u).1=0
  ·rw[if_pos hc] at h ⊢
   exact q7u ts _ t Q h
  ·rw[if_neg hc] at h
   cases h
theorem q7v:∀(ts us:List Tok) (P Q:PS) (f:Tok × Int),runT P ts=(Q,some f)→runT P (ts++us)=(Q,some f)
 | [],us,P,Q,f,h=>by cases h
 | u :: ts,us,P,Q,f,h=>by
  unfold runT at h
  rw[List.cons_append]
  unfold runT
  by_cases hc:(ql P u).1=0
  ·rw[if_pos hc] at h ⊢
   exact q7v ts us _ Q f h
  ·rw[if_neg hc] at h ⊢
   exact h
def q3n (s:Stm)(j:Nat):Prop:=s.words.length≤j∧s.proof.length≤j
def q5p (P:PS)(j:Nat):Prop:=P.l.length≤j∧∀s ∈ P.l,q3n s j
theorem q3n.up {s:Stm}{j:Nat}(h:q3n s j):q3n s (j + 1):=⟨Nat.le_succ_of_le h.1,Nat.le_succ_of_le h.2⟩
theorem qga {s:Stm}{t:Tok}{j:Nat}(h:q3n s j):q3n (q6e s t).2 (j + 1):=by
 unfold q6e
 split
 ·exact⟨h.up.1,by simp;exact h.2⟩
 ·split
  ·exact h.up
  ·exact⟨by simp;exact h.1,h.up.2⟩
theorem qgb {s:Stm}{j:Nat}(h:q3n s j):q3n (q5i s).2 (j + 1):=by
 unfold q5i
 split
 ·split
  ·exact h.up
  ·split
   ·exact h.up
   ·exact h.up
 ·exact h.up
theorem qgc {s:Stm}{t:Tok}{j:Nat}(h:q3n s j):q3n (q31 s t).2 (j + 1):=by
 unfold q31
 split
 ·exact h.up
 ·split
  ·exact h.up
  ·exact h.up
theorem qaz {s:Stm}{t:Tok}{j:Nat}(h:q3n s j):q3n (yj s t).2.1 (j + 1):=by
 unfold yj
 split
 ·exact qga h
 ·split
  ·exact qgb h
  ·split
   ·exact qgc h
   ·exact h.up
theorem q5q {P:PS}{t:Tok}{j:Nat}(h:q5p P j):q5p (ql P t).2 (j + 1):=by
 have up:q5p P (j + 1):=⟨Nat.le_succ_of_le h.1,fun s hs=>(h.2 s hs).up⟩
 unfold ql
 split
 ·cases hl:P.l.getLast? with
  | none=>exact up
  | some s =>
   have hm:s ∈ P.l:=List.mem_of_getLast? hl
   refine⟨?_,fun u hu=>?_⟩
   ·have h1:=h.1
    simp only[List.length_append,List.length_dropLast,List.length_singleton]
    omega
   ·rcases List.mem_append.1 hu with hu | hu
    ·exact up.2 u (List.dropLast_subset _ hu)
    ·rw[List.mem_singleton.1 hu]
     exact qaz (h.2 s hm)
 ·unfold q0s
  split
  ·split
   ·exact up
   ·exact up
  ·split
   ·exact up
   ·split
    ·exact up
    ·refine⟨by simp;exact h.1,fun u hu=>?_⟩
     rcases List.mem_append.1 hu with hu | hu
     ·exact up.2 u hu
     ·rw[List.mem_singleton.1 hu]
      unfold newS
      split <;> exact⟨Nat.zero_le _,Nat.zero_le _⟩
theorem q7w (s:ByteArray):(vk s).length≤16384:=by
 unfold vk
 rw[List.length_map]
 exact K.qjw s
theorem q47 (s:ByteArray):∀t ∈ vk s,t.text.size≤65536:=fun t ht=>by
 unfold vk at ht
 obtain⟨u,hu,rfl⟩:=List.mem_map.1 ht
 obtain⟨⟨q,hq⟩,_⟩:=K.q5o s
 obtain⟨i,hi⟩:=List.getElem?_of_mem hu
 obtain⟨n,m,hS,_⟩:=hq.at i u hi
 show u.text.size≤65536
 rw[hS.text,ByteArray.size_extract]
 have:=hS.le6
 omega
end S
namespace S
open Go.RowKit
structure RdW (w:World):Prop where
 kb:K.KB w
 mx:∃m,w.cell? ⟨2,0,none⟩=some (.int .i64 m)
 sh:yh w
theorem RdW.under {w w':World}(h:RdW w)(hb:Below w.heap.size w w'):RdW w':=by
 obtain⟨m,hm⟩:=h.mx
 have h3:2 < w.heap.size:=World.block_lt_of_cell? _ _ hm
 exact⟨h.kb.keep (hb.block 1 (by omega)),⟨m,(hb.cell (p:=⟨2,0,none⟩) h3).trans hm⟩,h.sh.under hb⟩
structure q9m (w w':World)(v fv:Value)(its:List Itm)(P:PS)(f:Option (Tok × Int)):Prop where
 own:w'.ownsRow w.heap.size 95 16 v its.length (q3g its)
 all:∀x ∈ its,q05 w' w.heap.size x
 ap:∀x ∈ its,∀b,blk x b→v.ownBlock≠some b
 pw:its.Pairwise fun x y=>∀b,blk x b→¬blk y b
 l:its.map (·.s)=P.l
 ft:match f with
  | none=>fv=.pointer none
  | some f=>∃B,fv=.pointer (some ⟨B,0,none⟩)∧w.heap.size≤B∧w'.heap[B]?=some (.cells #[.int .i64 f.1.off,.int .i64 f.1.line,.int .i64 f.1.col,.string f.1.text,.int .i64 f.2] 31 (0,0))
 bel:Below w.heap.size w w'
theorem q4u {w W W':World} {N R:Nat} {vb vo v fv:Value} {its:List Itm} {wt:Tok} {P:PS} {f:Option (Tok × Int)} (h:RSt N R W vb vo its wt) (hl:its.map (·.s)=P.l) (hN:w.heap.size≤N) (hW:Below w.heap.size w W) (hb:Below W.heap.size W W') (ho:W'.ownsRow W.heap.size 95 16 v its.length (q3g its))
  (hf:match f with
  | none=>fv=.pointer none
  | some f=>∃B,fv=.pointer (some ⟨B,0,none⟩)∧w.heap.size≤B∧W'.heap[B]?=some (.cells #[.int .i64 f.1.off,.int .i64 f.1.line,.int .i64 f.1.col,.string f.1.text,.int .i64 f.2] 31 (0,0))):q9m w W' v fv its P f:=by
 have up:∀x,q05 W N x→q05 W' w.heap.size x:=fun x hx =>
  have h2:=hx.under hb
  ⟨h2.k1,h2.k9,h2.box,Nat.le_trans hN h2.ge,M.qp h2.ow hN,M.qp h2.op hN,h2.gw,h2.gp,h2.wp,h2.nt,h2.nb⟩
 refine⟨M.qp ho hW.size,fun x hx=>up x (h.all x hx),fun x hx b e e2=>?_,h.pw,hl,hf,hW.trans (hb.mono hW.size)⟩
 have h1:=(h.all x hx).lt b e
 have h2:=M.zf ho b e2
 omega
theorem q4r.lt {N R:Nat}{H:Nat→Prop}{W:World}{P:PS}(h:q4r N R H W P):q4r N R (fun b=>H b∧b < W.heap.size) W P:=by
 obtain⟨vb,vo,its,h1,h2,h3,h4,h5⟩:=h
 refine⟨vb,vo,its,h1,h2,h3,h4,fun b e=>⟨h5 b e,?_⟩⟩
 rcases e with e | e | ⟨x,hx,e⟩
 ·rw[e];exact h1.lt
 ·exact M.jl h1.own b e
 ·exact (h1.all x hx).lt b e
def q0g (w:World)(s:ByteArray)(e:Ending)(w':World):Prop:=∃v fv its,e=.returned (.tuple #[v,fv])∧q9m w w' v fv its (q0u s).1 (q0u s).2
theorem qmk (w:World)(s:ByteArray)(hs:s.size≤281474976710656)(hT:RdW w):Calls Tryz.prog 54 #[.string s] w (q0g w s):=by
 obtain⟨m,hm⟩:=hT.mx
 have SC:Hid (Calls Tryz.prog 11 #[.string s] w (K.q2i s w)):=callsIn_wide.1 (K.scan_in s w m (by omega) hT.kb hm)
 have HT:Hid (RdW w):=hT
 have HSz:Hid (s.size≤281474976710656):=hs
 clear hT hm
 go_enter Tryz.func54,Tryz.ntmps54
 go_wp2_with fail
 refine Calls.mono SC.out ?_
 rintro e w1 ⟨v,fv,rfl,⟨hO,hF⟩,hB1⟩
 obtain⟨ws,hws⟩:∃ws,vk s=ws:=⟨_,rfl⟩
 have e0:K.rowOf (K.q0t s).1=rowT ws:=by rw[qbk,←hws];rfl
 have e1:(K.q0t s).1.length=ws.length:=by rw[←hws];unfold vk;rw[List.length_map]
 rw[e0,e1] at hO
 obtain⟨av,cv,hv,_,hTk⟩:=gu hO
 subst hv
 obtain⟨n,hn⟩:∃n,ws.length=n:=⟨_,rfl⟩
 have HWS:Hid (vk s=ws):=hws
 have HL:Hid (ws.length=n):=hn
 have HB1:Hid (Below w.heap.size w w1):=hB1
 have HTk:Hid (q3m w1 av ws):=hTk
 have HF:Hid (match (K.q0t s).2 with
  | none=>fv=.pointer none
  | some f=>∃Bf,fv=.pointer (some ⟨Bf,0,none⟩)∧w.heap.size≤Bf∧K.q59 w1 Bf f.1 f.2):=hF
 rw[hn]
 have hn6:n≤16384:=by rw[←hn,←hws];exact q7w s
 clear SC hO hF hB1 hTk hn hws e0 e1 hs
 obtain⟨w2,hw2⟩:∃w2,w2=w1.alloc (.cells #[.slice none 0 0,.nilIface,.string ⟨#[]⟩,.int .i64 0,.int .i64 0,.int .i64 0] 160):=⟨_,rfl⟩
 have hk2:w2.heap[w1.heap.size]?=some (.cells #[.slice none 0 0,.nilIface,.string ⟨#[]⟩,.int .i64 0,.int .i64 0,.int .i64 0] 160 (0,0)):=by rw[hw2];exact heap_alloc_new w1 _
 have B2:Hid (Below w1.heap.size w1 w2):=by rw[hw2];exact qg _ _
 go_upto_region 3 with fail
 rw[←hw2]
 obtain⟨R,hR⟩:∃R,w1.heap.size=R:=⟨_,rfl⟩
 rw[hR] at hk2
 rw[hR]
 have R2:Hid (q4r R R (fun b=>R≤b) w2 ps0) :=
  ⟨.slice none 0 0,.nilIface,[],⟨hk2,World.ownsRow_nil _ _ _ _,Nat.le_refl _,(fun e=>by cases e),(fun x hx=>by cases hx),(fun x hx=>by cases hx),List.Pairwise.nil⟩,rfl,fun _=>rfl,(fun e=>by cases e),fun b e=>by
   rcases e with rfl | e | ⟨x,hx,_⟩
   ·exact Nat.le_refl _
   ·cases e
   ·cases hx⟩
 have HR:Hid (w1.heap.size=R):=hR
 clear hw2 hk2 hR
 go_wp2_with fail
 go_loopw [19] (fun v19 wx=>∃(j:Nat) (P:PS),j≤n∧v19=.int .i64 j∧Hid (runT ps0 (ws.take j)=(P,none))∧Hid (q5p P j)∧Hid (q4r R R (fun b=>R≤b) wx P)∧Hid (Below w1.heap.size w1 wx)) (fun v19 _=>n - (intOf v19).toNat)
 case atStart=>exact⟨0,ps0,Nat.zero_le _,rfl,rfl,⟨Nat.le_refl _,fun s hs=>by cases hs⟩,R2.out,B2.out⟩
 case round =>
  obtain⟨j,P,hj,rfl,hRun,hSm,hRd,hBe⟩:=hrel
  have HBw:Hid (Below w.heap.size w wr):=HB1.out.trans (hBe.out.mono HB1.out.size)
  by_cases hlt:j < n
  ·have n1:(j:Int) < (n:Int):=by omega
   obtain⟨t,ht⟩:∃t,ws[j]?=some t:=⟨ws[j]'(by rw[HL.out];exact hlt),List.getElem?_eq_getElem _⟩
   obtain⟨gb,ob,rfl,x0,x1,x2,x3⟩:=(HTk.out.under hBe.out) j t ht
   have HTK:Hid (ws.take (j + 1)=ws.take j++[t]∧t ∈ ws):=⟨by rw[List.take_add_one,ht];rfl,List.mem_of_getElem? ht⟩
   obtain⟨w3,hw3⟩:∃w3,w3=wr.alloc (.cells #[.string t.text,.int .i64 t.off,.int .i64 t.line,.int .i64 t.col] 36):=⟨_,rfl⟩
   have B3:Hid (Below wr.heap.size wr w3):=by rw[hw3];exact qg _ _
   have K3:Hid (w3.heap[wr.heap.size]?=some (.cells #[.string t.text,.int .i64 t.off,.int .i64 t.line,.int .i64 t.col] 36 (0,0))):=by show _=_;rw[hw3];exact heap_alloc_new wr _
   have H3:Hid (w3=wr.alloc (.cells #[.string t.text,.int .i64 t.off,.int .i64 t.line,.int .i64 t.col] 36)):=hw3
   have hRR:R≤wr.heap.size:=by have h:=hBe.out.size;rw[HR.out] at h;exact h
   have hSS:=hSm.out
   have TA:Hid (Calls Tryz.prog 96 #[.pointer (some ⟨R,0,none⟩),zn t] w3 (Takes R R (fun b=>R≤b∧b < wr.heap.size) w3 (ql P t))) :=
    take_any w3 R R _ P t (hRd.out.lt.under B3.out) (HT.out.sh.under (HBw.out.trans (B3.out.mono HBw.out.size))) (Nat.le_trans hRR B3.out.size) (by have:=hSS.1;omega) (fun s hs=>by have:=hSS.2 s hs;exact⟨by have:=this.1;omega,by have:=this.2;omega⟩) (by have:=q47 s t (by rw[HWS.out];exact HTK.out.2);omega)
   have HRR:Hid (R≤wr.heap.size):=hRR
   unfold zn at TA
   clear ht hw3 hRR hSS
   go_upto_region 6 with fail
   rw[←H3.out]
   clear H3 x0 x1 x2 x3
   have y0:w3.cell? ⟨wr.heap.size,0,none⟩=some (.string t.text):=M.qc K3.out 0
   have y1:w3.cell? ⟨wr.heap.size,1,none⟩=some (.int .i64 t.off):=M.qc K3.out 1
   have y2:w3.cell? ⟨wr.heap.size,2,none⟩=some (.int .i64 t.line):=M.qc K3.out 2
   have y3:w3.cell? ⟨wr.heap.size,3,none⟩=some (.int .i64 t.col):=M.qc K3.out 3
   go_wp2_with fail
   refine Calls.mono TA.out ?_
   rintro e w4 ⟨rfl,hr4,hc4⟩
   obtain⟨c,hcc⟩:∃c,(ql P t).1=c:=⟨_,rfl⟩
   rw[hcc]
   have HC:Hid ((ql P t).1=c):=hcc
   have K4:Hid (w4.heap[wr.heap.size]?=some (.cells #[.string t.text,.int .i64 t.off,.int .i64 t.line,.int .i64 t.col] 36 (0,0))):=(hc4.block _ (Array.getElem?_eq_some_iff.1 K3.out).1 fun e=>Nat.lt_irrefl _ e.2).trans K3.out
   have R4:Hid (q4r R R (fun b=>R≤b) w4 (ql P t).2):=hr4.mono fun b e=>e.elim (fun e=>e.1) fun e=>Nat.le_trans (Nat.le_trans HRR.out B3.out.size) e
   have B4:Hid (Below w1.heap.size w1 w4):=hBe.out.trans ((B3.out.mono (by rw[HR.out];exact HRR.out)).trans (by rw[HR.out];exact hc4.below (Nat.le_trans HRR.out B3.out.size) fun b e=>e.1))
   clear TA hr4 hc4 hcc y0 y1 y2 y3
   by_cases hc:c=0
   ·have hc0:(c == 0)=true:=by simpa using hc
    have HN:Hid (runT ps0 (ws.take (j + 1))=((ql P t).2,none)∧q5p (ql P t).2 (j + 1)):=⟨by rw[HTK.out.1,q7u _ _ _ _ hRun.out,if_pos (HC.out.trans hc)],q5q hSm.out⟩
    clear hc
    go_wp2
    exact⟨⟨j + 1,_,by omega,by go_num,HN.out.1,HN.out.2,R4.out,B4.out⟩,by simp[intOf];omega⟩
   ·have hc0:(c == 0)=false:=by simpa using hc
    have HP:Hid (q0u s=((ql P t).2,some (t,c))):=by
     have h1:runT ps0 (ws.take (j + 1))=((ql P t).2,some (t,c)):=by rw[HTK.out.1,q7u _ _ _ _ hRun.out,if_neg (by rw[HC.out];exact hc),HC.out]
     have h2:runT ps0 ws=((ql P t).2,some (t,c)):=by
      have:=q7v (ws.take (j + 1)) (ws.drop (j + 1)) _ _ _ h1
      rwa [List.take_append_drop] at this
     show _=_
     unfold q0u
     rw[HWS.out,h2]
    have hS':=q5q (t:=t) hSm.out
    obtain⟨vb,vo,its,hRS,hl,_,_,_⟩:=R4.out
    have hil:its.length≤1048576:=by have h1:=congrArg List.length hl;rw[List.length_map] at h1;have:=hS'.1;omega
    have TD:Hid (∀wx,Below w4.heap.size w4 wx→Calls Tryz.prog 97 #[.pointer (some ⟨R,0,none⟩)] wx fun e w'=>∃v,e=.returned v∧w'.ownsRow wx.heap.size 95 16 v its.length (q3g its)∧Below wx.heap.size wx w'):=fun wx hb=>qdp wx R R vb vo its _ (hRS.under hb) hil
    have HRS:Hid (RSt R R w4 vb vo its (ql P t).2.wt∧its.map (·.s)=(ql P t).2.l):=⟨hRS,hl⟩
    have HBw4:Hid (Below w.heap.size w w4):=HB1.out.trans (B4.out.mono HB1.out.size)
    have y0:w4.cell? ⟨wr.heap.size,0,none⟩=some (.string t.text):=M.qc K4.out 0
    have y1:w4.cell? ⟨wr.heap.size,1,none⟩=some (.int .i64 t.off):=M.qc K4.out 1
    have y2:w4.cell? ⟨wr.heap.size,2,none⟩=some (.int .i64 t.line):=M.qc K4.out 2
    have y3:w4.cell? ⟨wr.heap.size,3,none⟩=some (.int .i64 t.col):=M.qc K4.out 3
    clear hc hRS hl hS' hil
    go_upto_region 8 with fail
    go_region_law (first
     | (go_simp;go_at_call 97;(have hbx:Below w4.heap.size w4 w4.drew:=below_drewN (Below.refl _ _) 1);refine Calls.mono (TD.out w4.drew hbx) ?_;rintro e w5 ⟨v5,rfl,ho5,hb5⟩;have B5:Hid (Below w4.heap.size w4 w5):=hbx.trans (hb5.mono hbx.size);have z0:w5.cell? ⟨wr.heap.size,0,none⟩=some (.string t.text):=(B5.out.cell (p:=⟨wr.heap.size,0,none⟩) (World.block_lt_of_cell? _ _ y0)).trans y0;have z1:w5.cell? ⟨wr.heap.size,1,none⟩=some (.int .i64 t.off):=(B5.out.cell (p:=⟨wr.heap.size,1,none⟩) (World.block_lt_of_cell? _ _ y1)).trans y1;have z2:w5.cell? ⟨wr.heap.size,2,none⟩=some (.int .i64 t.line):=(B5.out.cell (p:=⟨wr.heap.size,2,none⟩) (World.block_lt_of_cell? _ _ y2)).trans y2;have z3:w5.cell? ⟨wr.heap.size,3,none⟩=some (.int .i64 t.col):=(B5.out.cell (p:=⟨wr.heap.size,3,none⟩) (World.block_lt_of_cell? _ _ y3)).trans y3;have FA:Hid (q0g w s (.returned (.tuple #[v5,.pointer (some ⟨w5.heap.size,0,none⟩)])) (w5.alloc (.cells #[.int .i64 t.off,.int .i64 t.line,.int .i64 t.col,.string t.text,.int .i64 c] 31))):=(by show q0g _ _ _ _;unfold q0g;rw[HP.out];exact⟨_,_,its,rfl,q4u (W:=w4.drew) (HRS.out.1.under hbx) HRS.out.2 (by have:=HB1.out.size;have:=HR.out;omega) (below_drewN HBw4.out 1) (hb5.alloc hb5.size _) (M.zk ho5 _) ⟨w5.heap.size,rfl,Nat.le_trans HBw4.out.size B5.out.size,heap_alloc_new w5 _⟩⟩);clear ho5 hb5 hbx)
     | (go_simp;go_at_call 97;(have hbx:Below w4.heap.size w4 (w4.alloc (.cells #[.int .i64 t.off,.int .i64 t.line,.int .i64 t.col,.string t.text,.int .i64 c] 31)).drew:=below_drewN (qg _ _) 1);refine Calls.mono (TD.out (w4.alloc (.cells #[.int .i64 t.off,.int .i64 t.line,.int .i64 t.col,.string t.text,.int .i64 c] 31)).drew hbx) ?_;rintro e w5 ⟨v5,rfl,ho5,hb5⟩;have B5:Hid (Below w4.heap.size w4 w5):=hbx.trans (hb5.mono hbx.size);have FB:Hid (q0g w s (.returned (.tuple #[v5,.pointer (some ⟨w4.heap.size,0,none⟩)])) w5):=(by show q0g _ _ _ _;unfold q0g;rw[HP.out];exact⟨_,_,its,rfl,q4u (W:=(w4.alloc (.cells #[.int .i64 t.off,.int .i64 t.line,.int .i64 t.col,.string t.text,.int .i64 c] 31)).drew) (HRS.out.1.under hbx) HRS.out.2 (by have:=HB1.out.size;have:=HR.out;omega) (HBw4.out.trans (hbx.mono HBw4.out.size)) hb5 ho5 ⟨w4.heap.size,rfl,HBw4.out.size,(hb5.block w4.heap.size (by simp)).trans (heap_alloc_new w4 _)⟩⟩);clear ho5 hb5 hbx))
    all_goals go_wp2
    all_goals refine bodyPost_ret (by simp[results,Tryz.results54,go_sem];try rfl) rfl ?_
    all_goals first | exact FA.out | exact FB.out
  ·have n1:¬(j:Int) < (n:Int):=by omega
   obtain rfl:j=n:=by omega
   have HRn:Hid (runT ps0 ws=(P,none)):=by have h:=hRun.out;rw[List.take_of_length_le (by rw[HL.out];exact Nat.le_refl _)] at h;exact h
   obtain⟨vb,vo,its,hRS,hl,hv1,hv2,hv3⟩:=hRd.out
   have hil:its.length≤1048576:=by have h1:=congrArg List.length hl;rw[List.length_map] at h1;have:=hSm.out.1;omega
   have TD:Hid (∀wx,Below wr.heap.size wr wx→Calls Tryz.prog 97 #[.pointer (some ⟨R,0,none⟩)] wx fun e w'=>∃v,e=.returned v∧w'.ownsRow wx.heap.size 95 16 v its.length (q3g its)∧Below wx.heap.size wx w'):=fun wx hb=>qdp wx R R vb vo its _ (hRS.under hb) hil
   have HRS:Hid (RSt R R wr vb vo its P.wt∧its.map (·.s)=P.l∧w.heap.size≤R):=⟨hRS,hl,by have:=HB1.out.size;have:=HR.out;omega⟩
   have MW:Hid _:=qg1 wr R R _ P hRd.out
   clear hRS hl hv1 hv2 hv3 hil hRun hSm
   cases hsc:(K.q0t s).2 with
   | some f =>
    have hF:=HF.out
    rw[hsc] at hF
    obtain⟨Bf,rfl,hBf,hFa⟩:=hF
    have HP:Hid (q0u s=(P,some (toT f.1,f.2))):=by show _=_;unfold q0u;rw[HWS.out,HRn.out,hsc]
    have HFa:Hid (K.q59 w1 Bf f.1 f.2∧w.heap.size≤Bf):=⟨hFa,hBf⟩
    clear HF hFa hBf hsc
    go_wp2_with fail
    refine Calls.mono (TD.out wr (Below.refl _ _)) ?_
    rintro e w5 ⟨v5,rfl,ho5,hb5⟩
    have FA:Hid (q0g w s (.returned (.tuple #[v5,.pointer (some ⟨Bf,0,none⟩)])) w5):=by
     show q0g _ _ _ _
     unfold q0g
     rw[HP.out]
     have hb6:Below w1.heap.size w1 w5:=hBe.out.trans (hb5.mono hBe.out.size)
     exact⟨_,_,its,rfl,q4u (W:=wr) HRS.out.1 HRS.out.2.1 HRS.out.2.2 HBw.out hb5 ho5 ⟨Bf,rfl,HFa.out.2,(hb6.block Bf (Array.getElem?_eq_some_iff.1 HFa.out.1).1).trans HFa.out.1⟩⟩
    clear ho5 hb5 TD MW
    go_wp2
    refine bodyPost_ret (by simp[results,Tryz.results54,go_sem];try rfl) rfl ?_
    exact FA.out
   | none =>
    have hF:=HF.out
    rw[hsc] at hF
    subst hF
    clear HF
    cases hmw:(P.opn || wtB P.wt) with
    | true =>
     have HP:Hid (q0u s=(P,some (q2u s,63))):=by show _=_;unfold q0u;rw[HWS.out,HRn.out,hsc];dsimp only;rw[if_pos hmw]
     rw[hmw] at MW
     have PL:Hid (Calls Tryz.prog 58 #[.string s,.int .i64 (s.size:Nat)] wr fun e w'=>e=.returned (.tuple #[K.qg3 s s.size,.bool true])∧Below wr.heap.size wr w'):=K.qdx s s.size wr HSz.out (Nat.le_refl _)
     have hsz:=HSz.out
     clear hsc hmw
     go_wp2_with fail
     refine Calls.mono MW.out ?_
     rintro e w5 ⟨rfl,hw5⟩
     subst w5
     clear MW
     go_wp2_with fail
     refine Calls.mono PL.out ?_
     rintro e w6 ⟨rfl,hb6⟩
     obtain⟨p1,hp1⟩:∃p1,K.q2p (s.data.toList.take s.size)=p1:=⟨_,rfl⟩
     obtain⟨p2,hp2⟩:∃p2,K.q6h (s.data.toList.take s.size)=p2:=⟨_,rfl⟩
     have HE:Hid (q2u s=⟨⟨#[]⟩,s.size,p1,p2⟩):=by show _=_;unfold q2u;rw[hp1,hp2]
     unfold K.qg3
     rw[hp1,hp2]
     obtain⟨w7,hw7⟩:∃w7,w7=w6.alloc (.cells #[.int .i64 s.size,.int .i64 p1,.int .i64 p2] 28):=⟨_,rfl⟩
     have B7:Hid (Below wr.heap.size wr w7):=by rw[hw7];exact hb6.alloc hb6.size _
     have K7:Hid (w7.heap[w6.heap.size]?=some (.cells #[.int .i64 s.size,.int .i64 p1,.int .i64 p2] 28 (0,0))):=by show _=_;rw[hw7];exact heap_alloc_new w6 _
     clear hp1 hp2 PL hb6
     go_upto_region 12 with fail
     rw[←hw7]
     clear hw7
     have y0:w7.cell? ⟨w6.heap.size,0,none⟩=some (.int .i64 s.size):=M.qc K7.out 0
     have y1:w7.cell? ⟨w6.heap.size,1,none⟩=some (.int .i64 p1):=M.qc K7.out 1
     have y2:w7.cell? ⟨w6.heap.size,2,none⟩=some (.int .i64 p2):=M.qc K7.out 2
     obtain⟨w8,hw8⟩:∃w8,w8=w7.alloc (.cells #[.int .i64 s.size,.int .i64 p1,.int .i64 p2,.string ⟨#[]⟩,.int .i64 63] 31):=⟨_,rfl⟩
     have B8:Hid (Below wr.heap.size wr w8):=by rw[hw8];exact B7.out.alloc B7.out.size _
     have K8:Hid (w8.heap[w7.heap.size]?=some (.cells #[.int .i64 s.size,.int .i64 p1,.int .i64 p2,.string ⟨#[]⟩,.int .i64 63] 31 (0,0))):=by show _=_;rw[hw8];exact heap_alloc_new w7 _
     have H8:Hid (w8=w7.alloc (.cells #[.int .i64 s.size,.int .i64 p1,.int .i64 p2,.string ⟨#[]⟩,.int .i64 63] 31)):=hw8
     clear hw8
     go_wp2_with fail
     rw[←H8.out]
     refine Calls.mono (TD.out w8 B8.out) ?_
     rintro e w5 ⟨v5,rfl,ho5,hb5⟩
     have FA:Hid (q0g w s (.returned (.tuple #[v5,.pointer (some ⟨w7.heap.size,0,none⟩)])) w5):=by
      show q0g _ _ _ _
      unfold q0g
      rw[HP.out,HE.out]
      have hw8':=HBw.out.trans (B8.out.mono HBw.out.size)
      exact⟨_,_,its,rfl,q4u (W:=w8) (HRS.out.1.under B8.out) HRS.out.2.1 HRS.out.2.2 hw8' hb5 ho5 ⟨w7.heap.size,rfl,Nat.le_trans HBw.out.size B7.out.size,(hb5.block _ (Array.getElem?_eq_some_iff.1 K8.out).1).trans K8.out⟩⟩
     clear ho5 hb5 TD
     go_wp2
     refine bodyPost_ret (by simp[results,Tryz.results54,go_sem];try rfl) rfl ?_
     exact FA.out
    | false =>
     have HP:Hid (q0u s=(P,none)):=by show _=_;unfold q0u;rw[HWS.out,HRn.out,hsc];dsimp only;rw[if_neg (by rw[hmw];exact Bool.false_ne_true)]
     rw[hmw] at MW
     clear hsc hmw
     go_wp2_with fail
     refine Calls.mono MW.out ?_
     rintro e w5 ⟨rfl,hw5⟩
     subst w5
     clear MW
     go_wp2_with fail
     refine Calls.mono (TD.out wr (Below.refl _ _)) ?_
     rintro e w5 ⟨v5,rfl,ho5,hb5⟩
     have FA:Hid (q0g w s (.returned (.tuple #[v5,.pointer none])) w5):=by
      show q0g _ _ _ _
      unfold q0g
      rw[HP.out]
      exact⟨_,_,its,rfl,q4u (W:=wr) HRS.out.1 HRS.out.2.1 HRS.out.2.2 HBw.out hb5 ho5 rfl⟩
     clear ho5 hb5 TD
     go_wp2
     refine bodyPost_ret (by simp[results,Tryz.results54,go_sem];try rfl) rfl ?_
     exact FA.out
end S
namespace S
open Go.Shelf
def Tryz.qcq:Go.Shelf.Ren:=⟨fun | 144=>179 | 143=>177 | 219=>236 | 217=>262 | 225=>263 | 224=>264 | 267=>265 | 266=>274 | 314=>275 | n=>n,fun | 9=>9 | 4=>4 | 3=>3 | 5=>5 | 46=>116 | 146=>300 | 51=>299 | n=>n,fun | 1=>2 | n=>n⟩
theorem Tryz.laysM144:Go.Proofs.LaysM.n144 Tryz.prog Tryz.qcq:={
 mixed:=by kernel_rfl
 f143:=Tryz.func177.trans (congrArg some (by kernel_rfl))
 f144:=Tryz.func179.trans (congrArg some (by kernel_rfl))
 f217:=Tryz.func262.trans (congrArg some (by kernel_rfl))
 f219:=Tryz.func236.trans (congrArg some (by kernel_rfl))
 f224:=Tryz.func264.trans (congrArg some (by kernel_rfl))
 f225:=Tryz.func263.trans (congrArg some (by kernel_rfl))
 f266:=Tryz.func274.trans (congrArg some (by kernel_rfl))
 f267:=Tryz.func265.trans (congrArg some (by kernel_rfl))
 f314:=Tryz.func275.trans (congrArg some (by kernel_rfl))
 t3:=Tryz.underlying3
 a3:=Tryz.isAgg3
 z3:=Tryz.sizeOf3
 v3:=Tryz.zeroValue3
 t4:=Tryz.underlying4
 a4:=Tryz.isAgg4
 z4:=Tryz.sizeOf4
 v4:=Tryz.zeroValue4
 t5:=Tryz.underlying5
 a5:=Tryz.isAgg5
 z5:=Tryz.sizeOf5
 v5:=Tryz.zeroValue5
 t9:=Tryz.underlying9
 a9:=Tryz.isAgg9
 z9:=Tryz.sizeOf9
 v9:=Tryz.zeroValue9
 t46:=Tryz.underlying116
 a46:=Tryz.isAgg116
 z46:=Tryz.sizeOf116
 v46:=Tryz.zeroValue116
 t51:=Tryz.underlying299
 a51:=Tryz.isAgg299
 z51:=Tryz.sizeOf299
 v51:=Tryz.zeroValue299
 t146:=Tryz.underlying300
 a146:=Tryz.isAgg300
 z146:=Tryz.sizeOf300
 v146:=Tryz.zeroValue300
 g1:=by kernel_rfl
 i3:=by kernel_rfl
 i4:=by kernel_rfl
 i5:=by kernel_rfl
 i9:=by kernel_rfl
 i46:=by kernel_rfl
 i51:=by kernel_rfl
 i146:=by kernel_rfl
 m1:=by kernel_rfl
 s1_3:=fun w h=>Go.Proofs.cell_of_shapedOpen_int (zero:=#[.int .i64 0]) (t:=3) h (of_decide_eq_true (by kernel_rfl)) (by kernel_rfl) rfl (by kernel_rfl) (by kernel_rfl) Tryz.underlying3 }
end S
end Go.Proofs.YtbancemhfjjmlaaGreatDoor
