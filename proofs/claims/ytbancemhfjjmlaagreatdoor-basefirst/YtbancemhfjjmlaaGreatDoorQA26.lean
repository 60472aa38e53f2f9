/- Laid together: BFirstP, BAliveP, BAt. -/
import Derived.Test.YtbancemhfjjmlaaGreatDoorTk
import Derived.Test.YtbancemhfjjmlaaGreatDoorQA25
import Derived.Test.YtbancemhfjjmlaaGreatDoorQA23
import Derived.Test.YtbancemhfjjmlaaGreatDoorQA24
import Derived.Test.YtbancemhfjjmlaaGreatDoorQA18
import Derived.Deep.MidRow
set_option maxRecDepth 100000
set_option maxHeartbeats 32000000
namespace Go.Proofs.YtbancemhfjjmlaaGreatDoor
namespace B
open Go.RowKit
open S (Tok Stm)
theorem q64:∀(a b:List Stm) (L:Ld),xw L (a++b)=match xw L a with | .ok L1=>xw L1 b | .error f=>.error f
 | [],b,L=>rfl
 | s :: a,b,L=>by
  rw[List.cons_append,xw,xw]
  cases ql L s with
  | ok L1=>exact q64 a b L1
  | error f=>rfl
theorem qcd (F:Y.Tab→ByteArray→Nat × Nat × Y.Tab):∀(a b:List Tok) (L:Ld),uy F L (a++b)=match uy F L a with | .ok L1=>uy F L1 b | .error f=>.error f
 | [],b,L=>rfl
 | t :: a,b,L=>by
  rw[List.cons_append,uy,uy]
  split
  ·exact qcd F a b _
  ·rfl
theorem qlo (F:Y.Tab→ByteArray→Nat × Nat × Y.Tab)(t:Tok)(L:Ld)(f:Tok × Int)(h:uy F L [t]=.error f):f.1=t:=by
 unfold uy at h
 split at h
 ·cases h
 ·cases h
  rfl
theorem qfo {L:Ld}{t:Tok}{f:Tok × Int}(h:q3k L t=.error f):f.1=t:=by
 unfold q3k q3q at h
 cases ha:Y.uj L.T t.text with
 | none=>rw[ha] at h;cases h;rfl
 | some n =>
  rw[ha] at h
  dsimp only at h
  split at h
  ·cases h
  ·cases h;rfl
theorem qap {L:Ld}{t:Tok}{f:Tok × Int}(h:q0e L t=.error f):f.1=t:=by
 unfold q0e q3q at h
 cases ha:Y.uj L.T t.text with
 | none=>rw[ha] at h;cases h;rfl
 | some n =>
  rw[ha] at h
  dsimp only at h
  split at h
  ·cases h;rfl
  ·cases h
theorem qhs {L:Ld}{t:Tok}{f:Tok × Int}(h:q1m L t=.error f):f.1=t:=by
 unfold q1m q3q at h
 cases ha:Y.uj L.T t.text with
 | none=>rw[ha] at h;cases h;rfl
 | some n =>
  rw[ha] at h
  dsimp only at h
  split at h
  ·cases h;rfl
  ·cases h
theorem qdg {L:Ld}{t:Tok}{f:Tok × Int}(h:q0d L t=.error f):f.1=t:=by
 unfold q0d at h
 cases hv:q3k L t with
 | error g=>rw[hv] at h;cases h;exact qfo hv
 | ok n =>
  rw[hv] at h
  dsimp only at h
  split at h
  ·cases h;rfl
  ·cases h
def Snoc {α:Type}(R:List Tok→Res α):Prop:=∀(ws:List Tok) (t:Tok) (f:Tok × Int),(R ws=.error f→R (ws++[t])=.error f)∧(R (ws++[t])=.error f→R ws=.error f∨f.1=t)
theorem qce (F:Y.Tab→ByteArray→Nat × Nat × Y.Tab)(L:Ld):Snoc (uy F L):=fun ws t f=>by
 rw[qcd]
 cases h:uy F L ws with
 | error g=>exact⟨id,.inl⟩
 | ok L1=>exact⟨(fun e=>by cases e),fun e=>.inr (qlo F t L1 f e)⟩
theorem q6s (L:Ld)(t:Tok)(f:Tok × Int):∀(ws:List Tok) (e:List Int),(uh L e ws=.error f→uh L e (ws++[t])=.error f)∧(uh L e (ws++[t])=.error f→uh L e ws=.error f∨f.1=t)
 | [],e=>⟨(fun h=>by cases h),fun h=>.inr (by
   rw[List.nil_append,uh] at h
   split at h
   ·cases h;rfl
   ·rename_i h1
    cases h2:(if e.length=0 then q0e L t else q1m L t) with
    | ok n=>rw[h2] at h;cases h
    | error g =>
     rw[h2] at h
     cases h
     split at h2
     ·exact qap h2
     ·exact qhs h2)⟩
 | u :: ws,e=>by
  rw[List.cons_append,uh,uh]
  split
  ·exact⟨id,.inl⟩
  ·cases (if e.length=0 then q0e L u else q1m L u) with
   | ok n=>exact q6s L t f ws _
   | error g=>exact⟨id,.inl⟩
theorem q8s (L:Ld)(t:Tok)(f:Tok × Int):∀(ws:List Tok) (e:List Int),(q0b L e ws=.error f→q0b L e (ws++[t])=.error f)∧(q0b L e (ws++[t])=.error f→q0b L e ws=.error f∨f.1=t)
 | [],e=>⟨(fun h=>by cases h),fun h=>.inr (by
   rw[List.nil_append,q0b] at h
   cases h2:(if e.length=0 then q0e L t else q0d L t) with
   | ok n=>rw[h2] at h;cases h
   | error g =>
    rw[h2] at h
    cases h
    split at h2
    ·exact qap h2
    ·exact qdg h2)⟩
 | u :: ws,e=>by
  rw[List.cons_append,q0b,q0b]
  cases (if e.length=0 then q0e L u else q0d L u) with
  | ok n=>exact q8s L t f ws _
  | error g=>exact⟨id,.inl⟩
theorem qaq (L:Ld)(t:Tok)(f:Tok × Int):∀(ws:List Tok) (a:List Int) (ps:List F.Pp),(q0i L a ps ws=.error f→q0i L a ps (ws++[t])=.error f)∧(q0i L a ps (ws++[t])=.error f→q0i L a ps ws=.error f∨f.1=t)
 | [],a,ps=>⟨(fun h=>by cases h),fun h=>.inr (by
   rw[List.nil_append,q0i] at h
   cases h2:q3k L t with
   | error g=>rw[h2] at h;cases h;exact qfo h2
   | ok v =>
    rw[h2] at h
    dsimp only at h
    split at h
    ·cases h;rfl
    ·split at h
     ·cases h;rfl
     ·cases h)⟩
 | u :: ws,a,ps=>by
  rw[List.cons_append,q0i,q0i]
  cases q3k L u with
  | error g=>exact⟨id,.inl⟩
  | ok v =>
   dsimp only
   split
   ·exact⟨id,.inl⟩
   ·split
    ·exact⟨id,.inl⟩
    ·exact qaq L t f ws _ _
theorem q2n {t:Tok}{c:Int}{L:Ld}{f:Tok × Int}(h:jh t c L=.error f):f.1=t:=by
 unfold jh at h
 split at h
 ·cases h
 ·cases h;rfl
structure q8t (s s':Stm)(t:Tok):Prop where
 k:s'.kind=s.kind
 l:s'.label=s.label
 y:s'.key=s.key
 w:s'.words=s.words∨s'.words=s.words++[t]
 o:q04 s.fin=false
 e:(s'.fin=s.fin)∨(s'.fin=t∧s'.words=s.words)
def Both (r r':Res Ld)(t:Tok):Prop:=∀f,(r=.error f→r'=.error f)∧(r'=.error f→r=.error f∨f.1=t)
theorem q55 (r:Res Ld)(t:Tok):Both r r t:=fun _=>⟨id,.inl⟩
theorem q5e {α:Type} {R:List Tok→Res α} (hR:Snoc R) {s s':Stm} {t:Tok} (h:q8t s s' t) {A A':α→Res Ld} {C C':α→Res Ld}
  (hA:∀x f,A' x=.error f→f.1=s'.fin) (_hC:True) (r r':Res Ld)
  (e:r=match R s.words with | .ok x=>if q04 s.fin=true then A x else C x | .error f=>.error f) (e':r'=match R s'.words with | .ok x=>if q04 s'.fin=true then A' x else C' x | .error f=>.error f)
  (hc:∀x f,C x≠.error f) (hc':∀x f,C' x≠.error f):Both r r' t:=fun f=>by
 subst e e'
 rw[h.o]
 constructor
 ·intro hr
  cases hw:R s.words with
  | ok x=>rw[hw] at hr;exact absurd hr (hc x f)
  | error g =>
   rw[hw] at hr
   have hg:R s'.words=.error g:=by
    rcases h.w with e | e
    ·rw[e];exact hw
    ·rw[e];exact (hR s.words t g).1 hw
   rw[hg]
   exact hr
 ·intro hr
  cases hw:R s'.words with
  | error g =>
   rw[hw] at hr
   cases hr
   rcases h.w with e | e
   ·rw[e] at hw;rw[hw];exact .inl rfl
   ·rw[e] at hw
    rcases (hR s.words t f).2 hw with h1 | h1
    ·rw[h1];exact .inl rfl
    ·exact .inr h1
  | ok x =>
   rw[hw] at hr
   dsimp only at hr
   split at hr
   ·rename_i he
    have h1:=hA x f hr
    rcases h.e with e | ⟨e,_⟩
    ·rw[e,h.o] at he;cases he
    ·exact .inr (h1.trans e)
   ·exact absurd hr (hc' x f)
theorem qht (L:Ld){s s':Stm}{t:Tok}(h:q8t s s' t):Both (xq L s) (xq L s') t:=by
 unfold xq
 rw[h.k,h.y]
 split
 ·exact q55 _ _
 split
 ·exact q55 _ _
 split
 ·unfold q2y
  rw[h.y]
  split
  ·exact q55 _ _
  ·intro f
   rcases h.w with e | e
   ·rw[e];exact⟨id,.inl⟩
   ·rw[e];exact qce Y.q02 L s.words t f
 split
 ·intro f
  rcases h.w with e | e
  ·rw[e];exact⟨id,.inl⟩
  ·rw[e];exact qce Y.q2v L s.words t f
 split
 ·exact q5e (R:=q0i L [] (uz (F.uo L.sc))) (fun ws u f=>qaq L u f ws _ _) h (A:=fun a=>jh s.fin (F.q1h (isV:=xk L.T) L.sc a) { L with sc:=F.q1i (isV:=xk L.T) L.sc a }) (A':=fun a=>jh s'.fin (F.q1h (isV:=xk L.T) L.sc a) { L with sc:=F.q1i (isV:=xk L.T) L.sc a }) (C:=fun _=>.ok L) (C':=fun _=>.ok L) (fun x f hf=>q2n hf) trivial _ _ (by unfold q2j;cases q0i L [] (uz (F.uo L.sc)) s.words <;> rfl) (by unfold q2j;cases q0i L [] (uz (F.uo L.sc)) s'.words <;> rfl) (fun _ _ e=>by cases e) (fun _ _ e=>by cases e)
 split
 ·exact q5e (R:=q0b L []) (fun ws u f=>q8s L u f ws _) h (A:=fun a=>jh s.fin (F.q0h (isV:=xk L.T) L.sc (a.getD 0 0) (a.getD 1 0)) { L with sc:=F.q07 (isV:=xk L.T) L.sc s.label.text (a.getD 0 0) (a.getD 1 0),hy:=L.hy++[⟨s.label.text,true,a.getD 1 0,a⟩] }) (A':=fun a=>jh s'.fin (F.q0h (isV:=xk L.T) L.sc (a.getD 0 0) (a.getD 1 0)) { L with sc:=F.q07 (isV:=xk L.T) L.sc s'.label.text (a.getD 0 0) (a.getD 1 0),hy:=L.hy++[⟨s'.label.text,true,a.getD 1 0,a⟩] }) (C:=fun _=>.ok L) (C':=fun _=>.ok L) (fun x f hf=>q2n hf) trivial _ _ (by unfold q1o;cases q0b L [] s.words <;> rfl) (by unfold q1o;cases q0b L [] s'.words <;> rfl) (fun _ _ e=>by cases e) (fun _ _ e=>by cases e)
 split
 ·exact q5e (R:=uh L []) (fun ws u f=>q6s L u f ws _) h (A:=fun a=>jh s.fin (F.yg (isV:=xk L.T) L.sc a) { L with sc:=F.q4h (isV:=xk L.T) L.sc s.label.text a,hy:=L.hy++[⟨s.label.text,false,-1,a⟩] }) (A':=fun a=>jh s'.fin (F.yg (isV:=xk L.T) L.sc a) { L with sc:=F.q4h (isV:=xk L.T) L.sc s'.label.text a,hy:=L.hy++[⟨s'.label.text,false,-1,a⟩] }) (C:=fun _=>.ok L) (C':=fun _=>.ok L) (fun x f hf=>q2n hf) trivial _ _ (by unfold q6p;cases uh L [] s.words <;> rfl) (by unfold q6p;cases uh L [] s'.words <;> rfl) (fun _ _ e=>by cases e) (fun _ _ e=>by cases e)
 split
 ·exact q5e (R:=uh L []) (fun ws u f=>q6s L u f ws _) h (A:=fun a=>jh s.fin (F.yg (isV:=xk L.T) L.sc a) { L with al:=L.al++[q6f L s a] }) (A':=fun a=>jh s'.fin (F.yg (isV:=xk L.T) L.sc a) { L with al:=L.al++[q6f L s' a] }) (C:=fun _=>.ok L) (C':=fun _=>.ok L) (fun x f hf=>q2n hf) trivial _ _ (by unfold q1g;cases uh L [] s.words <;> rfl) (by unfold q1g;cases uh L [] s'.words <;> rfl) (fun _ _ e=>by cases e) (fun _ _ e=>by cases e)
 ·exact q55 _ _
theorem qhu (L:Ld){s s':Stm}{t:Tok}(h:q8t s s' t):Both (ql L s) (ql L s') t:=by
 unfold ql
 rw[h.l]
 cases q4c L s.label with
 | ok L1=>exact qht L1 h
 | error g=>exact q55 _ _
theorem qdh {s:Stm}(t:Tok)(hz:s.fin=S.q1v):q8t s (S.yj s t).2.1 t:=by
 have ho:q04 s.fin=false:=by rw[hz];rfl
 have same:q8t s s t:=⟨rfl,rfl,rfl,.inl rfl,ho,.inl rfl⟩
 unfold S.yj
 split
 ·show q8t s (S.q6e s t).2 t
  unfold S.q6e
  split
  ·exact⟨rfl,rfl,rfl,.inl rfl,ho,.inl rfl⟩
  ·split
   ·exact same
   ·exact⟨rfl,rfl,rfl,.inr rfl,ho,.inl rfl⟩
 ·split
  ·show q8t s (S.q5i s).2 t
   unfold S.q5i
   split
   ·split
    ·exact same
    ·split
     ·exact same
     ·exact⟨rfl,rfl,rfl,.inl rfl,ho,.inl rfl⟩
   ·exact same
  ·split
   ·show q8t s (S.q31 s t).2 t
    unfold S.q31
    split
    ·exact same
    ·split
     ·exact same
     ·exact⟨rfl,rfl,rfl,.inl rfl,ho,.inr ⟨rfl,rfl⟩⟩
   ·exact same
def q5f (c:Int):Prop:=c=20∨c=21∨c=22
theorem qo0 {L:Ld}{t:Tok}{f:Tok × Int}(h:q4c L t=.error f):q04 t=true∧f.1=t∧q5f f.2:=by
 unfold q4c at h
 split at h
 ·rename_i he
  refine⟨he,q2n h,?_⟩
  unfold jh at h
  split at h
  ·cases h
  ·cases h
   unfold q5f Y.zh at *
   split
   ·exact .inr (.inl rfl)
   ·split
    ·exact .inl rfl
    ·split
     ·exact .inr (.inr rfl)
     ·rename_i h1 h2 h3 h4
      rw[if_neg h2,if_neg h3,if_neg h4] at h1
      exact absurd rfl h1
 ·cases h
theorem qo1 (L:Ld)(k:Int)(lb ky:Tok)(f:Tok × Int)(h:ql L (S.newS k lb ky)=.error f):f.1=ky∨(q04 lb=true∧f.1=lb∧q5f f.2):=by
 unfold ql at h
 cases hl:q4c L (S.newS k lb ky).label with
 | error g =>
  rw[hl] at h
  cases h
  obtain⟨h1,h2,h3⟩:=qo0 hl
  unfold S.newS at h1 h2
  split at h1
  ·cases h1
  ·rename_i hb
   rw[if_neg hb] at h2
   exact .inr ⟨h1,h2,h3⟩
 | ok L1 =>
  rw[hl] at h
  dsimp only at h
  left
  have hky:(S.newS k lb ky).key=ky:=by unfold S.newS;split <;> rfl
  have hws:(S.newS k lb ky).words=[]:=by unfold S.newS;split <;> rfl
  have hk:=S.qbi k lb ky
  unfold xq at h
  rw[hk] at h
  split at h
  ·unfold qc0 at h
   rw[hky] at h
   split at h
   ·exact q2n h
   ·cases h;rfl
  rename_i h8
  split at h
  ·unfold q8c at h
   rw[hky] at h
   split at h
   ·exact q2n h
   ·cases h;rfl
  rename_i h9
  have hfin:(S.newS k lb ky).fin=S.q1v:=by
   unfold S.newS
   rw[if_neg (by unfold S.brk;simp[h8,h9])]
  have hend:q04 (S.newS k lb ky).fin=false:=by rw[hfin];rfl
  split at h
  ·unfold q2y at h
   rw[hky,hws] at h
   split at h
   ·cases h;rfl
   ·cases h
  split at h
  ·rw[hws] at h;cases h
  split at h
  ·unfold q2j at h
   rw[hws,hend] at h
   cases h
  split at h
  ·unfold q1o at h
   rw[hws,hend] at h
   cases h
  split at h
  ·unfold q6p at h
   rw[hws,hend] at h
   cases h
  split at h
  ·unfold q1g at h
   rw[hws,hend] at h
   cases h
  ·cases h
theorem qcf (P:S.PS)(t:Tok)(hP:POk P)(f:Tok × Int) :
  (xw ld0 P.l=.error f→xw ld0 (S.ql P t).2.l=.error f)∧(xw ld0 (S.ql P t).2.l=.error f→xw ld0 P.l=.error f∨f.1=t∨(S.wtB P.wt=true∧f.1=P.wt∧q5f f.2)):=by
 unfold S.ql
 split
 ·rename_i ho
  cases hl:P.l.getLast? with
  | none=>exact⟨id,.inl⟩
  | some s =>
   have hG:=qdh t (hP.opn ho s hl)
   have e:P.l=P.l.dropLast++[s]:=by
    obtain⟨ys,hy⟩:=List.getLast?_eq_some_iff.1 hl
    rw[hy,List.dropLast_concat]
   show (xw ld0 P.l=.error f→xw ld0 (P.l.dropLast++[(S.yj s t).2.1])=.error f)∧(xw ld0 (P.l.dropLast++[(S.yj s t).2.1])=.error f→_)
   have e1:xw ld0 P.l=match xw ld0 P.l.dropLast with | .ok L1=>xw L1 [s] | .error f=>.error f:=by rw[←q64,←e]
   rw[e1,q64]
   cases xw ld0 P.l.dropLast with
   | error g=>exact⟨id,.inl⟩
   | ok L1 =>
    have one:∀x:Stm,(xw L1 [x]=.error f↔ql L1 x=.error f):=fun x=>by
     rw[xw]
     cases ql L1 x with
     | ok L2=>exact⟨(fun e=>by cases e),(fun e=>by cases e)⟩
     | error g=>exact⟨(fun e=>by cases e;rfl),fun e=>by cases e;rfl⟩
    dsimp only
    rw[one,one]
    have hB:=qhu L1 hG f
    exact⟨hB.1,fun e=>(hB.2 e).imp id .inl⟩
 ·unfold S.q0s
  split
  ·split <;> exact⟨id,.inl⟩
  ·split
   ·exact⟨id,.inl⟩
   ·split
    ·exact⟨id,.inl⟩
    ·show (xw ld0 P.l=.error f→xw ld0 (P.l++[S.newS (S.q0r t.text) P.wt t])=.error f)∧(xw ld0 (P.l++[S.newS (S.q0r t.text) P.wt t])=.error f→_)
     rw[q64]
     cases xw ld0 P.l with
     | error g=>exact⟨id,.inl⟩
     | ok L1 =>
      refine⟨(fun e=>by cases e),fun e=>.inr ?_⟩
      dsimp only at e
      rw[xw] at e
      cases hn:ql L1 (S.newS (S.q0r t.text) P.wt t) with
      | ok L2=>rw[hn] at e;cases e
      | error g =>
       rw[hn] at e
       cases e
       rcases qo1 L1 _ _ _ _ hn with h1 | ⟨h1,h2⟩
       ·exact .inl h1
       ·exact .inr ⟨by rw[q9a];exact h1,h2⟩
theorem qar:∀(ts:List Tok) (P:S.PS) (f:Tok × Int),POk P→(∀t ∈ ts,t.text.size≤65536)→xw ld0 P.l=.error f→xw ld0 (S.runT P ts).1.l=.error f
 | [],P,f,_,_,h=>h
 | t :: ts,P,f,hP,hz,h=>by
  have h1:=(qcf P t hP f).1 h
  unfold S.runT
  split
  ·exact qar ts _ f (qai hP (hz t (List.mem_cons_self ..))) (fun u hu=>hz u (List.mem_cons_of_mem _ hu)) h1
  ·exact h1
theorem wt_step (P:S.PS)(t:Tok)(h:(S.ql P t).1=0)(hw:S.wtB P.wt=true→P.opn=false):(S.wtB (S.ql P t).2.wt=true→(S.ql P t).2.wt=t∧(S.ql P t).2.opn=false):=by
 unfold S.ql at h ⊢
 split
 ·rename_i ho
  rw[if_pos ho] at h
  cases hl:P.l.getLast? with
  | none=>intro e;rw[hw e] at ho;cases ho
  | some s=>intro e;rw[hw e] at ho;cases ho
 ·rename_i ho
  rw[if_neg ho] at h
  unfold S.q0s at h ⊢
  split
  ·rename_i h1
   rw[if_pos h1] at h
   split
   ·rename_i h2;rw[if_pos h2] at h;cases h
   ·intro _;exact⟨rfl,by simpa using ho⟩
  ·rename_i h1
   rw[if_neg h1] at h
   split
   ·rename_i h2;rw[if_pos h2] at h;cases h
   ·rename_i h2
    rw[if_neg h2] at h
    split
    ·rename_i h3;rw[if_pos h3] at h;cases h
    ·intro e;rw[q9a] at e;cases e
theorem qas:∀(ts:List Tok) (P:S.PS) (prev:Option Tok) (f:Tok × Int),POk P→(∀t ∈ ts,t.text.size≤65536)→(S.wtB P.wt=true→prev=some P.wt∧P.opn=false)→xw ld0 (S.runT P ts).1.l=.error f →
  xw ld0 P.l=.error f∨∃i t,ts[i]?=some t∧xw ld0 (S.runT P (ts.take (i + 1))).1.l=.error f∧(f.1=t∨(q5f f.2∧(if i=0 then prev else ts[i - 1]?)=some f.1))
 | [],P,_,f,_,_,_,h=>.inl h
 | t :: ts,P,prev,f,hP,hz,hw,h=>by
  have hB:=qcf P t hP f
  have here:xw ld0 (S.ql P t).2.l=.error f→xw ld0 P.l=.error f∨∃i u,(t :: ts)[i]?=some u∧xw ld0 (S.runT P ((t :: ts).take (i + 1))).1.l=.error f∧(f.1=u∨(q5f f.2∧(if i=0 then prev else (t :: ts)[i - 1]?)=some f.1)):=fun e=>by
   have hr:xw ld0 (S.runT P ((t :: ts).take (0 + 1))).1.l=.error f:=by
    rw[List.take_succ_cons,List.take_zero]
    unfold S.runT
    split
    ·exact e
    ·exact e
   rcases hB.2 e with h1 | h1 | ⟨h1,h2,h3⟩
   ·exact .inl h1
   ·exact .inr ⟨0,t,rfl,hr,.inl h1⟩
   ·exact .inr ⟨0,t,rfl,hr,.inr ⟨h3,by rw[if_pos rfl,(hw h1).1,h2]⟩⟩
  by_cases hc:(S.ql P t).1=0
  ·have hrun:S.runT P (t :: ts)=S.runT (S.ql P t).2 ts:=by rw[S.runT,if_pos hc]
   rw[hrun] at h
   rcases qas ts (S.ql P t).2 (some t) f (qai hP (hz t (List.mem_cons_self ..))) (fun u hu=>hz u (List.mem_cons_of_mem _ hu)) (fun e=>by
    have:=wt_step P t hc (fun e=>(hw e).2) e
    exact⟨by rw[this.1],this.2⟩) h with h1 | ⟨i,u,h1,h2,h3⟩
   ·exact here h1
   ·right
    refine⟨i + 1,u,h1,?_,h3.imp id fun e=>⟨e.1,?_⟩⟩
    ·rw[List.take_succ_cons,S.runT,if_pos hc]
     exact h2
    ·rw[if_neg (by omega)]
     cases i with
     | zero=>exact e.2
     | succ j=>exact e.2
  ·have hrun:(S.runT P (t :: ts)).1=(S.ql P t).2:=by rw[S.runT,if_neg hc]
   rw[hrun] at h
   exact here h
theorem qat:∀(ts:List Tok) (P Q:S.PS) (t:Tok) (c:Int),S.runT P ts=(Q,some (t,c))→∃i,ts[i]?=some t∧S.runT P (ts.take (i + 1))=(Q,some (t,c))
 | [],P,Q,t,c,h=>by cases h
 | u :: ts,P,Q,t,c,h=>by
  by_cases hc:(S.ql P u).1=0
  ·rw[S.runT,if_pos hc] at h
   obtain⟨i,h1,h2⟩:=qat ts _ Q t c h
   exact⟨i + 1,h1,by rw[List.take_succ_cons,S.runT,if_pos hc];exact h2⟩
  ·rw[S.runT,if_neg hc] at h
   have hu:u=t:=by cases h;rfl
   subst hu
   exact⟨0,rfl,by rw[List.take_succ_cons,List.take_zero,S.runT,if_neg hc];exact h⟩
def q8u (s:ByteArray)(i:Nat)(f:Tok × Int):Prop:=∀(s':ByteArray) (rest:List Tok),S.vk s'=(S.vk s).take (i + 1)++rest→q19 s'=.error f
theorem q8u.up {s:ByteArray}{i j:Nat}{f:Tok × Int}(h:q8u s i f)(hij:i≤j):q8u s j f:=fun s' rest e=>by
 refine h s' (((S.vk s).take (j + 1)).drop (i + 1)++rest) ?_
 rw[e,←List.append_assoc]
 congr 1
 have:=List.take_append_drop (i + 1) ((S.vk s).take (j + 1))
 rw[List.take_take,Nat.min_eq_left (by omega)] at this
 exact this.symm
theorem qo2:POk S.ps0:=⟨by decide,(fun s hs=>by cases hs),(fun e=>by cases e)⟩
theorem qo3 (A B:List Tok)(P:S.PS):(∃Q f,S.runT P A=(Q,some f)∧S.runT P (A++B)=(Q,some f))∨∃Q,S.runT P A=(Q,none)∧S.runT P (A++B)=S.runT Q B:=by
 induction A generalizing P with
 | nil=>exact .inr ⟨P,rfl,rfl⟩
 | cons t A ih =>
  by_cases hc:(S.ql P t).1=0
  ·rw[List.cons_append,S.runT,if_pos hc,S.runT,if_pos hc]
   exact ih _
  ·rw[List.cons_append,S.runT,if_neg hc,S.runT,if_neg hc]
   exact .inl ⟨_,_,rfl,rfl⟩
theorem qo4 {s:ByteArray}{i:Nat}{f:Tok × Int}(h:xw ld0 (S.runT S.ps0 ((S.vk s).take (i + 1))).1.l=.error f):q8u s i f:=fun s' rest e=>by
 have hz:∀t ∈ rest,t.text.size≤65536:=fun t ht=>S.q47 s' t (by rw[e];exact List.mem_append_right _ ht)
 have hl:xw ld0 (S.q0u s').1.l=.error f:=by
  rw[qdc,e]
  rcases qo3 ((S.vk s).take (i + 1)) rest S.ps0 with ⟨Q,g,h1,h2⟩ | ⟨Q,h1,h2⟩
  ·rw[h2];rw[h1] at h;exact h
  ·rw[h2]
   rw[h1] at h
   have hQ:POk Q:=by
    have:=(qdb ((S.vk s).take (i + 1)) S.ps0 0 qo2 ⟨Nat.le_refl _,fun s hs=>by cases hs⟩ fun t ht=>S.q47 s t (List.mem_of_mem_take ht)).1
    rw[h1] at this
    exact this
   exact qar rest Q f hQ hz h
 unfold q19
 rw[hl]
theorem qhv (s:ByteArray)(f:Tok × Int)(h:q19 s=.error f)(ht:f.1.text.size≠0)(hc:20≤f.2) :
  ∃i t,(S.vk s)[i]?=some t∧q8u s i f∧(f.1=t∨(q5f f.2∧0 < i∧(S.vk s)[i - 1]?=some f.1)):=by
 unfold q19 at h
 cases hr:xw ld0 (S.q0u s).1.l with
 | error g =>
  rw[hr] at h
  cases h
  rw[qdc] at hr
  rcases qas (S.vk s) S.ps0 none f qo2 (S.q47 s) (fun e=>by rw[q9a] at e;cases e) hr with h1 | ⟨i,t,h1,h2,h3⟩
  ·cases h1
  ·refine⟨i,t,h1,qo4 h2,h3.imp id fun e=>⟨e.1,?_⟩⟩
   have e2:=e.2
   split at e2
   ·cases e2
   ·exact⟨by omega,e2⟩
 | ok L =>
  rw[hr] at h
  dsimp only at h
  cases hf:(S.q0u s).2 with
  | none =>
   rw[hf] at h
   dsimp only at h
   split at h
   ·cases h
    exact absurd rfl ht
   ·cases h
  | some g =>
   rw[hf] at h
   cases h
   unfold S.q0u at hf
   split at hf
   ·rename_i P g hrun
    cases hf
    obtain⟨i,h1,h2⟩:=qat _ _ _ f.1 f.2 hrun
    refine⟨i,f.1,h1,fun s' rest e=>?_,.inl rfl⟩
    have h3:=S.q7v _ rest _ _ _ h2
    rw[←e] at h3
    have h4:S.q0u s'=(P,some f):=by unfold S.q0u;rw[h3]
    have h5:S.q0u s=(P,some f):=by unfold S.q0u;rw[hrun]
    unfold q19
    rw[h4]
    rw[h5] at hr
    dsimp only
    dsimp only at hr
    rw[hr]
   ·split at hf
    ·rename_i g hsc
     exfalso
     cases hf
     have hsc':=hsc
     rcases (S.K.q5o s).2.2 g.1 g.2 hsc' with ⟨_,_,_,_,h4⟩ | ⟨_,_,_,_,_,_,h4⟩
     ·rcases h4.code with ⟨e,_⟩ | ⟨e,_⟩ <;> (have hc':20≤g.2:=hc;omega)
     ·rcases h4 with e | ⟨e,_⟩ | ⟨e,_⟩ <;> (have hc':20≤g.2:=hc;omega)
    ·split at hf
     ·cases hf
      exact absurd rfl ht
     ·cases hf
end B
namespace B
open Go.RowKit
open S (Tok Stm)
def q6t:ByteArray:=⟨#[36,99,32,40,32,45,62,32,124,45,32,119,102,102,32,36,46,32,36,118,32,112,32,113,32,36,46,32,119,112,32,36,102,32,119,102,102,32,112,32,36,46,32,119,113,32,36,102,32,119,102,102,32,113,32,36,46,32,119,105,32,36,97,32,119,102,102,32,40,32,112,32,45,62,32,113,32,36,46,32,36,123,32,109,110,32,36,101,32,124,45,32,112,32,36,46,32,36,100,32,112,32,113,32,36,46,32,109,112,32,36,97,32,124,45,32,40,32,112,32,45,62,32,113,32,36,46,32,36,125,32,105,100,32,36,112,32,124,45,32,112,32,36,61,32,119,112,32,36,46]⟩
def qhw:ByteArray:=⟨#[36,99,32,97,32,97,32,36,46]⟩
def q6u:List Stm:=(S.q0u q6t).1.l
def getL (r:Res Ld):Ld:=match r with
 | .ok L=>L
 | .error _=>ld0
def L7:Ld:=getL (xw ld0 (q6u.take 7))
def s8:Stm:=match q6u.drop 7 with
 | s :: _=>s
 | []=>S.newS 0 S.q1v S.q1v
def qo5:List Stm:=q6u.drop 8
def L8:Ld:={ L7 with sc:=F.q1w (fun a=>⟨a.hs,a.ps++(F.q6n [4,5]).filter fun p=>!F.q3b (F.uo L7.sc) p⟩) L7.sc }
def LS:Ld:=getL (xw L8 qo5)
def aS:As:=match LS.al.drop 1 with
 | a :: _=>a
 | []=>⟨S.q1v,false,[],[],[],[],[],[],S.q1v⟩
set_option maxRecDepth 1000000
theorem qhx:(S.q0u q6t).2=none:=by kernel_rfl
theorem qfp:q6u=q6u.take 7++s8 :: qo5:=by kernel_rfl
theorem qfq:xw ld0 (q6u.take 7)=.ok L7:=by kernel_rfl
theorem qlp:q4c L7 s8.label=.ok L7:=by kernel_rfl
theorem qhy:xq L7 s8=q2j L7 s8:=by kernel_rfl
theorem qhz:q0i L7 [] (uz (F.uo L7.sc)) s8.words=.ok [4,5]:=by kernel_rfl
theorem qlq:q04 s8.fin=true:=by kernel_rfl
theorem qo6:([4,5]:List Int).filter (xk L7.T)=[4,5]:=by kernel_rfl
theorem ms45:([4,5]:List Int).mergeSort (fun x y=>decide (x≤y))=[4,5]:=by
 simp[List.mergeSort]
theorem cp45:Lib.compact ([4,5]:List Int)=[4,5]:=by kernel_rfl
theorem qo7:F.varsOf (isV:=xk L7.T) [4,5]=[4,5]:=by
 unfold F.varsOf
 rw[qo6,ms45,cp45]
theorem qau:F.q1h (isV:=xk L7.T) L7.sc [4,5]=0:=by
 unfold F.q1h F.q3d
 rw[qo7]
 kernel_rfl
theorem qfr:ql L7 s8=.ok L8:=by
 unfold ql
 rw[qlp]
 dsimp only
 rw[qhy]
 unfold q2j
 rw[qhz]
 dsimp only
 rw[if_pos qlq,qau]
 unfold jh
 rw[if_pos rfl]
 unfold F.q1i
 rw[if_pos qau]
 unfold F.q3d
 rw[qo7]
 rfl
theorem qi0:xw L8 qo5=.ok LS:=by kernel_rfl
theorem qi1:¬1 < LS.sc.length:=by
 have h:decide (1 < LS.sc.length)=false:=by kernel_rfl
 exact of_decide_eq_false h
theorem qo8:q19 q6t=.ok LS:=by
 have hl:xw ld0 (S.q0u q6t).1.l=.ok LS:=by
  show xw ld0 q6u=_
  rw[qfp,q64,qfq]
  dsimp only
  rw[xw,qfr]
  exact qi0
 unfold q19
 rw[hl]
 dsimp only
 rw[qhx]
 dsimp only
 rw[if_neg qi1]
theorem qo9:q19 qhw=.error (⟨⟨#[97]⟩,5,1,6⟩,20):=by kernel_rfl
theorem qfs:LS.al.length=3:=by kernel_rfl
theorem qcg:LS.T.syms.length=6:=by kernel_rfl
theorem qoa:LS.al[1]?=some aS:=by kernel_rfl
theorem qft:aS.label.text=⟨#[109,112]⟩:=by kernel_rfl
theorem qlr:aS.thm=false:=by kernel_rfl
theorem q7j:aS.needed.length=3:=by kernel_rfl
theorem q8v:aS.apart.length=1:=by kernel_rfl
theorem qi2:q2m LS.T aS.goal=[124,45,32,40,32,112,32,45,62,32,113]:=by kernel_rfl
theorem q8g:aS.goal.length=5:=by kernel_rfl
def qdi (hy:List F.Hy)(l:List Int):Bool:=l.all fun p=>decide (0≤p) && decide (p.toNat < hy.length)
theorem qch {hy:List F.Hy}{l:List Int}(h:qdi hy l=true):∀p ∈ l,∃i:Nat,p=i∧i < hy.length:=fun p hp=>by
 have h1:=List.all_eq_true.1 h p hp
 rw[Bool.and_eq_true] at h1
 have h2:=of_decide_eq_true h1.1
 exact⟨p.toNat,by omega,of_decide_eq_true h1.2⟩
theorem qob:AsIn LS.hy aS:=by
 have h1:decide (aS.active.length≤1048576)=true:=by kernel_rfl
 have h2:qdi LS.hy aS.needed=true:=by kernel_rfl
 have h3:qdi LS.hy aS.active=true:=by kernel_rfl
 have h4:decide (aS.pairs.length≤1048576)=true:=by kernel_rfl
 have h5:decide (aS.proof.length≤1048576)=true:=by kernel_rfl
 have h6:(LS.hy.all fun y=>decide (y.ex.length≤17592186044416))=true:=by kernel_rfl
 exact⟨by rw[q8g];omega,⟨by rw[q7j];omega,qch h2⟩,by rw[q8v];omega,⟨of_decide_eq_true h1,qch h3⟩,of_decide_eq_true h4,of_decide_eq_true h5,fun y hy=>of_decide_eq_true (List.all_eq_true.1 h6 y hy)⟩
theorem qfu:∀n,(q21 LS.T n).size≤65536:=fun n=>by
 have h:(LS.T.syms.all fun p=>decide (p.1.size≤65536))=true:=by kernel_rfl
 have hn:(q8r LS.T n).size≤65536:=by
  unfold q8r Y.q4j
  split
  ·cases hs:LS.T.syms[n.toNat]? with
   | none=>exact Nat.zero_le _
   | some p=>exact of_decide_eq_true (List.all_eq_true.1 h p (List.mem_of_getElem? hs))
  ·exact Nat.zero_le _
 unfold q21
 split
 ·decide
 ·exact hn
end B
namespace B
open Go.RowKit Go.Maps Go.WideMaps
open S (Tok Stm)
theorem qfv:∀(l:List AsC) (i j:Nat) (x:AsC),l[i]?=some x→j < 15→(q4d l)[i * 15 + j]?=(asC x)[j]?
 | [],i,j,x,h,_=>by simp at h
 | y :: r,0,j,x,h,hj=>by
  simp at h
  subst h
  show (asC y++q4d r)[0 * 15 + j]?=_
  rw[Nat.zero_mul,Nat.zero_add,List.getElem?_append_left (by simp[asC];omega)]
 | y :: r,i + 1,j,x,h,hj=>by
  show (asC y++q4d r)[(i + 1) * 15 + j]?=_
  rw[List.getElem?_append_right (by simp[asC];omega)]
  have e:(i + 1) * 15 + j - (asC y).length=i * 15 + j:=by simp[asC];omega
  rw[e]
  exact qfv r i j x (by simpa using h) hj
structure AtT (N:Nat)(W:World)(hy:List F.Hy)(a:As)(v1 v2 v3 v4 v5 v6:Value)(ts us:List F.HyC):Prop where
 fr:FrT N W hy a v1 v2 v3 ts
 sc:ScT N W hy a v4 v5 us
 f:W.ownsRow N 36 4 v6 a.proof.length (S.rowT a.proof)
 h2:∀b,v1.ownBlock=some b→v4.ownBlock≠some b
 p2:∀b,v2.ownBlock=some b→v5.ownBlock≠some b
 e2:∀z ∈ us,∀b,z.ve.ownBlock=some b→v3.ownBlock≠some b∧∀y ∈ ts,y.ve.ownBlock≠some b
def atV (i:Nat)(a:As)(v1 v2 v3 v4 v5 v6:Value):Array Value:=#[.int .i64 (i:Nat),.string a.label.text,.bool a.thm,v1,v2,v3,v4,v5,v6,.string a.label.text,.int .i64 a.label.off,.int .i64 a.label.line,.int .i64 a.label.col,.string a.fin.text,.int .i64 a.fin.off,.int .i64 a.fin.line,.int .i64 a.fin.col]
section
variable {N:Nat} {w:World} {lb:Nat} {txt:ByteArray} {k:Nat} {L:Ld} {nf:ByteArray→Option Nat} {m:LdM}
theorem FrT.ch {X:Nat→Prop}{N0:Nat}{W W':World}{hy:List F.Hy}{a:As}{vh vp vg:Value}{ts:List F.HyC}(h:FrT N0 W hy a vh vp vg ts)(hc:S.M.Ch X W W')(hx:∀b,N0≤b→¬X b):FrT N0 W' hy a vh vp vg ts :=
 ⟨⟨S.M.qh h.t.own hc fun b e=>hx b (S.M.zf h.t.own b e),fun y hy=>S.M.qh (h.t.e y hy) hc fun b e=>hx b (S.M.zf (h.t.e y hy) b e),h.t.ap⟩,h.h,S.M.qh h.p hc fun b e=>hx b (S.M.zf h.p b e),S.M.qh h.g hc fun b e=>hx b (S.M.zf h.g b e),h.ap⟩
theorem ScT.ch {X:Nat→Prop}{N0:Nat}{W W':World}{hy:List F.Hy}{a:As}{vh vp:Value}{ts:List F.HyC}(h:ScT N0 W hy a vh vp ts)(hc:S.M.Ch X W W')(hx:∀b,N0≤b→¬X b):ScT N0 W' hy a vh vp ts :=
 ⟨⟨S.M.qh h.t.own hc fun b e=>hx b (S.M.zf h.t.own b e),fun y hy=>S.M.qh (h.t.e y hy) hc fun b e=>hx b (S.M.zf (h.t.e y hy) b e),h.t.ap⟩,h.h,S.M.qh h.p hc fun b e=>hx b (S.M.zf h.p b e)⟩
theorem FrT.low {N0 N1:Nat}{W:World}{hy:List F.Hy}{a:As}{vh vp vg:Value}{ts:List F.HyC}(h:FrT N1 W hy a vh vp vg ts)(hn:N0≤N1):FrT N0 W hy a vh vp vg ts :=
 ⟨⟨S.M.qp h.t.own hn,fun y hy=>S.M.qp (h.t.e y hy) hn,h.t.ap⟩,h.h,S.M.qp h.p hn,S.M.qp h.g hn,h.ap⟩
theorem ScT.low {N0 N1:Nat}{W:World}{hy:List F.Hy}{a:As}{vh vp:Value}{ts:List F.HyC}(h:ScT N1 W hy a vh vp ts)(hn:N0≤N1):ScT N0 W hy a vh vp ts :=
 ⟨⟨S.M.qp h.t.own hn,fun y hy=>S.M.qp (h.t.e y hy) hn,h.t.ap⟩,h.h,S.M.qp h.p hn⟩
theorem at_in (h:zq N w lb txt k L nf m)(i:Nat)(x:AsC)(hx:m.ax[i]?=some x)(hi:AsIn L.hy x.a) :
  Calls Tryz.prog 16 #[.pointer (some ⟨m.Bb,0,none⟩),.int .i64 i] w fun e w'=>Below w.heap.size w w'∧∃v1 v2 v3 v4 v5 v6 ts us,e=.returned (.tuple #[.agg (atV i x.a v1 v2 v3 v4 v5 v6),.int .i64 0])∧AtT w.heap.size w' L.hy x.a v1 v2 v3 v4 v5 v6 ts us:=by
 obtain⟨R,hR⟩:∃R,w.heap.size=R:=⟨_,rfl⟩
 have HR:Hid (w.heap.size=R):=hR
 rw[hR]
 obtain⟨w1,hw1⟩:∃w1,w1=w.alloc (.cells #[.int .i64 0,.string ⟨#[]⟩,.bool false,.slice none 0 0,.slice none 0 0,.slice none 0 0,.slice none 0 0,.slice none 0 0,.slice none 0 0,.string ⟨#[]⟩,.int .i64 0,.int .i64 0,.int .i64 0,.string ⟨#[]⟩,.int .i64 0,.int .i64 0,.int .i64 0] 51):=⟨_,rfl⟩
 have HW1:Hid (w1=w.alloc (.cells #[.int .i64 0,.string ⟨#[]⟩,.bool false,.slice none 0 0,.slice none 0 0,.slice none 0 0,.slice none 0 0,.slice none 0 0,.slice none 0 0,.string ⟨#[]⟩,.int .i64 0,.int .i64 0,.int .i64 0,.string ⟨#[]⟩,.int .i64 0,.int .i64 0,.int .i64 0] 51)):=hw1
 have b1:Below w.heap.size w w1:=by rw[hw1];exact S.qg _ _
 have k1:w1.heap[R]?=some (.cells #[.int .i64 0,.string ⟨#[]⟩,.bool false,.slice none 0 0,.slice none 0 0,.slice none 0 0,.slice none 0 0,.slice none 0 0,.slice none 0 0,.string ⟨#[]⟩,.int .i64 0,.int .i64 0,.int .i64 0,.string ⟨#[]⟩,.int .i64 0,.int .i64 0,.int .i64 0] 51 (0,0)):=by rw[hw1,←hR];exact World.alloc_heap_new w _
 have s1:w1.heap.size=R + 1:=by rw[hw1];simp[hR]
 have h1:=h.below b1
 have CT:Hid _:=count_any h1
 have hlen:m.ax.length=L.al.length:=by rw[←h.asa,List.length_map]
 have hin:i < L.al.length:=by rw[←hlen];exact (List.getElem?_eq_some_iff.1 hx).1
 have hrow:=h1.asr
 obtain⟨g,ca,ea,_,_,_⟩:=S.M.q0f hrow (by omega)
 have b5:w1.cell? ⟨m.Bb,5,none⟩=some m.va:=S.M.qc h1.bbox 5
 rw[ea] at hrow b5
 have hok:=(h.cold.a x (List.mem_of_getElem? hx)).1
 obtain⟨ag,cg,eg,_⟩:=S.qm hok.g
 obtain⟨an,cn,en,_⟩:=S.qm hok.n
 obtain⟨ap,cp,ep,_⟩:=S.qm hok.p
 obtain⟨aa,cc,ec,_⟩:=S.qm hok.a
 obtain⟨aq,cq,eq,_⟩:=S.qm hok.q
 obtain⟨af,cf,ef,_⟩:=S.qm hok.f
 have hAC:asC x=[.string x.a.label.text,.int .i64 x.a.label.off,.int .i64 x.a.label.line,.int .i64 x.a.label.col,.bool x.a.thm,.slice ag x.a.goal.length cg,.slice an x.a.needed.length cn,.slice ap x.a.apart.length cp,.slice aa x.a.active.length cc,.slice aq x.a.pairs.length cq,.slice af x.a.proof.length cf,.string x.a.fin.text,.int .i64 x.a.fin.off,.int .i64 x.a.fin.line,.int .i64 x.a.fin.col]:=by unfold asC;rw[eg,en,ep,ec,eq,ef]
 have hAA:asA x=#[.string x.a.label.text,.int .i64 x.a.label.off,.int .i64 x.a.label.line,.int .i64 x.a.label.col,.bool x.a.thm,.slice ag x.a.goal.length cg,.slice an x.a.needed.length cn,.slice ap x.a.apart.length cp,.slice aa x.a.active.length cc,.slice aq x.a.pairs.length cq,.slice af x.a.proof.length cf,.string x.a.fin.text,.int .i64 x.a.fin.off,.int .i64 x.a.fin.line,.int .i64 x.a.fin.col]:=by unfold asA;rw[eg,en,ep,ec,eq,ef]
 have y:∀j,j < 15→∀u,(asC x)[j]?=some u→w1.cell? ⟨g,i * 15 + j,none⟩=some u:=fun j hj u hu=>by
  obtain⟨ad,e,h0⟩:=F.q1u hrow (i * 15 + j) u ((qfv m.ax i j x hx hj).trans hu)
  cases e
  rw[Addr.add_lit,Nat.zero_add] at h0
  exact h0
 have yr:Hid (w1.rangeAt g (i * 15) [.string x.a.label.text,.int .i64 x.a.label.off,.int .i64 x.a.label.line,.int .i64 x.a.label.col,.bool x.a.thm,.slice ag x.a.goal.length cg,.slice an x.a.needed.length cn,.slice ap x.a.apart.length cp,.slice aa x.a.active.length cc,.slice aq x.a.pairs.length cq,.slice af x.a.proof.length cf,.string x.a.fin.text,.int .i64 x.a.fin.off,.int .i64 x.a.fin.line,.int .i64 x.a.fin.col]):=fun j v hv=>y j (by have:=(List.getElem?_eq_some_iff.1 hv).1;simpa using this) v (by rw[hAC];exact hv)
 obtain⟨Q,hQ⟩:∃Q,w1.heap.size=Q:=⟨_,rfl⟩
 obtain⟨w2,hw2⟩:∃w2,w2=(w1.alloc (.cells #[.string ⟨#[]⟩,.int .i64 0,.int .i64 0,.int .i64 0,.bool false,.slice none 0 0,.slice none 0 0,.slice none 0 0,.slice none 0 0,.slice none 0 0,.slice none 0 0,.string ⟨#[]⟩,.int .i64 0,.int .i64 0,.int .i64 0] 123)).setCells Q 0 (#[.string x.a.label.text,.int .i64 x.a.label.off,.int .i64 x.a.label.line,.int .i64 x.a.label.col,.bool x.a.thm,.slice ag x.a.goal.length cg,.slice an x.a.needed.length cn,.slice ap x.a.apart.length cp,.slice aa x.a.active.length cc,.slice aq x.a.pairs.length cq,.slice af x.a.proof.length cf,.string x.a.fin.text,.int .i64 x.a.fin.off,.int .i64 x.a.fin.line,.int .i64 x.a.fin.col]:Array Value).toList:=⟨_,rfl⟩
 have HW2:Hid (w2=(w1.alloc (.cells #[.string ⟨#[]⟩,.int .i64 0,.int .i64 0,.int .i64 0,.bool false,.slice none 0 0,.slice none 0 0,.slice none 0 0,.slice none 0 0,.slice none 0 0,.slice none 0 0,.string ⟨#[]⟩,.int .i64 0,.int .i64 0,.int .i64 0] 123)).setCells Q 0 (#[.string x.a.label.text,.int .i64 x.a.label.off,.int .i64 x.a.label.line,.int .i64 x.a.label.col,.bool x.a.thm,.slice ag x.a.goal.length cg,.slice an x.a.needed.length cn,.slice ap x.a.apart.length cp,.slice aa x.a.active.length cc,.slice aq x.a.pairs.length cq,.slice af x.a.proof.length cf,.string x.a.fin.text,.int .i64 x.a.fin.off,.int .i64 x.a.fin.line,.int .i64 x.a.fin.col]:Array Value).toList):=hw2
 have kq0:(w1.alloc (.cells #[.string ⟨#[]⟩,.int .i64 0,.int .i64 0,.int .i64 0,.bool false,.slice none 0 0,.slice none 0 0,.slice none 0 0,.slice none 0 0,.slice none 0 0,.slice none 0 0,.string ⟨#[]⟩,.int .i64 0,.int .i64 0,.int .i64 0] 123)).heap[Q]?=some (.cells #[.string ⟨#[]⟩,.int .i64 0,.int .i64 0,.int .i64 0,.bool false,.slice none 0 0,.slice none 0 0,.slice none 0 0,.slice none 0 0,.slice none 0 0,.slice none 0 0,.string ⟨#[]⟩,.int .i64 0,.int .i64 0,.int .i64 0] 123 (0,0)):=by rw[←hQ];exact World.alloc_heap_new w1 _
 have k2:w2.heap[Q]?=some (.cells #[.string x.a.label.text,.int .i64 x.a.label.off,.int .i64 x.a.label.line,.int .i64 x.a.label.col,.bool x.a.thm,.slice ag x.a.goal.length cg,.slice an x.a.needed.length cn,.slice ap x.a.apart.length cp,.slice aa x.a.active.length cc,.slice aq x.a.pairs.length cq,.slice af x.a.proof.length cf,.string x.a.fin.text,.int .i64 x.a.fin.off,.int .i64 x.a.fin.line,.int .i64 x.a.fin.col] 123 (0,0)):=by rw[hw2];exact S.q14 Q 123 [.string x.a.label.text,.int .i64 x.a.label.off,.int .i64 x.a.label.line,.int .i64 x.a.label.col,.bool x.a.thm,.slice ag x.a.goal.length cg,.slice an x.a.needed.length cn,.slice ap x.a.apart.length cp,.slice aa x.a.active.length cc,.slice aq x.a.pairs.length cq,.slice af x.a.proof.length cf,.string x.a.fin.text,.int .i64 x.a.fin.off,.int .i64 x.a.fin.line,.int .i64 x.a.fin.col] [] [.string ⟨#[]⟩,.int .i64 0,.int .i64 0,.int .i64 0,.bool false,.slice none 0 0,.slice none 0 0,.slice none 0 0,.slice none 0 0,.slice none 0 0,.slice none 0 0,.string ⟨#[]⟩,.int .i64 0,.int .i64 0,.int .i64 0] _ kq0 rfl
 have ch2:S.M.Ch (fun b=>b=Q) (w1.alloc (.cells #[.string ⟨#[]⟩,.int .i64 0,.int .i64 0,.int .i64 0,.bool false,.slice none 0 0,.slice none 0 0,.slice none 0 0,.slice none 0 0,.slice none 0 0,.slice none 0 0,.string ⟨#[]⟩,.int .i64 0,.int .i64 0,.int .i64 0] 123)) w2:=by rw[hw2];exact F.q69 Q _ 0 _
 have b12:Below w1.heap.size w1 w2:=(S.qg w1 _).trans (ch2.below (by simp) fun b e=>by omega)
 have s2:w2.heap.size≥Q + 1:=by have:=(Array.getElem?_eq_some_iff.1 k2).1;omega
 have b2:Below w.heap.size w w2:=b1.trans (b12.mono b1.size)
 have kr:w2.heap[R]?=some (.cells #[.int .i64 0,.string ⟨#[]⟩,.bool false,.slice none 0 0,.slice none 0 0,.slice none 0 0,.slice none 0 0,.slice none 0 0,.slice none 0 0,.string ⟨#[]⟩,.int .i64 0,.int .i64 0,.int .i64 0,.string ⟨#[]⟩,.int .i64 0,.int .i64 0,.int .i64 0] 51 (0,0)):=(b12.block R (by omega)).trans k1
 have SA:Hid (∀wx,Below w2.heap.size w2 wx→(fun w'=>w'.cell? ⟨Q,0,none⟩=some (.string x.a.label.text)∧w'.cell? ⟨Q,1,none⟩=some (.int .i64 x.a.label.off)∧w'.cell? ⟨Q,2,none⟩=some (.int .i64 x.a.label.line)∧w'.cell? ⟨Q,3,none⟩=some (.int .i64 x.a.label.col)∧w'.cell? ⟨Q,4,none⟩=some (.bool x.a.thm)∧w'.cell? ⟨Q,5,none⟩=some (.slice ag x.a.goal.length cg)∧w'.cell? ⟨Q,6,none⟩=some (.slice an x.a.needed.length cn)∧w'.cell? ⟨Q,7,none⟩=some (.slice ap x.a.apart.length cp)∧w'.cell? ⟨Q,8,none⟩=some (.slice aa x.a.active.length cc)∧w'.cell? ⟨Q,9,none⟩=some (.slice aq x.a.pairs.length cq)∧w'.cell? ⟨Q,10,none⟩=some (.slice af x.a.proof.length cf)∧w'.cell? ⟨Q,11,none⟩=some (.string x.a.fin.text)∧w'.cell? ⟨Q,12,none⟩=some (.int .i64 x.a.fin.off)∧w'.cell? ⟨Q,13,none⟩=some (.int .i64 x.a.fin.line)∧w'.cell? ⟨Q,14,none⟩=some (.int .i64 x.a.fin.col)) wx):=fun wx hb=>by
  have kx:=(hb.block Q (by omega)).trans k2
  exact⟨S.M.qc kx 0,S.M.qc kx 1,S.M.qc kx 2,S.M.qc kx 3,S.M.qc kx 4,S.M.qc kx 5,S.M.qc kx 6,S.M.qc kx 7,S.M.qc kx 8,S.M.qc kx 9,S.M.qc kx 10,S.M.qc kx 11,S.M.qc kx 12,S.M.qc kx 13,S.M.qc kx 14⟩
 have SR:Hid (∀wx,Below w2.heap.size w2 wx→wx.heap[R]?=some (.cells #[.int .i64 0,.string ⟨#[]⟩,.bool false,.slice none 0 0,.slice none 0 0,.slice none 0 0,.slice none 0 0,.slice none 0 0,.slice none 0 0,.string ⟨#[]⟩,.int .i64 0,.int .i64 0,.int .i64 0,.string ⟨#[]⟩,.int .i64 0,.int .i64 0,.int .i64 0] 51 (0,0))):=fun wx hb=>(hb.block R (by omega)).trans kr
 have own:∀wx,Below w2.heap.size w2 wx→Below w.heap.size w wx:=fun wx hb=>b2.trans (hb.mono b2.size)
 have C1:Hid (∀wx,Below w2.heap.size w2 wx→Calls Tryz.prog 65 #[.pointer (some ⟨m.Bb,0,none⟩),.agg #[.string x.a.label.text,.int .i64 x.a.label.off,.int .i64 x.a.label.line,.int .i64 x.a.label.col,.bool x.a.thm,.slice ag x.a.goal.length cg,.slice an x.a.needed.length cn,.slice ap x.a.apart.length cp,.slice aa x.a.active.length cc,.slice aq x.a.pairs.length cq,.slice af x.a.proof.length cf,.string x.a.fin.text,.int .i64 x.a.fin.off,.int .i64 x.a.fin.line,.int .i64 x.a.fin.col]] wx fun e w'=>Below wx.heap.size wx w'∧∃vh vp vg ts,e=.returned (.agg #[vh,vp,vg])∧FrT wx.heap.size w' L.hy x.a vh vp vg ts):=fun wx hb=>by
  rw[←hAA]
  exact qfj (h.below (own wx hb)) x (hok.ch (S.M.Ch.of_below (X:=fun _=>False) (own wx hb)) fun _ _ e=>e) hi
 have C2:Hid (∀wx,Below w2.heap.size w2 wx→Calls Tryz.prog 66 #[.pointer (some ⟨m.Bb,0,none⟩),.agg #[.string x.a.label.text,.int .i64 x.a.label.off,.int .i64 x.a.label.line,.int .i64 x.a.label.col,.bool x.a.thm,.slice ag x.a.goal.length cg,.slice an x.a.needed.length cn,.slice ap x.a.apart.length cp,.slice aa x.a.active.length cc,.slice aq x.a.pairs.length cq,.slice af x.a.proof.length cf,.string x.a.fin.text,.int .i64 x.a.fin.off,.int .i64 x.a.fin.line,.int .i64 x.a.fin.col]] wx fun e w'=>Below wx.heap.size wx w'∧∃vh vp ts,e=.returned (.agg #[vh,vp])∧ScT wx.heap.size w' L.hy x.a vh vp ts):=fun wx hb=>by
  rw[←hAA]
  exact qfk (h.below (own wx hb)) x (hok.ch (S.M.Ch.of_below (X:=fun _=>False) (own wx hb)) fun _ _ e=>e) hi
 have C3:Hid (∀wx,Below w2.heap.size w2 wx→Calls Tryz.prog 67 #[.slice af x.a.proof.length cf] wx fun e w'=>∃v',e=.returned v'∧w'.ownsRow wx.heap.size 36 4 v' x.a.proof.length (S.rowT x.a.proof)∧Below wx.heap.size wx w'):=fun wx hb=>by
  rw[←ef]
  exact qhp wx N _ _ _ rfl (by have:=hi.f;omega) (hok.ch (S.M.Ch.of_below (X:=fun _=>False) (own wx hb)) fun _ _ e=>e).f
 have LQ:Hid (Q < w2.heap.size):=by show Q < _;omega
 have BA:Hid (Below R w w2∧R + 1≤w2.heap.size∧R < Q):=⟨by rw[←hR];exact b2,by omega,by omega⟩
 have i0:¬(i:Int) < 0:=by omega
 have i00:(0:Int)≤(i:Int):=by omega
 have i1:¬(L.al.length:Int)≤(i:Int):=by omega
 obtain⟨na,hna⟩:∃na,L.al.length=na:=⟨_,rfl⟩
 rw[hlen,hna] at b5
 rw[hna] at i1 CT
 have i2:(i:Int) < (na:Int):=by omega
 generalize m.Bb=Bb at *
 have KQ:Hid ((w1.alloc (.cells #[.string ⟨#[]⟩,.int .i64 0,.int .i64 0,.int .i64 0,.bool false,.slice none 0 0,.slice none 0 0,.slice none 0 0,.slice none 0 0,.slice none 0 0,.slice none 0 0,.string ⟨#[]⟩,.int .i64 0,.int .i64 0,.int .i64 0] 123)).heap[Q]?=some (.cells #[.string ⟨#[]⟩,.int .i64 0,.int .i64 0,.int .i64 0,.bool false,.slice none 0 0,.slice none 0 0,.slice none 0 0,.slice none 0 0,.slice none 0 0,.slice none 0 0,.string ⟨#[]⟩,.int .i64 0,.int .i64 0,.int .i64 0] 123 (0,0))):=kq0
 clear s1 hw1 b1 k1 h1 hlen hin hrow y ea hAA hAC eg en ep ec eq ef hw2 kq0 k2 ch2 b12 b2 s2 kr own hok hx hi h hna
 go_enter Tryz.func16,Tryz.ntmps16
 go_upto_region 1 with fail
 rw[←HW1.out]
 clear HW1
 go_wp2_with fail
 refine Calls.mono CT.out ?_
 rintro e wz ⟨rfl,hwz⟩
 subst wz
 clear CT
 go_upto_region 3 with fail
 refine wp_region_list ?_
 refine wpList_plain rfl fun K hK=>?_
 go_simp
 refine hK _ _ ?_
 clear hK K
 refine wpList_plain rfl fun K hK=>?_
 go_simp
 refine hK _ _ ?_
 clear hK K
 refine wpList_plain rfl fun K hK=>?_
 go_simp
 refine hK _ _ ?_
 clear hK K
 refine wpList_plain rfl fun K hK=>?_
 go_simp
 refine hK _ _ ?_
 clear hK K
 refine wpList_plain rfl fun K hK=>?_
 go_simp
 refine hK _ _ ?_
 clear hK K
 refine wpList_plain rfl fun K hK=>?_
 go_simp
 refine hK _ _ ?_
 clear hK K
 refine wpList_load_mid rfl 123 _ rfl g (i * 15) rfl [.string x.a.label.text,.int .i64 x.a.label.off,.int .i64 x.a.label.line,.int .i64 x.a.label.col,.bool x.a.thm,.slice ag x.a.goal.length cg,.slice an x.a.needed.length cn,.slice ap x.a.apart.length cp,.slice aa x.a.active.length cc,.slice aq x.a.pairs.length cq,.slice af x.a.proof.length cf,.string x.a.fin.text,.int .i64 x.a.fin.off,.int .i64 x.a.fin.line,.int .i64 x.a.fin.col] _ yr.out Tryz.underlying123 rfl (by kernel_rfl) ?_
 refine wpList_plain rfl fun K hK=>?_
 go_simp
 refine hK _ _ ?_
 clear hK K
 try rw[hQ]
 refine wpList_store_mid rfl 123 _ _ rfl Q 0 #[.string x.a.label.text,.int .i64 x.a.label.off,.int .i64 x.a.label.line,.int .i64 x.a.label.col,.bool x.a.thm,.slice ag x.a.goal.length cg,.slice an x.a.needed.length cn,.slice ap x.a.apart.length cp,.slice aa x.a.active.length cc,.slice aq x.a.pairs.length cq,.slice af x.a.proof.length cf,.string x.a.fin.text,.int .i64 x.a.fin.off,.int .i64 x.a.fin.line,.int .i64 x.a.fin.col] rfl rfl (show (w1.alloc (.cells #[.string ⟨#[]⟩,.int .i64 0,.int .i64 0,.int .i64 0,.bool false,.slice none 0 0,.slice none 0 0,.slice none 0 0,.slice none 0 0,.slice none 0 0,.slice none 0 0,.string ⟨#[]⟩,.int .i64 0,.int .i64 0,.int .i64 0] 123)).there Q 0 15 from S.q2o (cs:=#[.string ⟨#[]⟩,.int .i64 0,.int .i64 0,.int .i64 0,.bool false,.slice none 0 0,.slice none 0 0,.slice none 0 0,.slice none 0 0,.slice none 0 0,.slice none 0 0,.string ⟨#[]⟩,.int .i64 0,.int .i64 0,.int .i64 0]) (t:=123) KQ.out) (by kernel_rfl) (by simp[Value.oneCell']) ?_
 rw[←HW2.out]
 go_upto_region 4 with fail
 clear HW2 b5 hQ hR KQ yr
 have BD:Hid (Below w2.heap.size w2 w2.drew):=S.M.zi (Below.refl _ _) 1
 refine wp_region_held_drew (S:=fun w'=>w'.cell? ⟨Q,0,none⟩=some (.string x.a.label.text)∧w'.cell? ⟨Q,1,none⟩=some (.int .i64 x.a.label.off)∧w'.cell? ⟨Q,2,none⟩=some (.int .i64 x.a.label.line)∧w'.cell? ⟨Q,3,none⟩=some (.int .i64 x.a.label.col)∧w'.cell? ⟨Q,4,none⟩=some (.bool x.a.thm)∧w'.cell? ⟨Q,5,none⟩=some (.slice ag x.a.goal.length cg)∧w'.cell? ⟨Q,6,none⟩=some (.slice an x.a.needed.length cn)∧w'.cell? ⟨Q,7,none⟩=some (.slice ap x.a.apart.length cp)∧w'.cell? ⟨Q,8,none⟩=some (.slice aa x.a.active.length cc)∧w'.cell? ⟨Q,9,none⟩=some (.slice aq x.a.pairs.length cq)∧w'.cell? ⟨Q,10,none⟩=some (.slice af x.a.proof.length cf)∧w'.cell? ⟨Q,11,none⟩=some (.string x.a.fin.text)∧w'.cell? ⟨Q,12,none⟩=some (.int .i64 x.a.fin.off)∧w'.cell? ⟨Q,13,none⟩=some (.int .i64 x.a.fin.line)∧w'.cell? ⟨Q,14,none⟩=some (.int .i64 x.a.fin.col)) (by kernel_rfl) ?_ (fun hHeld=>?_)
 ·exact SA.out _ BD.out
 refine tk 0 ⟨some 23,.move (.tmp 1),3,"base.go:66",#[],none⟩ ?_ hHeld ?_ ?_
 rotate_left
 ·(intro w hSw;(try dsimp only at hSw);go_simp;try with_reducible rfl)
 try simp only[Act.put,List.setIfInBounds_toArray,List.set_cons_zero,List.set_cons_succ]
 refine tk 1 ⟨some 24,.fieldAddr 123 (.tmp 6) 0,0,"base.go:66",#[],none⟩ ?_ hHeld ?_ ?_
 rotate_left
 ·(intro w hSw;(try dsimp only at hSw);go_simp;try with_reducible rfl)
 try simp only[Act.put,List.setIfInBounds_toArray,List.set_cons_zero,List.set_cons_succ]
 refine tk 2 ⟨some 25,.fieldAddr 36 (.tmp 24) 0,0,"base.go:66",#[⟨1,.data⟩],none⟩ ?_ hHeld ?_ ?_
 rotate_left
 ·(intro w hSw;(try dsimp only at hSw);go_simp;try with_reducible rfl)
 try simp only[Act.put,List.setIfInBounds_toArray,List.set_cons_zero,List.set_cons_succ]
 refine tk 3 ⟨some 26,.load 9 (.tmp 25),9,"base.go:66",#[⟨2,.data⟩],none⟩ ?_ hHeld ?_ ?_
 rotate_left
 ·(intro w hSw;(try dsimp only at hSw);go_simp;try with_reducible rfl)
 try simp only[Act.put,List.setIfInBounds_toArray,List.set_cons_zero,List.set_cons_succ]
 refine tk 4 ⟨some 27,.fieldAddr 123 (.tmp 6) 1,0,"base.go:66",#[],none⟩ ?_ hHeld ?_ ?_
 rotate_left
 ·(intro w hSw;(try dsimp only at hSw);go_simp;try with_reducible rfl)
 try simp only[Act.put,List.setIfInBounds_toArray,List.set_cons_zero,List.set_cons_succ]
 refine tk 5 ⟨some 28,.load 4 (.tmp 27),4,"base.go:66",#[⟨4,.data⟩],none⟩ ?_ hHeld ?_ ?_
 rotate_left
 ·(intro w hSw;(try dsimp only at hSw);go_simp;try with_reducible rfl)
 try simp only[Act.put,List.setIfInBounds_toArray,List.set_cons_zero,List.set_cons_succ]
 refine tk 6 ⟨some 29,.move (.tmp 0),22,"base.go:66",#[],none⟩ ?_ hHeld ?_ ?_
 rotate_left
 ·(intro w hSw;(try dsimp only at hSw);go_simp;try with_reducible rfl)
 try simp only[Act.put,List.setIfInBounds_toArray,List.set_cons_zero,List.set_cons_succ]
 refine tk 7 ⟨some 30,.load 123 (.tmp 6),123,"base.go:66",#[],none⟩ ?_ hHeld ?_ ?_
 rotate_left
 ·(intro w hSw;(try dsimp only at hSw);go_simp;try with_reducible rfl)
 try simp only[Act.put,List.setIfInBounds_toArray,List.set_cons_zero,List.set_cons_succ]
 refine tk 9 ⟨some 32,.move (.tmp 0),22,"base.go:66",#[],none⟩ ?_ hHeld ?_ ?_
 rotate_left
 ·(intro w hSw;(try dsimp only at hSw);go_simp;try with_reducible rfl)
 try simp only[Act.put,List.setIfInBounds_toArray,List.set_cons_zero,List.set_cons_succ]
 refine tk 10 ⟨some 33,.load 123 (.tmp 6),123,"base.go:66",#[],none⟩ ?_ hHeld ?_ ?_
 rotate_left
 ·(intro w hSw;(try dsimp only at hSw);go_simp;try with_reducible rfl)
 try simp only[Act.put,List.setIfInBounds_toArray,List.set_cons_zero,List.set_cons_succ]
 refine tk 12 ⟨some 35,.fieldAddr 123 (.tmp 6) 7,0,"base.go:66",#[],none⟩ ?_ hHeld ?_ ?_
 rotate_left
 ·(intro w hSw;(try dsimp only at hSw);go_simp;try with_reducible rfl)
 try simp only[Act.put,List.setIfInBounds_toArray,List.set_cons_zero,List.set_cons_succ]
 refine tk 13 ⟨some 36,.load 32 (.tmp 35),32,"base.go:66",#[⟨12,.data⟩],none⟩ ?_ hHeld ?_ ?_
 rotate_left
 ·(intro w hSw;(try dsimp only at hSw);go_simp;try with_reducible rfl)
 try simp only[Act.put,List.setIfInBounds_toArray,List.set_cons_zero,List.set_cons_succ]
 refine tk 15 ⟨some 38,.fieldAddr 123 (.tmp 6) 0,0,"base.go:66",#[],none⟩ ?_ hHeld ?_ ?_
 rotate_left
 ·(intro w hSw;(try dsimp only at hSw);go_simp;try with_reducible rfl)
 try simp only[Act.put,List.setIfInBounds_toArray,List.set_cons_zero,List.set_cons_succ]
 refine tk 16 ⟨some 39,.load 36 (.tmp 38),36,"base.go:66",#[⟨15,.data⟩],none⟩ ?_ hHeld ?_ ?_
 rotate_left
 ·(intro w hSw;(try dsimp only at hSw);go_simp;try with_reducible rfl)
 try simp only[Act.put,List.setIfInBounds_toArray,List.set_cons_zero,List.set_cons_succ]
 refine tk 17 ⟨some 40,.fieldAddr 123 (.tmp 6) 8,0,"base.go:66",#[],none⟩ ?_ hHeld ?_ ?_
 rotate_left
 ·(intro w hSw;(try dsimp only at hSw);go_simp;try with_reducible rfl)
 try simp only[Act.put,List.setIfInBounds_toArray,List.set_cons_zero,List.set_cons_succ]
 refine tk 18 ⟨some 41,.load 36 (.tmp 40),36,"base.go:66",#[⟨17,.data⟩],none⟩ ?_ hHeld ?_ ?_
 rotate_left
 ·(intro w hSw;(try dsimp only at hSw);go_simp;try with_reducible rfl)
 try simp only[Act.put,List.setIfInBounds_toArray,List.set_cons_zero,List.set_cons_succ]
 refine wpAnyH_ready (rs:=[8]) (by kernel_rfl) (by simp) ?_
 refine AllReadyH.cons rfl (fun K hK=>?_) AllReadyH.nil
 go_simp
 go_at_call 65
 refine Calls.mono (C1.out _ BD.out) ?_
 rintro ee w3 ⟨hb3,v1,v2,v3,ts,rfl,ht3⟩
 have B3:Hid (Below w2.heap.size w2 w3):=BD.out.trans (hb3.mono BD.out.size)
 have T3:Hid (FrT w2.heap.size w3 L.hy x.a v1 v2 v3 ts):=ht3.low BD.out.size
 clear hb3 ht3
 refine hK.out _ _ ?_ (fun hHeld_8=>?_)
 ·exact SA.out _ B3.out
 clear hK K
 try simp only[Act.put,List.setIfInBounds_toArray,List.set_cons_zero,List.set_cons_succ]
 refine wpAnyH_ready (rs:=[11]) (by kernel_rfl) (by simp) ?_
 refine AllReadyH.cons rfl (fun K hK=>?_) AllReadyH.nil
 go_simp
 go_at_call 66
 refine Calls.mono (C2.out _ B3.out) ?_
 rintro ee w4 ⟨hb4,v4,v5,us,rfl,ht4⟩
 have D4:Hid (Below w3.heap.size w3 w4):=hb4
 have B4:Hid (Below w2.heap.size w2 w4):=B3.out.trans (hb4.mono B3.out.size)
 have T4:Hid (ScT w3.heap.size w4 L.hy x.a v4 v5 us):=ht4
 clear hb4 ht4
 refine hK.out _ _ ?_ (fun hHeld_11=>?_)
 ·exact SA.out _ B4.out
 clear hK K
 try simp only[Act.put,List.setIfInBounds_toArray,List.set_cons_zero,List.set_cons_succ]
 refine wpAnyH_ready (rs:=[14]) (by kernel_rfl) (by simp) ?_
 refine AllReadyH.cons rfl (fun K hK=>?_) AllReadyH.nil
 go_simp
 go_at_call 67
 refine Calls.mono (C3.out _ B4.out) ?_
 rintro ee w5 ⟨v6,rfl,ho5,hb5⟩
 have D5:Hid (Below w4.heap.size w4 w5):=hb5
 have B5:Hid (Below w2.heap.size w2 w5):=B4.out.trans (hb5.mono B4.out.size)
 have O5:Hid (w5.ownsRow w4.heap.size 36 4 v6 x.a.proof.length (S.rowT x.a.proof)):=ho5
 clear hb5 ho5
 obtain⟨a1,n1,q1,rfl⟩:∃a n c,v1=.slice a n c:=by (obtain⟨a,c,e,_⟩:=S.qm T3.out.t.own;exact⟨a,_,c,e⟩)
 obtain⟨a2,n2,q2,rfl⟩:∃a n c,v2=.slice a n c:=by (obtain⟨a,c,e,_⟩:=S.qm T3.out.p;exact⟨a,_,c,e⟩)
 obtain⟨a3,n3,q3,rfl⟩:∃a n c,v3=.slice a n c:=by (obtain⟨a,c,e,_⟩:=S.qm T3.out.g;exact⟨a,_,c,e⟩)
 obtain⟨a4,n4,q4,rfl⟩:∃a n c,v4=.slice a n c:=by (obtain⟨a,c,e,_⟩:=S.qm T4.out.t.own;exact⟨a,_,c,e⟩)
 obtain⟨a5,n5,q5,rfl⟩:∃a n c,v5=.slice a n c:=by (obtain⟨a,c,e,_⟩:=S.qm T4.out.p;exact⟨a,_,c,e⟩)
 obtain⟨a6,n6,q6,rfl⟩:∃a n c,v6=.slice a n c:=by (obtain⟨a,c,e,_⟩:=S.qm O5.out;exact⟨a,_,c,e⟩)
 refine hK.out _ _ ?_ (fun hHeld_14=>?_)
 ·exact SA.out _ B5.out
 clear hK K
 try simp only[Act.put,List.setIfInBounds_toArray,List.set_cons_zero,List.set_cons_succ]
 refine tk 19 ⟨some 42,.build 51 #[(0,.tmp 23),(1,.tmp 26),(2,.tmp 28),(3,.tmp 31),(4,.tmp 34),(5,.tmp 37),(6,.tmp 39),(7,.tmp 41)],51,"base.go:66",#[⟨0,.data⟩,⟨3,.data⟩,⟨5,.data⟩,⟨8,.data⟩,⟨11,.data⟩,⟨14,.data⟩,⟨16,.data⟩,⟨18,.data⟩],none⟩ ?_ hHeld_14 ?_ ?_
 rotate_left
 ·(intro w hSw;(try dsimp only at hSw);go_simp;try with_reducible rfl)
 try simp only[Act.put,List.setIfInBounds_toArray,List.set_cons_zero,List.set_cons_succ]
 refine wpAnyH_ready (rs:=[20]) (by kernel_rfl) (by simp) ?_
 refine AllReadyH.cons rfl (fun K hK=>?_) AllReadyH.nil
 have kR:=SR.out _ B5.out
 refine wp_store_mid 51 _ _ rfl R 0 #[.int .i64 (i:Nat),.string x.a.label.text,.bool x.a.thm,.slice a1 n1 q1,.slice a2 n2 q2,.slice a3 n3 q3,.slice a4 n4 q4,.slice a5 n5 q5,.slice a6 n6 q6,.string x.a.label.text,.int .i64 x.a.label.off,.int .i64 x.a.label.line,.int .i64 x.a.label.col,.string x.a.fin.text,.int .i64 x.a.fin.off,.int .i64 x.a.fin.line,.int .i64 x.a.fin.col] rfl rfl (show w5.there R 0 17 from S.q2o (cs:=#[.int .i64 0,.string ⟨#[]⟩,.bool false,.slice none 0 0,.slice none 0 0,.slice none 0 0,.slice none 0 0,.slice none 0 0,.slice none 0 0,.string ⟨#[]⟩,.int .i64 0,.int .i64 0,.int .i64 0,.string ⟨#[]⟩,.int .i64 0,.int .i64 0,.int .i64 0]) (t:=51) kR) (by kernel_rfl) (by simp[Value.oneCell']) ?_
 obtain⟨w9,hw9⟩:∃w9,w9=w5.setCells R 0 (#[.int .i64 (i:Nat),.string x.a.label.text,.bool x.a.thm,.slice a1 n1 q1,.slice a2 n2 q2,.slice a3 n3 q3,.slice a4 n4 q4,.slice a5 n5 q5,.slice a6 n6 q6,.string x.a.label.text,.int .i64 x.a.label.off,.int .i64 x.a.label.line,.int .i64 x.a.label.col,.string x.a.fin.text,.int .i64 x.a.fin.off,.int .i64 x.a.fin.line,.int .i64 x.a.fin.col]:Array Value).toList:=⟨_,rfl⟩
 have K9:Hid (w9.heap[R]?=some (.cells #[.int .i64 (i:Nat),.string x.a.label.text,.bool x.a.thm,.slice a1 n1 q1,.slice a2 n2 q2,.slice a3 n3 q3,.slice a4 n4 q4,.slice a5 n5 q5,.slice a6 n6 q6,.string x.a.label.text,.int .i64 x.a.label.off,.int .i64 x.a.label.line,.int .i64 x.a.label.col,.string x.a.fin.text,.int .i64 x.a.fin.off,.int .i64 x.a.fin.line,.int .i64 x.a.fin.col] 51 (0,0))):=by (show _=_;rw[hw9];exact S.q14 R 51 [.int .i64 (i:Nat),.string x.a.label.text,.bool x.a.thm,.slice a1 n1 q1,.slice a2 n2 q2,.slice a3 n3 q3,.slice a4 n4 q4,.slice a5 n5 q5,.slice a6 n6 q6,.string x.a.label.text,.int .i64 x.a.label.off,.int .i64 x.a.label.line,.int .i64 x.a.label.col,.string x.a.fin.text,.int .i64 x.a.fin.off,.int .i64 x.a.fin.line,.int .i64 x.a.fin.col] [] [.int .i64 0,.string ⟨#[]⟩,.bool false,.slice none 0 0,.slice none 0 0,.slice none 0 0,.slice none 0 0,.slice none 0 0,.slice none 0 0,.string ⟨#[]⟩,.int .i64 0,.int .i64 0,.int .i64 0,.string ⟨#[]⟩,.int .i64 0,.int .i64 0,.int .i64 0] w5 kR rfl)
 have ch9:S.M.Ch (fun b=>b=R) w5 w9:=by (rw[hw9];exact F.q69 R _ 0 w5)
 have S9:Hid ((fun w'=>w'.cell? ⟨Q,0,none⟩=some (.string x.a.label.text)∧w'.cell? ⟨Q,1,none⟩=some (.int .i64 x.a.label.off)∧w'.cell? ⟨Q,2,none⟩=some (.int .i64 x.a.label.line)∧w'.cell? ⟨Q,3,none⟩=some (.int .i64 x.a.label.col)∧w'.cell? ⟨Q,4,none⟩=some (.bool x.a.thm)∧w'.cell? ⟨Q,5,none⟩=some (.slice ag x.a.goal.length cg)∧w'.cell? ⟨Q,6,none⟩=some (.slice an x.a.needed.length cn)∧w'.cell? ⟨Q,7,none⟩=some (.slice ap x.a.apart.length cp)∧w'.cell? ⟨Q,8,none⟩=some (.slice aa x.a.active.length cc)∧w'.cell? ⟨Q,9,none⟩=some (.slice aq x.a.pairs.length cq)∧w'.cell? ⟨Q,10,none⟩=some (.slice af x.a.proof.length cf)∧w'.cell? ⟨Q,11,none⟩=some (.string x.a.fin.text)∧w'.cell? ⟨Q,12,none⟩=some (.int .i64 x.a.fin.off)∧w'.cell? ⟨Q,13,none⟩=some (.int .i64 x.a.fin.line)∧w'.cell? ⟨Q,14,none⟩=some (.int .i64 x.a.fin.col)) w9):=by (have hb:=ch9.block Q (by have:=B5.out.size;have:=LQ.out;omega) (by have:=BA.out.2.2;omega);have hs:=SA.out _ B5.out;have o:∀j,w9.cell? ⟨Q,j,none⟩=w5.cell? ⟨Q,j,none⟩:=(fun j=>World.cell?_of_block (a:=⟨Q,j,none⟩) hb);simp only[←o] at hs;exact hs)
 have FI:Hid (Below R w w9∧AtT R w9 L.hy x.a (.slice a1 n1 q1) (.slice a2 n2 q2) (.slice a3 n3 q3) (.slice a4 n4 q4) (.slice a5 n5 q5) (.slice a6 n6 q6) ts us):=by (have sz:=BA.out;have s3:=B3.out.size;have s4:=D4.out.size;have s5:=D5.out.size;have T3':=((T3.out.ch (S.M.Ch.of_below (X:=fun _=>False) D4.out) fun _ _ e=>e).ch (S.M.Ch.of_below (X:=fun _=>False) D5.out) fun _ _ e=>e).ch ch9 (fun b hb e=>by omega);have T4':=(T4.out.ch (S.M.Ch.of_below (X:=fun _=>False) D5.out) fun _ _ e=>e).ch ch9 (fun b hb e=>by omega);have O5':=S.M.qh O5.out ch9 (fun b hb e=>by have:=S.M.zf O5.out b hb;omega);refine⟨(BA.out.1.trans (B5.out.mono (by omega))).trans (ch9.below (by have:=B5.out.size;omega) fun b e=>by omega),⟨T3'.low (by omega),T4'.low (by omega),S.M.qp O5' (by omega),(fun b hb e=>by have h1:=S.M.jl T3.out.t.own b hb;have h2:=S.M.zf T4.out.t.own b e;omega),(fun b hb e=>by have h1:=S.M.jl T3.out.p b hb;have h2:=S.M.zf T4.out.p b e;omega),fun z hz b hb=>⟨(fun e=>by have h1:=S.M.jl T3.out.g b e;have h2:=S.M.zf (T4.out.t.e z hz) b hb;omega),fun y hy e=>by have h1:=S.M.jl (T3.out.t.e y hy) b e;have h2:=S.M.zf (T4.out.t.e z hz) b hb;omega⟩⟩⟩)
 rw[←hw9]
 clear hw9 ch9 kR
 refine hK.out _ _ ?_ (fun hHeld_20=>?_)
 ·exact S9.out
 clear hK K
 try simp only[Act.put]
 refine tk 21 ⟨some 5,.assign (.const (.int .i64 0)),29,"base.go:66",#[⟨20,.chain⟩,⟨0,.phase⟩,⟨1,.phase⟩,⟨2,.phase⟩,⟨3,.phase⟩,⟨4,.phase⟩,⟨5,.phase⟩,⟨6,.phase⟩,⟨7,.phase⟩,⟨8,.phase⟩,⟨9,.phase⟩,⟨10,.phase⟩,⟨11,.phase⟩,⟨12,.phase⟩,⟨13,.phase⟩,⟨14,.phase⟩,⟨15,.phase⟩,⟨16,.phase⟩,⟨17,.phase⟩,⟨18,.phase⟩,⟨19,.phase⟩,⟨20,.phase⟩],none⟩ ?_ hHeld_20 ?_ ?_
 rotate_left
 ·(intro w hSw;(try dsimp only at hSw);go_simp;try with_reducible rfl)
 try simp only[Act.put,List.setIfInBounds_toArray]
 refine wpAnyH_done (by kernel_rfl) ?_ _
 have z0:w9.cell? ⟨R,0,none⟩=some (.int .i64 (i:Nat)):=S.M.qc K9.out 0
 have z1:w9.cell? ⟨R,1,none⟩=some (.string x.a.label.text):=S.M.qc K9.out 1
 have z2:w9.cell? ⟨R,2,none⟩=some (.bool x.a.thm):=S.M.qc K9.out 2
 have z3:w9.cell? ⟨R,3,none⟩=some (.slice a1 n1 q1):=S.M.qc K9.out 3
 have z4:w9.cell? ⟨R,4,none⟩=some (.slice a2 n2 q2):=S.M.qc K9.out 4
 have z5:w9.cell? ⟨R,5,none⟩=some (.slice a3 n3 q3):=S.M.qc K9.out 5
 have z6:w9.cell? ⟨R,6,none⟩=some (.slice a4 n4 q4):=S.M.qc K9.out 6
 have z7:w9.cell? ⟨R,7,none⟩=some (.slice a5 n5 q5):=S.M.qc K9.out 7
 have z8:w9.cell? ⟨R,8,none⟩=some (.slice a6 n6 q6):=S.M.qc K9.out 8
 have z9:w9.cell? ⟨R,9,none⟩=some (.string x.a.label.text):=S.M.qc K9.out 9
 have z10:w9.cell? ⟨R,10,none⟩=some (.int .i64 x.a.label.off):=S.M.qc K9.out 10
 have z11:w9.cell? ⟨R,11,none⟩=some (.int .i64 x.a.label.line):=S.M.qc K9.out 11
 have z12:w9.cell? ⟨R,12,none⟩=some (.int .i64 x.a.label.col):=S.M.qc K9.out 12
 have z13:w9.cell? ⟨R,13,none⟩=some (.string x.a.fin.text):=S.M.qc K9.out 13
 have z14:w9.cell? ⟨R,14,none⟩=some (.int .i64 x.a.fin.off):=S.M.qc K9.out 14
 have z15:w9.cell? ⟨R,15,none⟩=some (.int .i64 x.a.fin.line):=S.M.qc K9.out 15
 have z16:w9.cell? ⟨R,16,none⟩=some (.int .i64 x.a.fin.col):=S.M.qc K9.out 16
 go_wp2_with fail
 refine bodyPost_ret (v:=.tuple #[.agg #[.int .i64 (i:Nat),.string x.a.label.text,.bool x.a.thm,.slice a1 n1 q1,.slice a2 n2 q2,.slice a3 n3 q3,.slice a4 n4 q4,.slice a5 n5 q5,.slice a6 n6 q6,.string x.a.label.text,.int .i64 x.a.label.off,.int .i64 x.a.label.line,.int .i64 x.a.label.col,.string x.a.fin.text,.int .i64 x.a.fin.off,.int .i64 x.a.fin.line,.int .i64 x.a.fin.col],.int .i64 0]) (by simp[results,Tryz.results16,go_sem,z0,z1,z2,z3,z4,z5,z6,z7,z8,z9,z10,z11,z12,z13,z14,z15,z16];try rfl) rfl ?_
 exact⟨FI.out.1,_,_,_,_,_,_,rfl,ts,us,FI.out.2⟩
end
end B
end Go.Proofs.YtbancemhfjjmlaaGreatDoor
