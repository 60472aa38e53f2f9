/- Laid together. -/
import Derived.Test.YtbancemhfjjmlaaGreatDoorQF03
import Derived.Test.YtbancemhfjjmlaaGreatDoorQF06
set_option maxRecDepth 100000
set_option maxHeartbeats 32000000
namespace Go.Proofs.YtbancemhfjjmlaaGreatDoor
namespace B
open Go.RowKit S
def q56 (t:Tok)(c:Int):Array Value:=#[.int .i64 t.off,.int .i64 t.line,.int .i64 t.col,.string t.text,.int .i64 c]
def Quits (t:Tok)(c:Int)(N:Nat)(e:Ending)(w':World):Prop:=∃b,e=.panicked [{ v:=.iface 23 (.pointer (some ⟨b,0,none⟩)),recovered:=false }]∧w'.heap[b]?=some (.cells (q56 t c) 31 (0,0))∧N≤b
theorem Quits.le {t:Tok}{c:Int}{N M:Nat}{e:Ending}{w':World}(h:Quits t c N e w')(hm:M≤N):Quits t c M e w':=by
 obtain⟨b,h1,h2,h3⟩:=h;exact⟨b,h1,h2,nLt hm h3⟩
theorem qi5 (w:World)(o p:Obj):((w.alloc o).alloc p).heap[w.heap.size + 1]?=some p∧Below w.heap.size w ((w.alloc o).alloc p):=by
 constructor
 ·show ((w.heap.push o).push p)[_]?=_
  rw[Array.getElem?_eq_getElem (by simp),Array.getElem_push,dif_neg (by simp)]
 ·exact (qg w o).alloc (qg w o).size p
theorem q1y (w:World)(t:Tok)(c:Int):Calls Tryz.prog 153 #[zy t,.int .i64 c] w fun e w'=>Below w.heap.size w w'∧Quits t c w.heap.size e w':=by
 unfold zy;go_enter Tryz.func153,Tryz.ntmps153
 go_wp2
 obtain⟨h1,h2⟩:=qi5 w (.cells #[.string t.text,.int .i64 t.off,.int .i64 t.line,.int .i64 t.col] 36) (.cells (q56 t c) 31);exact⟨rfl,h2,_,rfl,h1,by omega⟩
def Chk (t:Tok)(c:Int)(w:World)(e:Ending)(w':World):Prop:=Below w.heap.size w w'∧if c=0 then e=.returned (.tuple #[]) else Quits t c w.heap.size e w'
theorem check_any (w:World)(t:Tok)(c:Int):Calls Tryz.prog 102 #[zy t,.int .i64 c] w (Chk t c w):=by
 have H:Hid (∀wx,Calls Tryz.prog 153 #[zy t,.int .i64 c] wx fun e w'=>Below wx.heap.size wx w'∧Quits t c wx.heap.size e w'):=fun wx=>q1y wx t c
 unfold zy at H ⊢
 by_cases hc:c=0
 ·subst hc;go_enter Tryz.func102,Tryz.ntmps102
  go_wp2
  exact bodyPost_end (results_none rfl _ _ _) rfl ⟨(qg w _),rfl⟩
 ·have hc':(c != 0)=true:=by simpa using hc
  go_enter Tryz.func102,Tryz.ntmps102;go_wp2_with fail;refine cMo (H.out _) ?_;rintro e w' ⟨hb,b,rfl,h2,h3⟩;have hs:w.heap.size≤(w.alloc (.cells #[.string t.text,.int .i64 t.off,.int .i64 t.line,.int .i64 t.col] 36)).heap.size:=(qg w _).size;refine⟨rfl,(qg w _).trans (hb.mono hs),?_⟩;rw[if_neg hc];exact⟨b,rfl,h2,nLt hs h3⟩
open S (Tok Stm)
abbrev Res (α:Type):=Except (Tok × Int) α
def zu (T:Y.Tab)(n:Int):Bool:=Y.varOf (Y.q2w T n)
structure As where
 label:Tok
 thm:Bool
 goal:List Int
 needed:List Int
 apart:List F.Pp
 active:List Int
 pairs:List F.Pp
 proof:List Tok
 fin:Tok
structure Ld where
 T:Y.Tab
 sc:List F.Sa
 hy:List F.Hy
 al:List As
def ld0:Ld:=⟨Y.qh9,[⟨[],[]⟩],[],[]⟩
def q40 (L:Ld)(t:Tok):Res Int:=match Y.q07 L.T t.text with
 | some n=>.ok (n:Int)
 | none=>.error (t,30)
def q0x (L:Ld)(t:Tok):Res Int:=match q40 L t with
 | .ok n=>if zu L.T n=true then .error (t,72) else .ok n
 | .error f=>.error f
def q4c (L:Ld)(t:Tok):Res Int:=match q40 L t with
 | .ok n=>if zu L.T n=true then .ok n else .error (t,71)
 | .error f=>.error f
def q0r (L:Ld)(t:Tok):Res Int:=match q4c L t with
 | .ok n=>if (F.tyA L.sc n).isSome=true then .error (t,70) else .ok n
 | .error f=>.error f
def q2c (L:Ld)(t:Tok):Res Int:=match q40 L t with
 | .ok n=>if (F.tyA L.sc n).isSome=false∧zu L.T n=true then .error (t,70) else .ok n
 | .error f=>.error f
def q0j (L:Ld):List Int→List Tok→Res (List Int)
 | e,[]=>.ok e
 | e,t :: ts=>if 200≤e.length then .error (t,31) else match (if e.length=0 then q0x L t else q2c L t) with
  | .ok n=>q0j L (e++[n]) ts
  | .error f=>.error f
def q1l (L:Ld):List Int→List Tok→Res (List Int)
 | e,[]=>.ok e
 | e,t :: ts=>match (if e.length=0 then q0x L t else q0r L t) with
  | .ok n=>q1l L (e++[n]) ts
  | .error f=>.error f
def q25 (l:List F.Pp)(p:F.Pp):List F.Pp:=if F.q3r l p=true then l else l++[p]
def q1u (L:Ld):List Int→List F.Pp→List Tok→Res (List Int)
 | a,_,[]=>.ok a
 | a,ps,t :: ts=>match q4c L t with
  | .ok v=>if a.contains v=true then .error (t,50) else if 256 < (a.foldl (fun l u=>q25 l (u,v)) ps).length then .error (t,22) else q1u L (a++[v]) (a.foldl (fun l u=>q25 l (u,v)) ps) ts
  | .error f=>.error f
def q0k (f:Y.Tab→ByteArray→Nat × Nat × Y.Tab):Ld→List Tok→Res Ld
 | L,[]=>.ok L
 | L,t :: ts=>if (f L.T t.text).2.1=0 then q0k f { L with T:=(f L.T t.text).2.2 } ts else .error (t,((f L.T t.text).2.1:Nat))
def q92:List F.Pp→F.Pp→List F.Pp
 | [],p=>[p]
 | q :: l,p=>if p=q then q :: l else if F.ltP p q then p :: q :: l else q :: q92 l p
def q04 (l:List F.Pp):List F.Pp:=(l.filter fun p=>!(p.1 == p.2)).foldl (fun a p=>q92 a (F.jy p)) []
def jq (sc:List F.Sa):List F.Hy:=sc.flatMap (·.hs)
def q93 (l:List F.Hy):List Int:=l.flatMap fun h=>if h.fl=true then [] else h.ex
def qfn (T:Y.Tab)(sc:List F.Sa)(goal:List Int)(x:Int):Bool:=zu T x && (goal++q93 (jq sc)).contains x
def q4s (T:Y.Tab)(sc:List F.Sa)(goal:List Int):List F.Hy:=(jq sc).filter fun h=>qfn T sc goal h.var || !h.fl
def q7f (T:Y.Tab)(sc:List F.Sa)(goal:List Int):List F.Pp:=q04 ((F.uq sc).filter fun p=>qfn T sc goal p.1 && qfn T sc goal p.2)
def q1c (hy:List F.Hy)(s:ByteArray):Option Nat:=hy.findIdx? fun h=>h.lab=s
def q2h (l:List As)(s:ByteArray):Option Nat:=l.findIdx? fun a=>a.label.text=s
def yu (hy:List F.Hy)(h:F.Hy):Int:=((q1c hy h.lab).getD 0:Nat)
def q0i (t:Tok):Bool:=!(t.text.data.toList.isEmpty)
def uh (t:Tok)(c:Int)(L:Ld):Res Ld:=if c=0 then .ok L else .error (t,c)
def q4t (L:Ld)(t:Tok):Res Ld:=if q0i t=true then uh t ((Y.zn L.T t.text).1:Nat) { L with T:=(Y.zn L.T t.text).2 } else .ok L
def q9i (L:Ld)(t:Tok):Res Ld:=if (Y.jl L.T).1=0 then uh t (F.q1r L.sc) { L with T:=(Y.jl L.T).2,sc:=F.q15 L.sc } else .error (t,((Y.jl L.T).1:Nat))
def q6l (L:Ld)(t:Tok):Res Ld:=if (Y.xu L.T).1=0 then uh t (F.q0q L.sc) { L with T:=(Y.xu L.T).2,sc:=F.q00 L.sc } else .error (t,((Y.xu L.T).1:Nat))
def q3m (L:Ld)(s:Stm):Res Ld:=if 0 < L.T.scopes.length then .error (s.key,80) else q0k Y.q09 L s.words
def q36 (L:Ld)(s:Stm):Res Ld:=match q1u L [] (q04 (F.uq L.sc)) s.words with
 | .ok a=>if q0i s.fin=true then uh s.fin (F.q1t (isV:=zu L.T) L.sc a) { L with sc:=F.q1j (isV:=zu L.T) L.sc a } else .ok L
 | .error f=>.error f
def q20 (L:Ld)(s:Stm):Res Ld:=match q1l L [] s.words with
 | .ok e=>if q0i s.fin=true then uh s.fin (F.q0o (isV:=zu L.T) L.sc (e.getD 0 0) (e.getD 1 0)) { L with sc:=F.q0e (isV:=zu L.T) L.sc s.label.text (e.getD 0 0) (e.getD 1 0),hy:=L.hy++[⟨s.label.text,true,e.getD 1 0,e⟩] } else .ok L
 | .error f=>.error f
def q7g (L:Ld)(s:Stm):Res Ld:=match q0j L [] s.words with
 | .ok e=>if q0i s.fin=true then uh s.fin (F.uo (isV:=zu L.T) L.sc e) { L with sc:=F.q4x (isV:=zu L.T) L.sc s.label.text e,hy:=L.hy++[⟨s.label.text,false,-1,e⟩] } else .ok L
 | .error f=>.error f
def q6m (L:Ld)(s:Stm)(goal:List Int):As:=⟨s.label,s.kind == 7,goal,(q4s L.T L.sc goal).map (yu L.hy),q7f L.T L.sc goal,(jq L.sc).map (yu L.hy),q04 (F.uq L.sc),s.proof,s.fin⟩
def q1o (L:Ld)(s:Stm):Res Ld:=match q0j L [] s.words with
 | .ok goal=>if q0i s.fin=true then uh s.fin (F.uo (isV:=zu L.T) L.sc goal) { L with al:=L.al++[q6m L s goal] } else .ok L
 | .error f=>.error f
def jd (L:Ld)(s:Stm):Res Ld :=
 if s.kind=8 then q9i L s.key else if s.kind=9 then q6l L s.key else if s.kind=1 then q3m L s else if s.kind=2 then q0k Y.q3e L s.words else
 if s.kind=5 then q36 L s else if s.kind=3 then q20 L s else if s.kind=4 then q7g L s else if s.kind=6∨s.kind=7 then q1o L s else .ok L
def qp (L:Ld)(s:Stm):Res Ld:=match q4t L s.label with
 | .ok L1=>jd L1 s
 | .error f=>.error f
def q0a:Ld→List Stm→Res Ld
 | L,[]=>.ok L
 | L,s :: r=>match qp L s with
  | .ok L1=>q0a L1 r
  | .error f=>.error f
theorem qjr {L:Ld}{t:Tok}{n:Int}(h:q40 L t=.ok n):∃m:Nat,Y.q07 L.T t.text=some m∧n=m:=by
 unfold q40 at h
 cases ha:Y.q07 L.T t.text with
 | some m=>rw[ha] at h;exact⟨m,rfl,by cases h;rfl⟩
 | none=>rw[ha] at h;cases h
open F in
theorem qjs:∀(l:List Pp) (p:Pp),Up l→Up (q92 l p)∧∀x,x ∈ q92 l p↔x ∈ l∨x=p
 | [],p,_=>⟨List.pairwise_singleton _ _,fun x=>by simp[q92]⟩
 | q :: l,p,h=>by
  obtain⟨h1,h2⟩:=List.pairwise_cons.1 h;unfold q92
  by_cases e:p=q
  ·rw[if_pos e];subst e;exact⟨h,fun x=>⟨fun hx=>.inl hx,fun hx=>hx.elim id fun e=>by simp[e]⟩⟩
  ·rw[if_neg e]
   by_cases hl:ltP p q
   ·rw[if_pos hl];refine⟨List.pairwise_cons.2 ⟨fun x hx=>?_,h⟩,fun x=>?_⟩
    ·rcases List.mem_cons.1 hx with rfl | hx
     ·exact hl
     ·exact qcq hl (h1 x hx)
    ·simp only[List.mem_cons];constructor
     ·rintro (h | h | h)
      ·exact .inr h
      ·exact .inl (.inl h)
      ·exact .inl (.inr h)
     ·rintro ((h | h) | h)
      ·exact .inr (.inl h)
      ·exact .inr (.inr h)
      ·exact .inl h
   ·rw[if_neg hl];obtain⟨i1,i2⟩:=qjs l p h2;refine⟨List.pairwise_cons.2 ⟨fun x hx=>?_,i1⟩,fun x=>?_⟩
    ·rcases (i2 x).1 hx with hx | rfl
     ·exact h1 x hx
     ·exact (qcr (fun e'=>e e'.symm)).resolve_right hl
    ·simp only[List.mem_cons,i2];constructor
     ·rintro (h | h | h)
      ·exact .inl (.inl h)
      ·exact .inl (.inr h)
      ·exact .inr h
     ·rintro ((h | h) | h)
      ·exact .inl h
      ·exact .inr (.inl h)
      ·exact .inr (.inr h)
open F in
theorem qfo:∀(l a:List Pp),Up a→Up (l.foldl (fun a p=>q92 a (jy p)) a)∧∀x,x ∈ l.foldl (fun a p=>q92 a (jy p)) a↔x ∈ a∨∃q ∈ l,jy q=x
 | [],a,h=>⟨h,fun x=>by simp⟩
 | p :: l,a,h=>by
  obtain⟨p1,p2⟩:=qjs a (jy p) h;obtain⟨i1,i2⟩:=qfo l (q92 a (jy p)) p1;refine⟨i1,fun x=>?_⟩;rw[List.foldl_cons,i2,p2];constructor
  ·rintro ((h | h) | ⟨q,h,e⟩)
   ·exact .inl h
   ·exact .inr ⟨p,by simp,h.symm⟩
   ·exact .inr ⟨q,by simp[h],e⟩
  ·rintro (h | ⟨q,h,e⟩)
   ·exact .inl (.inl h)
   ·rcases List.mem_cons.1 h with rfl | h
    ·exact .inl (.inr e.symm)
    ·exact .inr ⟨q,h,e⟩
open F in
theorem qb3 (l:List Pp):q3p l (q04 l):=by
 obtain⟨h1,h2⟩:=qfo (l.filter fun p=>!(p.1 == p.2)) [] List.Pairwise.nil;refine⟨h1,fun p=>(h2 p).trans ?_⟩;unfold inN;constructor
 ·rintro (h | ⟨q,hq,rfl⟩)
  ·cases h
  ·obtain⟨hq,hne⟩:=List.mem_filter.1 hq;have hne:q.1≠q.2:=by simpa using hne
   refine⟨?_,q,hq,rfl⟩;unfold jy;simp only;omega
 ·rintro⟨hlt,q,hq,rfl⟩;refine .inr ⟨q,List.mem_filter.2 ⟨hq,?_⟩,rfl⟩;unfold jy at hlt;simp only at hlt;have:q.1≠q.2:=by omega
  simpa using this
theorem norm_eq {l m:List F.Pp}(h:F.q3p l m):m=q04 l:=F.qo3 h (qb3 l)
theorem q6n (xs:List F.ScC):(F.wu xs).map (·.h)=jq (xs.map F.jw):=by
 unfold F.wu jq
 induction xs with
 | nil=>rfl
 | cons x r ih=>rw[List.flatMap_cons,List.map_append,ih,List.map_cons,List.flatMap_cons];rfl
theorem ess_abs (l:List F.HyC):F.je l=q93 (l.map (·.h)):=by
 unfold F.je q93;rw[List.flatMap_map]
open Go.RowKit
structure AsC where
 a:As
 vg:Value
 vn:Value
 vp:Value
 va:Value
 vq:Value
 vf:Value
def asC (x:AsC):List Value:=[.string x.a.label.text,.int .i64 x.a.label.off,.int .i64 x.a.label.line,.int .i64 x.a.label.col,.bool x.a.thm,x.vg,x.vn,x.vp,x.va,x.vq,x.vf,.string x.a.fin.text,.int .i64 x.a.fin.off,.int .i64 x.a.fin.line,.int .i64 x.a.fin.col]
def q4u (l:List AsC):List Value:=l.flatMap asC
structure q9s (N:Nat)(W:World)(x:AsC):Prop where
 g:W.ownsRow N 3 1 x.vg x.a.goal.length (F.zq x.a.goal)
 n:W.ownsRow N 3 1 x.vn x.a.needed.length (F.zq x.a.needed)
 p:W.ownsRow N 130 2 x.vp x.a.apart.length (F.jk x.a.apart)
 a:W.ownsRow N 3 1 x.va x.a.active.length (F.zq x.a.active)
 q:W.ownsRow N 130 2 x.vq x.a.pairs.length (F.jk x.a.pairs)
 f:W.ownsRow N 36 4 x.vf x.a.proof.length (S.rowT x.a.proof)
def qfp (x:AsC)(b:Nat):Prop:=x.vg.ownBlock=some b∨x.vn.ownBlock=some b∨x.vp.ownBlock=some b∨x.va.ownBlock=some b∨x.vq.ownBlock=some b∨x.vf.ownBlock=some b
structure LdM where
 Bb:Nat
 tq:Nat
 P:Nat
 nb:Nat
 hb:Nat
 ab:Nat
 bs:List Nat
 O:Nat→Prop
 vS:Value
 vh:Value
 va:Value
 sx:List F.ScC
 hs:List F.HyC
 ax:List AsC
def LdM.q (m:LdM)(b:Nat):Prop:=b=m.Bb∨b=m.nb∨b=m.hb∨b=m.ab∨m.vh.ownBlock=some b∨m.va.ownBlock=some b
def LdM.hot (m:LdM)(b:Nat):Prop:=b ∈ m.bs∨m.O b∨m.q b
structure qfq (N:Nat)(W:World)(lb:Nat)(m:LdM):Prop where
 lbox:W.heap[lb]?=some (.cells #[.pointer (some ⟨m.Bb,0,none⟩),.pointer (some ⟨m.tq,0,none⟩),.pointer (some ⟨m.P,0,none⟩)] 106 (0,0))
 lh:¬m.hot lb
 e:∀y ∈ m.hs,W.ownsRow N 3 1 y.ve y.h.ex.length (F.zq y.h.ex)∧∀b,y.ve.ownBlock=some b→¬m.hot b
 a:∀x ∈ m.ax,q9s N W x∧∀b,qfp x b→¬m.hot b
structure xk (N:Nat)(W:World)(lb:Nat)(txt:ByteArray)(k:Nat)(L:Ld)(nf:ByteArray→Option Nat)(m:LdM):Prop where
 cold:qfq N W lb m
 bbox:W.heap[m.Bb]?=some (.cells #[.string txt,.pointer (some ⟨m.tq,0,none⟩),.map (some m.nb),m.vh,.map (some m.hb),m.va,.map (some m.ab)] 121 (0,0))
 tab:Y.TabAt W m.bs m.tq k L.T
 stk:F.zi m.tq m.O W m.P m.vS m.sx
 sca:m.sx.map F.jw=L.sc
 num:∃n,n≤k∧Y.ji W m.nb n nf
 hyr:W.ownsRow N 57 4 m.vh m.hs.length (F.yj m.hs)
 hya:m.hs.map (·.h)=L.hy
 hym:∃n,n≤k∧Y.ji W m.hb n (q1c L.hy)
 asr:W.ownsRow N 123 15 m.va m.ax.length (q4u m.ax)
 asa:m.ax.map (·.a)=L.al
 asm:∃n,n≤k∧Y.ji W m.ab n (q2h L.al)
 ta:∀b ∈ m.bs,¬m.O b
 qa:∀b,m.q b→b ∉ m.bs∧¬m.O b
 ne:m.nb≠m.hb∧m.nb≠m.ab∧m.hb≠m.ab
 low:∀b,m.hot b→N≤b
 ge:N≤W.heap.size
theorem map_lt {W:World}{b n:Nat}{f:ByteArray→Option Nat}(h:Y.ji W b n f):b < W.heap.size∧∃es c,W.heap[b]?=some (.map es c):=by
 obtain⟨D,⟨es,clock,hh,_⟩,_⟩:=h;exact⟨(aIx hh),es,clock,hh⟩
theorem xk.lt {N:Nat}{W:World}{lb:Nat}{txt:ByteArray}{k:Nat}{L:Ld}{nf:ByteArray→Option Nat}{m:LdM}(h:xk N W lb txt k L nf m):∀b,m.hot b→b < W.heap.size:=fun b hb=>by
 rcases hb with hb | hb | rfl | rfl | rfl | rfl | hb | hb
 ·exact h.tab.low b hb
 ·exact h.stk.lt b hb
 ·exact (aIx h.bbox)
 ·exact (map_lt h.num.choose_spec.2).1
 ·exact (map_lt h.hym.choose_spec.2).1
 ·exact (map_lt h.asm.choose_spec.2).1
 ·exact S.M.vk h.hyr b hb
 ·exact S.M.vk h.asr b hb
theorem q9s.ch {N:Nat}{X:Nat→Prop}{W W':World}{x:AsC}(h:q9s N W x)(hc:S.M.Ch X W W')(hx:∀b,qfp x b→¬X b):q9s N W' x :=
 ⟨S.M.qh h.g hc fun b e=>hx b (.inl e),S.M.qh h.n hc fun b e=>hx b (.inr (.inl e)),S.M.qh h.p hc fun b e=>hx b (.inr (.inr (.inl e))),S.M.qh h.a hc fun b e=>hx b (.inr (.inr (.inr (.inl e)))),S.M.qh h.q hc fun b e=>hx b (.inr (.inr (.inr (.inr (.inl e))))),S.M.qh h.f hc fun b e=>hx b (.inr (.inr (.inr (.inr (.inr e)))))⟩
theorem q9s.lt {N:Nat}{W:World}{x:AsC}(h:q9s N W x):∀b,qfp x b→b < W.heap.size:=fun b hb=>by
 rcases hb with e | e | e | e | e | e
 ·exact S.M.vk h.g b e
 ·exact S.M.vk h.n b e
 ·exact S.M.vk h.p b e
 ·exact S.M.vk h.a b e
 ·exact S.M.vk h.q b e
 ·exact S.M.vk h.f b e
theorem qfq.ch {N:Nat}{W W':World}{lb:Nat}{m m':LdM}(h:qfq N W lb m)(hc:S.M.Ch m.hot W W')(e1:m'.Bb=m.Bb)(e2:m'.tq=m.tq)(e3:m'.P=m.P)(e4:m'.hs=m.hs)(e5:m'.ax=m.ax)(hh:∀b,m'.hot b→m.hot b∨W.heap.size≤b):qfq N W' lb m':=by
 have hl:=(aIx h.lbox);have hno:∀b,b < W.heap.size→¬m.hot b→¬m'.hot b:=fun b hb hn hm=>(hh b hm).elim hn fun h2=>by omega
 refine⟨?_,hno lb hl h.lh,?_,?_⟩
 ·rw[e1,e2,e3];exact (hc.block lb hl h.lh).trans h.lbox
 ·rw[e4];intro y hy;obtain⟨h1,h2⟩:=h.e y hy;exact⟨S.M.qh h1 hc h2,fun b eb=>hno b (S.M.vk h1 b eb) (h2 b eb)⟩
 ·rw[e5];intro x hx;obtain⟨h1,h2⟩:=h.a x hx;exact⟨h1.ch hc h2,fun b eb=>hno b (h1.lt b eb) (h2 b eb)⟩
theorem qb4 {tq:Nat}{O X:Nat→Prop}{W W':World}{P:Nat}{vS:Value}{xs:List F.ScC}(h:F.zi tq O W P vS xs)(hc:S.M.Ch X W W')(hx:∀b,O b→¬X b):F.zi tq O W' P vS xs :=
 ⟨(hc.block P (h.lt P h.bo) (hx P h.bo)).trans h.box,h.bo,S.M.qh h.row hc fun g e=>hx g (h.ro g e),h.ro,fun x hm=>(h.each x hm).ch hc (fun g e=>hx g ((h.each x hm).lo g e)) (fun y hy g e=>hx g (((h.each x hm).e y hy).2 g e)) (hx _ (h.each x hm).mo) (fun g e=>hx g ((h.each x hm).po g e)),h.ap,fun g hg=>Nat.lt_of_lt_of_le (h.lt g hg) hc.size⟩
theorem qb5 {X:Nat→Prop}{W W':World}{bs:List Nat}{B k:Nat}{T:Y.Tab}(h:Y.TabAt W bs B k T)(hc:S.M.Ch X W W')(hx:∀b ∈ bs,¬X b):Y.TabAt W' bs B k T:=h.kept fun b hb=>hc.block b (h.low b hb) (hx b hb)
theorem q1m {X:Nat→Prop}{W W':World}{b k:Nat}{f:ByteArray→Option Nat}(h:∃n,n≤k∧Y.ji W b n f)(hc:S.M.Ch X W W')(hx:¬X b):∃n,n≤k∧Y.ji W' b n f:=by
 obtain⟨n,hn,h⟩:=h;exact⟨n,hn,h.kept (hc.block b (map_lt h).1 hx)⟩
theorem q3t {W:World}{b k k':Nat}{f:ByteArray→Option Nat}(h:∃n,n≤k∧Y.ji W b n f)(hk:k≤k'):∃n,n≤k'∧Y.ji W b n f:=by
 obtain⟨n,hn,h⟩:=h;exact⟨n,by omega,h⟩
section
variable {N:Nat} {W W':World} {lb:Nat} {txt:ByteArray} {k k':Nat} {L:Ld} {nf:ByteArray→Option Nat} {m:LdM}
theorem xk.below (h:xk N W lb txt k L nf m)(hb:Below W.heap.size W W'):xk N W' lb txt k L nf m:=by
 have hc:=S.M.Ch.oB (X:=fun _=>False) hb;refine⟨h.cold.ch (S.M.Ch.oB hb) rfl rfl rfl rfl rfl fun _=>.inl,(hb.block _ (h.lt _ (.inr (.inr (.inl rfl))))).trans h.bbox,h.tab.below hb,h.stk.below hb,h.sca,q1m h.num hc id,S.M.qh h.hyr hc fun _ _=>id,h.hya,q1m h.hym hc id,S.M.qh h.asr hc fun _ _=>id,h.asa,q1m h.asm hc id,h.ta,h.qa,h.ne,h.low,nLt h.ge hb.size⟩
theorem xk.up (h:xk N W lb txt k L nf m)(hk:k≤k'):xk N W lb txt k' L nf m :=
 ⟨h.cold,h.bbox,h.tab.up hk,h.stk,h.sca,q3t h.num hk,h.hyr,h.hya,q3t h.hym hk,h.asr,h.asa,q3t h.asm hk,h.ta,h.qa,h.ne,h.low,h.ge⟩
def Goes (N:Nat)(W:World)(lb:Nat)(txt:ByteArray)(m:LdM)(k':Nat)(L':Ld)(nf':ByteArray→Option Nat)(W':World):Prop:=S.M.Ch m.hot W W'∧∃m',xk N W' lb txt k' L' nf' m'∧∀b,m'.hot b→m.hot b∨W.heap.size≤b
theorem Goes.same (h:xk N W lb txt k L nf m)(hb:Below W.heap.size W W'):Goes N W lb txt m k L nf W':=⟨S.M.Ch.oB hb,m,h.below hb,fun _=>.inl⟩
theorem Goes.trans {W2:World}{k1 k2:Nat}{L1 L2:Ld}{nf1 nf2:ByteArray→Option Nat}(h:Goes N W lb txt m k1 L1 nf1 W')(h2:∀m',xk N W' lb txt k1 L1 nf1 m'→Goes N W' lb txt m' k2 L2 nf2 W2):Goes N W lb txt m k2 L2 nf2 W2:=by
 obtain⟨c1,m1,i1,g1⟩:=h;obtain⟨c2,m2,i2,g2⟩:=h2 m1 i1;have hs:=c1.size;refine⟨?_,m2,i2,fun b hb=>?_⟩
 ·refine⟨c2.os.trans c1.os,c2.tape.trans c1.tape,c2.output.trans c1.output,nLt c1.size c2.size,fun g hg hn=>?_⟩;refine (c2.block g (by omega) fun hm=>?_).trans (c1.block g hg hn);rcases g1 g hm with h | h
  ·exact hn h
  ·omega
 ·rcases g2 b hb with h | h
  ·exact g1 b h
  ·exact .inr (by omega)
theorem Goes.up (h:Goes N W lb txt m k L nf W')(hk:k≤k'):Goes N W lb txt m k' L nf W':=⟨h.1,h.2.choose,h.2.choose_spec.1.up hk,h.2.choose_spec.2⟩
theorem xk.qb6 {bs':List Nat}{T':Y.Tab}(h:xk N W lb txt k L nf m)(hk:k≤k')(ht:Y.TabAt W' bs' m.tq k' T')(hg:Y.Goes m.bs W bs' W'):Goes N W lb txt m k' { L with T:=T' } nf W':=by
 have hc:S.M.Ch (fun b=>b ∈ m.bs) W W':=⟨hg.turned.os,hg.turned.tape,hg.turned.output,hg.turned.size,hg.turned.block⟩;have hN:=h.ge;have hot:∀b,LdM.hot { m with bs:=bs' } b→m.hot b∨W.heap.size≤b:=fun b hb=>by
  rcases hb with hb | hb | hb
  ·exact (hg.blocks b hb).imp (fun h=>.inl h) id
  ·exact .inl (.inr (.inl hb))
  ·exact .inl (.inr (.inr hb))
 have fresh:∀b ∈ bs',∀(X:Nat→Prop),(∀b ∈ m.bs,¬X b)→(∀b,X b→b < W.heap.size)→¬X b:=fun b hb X h1 h2 hx=>by
  rcases hg.blocks b hb with h3 | h3
  ·exact h1 b h3 hx
  ·have:=h2 b hx;omega
 have nq:∀b,m.q b→b ∉ m.bs:=fun b hb=>(h.qa b hb).1
 refine⟨hc.mono fun b hb=>.inl hb,{ m with bs:=bs' },?_,hot⟩;refine⟨h.cold.ch (hc.mono fun b hb=>.inl hb) rfl rfl rfl rfl rfl hot,(hc.block _ (h.lt _ (.inr (.inr (.inl rfl)))) (nq _ (.inl rfl))).trans h.bbox,ht,qb4 h.stk hc (fun b hO hb=>h.ta b hb hO),h.sca,q3t (q1m h.num hc (nq _ (.inr (.inl rfl)))) hk,S.M.qh h.hyr hc (fun b e=>nq b (.inr (.inr (.inr (.inr (.inl e)))))),h.hya,q3t (q1m h.hym hc (nq _ (.inr (.inr (.inl rfl))))) hk,S.M.qh h.asr hc (fun b e=>nq b (.inr (.inr (.inr (.inr (.inr e)))))),h.asa,q3t (q1m h.asm hc (nq _ (.inr (.inr (.inr (.inl rfl)))))) hk,?_,?_,h.ne,?_,nLt hN hc.size⟩
 ·exact fun b hb=>fresh b hb m.O h.ta h.stk.lt
 ·exact fun b hq=>⟨fun hb=>fresh b hb m.q (fun b hb hq=>nq b hq hb) (fun b hq=>h.lt b (.inr (.inr hq))) hq,(h.qa b hq).2⟩
 ·exact fun b hb=>(hot b hb).elim (h.low b) fun h2=>by omega
theorem xk.stacked {vS':Value}{sx':List F.ScC}(h:xk N W lb txt k L nf m)(hs:F.zi m.tq (F.More m.O W W') W' m.P vS' sx')(hc:S.M.Ch m.O W W'):Goes N W lb txt m k { L with sc:=sx'.map F.jw } nf W':=by
 have hN:=h.ge;have hot:∀b,LdM.hot { m with O:=F.More m.O W W',vS:=vS',sx:=sx' } b→m.hot b∨W.heap.size≤b:=fun b hb=>by
  rcases hb with hb | hb | hb
  ·exact .inl (.inl hb)
  ·exact hb.elim (fun h=>.inl (.inr (.inl h))) fun h=>.inr h.1
  ·exact .inl (.inr (.inr hb))
 have no:∀b,¬m.O b→b < W.heap.size→¬F.More m.O W W' b:=fun b h1 h2 h3=>h3.elim h1 fun h4=>by have:=h4.1;omega
 have nq:∀b,m.q b→¬m.O b:=fun b hb=>(h.qa b hb).2
 refine⟨hc.mono fun b hb=>.inr (.inl hb),{ m with O:=F.More m.O W W',vS:=vS',sx:=sx' },?_,hot⟩;refine⟨h.cold.ch (hc.mono fun b hb=>.inr (.inl hb)) rfl rfl rfl rfl rfl hot,(hc.block _ (h.lt _ (.inr (.inr (.inl rfl)))) (nq _ (.inl rfl))).trans h.bbox,qb5 h.tab hc h.ta,hs,rfl,q1m h.num hc (nq _ (.inr (.inl rfl))),S.M.qh h.hyr hc (fun b e=>nq b (.inr (.inr (.inr (.inr (.inl e)))))),h.hya,q1m h.hym hc (nq _ (.inr (.inr (.inl rfl)))),S.M.qh h.asr hc (fun b e=>nq b (.inr (.inr (.inr (.inr (.inr e)))))),h.asa,q1m h.asm hc (nq _ (.inr (.inr (.inr (.inl rfl))))),?_,?_,h.ne,?_,nLt hN hc.size⟩
 ·exact fun b hb=>no b (h.ta b hb) (h.lt b (.inl hb))
 ·exact fun b hq=>⟨(h.qa b hq).1,no b (nq b hq) (h.lt b (.inr (.inr hq)))⟩
 ·exact fun b hb=>(hot b hb).elim (h.low b) fun h2=>by omega
theorem xk.mapped {x:Nat} (h:xk N W lb txt k L nf m) (hk:k≤k') (hx:x=m.nb∨x=m.hb∨x=m.ab) (hc:S.M.Ch (fun b=>some x=some b) W W') {hy':List F.Hy} {al':List As} {nf':ByteArray→Option Nat}
  (h1:if x=m.nb then ∃n,n≤k'∧Y.ji W' m.nb n nf' else nf'=nf) (h2:if x=m.hb then ∃n,n≤k'∧Y.ji W' m.hb n (q1c hy') else q1c hy'=q1c L.hy) (h3:if x=m.ab then ∃n,n≤k'∧Y.ji W' m.ab n (q2h al') else q2h al'=q2h L.al) :
  S.M.Ch m.hot W W'∧qfq N W' lb m∧W'.heap[m.Bb]?=W.heap[m.Bb]?∧Y.TabAt W' m.bs m.tq k' L.T∧F.zi m.tq m.O W' m.P m.vS m.sx∧(∃n,n≤k'∧Y.ji W' m.nb n nf')∧W'.ownsRow N 57 4 m.vh m.hs.length (F.yj m.hs)∧(∃n,n≤k'∧Y.ji W' m.hb n (q1c hy'))∧W'.ownsRow N 123 15 m.va m.ax.length (q4u m.ax)∧∃n,n≤k'∧Y.ji W' m.ab n (q2h al'):=by
 have qx:m.q x:=by rcases hx with rfl | rfl | rfl <;> simp[LdM.q]
 have hc':S.M.Ch (fun b=>b=x) W W':=hc.mono fun b e=>by cases e;rfl
 have hC:S.M.Ch m.hot W W':=hc'.mono fun b e=>by cases e;exact .inr (.inr qx)
 have nx:∀b,m.q b→b≠x→b≠x:=fun _ _=>id
 have hmap:∃es c,W.heap[x]?=some (.map es c):=by
  rcases hx with rfl | rfl | rfl
  ·exact (map_lt h.num.choose_spec.2).2
  ·exact (map_lt h.hym.choose_spec.2).2
  ·exact (map_lt h.asm.choose_spec.2).2
 obtain⟨es,ck,hmap⟩:=hmap;have nc:∀{v:Value} {base e size n:Nat} {xs:List Value},W.ownsRow base e size v n xs→∀b,v.ownBlock=some b→b≠x:=fun ho b eb e=>by
  subst e;obtain⟨cs,hcs⟩:=F.uj ho eb;rw[hmap] at hcs
  cases hcs
 refine⟨hC,h.cold.ch hC rfl rfl rfl rfl rfl fun _=>.inl,hc'.block _ (h.lt _ (.inr (.inr (.inl rfl)))) (fun e=>?_),(qb5 h.tab hc' fun b hb e=>(h.qa x qx).1 (e ▸ hb)).up hk,qb4 h.stk hc' (fun b hb e=>(h.qa x qx).2 (e ▸ hb)),?_,S.M.qh h.hyr hc' (fun b eb=>nc h.hyr b eb),?_,S.M.qh h.asr hc' (fun b eb=>nc h.asr b eb),?_⟩
 ·subst e;rw[h.bbox] at hmap
  cases hmap
 ·by_cases e:x=m.nb
  ·rwa [if_pos e] at h1
  ·rw[if_neg e] at h1;rw[h1];exact q3t (q1m h.num hc' fun e2=>e e2.symm) hk
 ·by_cases e:x=m.hb
  ·rwa [if_pos e] at h2
  ·rw[if_neg e] at h2;rw[h2];exact q3t (q1m h.hym hc' fun e2=>e e2.symm) hk
 ·by_cases e:x=m.ab
  ·rwa [if_pos e] at h3
  ·rw[if_neg e] at h3;rw[h3];exact q3t (q1m h.asm hc' fun e2=>e e2.symm) hk
end
theorem qi6 (w:World)(N0:Nat)(v:Value)(n:Nat)(ts:List Tok)(hl:ts.length=n)(hn:n≤1099511627776)(h:w.ownsRow N0 36 4 v n (S.rowT ts)) :
  Calls Tryz.prog 67 #[v] w fun e w'=>∃v',e=.returned v'∧w'.ownsRow w.heap.size 36 4 v' n (S.rowT ts)∧Below w.heap.size w w':=by
 obtain⟨i0,hi0,hz0,hz1,hz3⟩:=info_parts S.qn0;have HL:=hid hl;rcases h.2 with ⟨rfl,h0⟩ | ⟨g,cap,cur,rfl,_⟩
 ·subst h0;obtain rfl:ts=[]:=List.eq_nil_of_length_eq_zero hl;have hq:=Lib.run_eql_slice_nil (P:=Tryz.prog) w 32 36 none 0 0 0 0 Tryz.underlying32;clear h hl;go_enter Tryz.func67,Tryz.ntmps67
  go_wp2
  go_ret
  exact⟨_,rfl,World.ownsRow_nil _ _ _ _,bRf⟩
 ·have HA:Hid ((w.alloc (.cells #[] 36)).ownsRow N0 36 4 (.slice (some ⟨g,0,none⟩) n cap) n (S.rowT ts)):=S.M.zk h _;have hq:=Lib.run_eql_slice_nil (P:=Tryz.prog) w 32 36 (some ⟨g,0,none⟩) n cap 0 0 Tryz.underlying32;clear h hl;go_enter Tryz.func67,Tryz.ntmps67;have hown:Hid ((w.alloc (.cells #[] 36)).ownsRow w.heap.size 36 4 (.slice (some ⟨w.heap.size,0,none⟩) 0 0) 0 []):=⟨rfl,.inr ⟨w.heap.size,0,_,rfl,Nat.le_refl _,World.alloc_heap_new w _,Nat.le_refl _,by unfold maxLen;omega,rfl,rfl⟩⟩
  go_wp2_with (at_builtin;refine S.jf (w:=w.alloc (.cells #[] 36)) rfl _ _ _ rfl w.heap.size 36 i0 _ 4 40 Tryz.underlying32 hi0 hz0 hz1 hz3 rfl (by omega) _ 0 [] (by rfl) (by exact hown.out) (some ⟨g,0,none⟩) n cap (S.rowT ts) (by rfl) (by rw[S.qmz,HL.out]) (F.q1f HA.out) (S.qn1 ts) (by unfold maxLen;omega) (by omega) (by exact (S.qg _ _).size) ?_;intro a8 c8 w8 ho8 hb8;have HO:=hid ho8;have HB:Hid (Below w.heap.size w w8):=(S.qg w _).trans hb8;clear ho8 hb8)
  go_wp2
  go_ret
  refine⟨_,rfl,?_,HB.out⟩;have:=HO.out
  simpa using this
theorem qb7 (w:World)(N0:Nat)(v:Value)(n:Nat)(ts:List F.Pp)(hl:ts.length=n)(hn:n≤1099511627776)(h:w.ownsRow N0 130 2 v n (F.jk ts)) :
  Calls Tryz.prog 124 #[v] w fun e w'=>∃v',e=.returned v'∧w'.ownsRow w.heap.size 130 2 v' n (F.jk ts)∧Below w.heap.size w w':=by
 obtain⟨i0,hi0,hz0,hz1,hz3⟩:=info_parts F.qdl;have HL:=hid hl;rcases h.2 with ⟨rfl,h0⟩ | ⟨g,cap,cur,rfl,_⟩
 ·subst h0;obtain rfl:ts=[]:=List.eq_nil_of_length_eq_zero hl;have hq:=Lib.run_eql_slice_nil (P:=Tryz.prog) w 45 130 none 0 0 0 0 Tryz.underlying45;clear h hl;go_enter Tryz.func124,Tryz.ntmps124
  go_wp2
  go_ret
  exact⟨_,rfl,World.ownsRow_nil _ _ _ _,bRf⟩
 ·have HA:Hid ((w.alloc (.cells #[] 130)).ownsRow N0 130 2 (.slice (some ⟨g,0,none⟩) n cap) n (F.jk ts)):=S.M.zk h _;have hq:=Lib.run_eql_slice_nil (P:=Tryz.prog) w 45 130 (some ⟨g,0,none⟩) n cap 0 0 Tryz.underlying45;clear h hl;go_enter Tryz.func124,Tryz.ntmps124;have hown:Hid ((w.alloc (.cells #[] 130)).ownsRow w.heap.size 130 2 (.slice (some ⟨w.heap.size,0,none⟩) 0 0) 0 []):=⟨rfl,.inr ⟨w.heap.size,0,_,rfl,Nat.le_refl _,World.alloc_heap_new w _,Nat.le_refl _,by unfold maxLen;omega,rfl,rfl⟩⟩
  go_wp2_with (at_builtin;refine S.jf (w:=w.alloc (.cells #[] 130)) rfl _ _ _ rfl w.heap.size 130 i0 _ 2 16 Tryz.underlying45 hi0 hz0 hz1 hz3 rfl (by omega) _ 0 [] (by rfl) (by exact hown.out) (some ⟨g,0,none⟩) n cap (F.jk ts) (by rfl) (by rw[F.qak,HL.out]) (F.q1f HA.out) (F.qal ts) (by unfold maxLen;omega) (by omega) (by exact (S.qg _ _).size) ?_;intro a8 c8 w8 ho8 hb8;have HO:=hid ho8;have HB:Hid (Below w.heap.size w w8):=(S.qg w _).trans hb8;clear ho8 hb8)
  go_wp2
  go_ret
  refine⟨_,rfl,?_,HB.out⟩;have:=HO.out
  simpa using this
def Asks (w:World)(r:Res Int)(e:Ending)(w':World):Prop:=Below w.heap.size w w'∧match r with
 | .ok n=>e=.returned (.int .i64 n)
 | .error f=>Quits f.1 f.2 w.heap.size e w'
theorem q6y {w w':World}{r:Res Int}{e:Ending}{n:Int}(h:r=.ok n)(hb:Below w.heap.size w w')(he:e=.returned (.int .i64 n)):Asks w r e w':=by
 subst h;exact⟨hb,he⟩
theorem q4d {w w':World}{r:Res Int}{e:Ending}{t:Tok}{c:Int}(h:r=.error (t,c))(hb:Below w.heap.size w w')(hq:Quits t c w.heap.size e w'):Asks w r e w':=by
 subst h;exact⟨hb,hq⟩
section
variable {N:Nat} {w:World} {lb:Nat} {txt:ByteArray} {k:Nat} {L:Ld} {nf:ByteArray→Option Nat} {m:LdM}
theorem xk.cells (h:xk N w lb txt k L nf m):w.cell? ⟨lb,0,none⟩=some (.pointer (some ⟨m.Bb,0,none⟩))∧w.cell? ⟨lb,1,none⟩=some (.pointer (some ⟨m.tq,0,none⟩))∧w.cell? ⟨lb,2,none⟩=some (.pointer (some ⟨m.P,0,none⟩)):=⟨S.M.qc h.cold.lbox 0,S.M.qc h.cold.lbox 1,S.M.qc h.cold.lbox 2⟩
theorem q21 {t:Tok}{c:Int}{wz:World}{e:Ending}{w':World}(hb:Below w.heap.size w wz)(h:Below wz.heap.size wz w'∧Quits t c wz.heap.size e w'):Below w.heap.size w w'∧Quits t c w.heap.size e w':=⟨hb.trans (h.1.mono hb.size),h.2.le hb.size⟩
theorem uf {w w':World}{b o:Nat}{v:Value}(h:w.cell? ⟨b,o,none⟩=some v)(hb:Below w.heap.size w w'):w'.cell? ⟨b,o,none⟩=some v:=(hb.cell (p:=⟨b,o,none⟩) (bLt h)).trans h
theorem xk.isv (h:xk N w lb txt k L nf m)(hT:L.T.syms.length≤4611686018427387904)(wx:World)(hb:Below w.heap.size w wx)(n:Int):Calls Tryz.prog 70 #[.pointer (some ⟨m.tq,0,none⟩),.int .i64 n] wx fun e w'=>e=.returned (.bool (zu L.T n))∧Below wx.heap.size wx w':=Y.isVar_of wx _ _ _ _ n hT (h.below hb).tab
theorem q1b (h:xk N w lb txt k L nf m)(t:Tok)(ht:t.text.size≤maxLen):Calls Tryz.prog 218 #[.pointer (some ⟨lb,0,none⟩),S.zy t] w (Asks w (q40 L t)):=by
 obtain⟨x0,x1,x2⟩:=h.cells;have FD:Hid (∀wx,Below w.heap.size w wx→Calls Tryz.prog 250 #[.pointer (some ⟨m.tq,0,none⟩),.string t.text] wx fun e w'=>e=.returned (.tuple #[.int .i64 ((Y.q07 L.T t.text).getD 0:Nat),.bool (Y.q07 L.T t.text).isSome])∧w'=wx):=fun wx hb=>Y.qnu wx _ _ _ _ _ ht (h.below hb).tab
 have GU:Hid (∀wx,Calls Tryz.prog 153 #[S.zy t,.int .i64 30] wx fun e w'=>Below wx.heap.size wx w'∧Quits t 30 wx.heap.size e w'):=fun wx=>q1y wx t 30
 have HR:Hid (q40 L t=match Y.q07 L.T t.text with | some n=>.ok (n:Int) | none=>.error (t,30)):=rfl;generalize Y.q07 L.T t.text=r at *;generalize m.tq=tq at *;unfold S.zy at GU ⊢;have hb0:Hid (Below w.heap.size w (w.alloc (.cells #[.string t.text,.int .i64 t.off,.int .i64 t.line,.int .i64 t.col] 36))):=S.qg w _;have y1:=uf x1 hb0.out
 cases r with
 | some n =>
  clear h GU x0 x2;go_enter Tryz.func218,Tryz.ntmps218;go_wp2_with fail
  go_quiet (first | exact (FD.out _ (S.M.zo hb0.out _)).mono fun _ _ ⟨he,hw⟩=>⟨he,_,hw⟩)
  go_wp2
  go_ret
  exact q6y HR.out (S.M.zo hb0.out _) rfl
 | none =>
  clear h x0 x2;go_enter Tryz.func218,Tryz.ntmps218;go_wp2_with fail
  go_quiet (first | exact (FD.out _ (S.M.zo hb0.out _)).mono fun _ _ ⟨he,hw⟩=>⟨he,_,hw⟩)
  go_wp2_with fail;refine cMo (GU.out _) ?_;rintro e w' hq;obtain⟨q1,q2⟩:=q21 (S.M.zo hb0.out _) hq;have q2':=q2;obtain⟨b,rfl,_⟩:=q2';exact⟨rfl,q4d HR.out q1 q2⟩
abbrev um (t:Tok):Array Value:=#[.string t.text,.int .i64 t.off,.int .i64 t.line,.int .i64 t.col]
theorem q5m {t:Tok}{w':World}(hb:Below (w.alloc (.cells (um t) 36)).heap.size (w.alloc (.cells (um t) 36)) w'):w'.cell? ⟨w.heap.size,0,none⟩=some (.string t.text)∧w'.cell? ⟨w.heap.size,1,none⟩=some (.int .i64 t.off)∧w'.cell? ⟨w.heap.size,2,none⟩=some (.int .i64 t.line)∧w'.cell? ⟨w.heap.size,3,none⟩=some (.int .i64 t.col) :=
 ⟨uf ((World.cell?_alloc_new w (um t) 36 0).trans rfl) hb,uf ((World.cell?_alloc_new w (um t) 36 1).trans rfl) hb,uf ((World.cell?_alloc_new w (um t) 36 2).trans rfl) hb,uf ((World.cell?_alloc_new w (um t) 36 3).trans rfl) hb⟩
theorem q83 (h:xk N w lb txt k L nf m)(hT:L.T.syms.length≤4611686018427387904)(t:Tok)(ht:t.text.size≤maxLen):Calls Tryz.prog 167 #[.pointer (some ⟨lb,0,none⟩),S.zy t] w (Asks w (q0x L t)):=by
 obtain⟨x0,x1,x2⟩:=h.cells;have SY:Hid (∀wx,Below w.heap.size w wx→Calls Tryz.prog 218 #[.pointer (some ⟨lb,0,none⟩),S.zy t] wx (Asks wx (q40 L t))):=fun wx hb=>q1b (h.below hb) t ht
 have IV:Hid (∀wx,Below w.heap.size w wx→∀n,Calls Tryz.prog 70 #[.pointer (some ⟨m.tq,0,none⟩),.int .i64 n] wx fun e w'=>e=.returned (.bool (zu L.T n))∧Below wx.heap.size wx w'):=fun wx hb n=>h.isv hT wx hb n
 have GU:Hid (∀wx,Calls Tryz.prog 153 #[S.zy t,.int .i64 72] wx fun e w'=>Below wx.heap.size wx w'∧Quits t 72 wx.heap.size e w'):=fun wx=>q1y wx t 72
 have HR:Hid (∀r,q40 L t=r→q0x L t=match r with | .ok n=>if zu L.T n=true then .error (t,72) else .ok n | .error f=>.error f):=fun r e=>by unfold q0x;rw[e] <;> cases r <;> rfl
 generalize hr:q40 L t=r at *;replace HR:=show Hid _ from HR.out r rfl;generalize m.tq=tq at *;unfold S.zy at GU SY ⊢;have hb0:Hid (Below w.heap.size w (w.alloc (.cells (um t) 36))):=S.qg w _;have y1:=uf x1 hb0.out;clear h x0 x2 hr
 cases r with
 | error f =>
  go_enter Tryz.func167,Tryz.ntmps167;go_wp2_with fail;refine cMo (SY.out _ hb0.out) ?_;rintro e w' hq;obtain⟨q1,q2⟩:=q21 hb0.out hq;have q2':=q2;obtain⟨b,rfl,_⟩:=q2';exact⟨rfl,q4d HR.out q1 q2⟩
 | ok n =>
  have HS:Hid _:=SY.out _ hb0.out;clear SY
  cases hv:zu L.T n with
  | true =>
   have hr2:Hid (q0x L t=.error (t,72)):=HR.out.trans (if_pos hv);clear HR;go_enter Tryz.func167,Tryz.ntmps167;go_wp2_with fail;refine cMo HS.out ?_;rintro e w1 ⟨hb1,rfl⟩;have B1:=bTr hb0 hb1;have C1:=hid hb1;have z1:=uf x1 B1.out;have IV1:Hid _:=IV.out w1 B1.out n;rw[hv] at IV1;clear hb1 HS x1 y1 IV;go_wp2_with fail;refine cMo IV1.out ?_;rintro e w2 ⟨rfl,hb2⟩;have B2:=bTr B1 hb2;obtain⟨u0,u1,u2,u3⟩:=q5m (C1.out.trans (hb2.mono C1.out.size));clear hb2 IV1 z1;go_wp2_with fail;refine cMo (GU.out _) ?_;rintro e w' hq;obtain⟨q1,q2⟩:=q21 B2.out hq;have q2':=q2;obtain⟨b,rfl,_⟩:=q2';exact⟨rfl,q4d hr2.out q1 q2⟩
  | false =>
   have hr2:Hid (q0x L t=.ok n):=HR.out.trans (if_neg (by rw[hv];decide));clear HR;go_enter Tryz.func167,Tryz.ntmps167;go_wp2_with fail;refine cMo HS.out ?_;rintro e w1 ⟨hb1,rfl⟩;have B1:=bTr hb0 hb1;have C1:=hid hb1;have z1:=uf x1 B1.out;have IV1:Hid _:=IV.out w1 B1.out n;rw[hv] at IV1;clear hb1 HS x1 y1 IV;go_wp2_with fail;refine cMo IV1.out ?_;rintro e w2 ⟨rfl,hb2⟩;have B2:=bTr B1 hb2;clear hb2
   go_wp2
   go_ret
   exact q6y hr2.out B2.out rfl
theorem q84 (h:xk N w lb txt k L nf m)(hT:L.T.syms.length≤4611686018427387904)(t:Tok)(ht:t.text.size≤maxLen):Calls Tryz.prog 162 #[.pointer (some ⟨lb,0,none⟩),S.zy t] w (Asks w (q4c L t)):=by
 obtain⟨x0,x1,x2⟩:=h.cells;have SY:Hid (∀wx,Below w.heap.size w wx→Calls Tryz.prog 218 #[.pointer (some ⟨lb,0,none⟩),S.zy t] wx (Asks wx (q40 L t))):=fun wx hb=>q1b (h.below hb) t ht
 have IV:Hid (∀wx,Below w.heap.size w wx→∀n,Calls Tryz.prog 70 #[.pointer (some ⟨m.tq,0,none⟩),.int .i64 n] wx fun e w'=>e=.returned (.bool (zu L.T n))∧Below wx.heap.size wx w'):=fun wx hb n=>h.isv hT wx hb n
 have GU:Hid (∀wx,Calls Tryz.prog 153 #[S.zy t,.int .i64 71] wx fun e w'=>Below wx.heap.size wx w'∧Quits t 71 wx.heap.size e w'):=fun wx=>q1y wx t 71
 have HR:Hid (∀r,q40 L t=r→q4c L t=match r with | .ok n=>if zu L.T n=true then .ok n else .error (t,71) | .error f=>.error f):=fun r e=>by unfold q4c;rw[e] <;> cases r <;> rfl
 generalize hr:q40 L t=r at *;replace HR:=show Hid _ from HR.out r rfl;generalize m.tq=tq at *;unfold S.zy at GU SY ⊢;have hb0:Hid (Below w.heap.size w (w.alloc (.cells (um t) 36))):=S.qg w _;have y1:=uf x1 hb0.out;clear h x0 x2 hr
 cases r with
 | error f =>
  go_enter Tryz.func162,Tryz.ntmps162;go_wp2_with fail;refine cMo (SY.out _ hb0.out) ?_;rintro e w' hq;obtain⟨q1,q2⟩:=q21 hb0.out hq;have q2':=q2;obtain⟨b,rfl,_⟩:=q2';exact⟨rfl,q4d HR.out q1 q2⟩
 | ok n =>
  have HS:Hid _:=SY.out _ hb0.out;clear SY
  cases hv:zu L.T n with
  | true =>
   have hr2:Hid (q4c L t=.ok n):=HR.out.trans (if_pos hv);clear HR;go_enter Tryz.func162,Tryz.ntmps162;go_wp2_with fail;refine cMo HS.out ?_;rintro e w1 ⟨hb1,rfl⟩;have B1:=bTr hb0 hb1;have C1:=hid hb1;have z1:=uf x1 B1.out;have IV1:Hid _:=IV.out w1 B1.out n;rw[hv] at IV1;clear hb1 HS x1 y1 IV;go_wp2_with fail;refine cMo IV1.out ?_;rintro e w2 ⟨rfl,hb2⟩;have B2:=bTr B1 hb2;clear hb2
   go_wp2
   go_ret
   exact q6y hr2.out B2.out rfl
  | false =>
   have hr2:Hid (q4c L t=.error (t,71)):=HR.out.trans (if_neg (by rw[hv];decide));clear HR;go_enter Tryz.func162,Tryz.ntmps162;go_wp2_with fail;refine cMo HS.out ?_;rintro e w1 ⟨hb1,rfl⟩;have B1:=bTr hb0 hb1;have C1:=hid hb1;have z1:=uf x1 B1.out;have IV1:Hid _:=IV.out w1 B1.out n;rw[hv] at IV1;clear hb1 HS x1 y1 IV;go_wp2_with fail;refine cMo IV1.out ?_;rintro e w2 ⟨rfl,hb2⟩;have B2:=bTr B1 hb2;obtain⟨u0,u1,u2,u3⟩:=q5m (C1.out.trans (hb2.mono C1.out.size));clear hb2 IV1 z1;go_wp2_with fail;refine cMo (GU.out _) ?_;rintro e w' hq;obtain⟨q1,q2⟩:=q21 B2.out hq;have q2':=q2;obtain⟨b,rfl,_⟩:=q2';exact⟨rfl,q4d hr2.out q1 q2⟩
end
theorem qok {T:Y.Tab}{s:ByteArray}{n:Nat}(h:Y.q07 T s=some n):n < T.syms.length:=by
 unfold Y.q07 at h;obtain⟨h1,_⟩:=Option.filter_eq_some_iff.1 h;obtain⟨b,hb⟩:=Y.q5e h1;exact (List.getElem?_eq_some_iff.1 hb).1
theorem q85 {L:Ld}{t:Tok}{n:Int}(hT:L.T.syms.length≤4611686018427387904)(h:q40 L t=.ok n):F.wfN n:=by
 obtain⟨j,hj,rfl⟩:=qjr h;have:=qok hj
 unfold F.wfN;omega
section
variable {N:Nat} {w:World} {lb:Nat} {txt:ByteArray} {k:Nat} {L:Ld} {nf:ByteArray→Option Nat} {m:LdM}
theorem xk.q45 (h:xk N w lb txt k L nf m):m.sx.length=L.sc.length:=by rw[←h.sca,lMa]
theorem xk.typ (h:xk N w lb txt k L nf m)(hS:L.sc.length≤1048576)(wx:World)(hb:Below w.heap.size w wx)(n:Int)(hn:F.wfN n):Calls Tryz.prog 228 #[.pointer (some ⟨m.P,0,none⟩),.int .i64 n] wx fun e w'=>e=.returned (.tuple #[.int .i64 ((F.tyA L.sc n).getD 0),.bool (F.tyA L.sc n).isSome])∧Below wx.heap.size wx w':=by
 have h1:=F.qah wx m.O m.P m.vS m.sx n (h.below hb).stk (by rw[h.q45];exact hS) hn;rw[F.q9v,h.sca] at h1;exact h1
theorem qfr (h:xk N w lb txt k L nf m)(hT:L.T.syms.length≤4611686018427387904)(hS:L.sc.length≤1048576)(t:Tok)(ht:t.text.size≤maxLen):Calls Tryz.prog 168 #[.pointer (some ⟨lb,0,none⟩),S.zy t] w (Asks w (q0r L t)):=by
 obtain⟨x0,x1,x2⟩:=h.cells;have SY:Hid (∀wx,Below w.heap.size w wx→Calls Tryz.prog 162 #[.pointer (some ⟨lb,0,none⟩),S.zy t] wx (Asks wx (q4c L t))):=fun wx hb=>q84 (h.below hb) hT t ht
 have TY:Hid (∀wx,Below w.heap.size w wx→∀n,F.wfN n→Calls Tryz.prog 228 #[.pointer (some ⟨m.P,0,none⟩),.int .i64 n] wx fun e w'=>e=.returned (.tuple #[.int .i64 ((F.tyA L.sc n).getD 0),.bool (F.tyA L.sc n).isSome])∧Below wx.heap.size wx w'):=fun wx hb n hn=>h.typ hS wx hb n hn
 have GU:Hid (∀wx,Calls Tryz.prog 153 #[S.zy t,.int .i64 70] wx fun e w'=>Below wx.heap.size wx w'∧Quits t 70 wx.heap.size e w'):=fun wx=>q1y wx t 70
 have HR:Hid (∀r,q4c L t=r→q0r L t=match r with | .ok n=>if (F.tyA L.sc n).isSome=true then .error (t,70) else .ok n | .error f=>.error f):=fun r e=>by unfold q0r;rw[e] <;> cases r <;> rfl
 have HW:Hid (∀n,q4c L t=.ok n→F.wfN n):=fun n e=>by
  unfold q4c at e
  cases hs:q40 L t with
  | error f=>rw[hs] at e;cases e
  | ok j =>
   rw[hs] at e;simp only at e
   split at e
   ·cases e;exact q85 hT hs
   ·cases e
 generalize hr:q4c L t=r at *;replace HR:=show Hid _ from HR.out r rfl;generalize m.P=P at *;unfold S.zy at GU SY ⊢;have hb0:Hid (Below w.heap.size w (w.alloc (.cells (um t) 36))):=S.qg w _;clear h x0 x1 hr
 cases r with
 | error f =>
  go_enter Tryz.func168,Tryz.ntmps168;go_wp2_with fail;refine cMo (SY.out _ hb0.out) ?_;rintro e w' hq;obtain⟨q1,q2⟩:=q21 hb0.out hq;have q2':=q2;obtain⟨b,rfl,_⟩:=q2';exact⟨rfl,q4d HR.out q1 q2⟩
 | ok n =>
  have HS:Hid _:=SY.out _ hb0.out;have HW1:Hid (F.wfN n):=HW.out n rfl;clear SY HW
  cases hv:(F.tyA L.sc n).isSome with
  | true =>
   have hr2:Hid (q0r L t=.error (t,70)):=HR.out.trans (if_pos hv);clear HR;go_enter Tryz.func168,Tryz.ntmps168;go_wp2_with fail;refine cMo HS.out ?_;rintro e w1 ⟨hb1,rfl⟩;have B1:=bTr hb0 hb1;have C1:=hid hb1;have z1:=uf x2 B1.out;have IV1:Hid _:=TY.out w1 B1.out n HW1.out;rw[hv] at IV1;clear hb1 HS x2 TY;go_wp2_with fail;refine cMo IV1.out ?_;rintro e w2 ⟨rfl,hb2⟩;have B2:=bTr B1 hb2;obtain⟨u0,u1,u2,u3⟩:=q5m (C1.out.trans (hb2.mono C1.out.size));clear hb2 IV1 z1;go_wp2_with fail;refine cMo (GU.out _) ?_;rintro e w' hq;obtain⟨q1,q2⟩:=q21 B2.out hq;have q2':=q2;obtain⟨b,rfl,_⟩:=q2';exact⟨rfl,q4d hr2.out q1 q2⟩
  | false =>
   have hr2:Hid (q0r L t=.ok n):=HR.out.trans (if_neg (by rw[hv];decide));clear HR;go_enter Tryz.func168,Tryz.ntmps168;go_wp2_with fail;refine cMo HS.out ?_;rintro e w1 ⟨hb1,rfl⟩;have B1:=bTr hb0 hb1;have z1:=uf x2 B1.out;have IV1:Hid _:=TY.out w1 B1.out n HW1.out;rw[hv] at IV1;clear hb1 HS x2 TY;go_wp2_with fail;refine cMo IV1.out ?_;rintro e w2 ⟨rfl,hb2⟩;have B2:=bTr B1 hb2;clear hb2
   go_wp2
   go_ret
   exact q6y hr2.out B2.out rfl
theorem qlw (h:xk N w lb txt k L nf m)(hT:L.T.syms.length≤4611686018427387904)(hS:L.sc.length≤1048576)(t:Tok)(ht:t.text.size≤maxLen):Calls Tryz.prog 230 #[.pointer (some ⟨lb,0,none⟩),S.zy t] w (Asks w (q2c L t)):=by
 obtain⟨x0,x1,x2⟩:=h.cells;have SY:Hid (∀wx,Below w.heap.size w wx→Calls Tryz.prog 218 #[.pointer (some ⟨lb,0,none⟩),S.zy t] wx (Asks wx (q40 L t))):=fun wx hb=>q1b (h.below hb) t ht
 have IV:Hid (∀wx,Below w.heap.size w wx→∀n,Calls Tryz.prog 70 #[.pointer (some ⟨m.tq,0,none⟩),.int .i64 n] wx fun e w'=>e=.returned (.bool (zu L.T n))∧Below wx.heap.size wx w'):=fun wx hb n=>h.isv hT wx hb n
 have TY:Hid (∀wx,Below w.heap.size w wx→∀n,F.wfN n→Calls Tryz.prog 228 #[.pointer (some ⟨m.P,0,none⟩),.int .i64 n] wx fun e w'=>e=.returned (.tuple #[.int .i64 ((F.tyA L.sc n).getD 0),.bool (F.tyA L.sc n).isSome])∧Below wx.heap.size wx w'):=fun wx hb n hn=>h.typ hS wx hb n hn
 have GU:Hid (∀wx,Calls Tryz.prog 153 #[S.zy t,.int .i64 70] wx fun e w'=>Below wx.heap.size wx w'∧Quits t 70 wx.heap.size e w'):=fun wx=>q1y wx t 70
 have HR:Hid (∀r,q40 L t=r→q2c L t=match r with | .ok n=>if (F.tyA L.sc n).isSome=false∧zu L.T n=true then .error (t,70) else .ok n | .error f=>.error f):=fun r e=>by unfold q2c;rw[e] <;> cases r <;> rfl
 have HW:Hid (∀n,q40 L t=.ok n→F.wfN n):=fun n e=>q85 hT e
 generalize hr:q40 L t=r at *;replace HR:=show Hid _ from HR.out r rfl;generalize m.P=P at *;generalize m.tq=tq at *;unfold S.zy at GU SY ⊢;have hb0:Hid (Below w.heap.size w (w.alloc (.cells (um t) 36))):=S.qg w _;clear h x0 hr
 cases r with
 | error f =>
  go_enter Tryz.func230,Tryz.ntmps230;go_wp2_with fail;refine cMo (SY.out _ hb0.out) ?_;rintro e w' hq;obtain⟨q1,q2⟩:=q21 hb0.out hq;have q2':=q2;obtain⟨b,rfl,_⟩:=q2';exact⟨rfl,q4d HR.out q1 q2⟩
 | ok n =>
  have HS:Hid _:=SY.out _ hb0.out;have HW1:Hid (F.wfN n):=HW.out n rfl;clear SY HW
  cases hv:(F.tyA L.sc n).isSome with
  | true =>
   have hr2:Hid (q2c L t=.ok n):=HR.out.trans (if_neg (by rw[hv];simp));clear HR;go_enter Tryz.func230,Tryz.ntmps230;go_wp2_with fail;refine cMo HS.out ?_;rintro e w1 ⟨hb1,rfl⟩;have B1:=bTr hb0 hb1;have z1:=uf x2 B1.out;have IV1:Hid _:=TY.out w1 B1.out n HW1.out;rw[hv] at IV1;clear hb1 HS x2 TY IV;go_wp2_with fail;refine cMo IV1.out ?_;rintro e w2 ⟨rfl,hb2⟩;have B2:=bTr B1 hb2;clear hb2
   go_wp2
   go_ret
   exact q6y hr2.out B2.out rfl
  | false =>
   cases hv2:zu L.T n with
   | false =>
    have hr2:Hid (q2c L t=.ok n):=HR.out.trans (if_neg (by rw[hv2];simp));clear HR;go_enter Tryz.func230,Tryz.ntmps230;go_wp2_with fail;refine cMo HS.out ?_;rintro e w1 ⟨hb1,rfl⟩;have B1:=bTr hb0 hb1;have z1:=uf x2 B1.out;have IV1:Hid _:=TY.out w1 B1.out n HW1.out;rw[hv] at IV1;clear hb1 HS x2 TY;go_wp2_with fail;refine cMo IV1.out ?_;rintro e w2 ⟨rfl,hb2⟩;have B2:=bTr B1 hb2;have IV2:Hid _:=IV.out w2 B2.out n;rw[hv2] at IV2;have z2:=uf x1 B2.out;clear hb2 IV x1;go_wp2_with fail;refine cMo IV2.out ?_;rintro e w3 ⟨rfl,hb3⟩;have B3:=bTr B2 hb3;clear hb3
    go_wp2
    go_ret
    exact q6y hr2.out B3.out rfl
   | true =>
    have hr2:Hid (q2c L t=.error (t,70)):=HR.out.trans (if_pos ⟨hv,hv2⟩);clear HR;go_enter Tryz.func230,Tryz.ntmps230;go_wp2_with fail;refine cMo HS.out ?_;rintro e w1 ⟨hb1,rfl⟩;have B1:=bTr hb0 hb1;have C1:=hid hb1;have z1:=uf x2 B1.out;have IV1:Hid _:=TY.out w1 B1.out n HW1.out;rw[hv] at IV1;clear hb1 HS x2 TY;go_wp2_with fail;refine cMo IV1.out ?_;rintro e w2 ⟨rfl,hb2⟩;have B2:=bTr B1 hb2;have C2:Hid (Below (w.alloc (.cells (um t) 36)).heap.size (w.alloc (.cells (um t) 36)) w2):=C1.out.trans (hb2.mono C1.out.size);have IV2:Hid _:=IV.out w2 B2.out n;rw[hv2] at IV2;have z2:=uf x1 B2.out;clear hb2 IV x1;go_wp2_with fail;refine cMo IV2.out ?_;rintro e w3 ⟨rfl,hb3⟩;have B3:=bTr B2 hb3;obtain⟨u0,u1,u2,u3⟩:=q5m (C2.out.trans (hb3.mono C2.out.size));clear hb3 IV2 z2;go_wp2_with fail;refine cMo (GU.out _) ?_;rintro e w' hq;obtain⟨q1,q2⟩:=q21 B3.out hq;have q2':=q2;obtain⟨b,rfl,_⟩:=q2';exact⟨rfl,q4d hr2.out q1 q2⟩
end
theorem q1d {N0:Nat}{w:World}(h:N0≤w.heap.size)(o:Obj):Below N0 w (w.alloc o):=(Below.refl _ w).alloc h o
def Lists (N0:Nat)(w:World)(r:Res (List Int))(e:Ending)(w':World):Prop:=Below N0 w w'∧match r with
 | .ok l=>∃v,e=.returned v∧w'.ownsRow N0 3 1 v l.length (F.zq l)
 | .error f=>Quits f.1 f.2 N0 e w'
theorem qol {N0:Nat}{w w':World}{r:Res (List Int)}{e:Ending}{l:List Int}{v:Value}(h:r=.ok l)(hb:Below N0 w w')(he:e=.returned v)(ho:w'.ownsRow N0 3 1 v l.length (F.zq l)):Lists N0 w r e w':=by
 subst h;exact⟨hb,v,he,ho⟩
theorem qb8 {N0:Nat}{w w':World}{r:Res (List Int)}{e:Ending}{f:Tok × Int}(h:r=.error f)(hb:Below N0 w w')(hq:Quits f.1 f.2 N0 e w'):Lists N0 w r e w':=by
 subst h;exact⟨hb,hq⟩
section
variable {N:Nat} {w:World} {lb:Nat} {txt:ByteArray} {k:Nat} {L:Ld} {nf:ByteArray→Option Nat} {m:LdM}
theorem ug {w w':World}{b o N0:Nat}{v:Value}(h:w.cell? ⟨b,o,none⟩=some v)(hN:w.heap.size=N0)(hb:Below N0 w w'):w'.cell? ⟨b,o,none⟩=some v:=by
 subst hN;exact uf h hb
theorem q6o (h:xk N w lb txt k L nf m)(hT:L.T.syms.length≤4611686018427387904)(hS:L.sc.length≤1048576)(a:Option Addr)(n c:Nat)(ts:List Tok)(hl:ts.length=n)(hn:n≤1048576)(hA:S.q3a w a ts)(hz:∀t ∈ ts,t.text.size≤maxLen) :
  Calls Tryz.prog 171 #[.pointer (some ⟨lb,0,none⟩),.slice a n c] w (Lists w.heap.size w (q0j L [] ts)):=by
 obtain⟨iN,hiN,iNz,iNs,iNb⟩:=info_parts F.q5u;have CO:Hid (∀wx,Below w.heap.size w wx→∀t,t ∈ ts→Calls Tryz.prog 167 #[.pointer (some ⟨lb,0,none⟩),S.zy t] wx (Asks wx (q0x L t))):=fun wx hb t ht=>q83 (h.below hb) hT t (hz t ht)
 have TY:Hid (∀wx,Below w.heap.size w wx→∀t,t ∈ ts→Calls Tryz.prog 230 #[.pointer (some ⟨lb,0,none⟩),S.zy t] wx (Asks wx (q2c L t))):=fun wx hb t ht=>qlw (h.below hb) hT hS t (hz t ht)
 have HAt:=hid hA;have HL:=hid hl;obtain⟨N0,hN⟩:∃N,w.heap.size=N:=⟨_,rfl⟩;have HN:=hid hN;rw[hN] at CO TY ⊢;clear h hA hl hN hz;go_enter Tryz.func171,Tryz.ntmps171;go_wp2_with fail
 go_loopw [5,10] (fun v5 v10 wx=>∃(j:Nat) (acc:List Int),j≤n∧v10=.int .i64 j∧Hid (acc.length=j)∧Hid (q0j L [] ts=q0j L acc (ts.drop j))∧Hid (wx.ownsRow N0 3 1 v5 j (F.zq acc))∧Hid (Below N0 w wx)) (fun _ v10 _=>n - (intOf v10).toNat)
 case atStart=>exact⟨0,[],Nat.zero_le _,rfl,rfl,rfl,World.ownsRow_nil _ _ _ _,bRf⟩
 case round =>
  obtain⟨j,acc,hj,rfl,HA,hR,hO,HB⟩:=hrel;have HNr:Hid (N0≤wr.heap.size):=by have h1:=HB.out.size;have h2:=HN.out;show N0≤_;omega
  by_cases hlt:j < n
  ·have n1:(j:Int) < (n:Int):=by omega
   obtain⟨t,ht⟩:∃t,ts[j]?=some t:=⟨_,gEq (by rw[HL.out];exact hlt)⟩;have hdr:ts.drop j=t :: ts.drop (j + 1):=by
    obtain⟨hlt2,e2⟩:=List.getElem?_eq_some_iff.1 ht;rw[List.drop_eq_getElem_cons hlt2,e2]
   have HT:Hid (t ∈ ts):=mGe ht;obtain⟨g,off,rfl,y0,y1,y2,y3⟩:=HAt.out j t ht;replace y0:=ug y0 HN.out HB.out;replace y1:=ug y1 HN.out HB.out;replace y2:=ug y2 HN.out HB.out;replace y3:=ug y3 HN.out HB.out
   by_cases h2:200≤j
   ·have n2:¬(j:Int) < 200:=by omega
    have R2:Hid (q0j L [] ts=.error (t,31)):=hR.out.trans (by rw[hdr,q0j,if_pos (by rw[HA.out];exact h2)]);have GU:Hid (∀wx,Calls Tryz.prog 153 #[S.zy t,.int .i64 31] wx fun e w'=>Below wx.heap.size wx w'∧Quits t 31 wx.heap.size e w'):=fun wx=>q1y wx t 31
    unfold S.zy at GU;clear hdr hR hO ht HT CO TY;go_wp2_with fail;refine cMo (GU.out _) ?_;rintro e w' ⟨hb,b,rfl,q2,q3⟩;have hs:=(HB.out.trans (q1d HNr.out (.cells (um t) 36)));have hs2:N0≤(wr.alloc (.cells (um t) 36)).heap.size:=by rw[←HN.out];exact hs.size
    exact⟨rfl,qb8 R2.out (hs.trans (hb.mono hs2)) ⟨b,rfl,q2,nLt hs2 q3⟩⟩
   have n2:(j:Int) < 200:=by omega
   have HR2:Hid (q0j L [] ts=match (if acc.length=0 then q0x L t else q2c L t) with | .ok n=>q0j L (acc++[n]) (ts.drop (j + 1)) | .error f=>.error f):=hR.out.trans (by rw[hdr,q0j,if_neg (by rw[HA.out];exact h2)] <;> cases (if acc.length=0 then q0x L t else q2c L t) <;> rfl);clear hdr ht
   by_cases hz:j=0
   ·have HZ:Hid (acc.length=0):=by show _=_;rw[HA.out];exact hz
    have nz:((j:Int) == 0)=true:=by simp[hz]
    simp only[hz,Nat.zero_mul,Nat.add_zero] at y0 y1 y2 y3;have A:Hid (Calls Tryz.prog 167 #[.pointer (some ⟨lb,0,none⟩),S.zy t] (wr.alloc (.cells (um t) 36)) (Asks (wr.alloc (.cells (um t) 36)) (q0x L t))):=CO.out _ (HB.out.trans (q1d HNr.out _)) t HT.out;unfold S.zy at A
    cases hr:q0x L t with
    | error f =>
     rw[hr] at A;have R2:Hid (q0j L [] ts=.error f):=HR2.out.trans (by rw[if_pos HZ.out,hr]);clear hO hR HR2 hr HT;go_wp2_with fail;refine cMo A.out ?_;rintro e w' ⟨hb,b,rfl,q2,q3⟩;have hs:=(HB.out.trans (q1d HNr.out (.cells (um t) 36)));have hs2:N0≤(wr.alloc (.cells (um t) 36)).heap.size:=by rw[←HN.out];exact hs.size
     exact⟨rfl,qb8 R2.out (hs.trans (hb.mono hs2)) ⟨b,rfl,q2,nLt hs2 q3⟩⟩
    | ok x =>
     rw[hr] at A;have R2:Hid (q0j L [] ts=q0j L (acc++[x]) (ts.drop (j + 1))):=HR2.out.trans (by rw[if_pos HZ.out,hr]);have A2:Hid ((acc++[x]).length=j + 1):=by show _=_;rw[lAp,HA.out];rfl
     have HF:Hid (F.zq (acc++[x])=F.zq acc++[.int .i64 x]):=F.q0p acc [x];clear hR HR2 hr HT;go_wp2_with fail;refine cMo A.out ?_;rintro e w1 ⟨hb1,rfl⟩;have hs:=(HB.out.trans (q1d HNr.out (.cells (um t) 36)));have hs2:N0≤(wr.alloc (.cells (um t) 36)).heap.size:=by rw[←HN.out];exact hs.size
     have HB1:Hid (Below N0 w w1):=hs.trans (hb1.mono hs2);have HN1:Hid (N0≤w1.heap.size):=nLt hs2 hb1.size;have HO1:Hid (w1.ownsRow N0 3 1 u5 j (F.zq acc)):=S.M.qh (S.M.zk hO.out _) (S.M.Ch.oB (X:=fun _=>False) hb1) fun _ _ e=>e
     clear hb1 hO HB hs hs2 A
     go_wp2_with (at_builtin;refine wpList_append_lies (w:=w1.alloc (.cells #[.int .i64 x] 3)) rfl _ _ 38 rfl N0 3 iN _ 1 8 Tryz.underlying38 hiN iNz iNs iNb rfl (by decide) _ j (F.zq acc) (by rfl) (S.M.zk HO1.out _) ⟨w1.heap.size,0,none⟩ 1 1 [.int .i64 x] (by rfl) (by rfl) (World.news_of_block (cs:=#[.int .i64 x]) (t:=3) (fr:=(0,0)) (World.alloc_heap_new w1 _)) (by simp[Value.oneCell']) (by omega) (by unfold maxLen;omega) (by omega) (nLt HN1.out (S.qg w1 _).size) _ rfl ?_;intro gg cap' w8 hown8 hgrow hat hlt8;have O8:Hid (w8.ownsRow N0 3 1 (.slice (some ⟨gg,0,none⟩) (j + 1) cap') (j + 1) (F.zq (acc++[x]))):=(by show World.ownsRow _ _ _ _ _ _ _;rw[HF.out];exact hown8);have B8:Hid (Below N0 w w8):=HB1.out.trans (((Below.refl _ w1).alloc HN1.out _).trans (bRf.grown hgrow (nLt HN1.out (S.qg w1 _).size) (S.M.zh HO1.out)));clear hown8 hgrow hat hlt8)
     exact⟨⟨j + 1,acc++[x],by omega,by go_num,A2.out,R2.out,(by have h8:=O8.out;rw[hz] at h8 ⊢;exact h8),B8.out⟩,by simp[intOf];omega⟩
   ·have HZ:Hid (¬acc.length=0):=by show ¬_;rw[HA.out];exact hz
    have nz:((j:Int) == 0)=false:=by simp;omega
    have A:Hid (Calls Tryz.prog 230 #[.pointer (some ⟨lb,0,none⟩),S.zy t] (wr.alloc (.cells (um t) 36)) (Asks (wr.alloc (.cells (um t) 36)) (q2c L t))):=TY.out _ (HB.out.trans (q1d HNr.out _)) t HT.out;unfold S.zy at A
    cases hr:q2c L t with
    | error f =>
     rw[hr] at A;have R2:Hid (q0j L [] ts=.error f):=HR2.out.trans (by rw[if_neg HZ.out,hr]);clear hO hR HR2 hr HT;go_wp2_with fail;refine cMo A.out ?_;rintro e w' ⟨hb,b,rfl,q2,q3⟩;have hs:=(HB.out.trans (q1d HNr.out (.cells (um t) 36)));have hs2:N0≤(wr.alloc (.cells (um t) 36)).heap.size:=by rw[←HN.out];exact hs.size
     exact⟨rfl,qb8 R2.out (hs.trans (hb.mono hs2)) ⟨b,rfl,q2,nLt hs2 q3⟩⟩
    | ok x =>
     rw[hr] at A;have R2:Hid (q0j L [] ts=q0j L (acc++[x]) (ts.drop (j + 1))):=HR2.out.trans (by rw[if_neg HZ.out,hr]);have A2:Hid ((acc++[x]).length=j + 1):=by show _=_;rw[lAp,HA.out];rfl
     have HF:Hid (F.zq (acc++[x])=F.zq acc++[.int .i64 x]):=F.q0p acc [x];clear hR HR2 hr HT;go_wp2_with fail;refine cMo A.out ?_;rintro e w1 ⟨hb1,rfl⟩;have hs:=(HB.out.trans (q1d HNr.out (.cells (um t) 36)));have hs2:N0≤(wr.alloc (.cells (um t) 36)).heap.size:=by rw[←HN.out];exact hs.size
     have HB1:Hid (Below N0 w w1):=hs.trans (hb1.mono hs2);have HN1:Hid (N0≤w1.heap.size):=nLt hs2 hb1.size;have HO1:Hid (w1.ownsRow N0 3 1 u5 j (F.zq acc)):=S.M.qh (S.M.zk hO.out _) (S.M.Ch.oB (X:=fun _=>False) hb1) fun _ _ e=>e
     clear hb1 hO HB hs hs2 A
     go_wp2_with (at_builtin;refine wpList_append_lies (w:=w1.alloc (.cells #[.int .i64 x] 3)) rfl _ _ 38 rfl N0 3 iN _ 1 8 Tryz.underlying38 hiN iNz iNs iNb rfl (by decide) _ j (F.zq acc) (by rfl) (S.M.zk HO1.out _) ⟨w1.heap.size,0,none⟩ 1 1 [.int .i64 x] (by rfl) (by rfl) (World.news_of_block (cs:=#[.int .i64 x]) (t:=3) (fr:=(0,0)) (World.alloc_heap_new w1 _)) (by simp[Value.oneCell']) (by omega) (by unfold maxLen;omega) (by omega) (nLt HN1.out (S.qg w1 _).size) _ rfl ?_;intro gg cap' w8 hown8 hgrow hat hlt8;have O8:Hid (w8.ownsRow N0 3 1 (.slice (some ⟨gg,0,none⟩) (j + 1) cap') (j + 1) (F.zq (acc++[x]))):=(by show World.ownsRow _ _ _ _ _ _ _;rw[HF.out];exact hown8);have B8:Hid (Below N0 w w8):=HB1.out.trans (((Below.refl _ w1).alloc HN1.out _).trans (bRf.grown hgrow (nLt HN1.out (S.qg w1 _).size) (S.M.zh HO1.out)));clear hown8 hgrow hat hlt8)
     exact⟨⟨j + 1,acc++[x],by omega,by go_num,A2.out,R2.out,O8.out,B8.out⟩,by simp[intOf];omega⟩
  ·have n1:¬(j:Int) < (n:Int):=by omega
   have hall:ts.drop j=[]:=List.drop_eq_nil_of_le (by rw[HL.out];omega);have R2:Hid (q0j L [] ts=.ok acc):=hR.out.trans (by rw[hall];rfl);obtain⟨a5,c5,rfl,_⟩:=S.M.xq hO.out;clear hall hR
   go_wp2
   go_ret
   exact qol R2.out HB.out rfl (by rw[HA.out];exact hO.out)
end
end B
end Go.Proofs.YtbancemhfjjmlaaGreatDoor
