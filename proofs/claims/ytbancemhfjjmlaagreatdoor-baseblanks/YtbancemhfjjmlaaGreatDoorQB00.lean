/- Laid together. -/
import Derived.Test.YtbancemhfjjmlaaGreatDoorTk
import Derived.Deep.AppendLies
import Derived.Deep.Upon
import Derived.Below
import Derived.OwnWalk
import Derived.Test.YtbancemhfjjmlaaGreatDoorProg
import Derived.WalkKit
import Derived.BigQuiet
import Derived.Deep.RegionHeld3
import Derived.Laws.StructEq
import Derived.WalkLawsBesides
import Derived.WalkSpells
import Derived.Outline
import Derived.Lib.Strings
import Derived.Deep.Light
import Derived.Deep.Cut
import Derived.Lib.Builder
import Derived.Lib.AppendStr
import Derived.Lib.UnsafeStr
import Derived.Lib.MakeNoZero
import Derived.Laws.Externs
import Derived.Shelf.RegionOpenPlain
import Derived.Deep.DeepCutAuto
import Derived.Deep.CutRange
import Derived.Deep.MidRow
set_option maxRecDepth 100000
set_option maxHeartbeats 32000000
namespace Go.Proofs.YtbancemhfjjmlaaGreatDoor
namespace S
open Go.RowKit
section
variable {P:Program} {w:World}
theorem qhr {base:Nat}{e:TypeId}{size:Nat}{v:Value}{n:Nat}{xs:List Value}(h:w.ownsRow base e size v n xs):∀k,v.ownBlock=some k→base≤k:=fun k hk=>by
 rcases h.2 with ⟨rfl,_⟩ | ⟨g,cap,cur,rfl,hb,_⟩
 ·cases hk
 ·cases hk;exact hb
theorem ql {base:Nat}{e:TypeId}{size:Nat}{v:Value}{n:Nat}{xs:List Value}(h:w.ownsRow base e size v n xs):∃a c,v=.slice a n c∧n≤c:=by
 rcases h.2 with ⟨rfl,rfl⟩ | ⟨g,cap,cur,rfl,_,_,hc,_⟩
 ·exact⟨_,_,rfl,Nat.le_refl _⟩
 ·exact⟨_,_,rfl,hc⟩
theorem q9y (t ty:TypeId) (base:Nat) (e:TypeId) (i:TypeInfo) (z:Value) (size bytes:Nat) (ht:P.underlying t=some (.slice e)) (hi:P.info? e=some i) (hz:i.zero=some z)
  (hsize:i.size=size) (hby:i.bytes=bytes) (hzs:z.cells.size=size) (hsz:0 < size)
  (v:Value) (n:Nat) (xs:List Value) (hown:w.ownsRow base e size v n xs)
  (x0:Option Addr) (m c:Nat) (news:List Value) (hl:news.length=m * size) (hnews:∀j u,news[j]?=some u→∃ad,x0=some ad∧w.cell? (ad.add j)=some u) (h1:∀u ∈ news,u.oneCell'=true)
  (h63:n + m≤maxLen) (hbytes:(n + m) * bytes≤140737488355328) (hbase:base≤w.heap.size) :
  ∃a' c' w',(Builtin.append_ #[t,t] ty #[v,.slice x0 m c]).run P w=.ok (.slice a' (n + m) c') w'∧w'.ownsRow base e size (.slice a' (n + m) c') (n + m) (xs++news)∧Below base w w':=by
 rcases Nat.eq_zero_or_pos m with rfl | hm
 ·have hn0:news=[]:=List.eq_nil_of_length_eq_zero (by rw[hl,Nat.zero_mul]);subst hn0;obtain⟨a',c',rfl,hc⟩:=ql hown;have src:Src P i.size t (.slice x0 0 c) 0 [] w:=by
   cases x0 with
   | none=>exact Src.ofNil w ht c
   | some ad=>exact Src.ofSlice w ht ad 0 c [] (by simp) (fun j u hu=>by simp at hu) (fun u hu=>by simp at hu)
  refine⟨a',c',w,run_append_nothing w t t ty e i ht hi a' n c' hc _ src,?_,bRf⟩;rw[List.append_nil];exact hown
 ·have hne:0 < news.length:=by rw[hl];exact Nat.mul_pos hm hsz
  obtain⟨ad,rfl,_⟩:=hnews 0 _ (gEq hne)
  obtain⟨g,cap,w',hr,h2,h3,_,_⟩:=run_append_lies (P:=P) w t ty base e i z size bytes ht hi hz hsize hby hzs hsz v n xs hown ad m c news hl (fun j u hu=>by
   obtain⟨ad',he,hc⟩:=hnews j u hu
   cases he
   exact hc) h1 hm h63 hbytes hbase w.heap.size rfl
  exact⟨_,_,w',hr,h2,bRf.grown h3 hbase (qhr hown)⟩
theorem qah {o:Oper} {a:Act} {K:Act→World→Prop} {Q:Exit→Act→World→Prop} (s x:Operand) (t:TypeId)
  (ho:o.op=.call { callee:=.builtin .append,args:=#[s,x],argTypes:=#[t,t] })
  (base:Nat) (e:TypeId) (i:TypeInfo) (z:Value) (size bytes:Nat) (ht:P.underlying t=some (.slice e)) (hi:P.info? e=some i) (hz:i.zero=some z)
  (hsize:i.size=size) (hby:i.bytes=bytes) (hzs:z.cells.size=size) (hsz:0 < size)
  (v:Value) (n:Nat) (xs:List Value) (hs:a.eval s=v) (hown:w.ownsRow base e size v n xs)
  (x0:Option Addr) (m c:Nat) (news:List Value) (hx:a.eval x=.slice x0 m c) (hl:news.length=m * size) (hnews:∀j u,news[j]?=some u→∃ad,x0=some ad∧w.cell? (ad.add j)=some u) (h1:∀u ∈ news,u.oneCell'=true)
  (h63:n + m≤maxLen) (hbytes:(n + m) * bytes≤140737488355328) (hbase:base≤w.heap.size)
  (h:∀a' c' w',w'.ownsRow base e size (.slice a' (n + m) c') (n + m) (xs++news)→Below base w w'→K (a.put o.dst (.slice a' (n + m) c')) w'):o.wp P a w K Q:=by
 obtain⟨a',c',w',hr,h2,h3⟩:=q9y (P:=P) (w:=w) t o.type base e i z size bytes ht hi hz hsize hby hzs hsz v n xs hown x0 m c news hl hnews h1 h63 hbytes hbase;unfold Oper.wp execOp;simp only[ho,resolve,invoke,builtin,Sem.run_bind,Sem.run_pure,Result.andThen_ok,List.map_toArray,List.map_cons,List.map_nil,hs,hx,hr];exact h a' c' w' h2 h3
theorem jk {ops:Array Oper} {rest:List Oper} {o:Oper} {a:Act} {Q:Exit→Act→World→Prop} (hgd:o.guard=none) (s x:Operand) (t:TypeId)
  (ho:o.op=.call { callee:=.builtin .append,args:=#[s,x],argTypes:=#[t,t] })
  (base:Nat) (e:TypeId) (i:TypeInfo) (z:Value) (size bytes:Nat) (ht:P.underlying t=some (.slice e)) (hi:P.info? e=some i) (hz:i.zero=some z)
  (hsize:i.size=size) (hby:i.bytes=bytes) (hzs:z.cells.size=size) (hsz:0 < size)
  (v:Value) (n:Nat) (xs:List Value) (hs:a.eval s=v) (hown:w.ownsRow base e size v n xs)
  (x0:Option Addr) (m c:Nat) (news:List Value) (hx:a.eval x=.slice x0 m c) (hl:news.length=m * size) (hnews:∀j u,news[j]?=some u→∃ad,x0=some ad∧w.cell? (ad.add j)=some u) (h1:∀u ∈ news,u.oneCell'=true)
  (h63:n + m≤maxLen) (hbytes:(n + m) * bytes≤140737488355328) (hbase:base≤w.heap.size)
  (h:∀a' c' w',w'.ownsRow base e size (.slice a' (n + m) c') (n + m) (xs++news)→Below base w w'→wpList P ops Q rest (a.put o.dst (.slice a' (n + m) c')) w'):wpList P ops Q (o :: rest) a w :=
 wpList_plain hgd fun _ hK=>qah s x t ho base e i z size bytes ht hi hz hsize hby hzs hsz v n xs hs hown x0 m c news hx hl hnews h1 h63 hbytes hbase fun a' c' w' h2 h3=>hK _ _ (h a' c' w' h2 h3)
end
end S
namespace S.M
open Go.RowKit
theorem qj {W:World}{b o:Nat}{v:Value}{cs:Array Value}{t:TypeId}{fr:Nat × Nat}(h:W.heap[b]?=some (.cells cs t fr)):(W.setCell ⟨b,o,none⟩ v).heap[b]?=some (.cells (cs.setIfInBounds o v) t fr):=by
 obtain⟨hlt,hk⟩:=Array.getElem?_eq_some_iff.1 h
 show (W.heap.modify b _)[b]?=_
 rw[Array.getElem?_eq_getElem (by rw[Array.size_modify];exact hlt),Array.getElem_modify_self,hk]
 rfl
theorem zk {W:World}{base e size:Nat}{v:Value}{n:Nat}{xs:List Value}(h:W.ownsRow base e size v n xs)(O:Obj):(W.alloc O).ownsRow base e size v n xs:=by
 refine⟨h.1,?_⟩;rcases h.2 with h0 | ⟨g,cap,cur,hv,hb,hh,hr⟩
 ·exact .inl h0
 ·exact .inr ⟨g,cap,cur,hv,hb,(Below.heap_alloc W O g (aIx hh)).trans hh,hr⟩
theorem xq {W:World}{base e size:Nat}{v:Value}{n:Nat}{xs:List Value}(h:W.ownsRow base e size v n xs):∃a c,v=.slice a n c∧n≤c∧∀(i:Nat) (u:Value),xs[i]?=some u→∃g,a=some ⟨g,0,none⟩∧W.cell? ⟨g,i,none⟩=some u:=by
 rcases h.2 with ⟨rfl,rfl⟩ | ⟨g,cap,cur,rfl,hg,hh,hc,hs,hsz,ht⟩
 ·refine⟨_,_,rfl,Nat.le_refl _,fun i u hi=>?_⟩;have:=h.1
  rw[Nat.zero_mul] at this;rw[List.eq_nil_of_length_eq_zero this] at hi;simp at hi
 ·refine⟨_,_,rfl,hc,fun i u hi=>⟨g,rfl,?_⟩⟩;have hlt:i < n * size:=by have:=h.1;have:=(List.getElem?_eq_some_iff.1 hi).1;omega
  have:cur[i]?=some u:=by
   rw[←ht,List.getElem?_take,if_pos hlt] at hi
   simpa using hi
  simp[World.cell?,hh,this]
theorem qc {W:World}{b:Nat}{t:TypeId}{cs:Array Value}{fr:Nat × Nat}(h:W.heap[b]?=some (.cells cs t fr))(i:Nat):W.cell? ⟨b,i,none⟩=cs[i]?:=by
 simp[World.cell?,h]
theorem zf {W:World}{base e size:Nat}{v:Value}{n:Nat}{xs:List Value}(h:W.ownsRow base e size v n xs):∀k,v.ownBlock=some k→base≤k:=fun k hk=>by
 rcases h.2 with ⟨rfl,_⟩ | ⟨g,cap,cur,rfl,hb,_⟩
 ·cases hk
 ·cases hk;exact hb
theorem jr {W:World}{base e size:Nat}{v:Value}{n:Nat}{xs:List Value}(h:W.ownsRow base e size v n xs):∀k,v.ownBlock=some k→k < W.heap.size:=fun k hk=>by
 rcases h.2 with ⟨rfl,_⟩ | ⟨g,cap,cur,rfl,hb,hh,_⟩
 ·cases hk
 ·cases hk;exact (aIx hh)
theorem q3r {W:World}{base e size g n cap:Nat}{xs:List Value}(h:W.ownsRow base e size (.slice (some ⟨g,0,none⟩) n cap) n xs)(i:Nat)(u:Value)(hi:xs[i]?=some u):W.cell? ⟨g,i,none⟩=some u:=by
 rcases h.2 with ⟨e',_⟩ | ⟨g',cap',cur,hv,hg',hh,hn,hc,hsz,ht⟩
 ·cases e'
 ·simp only[Value.slice.injEq,Option.some.injEq,Addr.mk.injEq] at hv;obtain⟨⟨rfl,_⟩,_,rfl⟩:=hv;have hlt:i < n * size:=by have:=h.1;have:=(List.getElem?_eq_some_iff.1 hi).1;omega
  have:cur[i]?=some u:=by
   rw[←ht,List.getElem?_take,if_pos hlt] at hi
   simpa using hi
  simp[World.cell?,hh,this]
theorem zu {W W':World}{base e size:Nat}{v:Value}{n:Nat}{xs:List Value}(h:W.ownsRow base e size v n xs)(hk:∀g,v.ownBlock=some g→W'.heap[g]?=W.heap[g]?):W'.ownsRow base e size v n xs:=by
 refine⟨h.1,?_⟩;rcases h.2 with h0 | ⟨g,cap,cur,hv,hg,hh,hr⟩
 ·exact .inl h0
 ·exact .inr ⟨g,cap,cur,hv,hg,(hk g (by rw[hv];rfl)).trans hh,hr⟩
theorem q0h {W:World}{base e size n:Nat}{v:Value}{xs:List Value}(h:W.ownsRow base e size v n xs)(hn:0 < n):∃g c,v=.slice (some ⟨g,0,none⟩) n c∧n≤c∧base≤g∧g < W.heap.size:=by
 rcases h.2 with ⟨_,rfl⟩ | ⟨g,cap,cur,rfl,hg,hh,hc,_⟩
 ·omega
 ·exact⟨g,cap,rfl,hc,hg,(aIx hh)⟩
theorem qp {W:World}{base base' e size n:Nat}{v:Value}{xs:List Value}(h:W.ownsRow base e size v n xs)(hb:base'≤base):W.ownsRow base' e size v n xs:=by
 refine⟨h.1,?_⟩;rcases h.2 with h0 | ⟨g,cap,cur,hv,hg,hr⟩
 ·exact .inl h0
 ·exact .inr ⟨g,cap,cur,hv,nLt hb hg,hr⟩
structure Ch (X:Nat→Prop)(W W':World):Prop where
 os:W'.os=W.os
 tape:W'.tape=W.tape
 output:W'.output=W.output
 size:W.heap.size≤W'.heap.size
 block:∀g,g < W.heap.size→¬X g→W'.heap[g]?=W.heap[g]?
theorem Ch.refl (X:Nat→Prop)(W:World):Ch X W W:=⟨rfl,rfl,rfl,Nat.le_refl _,fun _ _ _=>rfl⟩
theorem Ch.trans {X:Nat→Prop}{A B C:World}(h:Ch X A B)(k:Ch X B C):Ch X A C:=⟨k.os.trans h.os,k.tape.trans h.tape,k.output.trans h.output,nLt h.size k.size,fun g hg hx=>(k.block g (Nat.lt_of_lt_of_le hg h.size) hx).trans (h.block g hg hx)⟩
theorem Ch.mono {X Y:Nat→Prop}{A B:World}(h:Ch X A B)(hm:∀g,X g→Y g):Ch Y A B:=⟨h.os,h.tape,h.output,h.size,fun g hg hx=>h.block g hg fun e=>hx (hm g e)⟩
theorem Ch.oB {X:Nat→Prop}{A B:World}(h:Below A.heap.size A B):Ch X A B:=⟨h.os,h.tape,h.output,h.size,fun g hg _=>h.block g hg⟩
theorem Ch.jw {A B:World}{r:Option Nat}(h:A.grownBy B r):Ch (fun g=>r=some g) A B:=⟨h.os,h.tape,h.output,h.size,fun g hg hx=>h.block g hg fun e=>hx e.symm⟩
theorem Ch.below {X:Nat→Prop}{A B:World}(h:Ch X A B){N:Nat}(hN:N≤A.heap.size)(hx:∀g,X g→N≤g):Below N A B:=⟨h.os,h.tape,h.output,nLt hN h.size |> fun _=>h.size,fun g hg=>h.block g (Nat.lt_of_lt_of_le hg hN) fun e=>by have:=hx g e;omega⟩
theorem jc (W:World)(g i:Nat)(u:Value):Ch (fun b=>b=g) W (W.setCell ⟨g,i,none⟩ u):=⟨rfl,rfl,rfl,by simp[World.setCell],fun b _ hb=>Below.heap_setCell _ _ _ b hb⟩
theorem qh {X:Nat→Prop}{W W':World}{base e size n:Nat}{v:Value}{xs:List Value}(h:W.ownsRow base e size v n xs)(hc:Ch X W W')(hx:∀g,v.ownBlock=some g→¬X g):W'.ownsRow base e size v n xs :=
 zu h fun g hg=>hc.block g (jr h g hg) (hx g hg)
def qf0 (W:World)(Pr:Nat→Prop)(v:Value)(n:Nat)(xs:List Value):Prop:=∃a c,v=.slice a n c∧n≤c∧∀(i:Nat) (u:Value),xs[i]?=some u→∃g,a=some ⟨g,0,none⟩∧Pr g∧g < W.heap.size∧W.cell? ⟨g,i,none⟩=some u
theorem qf0.ch {X Pr Pr':Nat→Prop}{W W':World}{v:Value}{n:Nat}{xs:List Value}(h:qf0 W Pr v n xs)(hc:Ch X W W')(hx:∀g,Pr g→¬X g)(hp:∀g,Pr g→Pr' g):qf0 W' Pr' v n xs:=by
 obtain⟨a,c,e,hn,h⟩:=h;refine⟨a,c,e,hn,fun i u hu=>?_⟩;obtain⟨g,ea,hg,hl,hcell⟩:=h i u hu;refine⟨g,ea,hp g hg,Nat.lt_of_lt_of_le hl hc.size,?_⟩;have hb:=hc.block g hl (hx g hg);exact (World.cell?_of_block (a:=⟨g,i,none⟩) hb).trans hcell
theorem qf0.own {W:World}{Pr:Nat→Prop}{base e size n:Nat}{v:Value}{xs:List Value}(h:W.ownsRow base e size v n xs)(hp:∀g,v.ownBlock=some g→Pr g):qf0 W Pr v n xs:=by
 obtain⟨a,c,e,hc,hcell⟩:=xq h;refine⟨a,c,e,hc,fun i u hu=>?_⟩;obtain⟨g,rfl,h0⟩:=hcell i u hu;subst e;exact⟨g,rfl,hp g rfl,jr h g rfl,h0⟩
theorem q4k {x:Value}{g n c N:Nat}(h:x.ownBlock=some g∨g=N):∀b,(Value.slice (some ⟨g,0,none⟩) n c).ownBlock=some b→x.ownBlock=some b∨N≤b:=fun b e=>by
 cases e;rcases h with h | h
 ·exact .inl h
 ·exact .inr (by rw[h];exact Nat.le_refl _)
end S.M
namespace S
open Go.RowKit
theorem qg (w:World)(o:Obj):Below w.heap.size w (w.alloc o):=(Below.refl _ w).alloc (Nat.le_refl _) o
theorem below_drewN {N:Nat}{w w':World}(h:Below N w w')(k:Nat):Below N w (w'.drewN k):=⟨h.os,h.tape,h.output,h.size,h.block⟩
theorem M.zi {N:Nat}{w w':World}(h:Below N w w')(k:Nat):Below N w (w'.drewN k):=below_drewN h k
structure Tok where
 text:ByteArray
 off:Int
 line:Int
 col:Int
def zo (t:Tok):Value:=.agg #[.string t.text,.int .i64 t.off,.int .i64 t.line,.int .i64 t.col]
def q06 (t:Tok):List Value:=[.string t.text,.int .i64 t.off,.int .i64 t.line,.int .i64 t.col]
def rowT (ts:List Tok):List Value:=ts.flatMap q06
theorem qf1 (l m:List Tok):rowT (l++m)=rowT l++rowT m:=by simp[rowT]
theorem qog (l:List Tok):(rowT l).length=l.length * 4:=by
 induction l with
 | nil=>rfl
 | cons x l ih =>
  have e:rowT (x :: l)=q06 x++rowT l:=rfl;rw[e,lAp,ih,List.length_cons];simp[q06];omega
theorem q7s:∀(ts:List Tok) (i j:Nat) (t:Tok),ts[i]?=some t→j < 4→(rowT ts)[i * 4 + j]?=(q06 t)[j]?
 | [],i,j,t,h,_=>by simp at h
 | x :: r,0,j,t,h,hj=>by
  simp at h;subst h;have e:rowT (x :: r)=q06 x++rowT r:=rfl;rw[e,Nat.zero_mul,Nat.zero_add,List.getElem?_append_left (by simp[q06];omega)]
 | x :: r,i + 1,j,t,h,hj=>by
  have e:rowT (x :: r)=q06 x++rowT r:=rfl;have h2:r[i]?=some t:=by simpa using h
  rw[e,List.getElem?_append_right (by simp[q06];omega)];have e2:(i + 1) * 4 + j - (q06 x).length=i * 4 + j:=by simp[q06];omega
  rw[e2];exact q7s r i j t h2 hj
theorem qk7:(Tryz.prog.info? 36).map (fun i=>(i.zero,i.size,i.bytes))=some (some (.agg #[.string ⟨#[]⟩,.int .i64 0,.int .i64 0,.int .i64 0]),4,40):=by kernel_rfl
def q0i (w:World)(a:Option Addr)(ts:List Tok):Prop:=∀(i:Nat) (t:Tok),ts[i]?=some t→∃b off,a=some ⟨b,off,none⟩ ∧
 w.cell? ⟨b,off + i * 4,none⟩=some (.string t.text)∧w.cell? ⟨b,off + i * 4 + 1,none⟩=some (.int .i64 t.off)∧w.cell? ⟨b,off + i * 4 + 2,none⟩=some (.int .i64 t.line)∧w.cell? ⟨b,off + i * 4 + 3,none⟩=some (.int .i64 t.col)
theorem q0i.under {w w':World}{a:Option Addr}{ts:List Tok}(h:q0i w a ts)(hb:Below w.heap.size w w'):q0i w' a ts:=fun i t hi=>by
 obtain⟨b,off,e,h0,h1,h2,h3⟩:=h i t hi;have hlt:b < w.heap.size:=bLt h0;exact⟨b,off,e,(hb.cell (p:=⟨b,_,none⟩) hlt).trans h0,(hb.cell (p:=⟨b,_,none⟩) hlt).trans h1,(hb.cell (p:=⟨b,_,none⟩) hlt).trans h2,(hb.cell (p:=⟨b,_,none⟩) hlt).trans h3⟩
theorem wo {W:World}{base:Nat}{v:Value}{n:Nat}{ts:List Tok}(h:W.ownsRow base 36 4 v n (rowT ts)):∃a c,v=.slice a n c∧n≤c∧q0i W a ts:=by
 obtain⟨a,c,rfl,hc,hcell⟩:=M.xq h;refine⟨a,c,rfl,hc,fun i t ht=>?_⟩;have k0:=q7s ts i 0 t ht (by omega);have k1:=q7s ts i 1 t ht (by omega);have k2:=q7s ts i 2 t ht (by omega);have k3:=q7s ts i 3 t ht (by omega);obtain⟨g,rfl,h0⟩:=hcell _ _ k0;obtain⟨_,e,h1⟩:=hcell _ _ k1
 cases e;obtain⟨_,e,h2⟩:=hcell _ _ k2
 cases e;obtain⟨_,e,h3⟩:=hcell _ _ k3
 cases e;refine⟨g,0,rfl,?_,?_,?_,?_⟩ <;> rw[Nat.zero_add] <;> assumption
theorem qoh (ts:List Tok):∀u ∈ rowT ts,u.oneCell'=true:=fun u hu=>by
 unfold rowT at hu;rw[List.mem_flatMap] at hu;obtain⟨t,_,ht⟩:=hu;simp[q06] at ht;rcases ht with rfl | rfl | rfl | rfl <;> rfl
theorem q2g {a b:Bool}(h:a=b):Ending.returned (.bool a)=.returned (.bool b):=by rw[h]
theorem take_snoc (s:ByteArray)(k:Nat)(h:k < s.size):s.data.toList.take (k + 1)=s.data.toList.take k++[s[k]]:=by
 have hk:k < s.data.toList.length:=by simpa using h
 rw[List.take_add_one,gEq hk];rfl
theorem q7t {p:UInt8→Bool}{s:ByteArray}{k:Nat}(h:k < s.size)(ha:(s.data.toList.take k).all p=true)(hp:p s[k]=true):(s.data.toList.take (k + 1)).all p=true:=by
 rw[take_snoc s k h];simp[ha,hp]
theorem q7u {p:UInt8→Bool}{s:ByteArray}{k:Nat}(h:s.size≤k)(ha:(s.data.toList.take k).all p=true):s.data.toList.all p=true:=by
 rwa [List.take_of_length_le (by simpa using h)] at ha
theorem q7v {p:UInt8→Bool}{s:ByteArray}{k:Nat}(h:k < s.size)(hp:p s[k]=false):s.data.toList.all p=false:=by
 rw[List.all_eq_false];refine⟨s[k],?_,by simp[hp]⟩;have:s.data.toList[k]'(by simpa using h)=s[k]:=rfl
 rw[←this];exact List.getElem_mem _
theorem qoi {s:ByteArray}(h:0 < s.size):s.toList.isEmpty=false:=by
 rw[Lib.toList_data]
 cases hl:s.data.toList with
 | nil =>
  have h1:s.data.toList.length=s.size:=by rw[Array.length_toList];rfl
  rw[hl] at h1;simp at h1;omega
 | cons a l=>rfl
def okB (b:UInt8):Bool:=decide (33≤b.toNat) && decide (b.toNat≤126)
def keyB (s:ByteArray):Bool:=if h:0 < s.size then decide ((s[0]'h).toNat=36) else false
def q2t (s:ByteArray):Bool:=decide (0 < s.size) && !keyB s && s.data.toList.all okB
theorem qk8 {s:ByteArray}(h:0 < s.size):keyB s=decide ((s[0]'h).toNat=36):=by unfold keyB;rw[dif_pos h]
theorem qld {s:ByteArray}(h:¬0 < s.size):s=⟨#[]⟩:=by
 obtain⟨d⟩:=s;have:d.size=0:=by simpa [ByteArray.size] using h
 rw[Array.eq_empty_of_size_eq_zero this]
theorem qcy (s:ByteArray)(w:World)(hs:s.size≤1099511627776):Calls Tryz.prog 183 #[.string s] w fun e w'=>e=.returned (.bool (q2t s))∧w'=w:=by
 by_cases h0:0 < s.size
 ·by_cases hd:(s[0]'h0).toNat=36
  ·have hp:Hid (q2t s=false):=by show _=_;unfold q2t;rw[qk8 h0,decide_eq_true hd];simp
   have h1:(((s[0]'h0).toNat:Int) == 36)=true:=by simp;omega
   have h2:s.toList.isEmpty=false:=qoi h0;go_enter Tryz.func183,Tryz.ntmps183
   go_wp2
   go_ret
   exact⟨q2g (by rw[hp.out]),rfl⟩
  ·have hp:Hid (q2t s=s.data.toList.all okB):=by show _=_;unfold q2t;rw[qk8 h0,decide_eq_false hd,decide_eq_true h0];simp
   have h1:(((s[0]'h0).toNat:Int) == 36)=false:=by simp;omega
   have h2:s.toList.isEmpty=false:=qoi h0;go_enter Tryz.func183,Tryz.ntmps183
   go_wp2
   go_loop [13] (fun i=>∃n:Nat,n≤s.size∧i=.int .i64 n∧Hid ((s.data.toList.take n).all okB=true)) (fun i=>s.size - (intOf i).toNat)
   case atStart=>exact⟨0,Nat.zero_le _,rfl,rfl⟩
   case round =>
    obtain⟨n,hn,rfl,ha⟩:=hrel
    by_cases hlt:n < s.size
    ·have n1:(n:Int) < (s.size:Int):=by omega
     by_cases hb:okB s[n]=true
     ·have hb2:33≤s[n].toNat∧s[n].toNat≤126:=by unfold okB at hb;simpa using hb
      have a1:¬((s[n].toNat:Int) < 33):=by omega
      have a2:¬((126:Int) < (s[n].toNat:Int)):=by omega
      go_wp2
      exact⟨⟨n + 1,by omega,by go_num,q7t hlt ha.out hb⟩,by simp[intOf];omega⟩
     ·have hb2:¬(33≤s[n].toNat∧s[n].toNat≤126):=by unfold okB at hb;simpa using hb
      have hF:Hid (q2t s=false):=by show _=_;rw[hp.out];exact q7v hlt (by simpa using hb)
      by_cases a1:(s[n].toNat:Int) < 33
      ·go_wp2
       go_ret
       exact⟨q2g (by rw[hF.out]),rfl⟩
      ·have a2:(126:Int) < (s[n].toNat:Int):=by omega
       go_wp2
       go_ret
       exact⟨q2g (by rw[hF.out]),rfl⟩
    ·have n1:¬(n:Int) < (s.size:Int):=by omega
     go_wp2
     go_ret
     exact⟨q2g (by rw[hp.out,q7u (by omega) ha.out]),rfl⟩
 ·have hp:Hid (q2t s=false):=by show _=_;unfold q2t;rw[decide_eq_false h0];simp
  have he:=qld h0;subst he;go_enter Tryz.func183,Tryz.ntmps183
  go_wp2
  go_ret
  exact⟨q2g (by rw[hp.out]),rfl⟩
def q6a:List (List UInt8 × Bool × Int × Int):=[([],false,0,0),([36,99],false,1,9223372036854775807),([36,118],false,1,9223372036854775807),([36,102],true,2,2),([36,101],true,1,9223372036854775807),([36,100],false,2,32),([36,97],true,1,9223372036854775807),([36,112],true,1,9223372036854775807),([36,123],false,0,0),([36,125],false,0,0)]
def kwB (k:Nat):ByteArray:=⟨(q6a.getD k ([],false,0,0)).1.toArray⟩
def qhs (k:Nat):Bool:=(q6a.getD k ([],false,0,0)).2.1
def q9z (k:Nat):Int:=(q6a.getD k ([],false,0,0)).2.2.1
def qf2 (k:Nat):Int:=(q6a.getD k ([],false,0,0)).2.2.2
def gy (w:World):Prop:=∀k,k < 10→w.cell? ⟨0,k * 4,none⟩=some (.string (kwB k))∧w.cell? ⟨0,k * 4 + 1,none⟩=some (.bool (qhs k))∧w.cell? ⟨0,k * 4 + 2,none⟩=some (.int .i64 (q9z k))∧w.cell? ⟨0,k * 4 + 3,none⟩=some (.int .i64 (qf2 k))
theorem gy.size {w:World}(h:gy w):0 < w.heap.size:=bLt (h 0 (by omega)).1
theorem gy.under {w w':World}(h:gy w)(hb:Below w.heap.size w w'):gy w':=fun k hk=>by
 obtain⟨h0,h1,h2,h3⟩:=h k hk;have hlt:=h.size;exact⟨(hb.cell (p:=⟨0,_,none⟩) hlt).trans h0,(hb.cell (p:=⟨0,_,none⟩) hlt).trans h1,(hb.cell (p:=⟨0,_,none⟩) hlt).trans h2,(hb.cell (p:=⟨0,_,none⟩) hlt).trans h3⟩
def q0w (c:UInt8):Value:=.int .u8 c.toNat
theorem qk9:(Tryz.prog.info? 5).map (fun i=>(i.zero,i.size,i.bytes))=some (some (.int .u8 0),1,1):=by kernel_rfl
theorem q4h (s:ByteArray):s.data.toList.length=s.size:=by rw[Array.length_toList];rfl
section
variable {P:Program} {w:World}
theorem q7d (base:Nat) (t u ty e:TypeId) (i:TypeInfo) (ht:P.underlying t=some (.slice e)) (hu:P.underlying u=some .string) (hi:P.info? e=some i) (hz:i.zero=some (.int .u8 0)) (hsize:i.size=1) (hby:i.bytes=1)
  (v:Value) (n:Nat) (xs:List Value) (hown:w.ownsRow base e 1 v n xs) (s:ByteArray) (h63:n + s.size≤maxLen) (hbytes:n + s.size≤140737488355328) (hbase:base≤w.heap.size) :
  ∃a c w',(Builtin.append_ #[t,u] ty #[v,.string s]).run P w=.ok (.slice a (n + s.size) c) w'∧w'.ownsRow base e 1 (.slice a (n + s.size) c) (n + s.size) (xs++Lib.strCells s)∧w.grownBy w' v.ownBlock∧∀b,(Value.slice a (n + s.size) c).ownBlock=some b→v.ownBlock=some b∨w.heap.size≤b:=by
 obtain⟨v',w',hr,h2,h3,_⟩:=Lib.run_append_own_string (P:=P) (w:=w) base t u ty e i ht hu hi hz hsize hby v n xs hown s h63 hbytes hbase;obtain⟨a',c',rfl,_⟩:=ql h2;refine⟨a',c',w',hr,h2,h3,fun b hb=>?_⟩;have hxl:xs.length=n:=by simpa using hown.1
 rcases hown.2 with ⟨rfl,rfl⟩ | ⟨g,cap,cur,rfl,hbg,hg,hnc,hcm,hcs,htake⟩
 ·have hx:xs=[]:=List.eq_nil_of_length_eq_zero hxl;subst hx;obtain⟨v2,w2,hr2,k2,_,_⟩:=Lib.run_append_own_string (P:=P) (w:=w) w.heap.size t u ty e i ht hu hi hz hsize hby (.slice none 0 0) 0 [] (World.ownsRow_nil _ _ _ _) s h63 hbytes (Nat.le_refl _);rw[hr] at hr2;simp only[Result.ok.injEq] at hr2;obtain⟨e2,e3⟩:=hr2;rw[←e2,←e3] at k2;exact .inr (M.zf k2 b hb)
 ·by_cases hroom:n + s.size≤cap
  ·have hr':=Lib.run_append_room_string (P:=P) w t u ty e i ht hu hi hsize g n cap cur hg s hroom (by omega);rw[hr] at hr';simp only[Result.ok.injEq,Value.slice.injEq] at hr';obtain⟨⟨rfl,_⟩,_⟩:=hr'
   cases hb;exact .inl rfl
  ·have holds:∀j u,xs[j]?=some u→w.cell? ((⟨g,0,none⟩:Addr).add j)=some u:=hown.cells (g:=g) rfl;have hr':=Lib.run_append_grow_string (P:=P) w t u ty e i (.int .u8 0) ht hu hi hz ⟨g,0,none⟩ n cap xs (by rw[hsize];simpa using hxl) holds s (by omega) (by omega) (by rw[hby];exact growslice_fits (by omega) (by omega));rw[hr] at hr';simp only[Result.ok.injEq,Value.slice.injEq] at hr';obtain⟨⟨rfl,_⟩,_⟩:=hr'
   cases hb;exact .inr (Nat.le_refl _)
theorem q4y {ops:Array Oper} {rest:List Oper} {o:Oper} {a:Act} {Q:Exit→Act→World→Prop} (hgd:o.guard=none) (s x:Operand) (t u:TypeId)
  (ho:o.op=.call { callee:=.builtin .append,args:=#[s,x],argTypes:=#[t,u] })
  (base:Nat) (e:TypeId) (i:TypeInfo) (ht:P.underlying t=some (.slice e)) (hu:P.underlying u=some .string) (hi:P.info? e=some i) (hz:i.zero=some (.int .u8 0)) (hsize:i.size=1) (hby:i.bytes=1)
  (v:Value) (n:Nat) (xs:List Value) (hs:a.eval s=v) (hown:w.ownsRow base e 1 v n xs) (str:ByteArray) (hx:a.eval x=.string str)
  (h63:n + str.size≤maxLen) (hbytes:n + str.size≤140737488355328) (hbase:base≤w.heap.size)
  (h:∀a' c' w',w'.ownsRow base e 1 (.slice a' (n + str.size) c') (n + str.size) (xs++Lib.strCells str)→w.grownBy w' v.ownBlock→(∀b,(Value.slice a' (n + str.size) c').ownBlock=some b→v.ownBlock=some b∨w.heap.size≤b)→wpList P ops Q rest (a.put o.dst (.slice a' (n + str.size) c')) w'):wpList P ops Q (o :: rest) a w:=by
 refine wpList_plain hgd fun K hK=>?_
 obtain⟨a',c',w',hr,h2,h3,h4⟩:=q7d (P:=P) (w:=w) base t u o.type e i ht hu hi hz hsize hby v n xs hown str h63 hbytes hbase;unfold Oper.wp execOp;simp only[ho,resolve,invoke,builtin,Sem.run_bind,Sem.run_pure,Result.andThen_ok,List.map_toArray,List.map_cons,List.map_nil,hs,hx,hr];exact hK _ _ (h a' c' w' h2 h3 h4)
end
structure Pst where
 bs:List UInt8
 n:Nat
 full:Bool
structure q2h (w:World)(P:Nat)(v:Value)(s:Pst):Prop where
 box:∃p,(p=.pointer none∨p=.pointer (some ⟨P,0,none⟩))∧w.heap[P]?=some (.cells #[p,v,.int .i64 s.n,.bool s.full] 139 (0,0))
 own:w.ownsRow (P + 1) 5 1 v s.bs.length (s.bs.map q0w)
 nil:s.bs=[]→v=.slice none 0 0
 len:s.bs.length≤65536
 num:s.n≤16384
structure Pg (P:Nat)(w:World)(v:Value)(w':World)(v':Value):Prop where
 ch:M.Ch (fun g=>g=P∨v.ownBlock=some g) w w'
 loc:∀g,v'.ownBlock=some g→v.ownBlock=some g∨w.heap.size≤g
theorem Pg.refl (P:Nat)(w:World)(v:Value):Pg P w v w v:=⟨M.Ch.refl _ _,fun _ e=>.inl e⟩
theorem Pg.trans {P:Nat}{a b c:World}{u v x:Value}(h:Pg P a u b v)(k:Pg P b v c x):Pg P a u c x :=
 ⟨⟨k.ch.os.trans h.ch.os,k.ch.tape.trans h.ch.tape,k.ch.output.trans h.ch.output,nLt h.ch.size k.ch.size,fun g hg hx=>(k.ch.block g (Nat.lt_of_lt_of_le hg h.ch.size) fun e=>e.elim (fun e=>hx (.inl e)) fun e=>(h.loc g e).elim (fun e=>hx (.inr e)) fun e=>by omega).trans (h.ch.block g hg hx)⟩,
  fun g e=>(k.loc g e).elim (h.loc g) fun e=>.inr (nLt h.ch.size e)⟩
theorem Pg.of_below {P:Nat}{a b:World}{v:Value}(h:Below a.heap.size a b):Pg P a v b v:=⟨M.Ch.oB h,fun _ e=>.inl e⟩
theorem q2h.down {w w':World}{P:Nat}{v:Value}{s:Pst}(h:q2h w P v s)(hb:Below w.heap.size w w'):q2h w' P v s:=by
 obtain⟨p,hp,hk⟩:=h.box;exact⟨⟨p,hp,(hb.block P (aIx hk)).trans hk⟩,M.qh h.own (M.Ch.oB (X:=fun _=>False) hb) (fun _ _ e=>e),h.nil,h.len,h.num⟩
theorem q2h.lt {w:World}{P:Nat}{v:Value}{s:Pst}(h:q2h w P v s):P < w.heap.size:=by
 obtain⟨p,hp,hk⟩:=h.box;exact (aIx hk)
theorem q2h.ge {w:World}{P:Nat}{v:Value}{s:Pst}(h:q2h w P v s):∀g,v.ownBlock=some g→P < g:=fun g e=>M.zf h.own g e
theorem Pg.below {P N:Nat}{a b:World}{u v:Value}{s:Pst}(h:Pg P a u b v)(hp:q2h a P u s)(hN:N≤P):Below N a b :=
 h.ch.below (by have:=hp.lt;omega) fun g e=>e.elim (fun e=>by omega) fun e=>by have:=hp.ge g e;omega
theorem qcz (w:World)(P:Nat)(v:Value)(n:Int)(f:Bool)(p:Value)(hp:p=.pointer none∨p=.pointer (some ⟨P,0,none⟩))(hk:w.heap[P]?=some (.cells #[p,v,.int .i64 n,.bool f] 139 (0,0))) :
  Calls Tryz.prog 147 #[.pointer (some ⟨P,0,none⟩)] w fun e w'=>e=.returned (.tuple #[])∧w'.heap[P]?=some (.cells #[.pointer (some ⟨P,0,none⟩),v,.int .i64 n,.bool f] 139 (0,0))∧M.Ch (fun g=>g=P) w w':=by
 obtain⟨j,hj,hjs⟩:∃j,Tryz.prog.info? 137=some j∧j.size=2:=Option.map_eq_some_iff.1 (show (Tryz.prog.info? 137).map (·.size)=some 2 by kernel_rfl);have h0:w.cell? ⟨P,0,none⟩=some p:=M.qc hk 0;have hfz:w.frozen? ⟨P,0,none⟩=false:=by simp[World.frozen?,hk]
 have hsh:w.shape? P=some (139,4):=by simp[World.shape?,hk]
 have HK:=hid hk;clear hk;rcases hp with rfl | rfl
 ·go_enter Tryz.func147,Tryz.ntmps147
  go_wp2
  rw[Lib.run_to_unsafe _ ⟨P,0,none⟩ Tryz.underlying135 Tryz.underlying255 hj (by rw[hjs];decide) hsh (by show 0 < 4;omega)];simp only[Result.andThen];rw[Oper.upon_value]
  go_wp2
  rw[run_callFunc_extern Tryz.func207 (by kernel_rfl) (by kernel_rfl) (by kernel_rfl) (e:=Extern.AbiNoEscape.same) (by kernel_rfl)];rw[Lib.run_noEscape];simp only[Result.andThen];rw[Oper.upon_value]
  go_wp2
  rw[Lib.run_from_unsafe _ ⟨P,0,none⟩ Tryz.underlying255 Tryz.underlying135 hj hsh (by kernel_rfl)];simp only[Result.andThen];rw[Oper.upon_value]
  go_wp2
  go_end0
  exact⟨rfl,M.qj HK.out,M.jc _ _ _ _⟩
 ·go_enter Tryz.func147,Tryz.ntmps147
  go_wp2
  rw[Lib.run_neq_ptr_same _ _ Tryz.underlying135 hj]
  go_wp2
  go_end0
  exact⟨rfl,HK.out,M.Ch.refl _ _⟩
theorem qoj (w:World)(P:Nat)(v:Value)(s:Pst)(h:q2h w P v s):Calls Tryz.prog 184 #[.pointer (some ⟨P,0,none⟩)] w fun e w'=>e=.returned (.int .i64 s.bs.length)∧w'=w:=by
 obtain⟨p,_,hk⟩:=h.box;obtain⟨a,c,rfl,hc,_⟩:=M.xq h.own;have h1:w.cell? ⟨P,1,none⟩=some (.slice a s.bs.length c):=M.qc hk 1;clear h hk;go_enter Tryz.func184,Tryz.ntmps184
 go_wp2
 go_ret
 exact⟨rfl,rfl⟩
theorem Pg.qka {P:Nat}{w w1 w2:World}{v v':Value}(h1:M.Ch (fun g=>g=P) w w1)(h2:w1.grownBy w2 v.ownBlock)(h3:∀b,v'.ownBlock=some b→v.ownBlock=some b∨w1.heap.size≤b)(u:Value):Pg P w v (w2.setCell ⟨P,1,none⟩ u) v' :=
 ⟨((h1.mono fun _ e=>.inl e).trans ((M.Ch.jw h2).mono fun _ e=>.inr e)).trans ((M.jc w2 P 1 u).mono fun _ e=>.inl e),fun g e=>(h3 g e).elim .inl fun e=>.inr (nLt h1.size e)⟩
theorem qht (w:World)(P:Nat)(v p:Value)(n:Int)(f:Bool)(bs:List UInt8)(word:ByteArray)(hp:p=.pointer none∨p=.pointer (some ⟨P,0,none⟩))(hk:w.heap[P]?=some (.cells #[p,v,.int .i64 n,.bool f] 139 (0,0)))(hown:w.ownsRow (P + 1) 5 1 v bs.length (bs.map q0w))(hlen:bs.length + word.size≤1099511627776) :
  Calls Tryz.prog 94 #[.pointer (some ⟨P,0,none⟩),.string word] w fun e w'=>e=.returned (.tuple #[.int .i64 word.size,.nilIface])∧∃v',w'.heap[P]?=some (.cells #[.pointer (some ⟨P,0,none⟩),v',.int .i64 n,.bool f] 139 (0,0))∧w'.ownsRow (P + 1) 5 1 v' (bs++word.data.toList).length ((bs++word.data.toList).map q0w)∧Pg P w v w' v':=by
 obtain⟨i0,hi0,hz0,hz1,hz3⟩:=info_parts qk9;obtain⟨m,hm⟩:=eXb bs.length;rw[hm] at hown hlen;obtain⟨a,c,rfl,hc,_⟩:=M.xq hown;have CC:Hid _:=qcz w P (.slice a m c) n f p hp hk;have HO:=hid hown;have HP:Hid (P < w.heap.size):=(aIx hk);have HM:=hid hm;clear hp hk hown hm;go_enter Tryz.func94,Tryz.ntmps94;go_wp2_with fail;refine cMo CC.out ?_;rintro e w1 ⟨rfl,hk1,hc1⟩;have HO1:Hid (w1.ownsRow (P + 1) 5 1 (.slice a m c) m (bs.map q0w)):=M.qh HO.out hc1 fun g e hx=>by have h1:=M.zf HO.out g e;omega
 have C1:=hid hc1;have c1:w1.cell? ⟨P,1,none⟩=some (.slice a m c):=M.qc hk1 1;have HK1:=hid hk1;clear hk1 hc1 CC HO
 go_wp2_with (at_builtin;refine q4y (w:=w1) rfl _ _ _ _ rfl (P + 1) 5 i0 Tryz.underlying133 Tryz.underlying9 hi0 hz0 hz1 hz3 _ m (bs.map q0w) (by rfl) (by exact HO1.out) word (by rfl) (by unfold maxLen;omega) (by omega) (by have h1:=C1.out.size;have h2:=HP.out;omega) ?_;intro a2 c2 w2 ho2 hg2 hl2;have HO2:=hid ho2;have HG2:=hid hg2;have HL2:=hid hl2;clear ho2 hg2 hl2;have HK2:Hid (w2.heap[P]?=some (.cells #[.pointer (some ⟨P,0,none⟩),.slice a m c,.int .i64 n,.bool f] 139 (0,0))):=(HG2.out.block P (by have h1:=C1.out.size;have h2:=HP.out;omega) (fun e=>by have h1:=M.zf HO1.out P e.symm;omega)).trans HK1.out;have c2':w2.cell? ⟨P,1,none⟩=some (.slice a m c):=M.qc HK2.out 1;have f2':w2.frozen? ⟨P,1,none⟩=false:=by simp[World.frozen?,HK2.out])
 go_ret2
 refine⟨rfl,.slice a2 (m + word.size) c2,M.qj HK2.out,?_,Pg.qka C1.out HG2.out HL2.out _⟩;rw[lAp,HM.out,q4h,List.map_append];exact M.qh HO2.out (M.jc w2 P 1 _) fun g e hx=>by have h1:=M.zf HO2.out g e;omega
theorem qle (w:World)(P:Nat)(v p:Value)(n:Int)(f:Bool)(bs:List UInt8)(ch:UInt8)(ci:Int)(hci:(ch.toNat:Int)=ci)(hp:p=.pointer none∨p=.pointer (some ⟨P,0,none⟩))(hk:w.heap[P]?=some (.cells #[p,v,.int .i64 n,.bool f] 139 (0,0)))(hown:w.ownsRow (P + 1) 5 1 v bs.length (bs.map q0w))(hlen:bs.length≤1099511627776) :
  Calls Tryz.prog 93 #[.pointer (some ⟨P,0,none⟩),.int .u8 ci] w fun e w'=>e=.returned .nilIface∧∃v',w'.heap[P]?=some (.cells #[.pointer (some ⟨P,0,none⟩),v',.int .i64 n,.bool f] 139 (0,0))∧w'.ownsRow (P + 1) 5 1 v' (bs++[ch]).length ((bs++[ch]).map q0w)∧Pg P w v w' v':=by
 obtain⟨i0,hi0,hz0,hz1,hz3⟩:=info_parts qk9;obtain⟨m,hm⟩:=eXb bs.length;rw[hm] at hown hlen;obtain⟨a,c,rfl,hc,_⟩:=M.xq hown;have CC:Hid _:=qcz w P (.slice a m c) n f p hp hk;have HO:=hid hown;have HP:Hid (P < w.heap.size):=(aIx hk);have HM:=hid hm;have HCI:=hid hci;clear hp hk hown hm hci;go_enter Tryz.func93,Tryz.ntmps93;go_wp2_with fail;refine cMo CC.out ?_;rintro e w1 ⟨rfl,hk1,hc1⟩;have HO1:Hid (w1.ownsRow (P + 1) 5 1 (.slice a m c) m (bs.map q0w)):=M.qh HO.out hc1 fun g e hx=>by have h1:=M.zf HO.out g e;omega
 have C1:=hid hc1;have c1:w1.cell? ⟨P,1,none⟩=some (.slice a m c):=M.qc hk1 1;have HK1:=hid hk1;clear hk1 hc1 CC HO
 go_wp2_with (at_builtin;refine wpList_append_lies (w:=w1.alloc (.cells #[.int .u8 ci] 5)) rfl _ _ _ rfl (P + 1) 5 i0 (.int .u8 0) 1 1 Tryz.underlying133 hi0 hz0 hz1 hz3 rfl (by decide) _ m (bs.map q0w) (by rfl) (by exact M.zk HO1.out _) ⟨w1.heap.size,0,none⟩ 1 1 [.int .u8 ci] (by rfl) (by rfl) (fun j' u hu=>World.news_of_block (cs:=#[.int .u8 ci]) (t:=5) (fr:=(0,0)) (heap_alloc_new w1 _) j' u hu) (by simp[Value.oneCell']) (by omega) (by unfold maxLen;omega) (by omega) (by have h1:=C1.out.size;have h2:=HP.out;simp;omega) _ rfl ?_;intro g2 c2 w2 ho2 hg2 hl2 _;have HO2:=hid ho2;have HG2:=hid hg2;have HL2:=hid hl2;clear ho2 hg2 hl2;have HK2:Hid (w2.heap[P]?=some (.cells #[.pointer (some ⟨P,0,none⟩),.slice a m c,.int .i64 n,.bool f] 139 (0,0))):=(HG2.out.block P (by have h1:=C1.out.size;have h2:=HP.out;simp;omega) (fun e=>by have h1:=M.zf HO1.out P e.symm;omega)).trans (((qg w1 _).block P (by have h1:=C1.out.size;have h2:=HP.out;omega)).trans HK1.out);have c2':w2.cell? ⟨P,1,none⟩=some (.slice a m c):=M.qc HK2.out 1;have f2':w2.frozen? ⟨P,1,none⟩=false:=by simp[World.frozen?,HK2.out])
 go_ret
 refine⟨rfl,.slice (some ⟨g2,0,none⟩) (m + 1) c2,M.qj HK2.out,?_,?_⟩
 ·rw[lAp,HM.out,List.map_append];have h3:w2.ownsRow (P + 1) 5 1 (.slice (some ⟨g2,0,none⟩) (m + 1) c2) (m + 1) (bs.map q0w++[ch].map q0w):=by
   have h:=HO2.out;rw[←HCI.out] at h;exact h
  exact M.qh h3 (M.jc w2 P 1 _) fun g e hx=>by have h1:=M.zf HO2.out g e;omega
 ·refine Pg.trans (Pg.of_below (P:=P) (Below.refl _ w)) ?_;have hc3:M.Ch (fun g=>g=P) w (w1.alloc (.cells #[.int .u8 ci] 5)):=C1.out.trans (M.Ch.oB (qg w1 _));exact Pg.qka hc3 HG2.out (M.q4k HL2.out) _
def qok (s:Pst)(x:ByteArray × UInt8):Pst:=if s.full=true∨s.n=16384∨65536≤s.bs.length + x.1.size then ⟨s.bs,s.n,true⟩ else ⟨s.bs++x.1.data.toList++[x.2],s.n + 1,false⟩
theorem q2h.fill {w:World}{P:Nat}{v:Value}{s:Pst}(h:q2h w P v s):q2h (w.setCell ⟨P,3,none⟩ (.bool true)) P v ⟨s.bs,s.n,true⟩:=by
 obtain⟨p,hp,hk⟩:=h.box;exact⟨⟨p,hp,M.qj hk⟩,M.qh h.own (M.jc w P 3 _) fun g e hx=>by have:=h.ge g e;omega,h.nil,h.len,h.num⟩
theorem Pg.set {P:Nat}{w:World}{v:Value}(o:Nat)(u:Value):Pg P w v (w.setCell ⟨P,o,none⟩ u) v:=⟨(M.jc w P o u).mono fun _ e=>.inl e,fun _ e=>.inl e⟩
theorem put_any (w:World)(P:Nat)(v:Value)(s:Pst)(word:ByteArray)(ch:UInt8)(ci:Int)(hci:(ch.toNat:Int)=ci)(h:q2h w P v s)(_:word.size≤1048576) :
  Calls Tryz.prog 133 #[.pointer (some ⟨P,0,none⟩),.string word,.int .u8 ci] w fun e w'=>e=.returned (.tuple #[])∧∃v',q2h w' P v' (qok s (word,ch))∧Pg P w v w' v':=by
 have LEN:Hid _:=qoj w P v s h;have FILL:Hid (q2h (w.setCell ⟨P,3,none⟩ (.bool true)) P v ⟨s.bs,s.n,true⟩):=h.fill;have HA:=hid h;obtain⟨p,hp,hk⟩:=h.box;have c2:w.cell? ⟨P,2,none⟩=some (.int .i64 s.n):=M.qc hk 2;have c3:w.cell? ⟨P,3,none⟩=some (.bool s.full):=M.qc hk 3;have f2:w.frozen? ⟨P,2,none⟩=false:=by simp[World.frozen?,hk]
 have f3:w.frozen? ⟨P,3,none⟩=false:=by simp[World.frozen?,hk]
 have hlen:=h.len;have hnum:=h.num;have HP:=hid hp;have HK:=hid hk;have HCI:=hid hci;clear h hp hk hci;obtain⟨bs,n,full⟩:=s;dsimp only at *;obtain⟨m,hm⟩:=eXb bs.length;rw[hm] at LEN hlen
 by_cases hn:n=16384
 ·subst hn;have k3:(w.setCell ⟨P,3,none⟩ (.bool true)).cell? ⟨P,3,none⟩=some (.bool true):=World.cell?_setCell_same _ _ _ c3;clear LEN;go_enter Tryz.func133,Tryz.ntmps133
  go_wp2
  try simp only[Exit.inBlock,Exit.then]
  refine bodyPost_ret (results_none rfl _ _ _) rfl ?_;refine⟨rfl,v,?_,Pg.set 3 _⟩;rw[show qok ⟨bs,16384,full⟩ (word,ch)=⟨bs,16384,true⟩ from if_pos (.inr (.inl rfl))];exact FILL.out
 ·have n1:((n:Int) == 16384)=false:=by simp;omega
  by_cases hb:65536≤m + word.size
  ·have n2:decide ((65536:Int) - (m:Int)≤(word.size:Int))=true:=by simp;omega
   have k3:(w.setCell ⟨P,3,none⟩ (.bool true)).cell? ⟨P,3,none⟩=some (.bool true):=World.cell?_setCell_same _ _ _ c3;go_enter Tryz.func133,Tryz.ntmps133;go_wp2_with fail;refine cMo LEN.out ?_;rintro e w1 ⟨rfl,hw1⟩;subst w1;clear LEN
   go_wp2
   try simp only[Exit.inBlock,Exit.then]
   refine bodyPost_ret (results_none rfl _ _ _) rfl ?_;refine⟨rfl,v,?_,Pg.set 3 _⟩;rw[show qok ⟨bs,n,full⟩ (word,ch)=⟨bs,n,true⟩ from if_pos (.inr (.inr (by show 65536≤bs.length + word.size;omega)))];exact FILL.out
  ·have n2:decide ((65536:Int) - (m:Int)≤(word.size:Int))=false:=by simp;omega
   cases full with
   | true =>
    go_enter Tryz.func133,Tryz.ntmps133;go_wp2_with fail;refine cMo LEN.out ?_;rintro e w1 ⟨rfl,hw1⟩;subst w1;clear LEN
    go_wp2
    try simp only[Exit.inBlock,Exit.then]
    refine bodyPost_ret (results_none rfl _ _ _) rfl ?_;refine⟨rfl,v,?_,Pg.refl _ _ _⟩;rw[show qok ⟨bs,n,true⟩ (word,ch)=⟨bs,n,true⟩ from if_pos (.inl rfl)];exact HA.out
   | false =>
    have HS:Hid (qok ⟨bs,n,false⟩ (word,ch)=⟨bs++word.data.toList++[ch],n + 1,false⟩):=if_neg (by simp;omega);have HO:Hid (w.ownsRow (P + 1) 5 1 v bs.length (bs.map q0w)):=HA.out.own;have HM:=hid hm;obtain⟨w1,hw1⟩:=eXa (w.setCell ⟨P,2,none⟩ (.int .i64 ((n:Int) + 1)));have HK1:Hid (w1.heap[P]?=some (.cells #[p,v,.int .i64 ((n:Int) + 1),.bool false] 139 (0,0))):=by rw[hw1];exact M.qj HK.out
    have HO1:Hid (w1.ownsRow (P + 1) 5 1 v bs.length (bs.map q0w)):=by rw[hw1];exact M.qh HO.out (M.jc w P 2 _) fun g e hx=>by have:=HA.out.ge g e;omega
    have G1:Hid (Pg P w v w1 v):=by rw[hw1];exact Pg.set 2 _
    have W1:Hid _:=qht w1 P v p ((n:Int) + 1) false bs word HP.out HK1.out HO1.out (by omega);clear hm;go_enter Tryz.func133,Tryz.ntmps133;go_wp2_with fail;refine cMo LEN.out ?_;rintro e wx ⟨rfl,hwx⟩;subst wx;clear LEN;go_wp2_with fail;rw[←hw1];clear hw1 c2 c3 f2 f3;refine cMo W1.out ?_;rintro e w2 ⟨rfl,v2,hk2,ho2,hg2⟩;have G2:Hid (Pg P w v w2 v2):=G1.out.trans hg2;have W2:Hid _:=qle w2 P v2 _ ((n:Int) + 1) false (bs++word.data.toList) ch ci HCI.out (.inr rfl) hk2 ho2 (by rw[lAp,q4h,HM.out];omega);clear W1 hk2 ho2 hg2;go_wp2_with fail;refine cMo W2.out ?_;rintro e w3 ⟨rfl,v3,hk3,ho3,hg3⟩;have G3:Hid (Pg P w v w3 v3):=G2.out.trans hg3;have A3:Hid (q2h w3 P v3 ⟨bs++word.data.toList++[ch],n + 1,false⟩):=⟨⟨_,.inr rfl,hk3⟩,ho3,fun h=>by simp at h,by show List.length _≤_;rw[lAp,lAp,q4h,HM.out];simp;omega,by show n + 1≤_;omega⟩;clear W2 hk3 ho3 hg3
    go_wp2
    go_end0
    exact⟨rfl,v3,by rw[HS.out];exact A3.out,G3.out⟩
structure Stm where
 kind:Int
 label:Tok
 key:Tok
 proving:Bool
 words:List Tok
 proof:List Tok
 fin:Tok
abbrev z4:List Value:=[.string ⟨#[]⟩,.int .i64 0,.int .i64 0,.int .i64 0]
def qhu (k:Int)(ky:Tok):Array Value:=#[.int .i64 k,.string ky.text,.int .i64 ky.off,.int .i64 ky.line,.int .i64 ky.col]
def q5s (k:Int)(lb ky:Tok)(wd:Value):Array Value:=#[.int .i64 k,.string lb.text,.int .i64 lb.off,.int .i64 lb.line,.int .i64 lb.col,.string ky.text,.int .i64 ky.off,.int .i64 ky.line,.int .i64 ky.col,wd,.string ⟨#[]⟩,.int .i64 0,.int .i64 0,.int .i64 0]
def qol (k:Int)(lb ky:Tok)(wd pf:Value):Array Value:=#[.int .i64 k,.string lb.text,.int .i64 lb.off,.int .i64 lb.line,.int .i64 lb.col,.string ky.text,.int .i64 ky.off,.int .i64 ky.line,.int .i64 ky.col,wd,.string ⟨#[]⟩,.int .i64 0,.int .i64 0,.int .i64 0,.bool false,pf]
def Holds (W:World)(N:Nat)(st:Value)(k:Int)(lb ky:Tok)(wd pf:Value):Prop:=∃g,N≤g∧g < W.heap.size ∧
 (((k=8∨k=9)∧st=.iface 204 (.pointer (some ⟨g,0,none⟩))∧W.heap[g]?=some (.cells (qhu k ky) 207 (0,0))) ∨
  (k=7∧st=.iface 197 (.pointer (some ⟨g,0,none⟩))∧W.heap[g]?=some (.cells (qol k lb ky wd pf) 201 (0,0))) ∨
  (k≠7∧k≠8∧k≠9∧st=.iface 202 (.pointer (some ⟨g,0,none⟩))∧W.heap[g]?=some (.cells (q5s k lb ky wd) 199 (0,0))))
theorem qlf (w:World)(k:Int)(lb ky:Tok) :
  Calls Tryz.prog 131 #[.int .i64 k,zo lb,zo ky] w fun e w'=>Below w.heap.size w w'∧∃st,e=.returned st∧Holds w' w.heap.size st k lb ky (.slice none 0 0) (.slice none 0 0):=by
 unfold zo;obtain⟨w1,hw1⟩:=eXa (w.alloc (.cells #[.string lb.text,.int .i64 lb.off,.int .i64 lb.line,.int .i64 lb.col] 36));obtain⟨w2,hw2⟩:=eXa (w1.alloc (.cells #[.string ky.text,.int .i64 ky.off,.int .i64 ky.line,.int .i64 ky.col] 36));obtain⟨w3,hw3⟩:=eXa (w2.alloc (.cells (q5s k lb ky (.slice none 0 0)) 199));have b1:Below w.heap.size w w1:=by rw[hw1];exact qg _ _
 have b2:Below w1.heap.size w1 w2:=by rw[hw2];exact qg _ _
 have b3:Below w2.heap.size w2 w3:=by rw[hw3];exact qg _ _
 have k1:w2.heap[w.heap.size]?=some (.cells #[.string lb.text,.int .i64 lb.off,.int .i64 lb.line,.int .i64 lb.col] 36 (0,0)):=(b2.block _ (by rw[hw1];simp)).trans (by rw[hw1];exact heap_alloc_new w _);have k2:w2.heap[w1.heap.size]?=some (.cells #[.string ky.text,.int .i64 ky.off,.int .i64 ky.line,.int .i64 ky.col] 36 (0,0)):=by rw[hw2];exact heap_alloc_new w1 _
 have l1:w1.heap.size < w2.heap.size:=(aIx k2);have k2':w3.heap[w1.heap.size]?=some (.cells #[.string ky.text,.int .i64 ky.off,.int .i64 ky.line,.int .i64 ky.col] 36 (0,0)):=(b3.block _ l1).trans k2;have k3:w3.heap[w2.heap.size]?=some (.cells (q5s k lb ky (.slice none 0 0)) 199 (0,0)):=by rw[hw3];exact heap_alloc_new w2 _
 have B3:Hid (Below w.heap.size w w3):=b1.trans ((b2.trans (b3.mono b2.size)).mono b1.size);have HK3:Hid (w3.heap[w2.heap.size]?=some (.cells (q5s k lb ky (.slice none 0 0)) 199 (0,0))):=k3;have HS:Hid (w.heap.size≤w2.heap.size):=nLt b1.size b2.size;have x0:w2.cell? ⟨w.heap.size,0,none⟩=some (.string lb.text):=M.qc k1 0;have x1:w2.cell? ⟨w.heap.size,1,none⟩=some (.int .i64 lb.off):=M.qc k1 1;have x2:w2.cell? ⟨w.heap.size,2,none⟩=some (.int .i64 lb.line):=M.qc k1 2;have x3:w2.cell? ⟨w.heap.size,3,none⟩=some (.int .i64 lb.col):=M.qc k1 3;have y0:w2.cell? ⟨w1.heap.size,0,none⟩=some (.string ky.text):=M.qc k2 0;have y1:w2.cell? ⟨w1.heap.size,1,none⟩=some (.int .i64 ky.off):=M.qc k2 1;have y2:w2.cell? ⟨w1.heap.size,2,none⟩=some (.int .i64 ky.line):=M.qc k2 2;have y3:w2.cell? ⟨w1.heap.size,3,none⟩=some (.int .i64 ky.col):=M.qc k2 3;have hs1:w1.heap.size=w.heap.size + 1:=by rw[hw1];simp
 have E1:=hid hs1.symm;clear hs1;clear b1 b2 b3 k1 k2 k3 l1;have H1:=hid hw1;have H2:=hid hw2;have H3:=hid hw3;clear hw1 hw2 hw3;go_enter Tryz.func131,Tryz.ntmps131;go_upto_region 1 with fail;rw[←H1.out,E1.out,←H2.out];clear H1 H2 E1;go_upto_region 2 with fail;rw[show w2.alloc (.cells #[.int .i64 k,.string lb.text,.int .i64 lb.off,.int .i64 lb.line,.int .i64 lb.col,.string ky.text,.int .i64 ky.off,.int .i64 ky.line,.int .i64 ky.col,.slice none 0 0,.string ⟨#[]⟩,.int .i64 0,.int .i64 0,.int .i64 0] 199)=w3 from H3.out.symm];have yz0:w3.cell? ⟨w1.heap.size,0,none⟩=some (.string ky.text):=M.qc k2' 0;have yz1:w3.cell? ⟨w1.heap.size,1,none⟩=some (.int .i64 ky.off):=M.qc k2' 1;have yz2:w3.cell? ⟨w1.heap.size,2,none⟩=some (.int .i64 ky.line):=M.qc k2' 2;have yz3:w3.cell? ⟨w1.heap.size,3,none⟩=some (.int .i64 ky.col):=M.qc k2' 3;clear H3 x0 x1 x2 x3 y0 y1 y2 y3 k2'
 by_cases h89:k=8∨k=9
 ·have HB:Hid (∀O,Below w.heap.size w (w3.alloc O)∧w.heap.size≤w3.heap.size∧w3.heap.size < (w3.alloc O).heap.size):=fun O=>⟨B3.out.alloc B3.out.size _,B3.out.size,by simp⟩
  rcases h89 with h8 | h9
  ·subst h8
   go_wp2
   go_ret
   exact⟨(HB.out _).1,_,rfl,_,B3.out.size,(HB.out _).2.2,.inl ⟨.inl rfl,rfl,heap_alloc_new w3 _⟩⟩
  ·subst h9
   go_wp2
   go_ret
   exact⟨(HB.out _).1,_,rfl,_,B3.out.size,(HB.out _).2.2,.inl ⟨.inr rfl,rfl,heap_alloc_new w3 _⟩⟩
 ·have e8:(k == 8)=false:=by simp;omega
  have e9:(k == 9)=false:=by simp;omega
  by_cases h7:k=7
  ·subst h7;have HB:Hid (∀O,Below w.heap.size w (w3.alloc O)∧w.heap.size≤w3.heap.size∧w3.heap.size < (w3.alloc O).heap.size):=fun O=>⟨B3.out.alloc B3.out.size _,B3.out.size,by simp⟩
   have c:∀i,w3.cell? ⟨w2.heap.size,i,none⟩=(q5s 7 lb ky (.slice none 0 0))[i]?:=fun i=>M.qc HK3.out i
   have c0:=c 0;have c1:=c 1;have c2:=c 2;have c3:=c 3;have c4:=c 4;have c5:=c 5;have c6:=c 6;have c7:=c 7;have c8:=c 8;have c9:=c 9;have c10:=c 10;have c11:=c 11;have c12:=c 12;have c13:=c 13;clear c;simp only[q5s] at c0 c1 c2 c3 c4 c5 c6 c7 c8 c9 c10 c11 c12 c13
   go_wp2
   go_ret
   exact⟨(HB.out _).1,_,rfl,_,B3.out.size,(HB.out _).2.2,.inr (.inl ⟨rfl,rfl,heap_alloc_new w3 _⟩)⟩
  ·have e7:(k == 7)=false:=by simp;omega
   go_wp2
   go_ret
   exact⟨B3.out,_,rfl,w2.heap.size,HS.out,(aIx HK3.out),.inr (.inr ⟨h7,fun e=>h89 (.inl e),fun e=>h89 (.inr e),rfl,HK3.out⟩)⟩
theorem q59 (W:World)(v:Value):(Instr.typeAssert (.iface 197 v) 141 197 true).run Tryz.prog W=.ok (.tuple #[v,.bool true]) W:=by kernel_rfl
theorem qlg (W:World)(v:Value):(Instr.typeAssert (.iface 197 v) 141 202 true).run Tryz.prog W=.ok (.tuple #[.pointer none,.bool false]) W:=by kernel_rfl
theorem q71 (W:World)(v:Value):(Instr.typeAssert (.iface 202 v) 141 197 true).run Tryz.prog W=.ok (.tuple #[.pointer none,.bool false]) W:=by kernel_rfl
theorem q8k (W:World)(v:Value):(Instr.typeAssert (.iface 202 v) 141 202 true).run Tryz.prog W=.ok (.tuple #[v,.bool true]) W:=by kernel_rfl
theorem qlh (W:World)(v:Value):(Instr.typeAssert (.iface 204 v) 141 197 true).run Tryz.prog W=.ok (.tuple #[.pointer none,.bool false]) W:=by kernel_rfl
theorem qli (W:World)(v:Value):(Instr.typeAssert (.iface 204 v) 141 202 true).run Tryz.prog W=.ok (.tuple #[.pointer none,.bool false]) W:=by kernel_rfl
def q4w (k:Int)(lb ky fn:Tok)(pr:Bool)(vw vp:Value):Array Value:=#[.int .i64 k,.string lb.text,.int .i64 lb.off,.int .i64 lb.line,.int .i64 lb.col,.string ky.text,.int .i64 ky.off,.int .i64 ky.line,.int .i64 ky.col,.bool pr,vw,vp,.string fn.text,.int .i64 fn.off,.int .i64 fn.line,.int .i64 fn.col]
theorem q2w (W:World)(b o:Nat)(v:Value)(vs:List Value):W.setCells b o (v :: vs)=(W.setCell ⟨b,o,none⟩ v).setCells b (o + 1) vs:=rfl
theorem q1f (b:Nat)(t:TypeId):∀(new pre olds:List Value) (W:World),W.heap[b]?=some (.cells (pre++olds).toArray t (0,0))→olds.length=new.length→(W.setCells b pre.length new).heap[b]?=some (.cells (pre++new).toArray t (0,0))
 | [],pre,olds,W,h,hl=>by
  have:olds=[]:=List.eq_nil_of_length_eq_zero hl
  subst this;exact h
 | v :: new,pre,[],W,h,hl=>by simp at hl
 | v :: new,pre,x :: xs,W,h,hl=>by
  rw[q2w];have h1:=M.qj (o:=pre.length) (v:=v) h;have e:(pre++x :: xs).toArray.setIfInBounds pre.length v=((pre++[v])++xs).toArray:=by simp
  rw[e] at h1;have:=q1f b t new (pre++[v]) xs _ h1 (by simpa using hl)
  simpa using this
theorem q4l (b:Nat):∀(new:List Value) (o:Nat) (W:World) (k:Nat),k≠b→(W.setCells b o new).heap[k]?=W.heap[k]?
 | [],_,_,_,_=>rfl
 | v :: new,o,W,k,h=>by
  rw[q2w,q4l b new (o + 1) _ k h];exact Below.heap_setCell W ⟨b,o,none⟩ v k h
theorem q3h {w:World}{N b:Nat}(hb:N≤b):∀(new:List Value) (o:Nat) (W:World),Below N w W→Below N w (W.setCells b o new)
 | [],_,_,h=>h
 | v :: new,o,W,h=>by
  rw[q2w];exact q3h hb new (o + 1) _ (h.setCell (p:=⟨b,o,none⟩) hb v)
theorem q3d {W:World}{b:Nat}{t:TypeId}{cs:Array Value}(h:W.heap[b]?=some (.cells cs t (0,0))):W.there b 0 cs.size:=fun j hj=>by
 rw[Nat.zero_add];refine⟨?_,?_⟩
 ·simp[World.cell?,h,hj]
 ·simp[World.frozen?,h]
theorem q8l (w:World)(R:Nat)(s:ByteArray)(h:w.cell? ⟨R,2,none⟩=some (.string s)) :
  Calls Tryz.prog 150 #[.pointer (some ⟨R,0,none⟩)] w fun e w'=>e=.returned (.bool (!s.toList.isEmpty))∧w'=w:=by
 go_enter Tryz.func150,Tryz.ntmps150
 go_wp2
 go_ret
 exact⟨rfl,rfl⟩
theorem qd0 (w:World)(g:Nat)(k:Int)(lb ky fn:Tok)(aw:Option Addr)(nw cw:Nat)(h:w.cell? ⟨g,0,none⟩=some (.int .i64 k)∧w.cell? ⟨g,1,none⟩=some (.string lb.text)∧w.cell? ⟨g,2,none⟩=some (.int .i64 lb.off)∧w.cell? ⟨g,3,none⟩=some (.int .i64 lb.line)∧w.cell? ⟨g,4,none⟩=some (.int .i64 lb.col)∧w.cell? ⟨g,5,none⟩=some (.string ky.text)∧w.cell? ⟨g,6,none⟩=some (.int .i64 ky.off)∧w.cell? ⟨g,7,none⟩=some (.int .i64 ky.line)∧w.cell? ⟨g,8,none⟩=some (.int .i64 ky.col)∧w.cell? ⟨g,9,none⟩=some (.slice aw nw cw)∧w.cell? ⟨g,10,none⟩=some (.string fn.text)∧w.cell? ⟨g,11,none⟩=some (.int .i64 fn.off)∧w.cell? ⟨g,12,none⟩=some (.int .i64 fn.line)∧w.cell? ⟨g,13,none⟩=some (.int .i64 fn.col)) :
  Calls Tryz.prog 337 #[.pointer (some ⟨g,0,none⟩)] w fun e w'=>e=.returned (.agg (q4w k lb ky fn false (.slice aw nw cw) (.slice none 0 0)))∧Below w.heap.size w w':=by
 have hg:g < w.heap.size:=bLt h.1;obtain⟨w1,hw1⟩:=eXa (w.alloc (.cells #[.int .i64 0,.string ⟨#[]⟩,.int .i64 0,.int .i64 0,.int .i64 0,.string ⟨#[]⟩,.int .i64 0,.int .i64 0,.int .i64 0,.bool false,.slice none 0 0,.slice none 0 0,.string ⟨#[]⟩,.int .i64 0,.int .i64 0,.int .i64 0] 95));have b1:Below w.heap.size w w1:=by rw[hw1];exact qg _ _
 have hk1:w1.drew.heap[w.heap.size]?=some (.cells #[.int .i64 0,.string ⟨#[]⟩,.int .i64 0,.int .i64 0,.int .i64 0,.string ⟨#[]⟩,.int .i64 0,.int .i64 0,.int .i64 0,.bool false,.slice none 0 0,.slice none 0 0,.string ⟨#[]⟩,.int .i64 0,.int .i64 0,.int .i64 0] 95 (0,0)):=by rw[hw1];exact heap_alloc_new w _
 obtain⟨B,hD⟩:=eXb w.heap.size;have CS:Hid (w1.drew.cell? ⟨g,0,none⟩=some (.int .i64 k)∧w1.drew.cell? ⟨g,1,none⟩=some (.string lb.text)∧w1.drew.cell? ⟨g,2,none⟩=some (.int .i64 lb.off)∧w1.drew.cell? ⟨g,3,none⟩=some (.int .i64 lb.line)∧w1.drew.cell? ⟨g,4,none⟩=some (.int .i64 lb.col)∧w1.drew.cell? ⟨g,5,none⟩=some (.string ky.text)∧w1.drew.cell? ⟨g,6,none⟩=some (.int .i64 ky.off)∧w1.drew.cell? ⟨g,7,none⟩=some (.int .i64 ky.line)∧w1.drew.cell? ⟨g,8,none⟩=some (.int .i64 ky.col)∧w1.drew.cell? ⟨g,9,none⟩=some (.slice aw nw cw)∧w1.drew.cell? ⟨g,10,none⟩=some (.string fn.text)∧w1.drew.cell? ⟨g,11,none⟩=some (.int .i64 fn.off)∧w1.drew.cell? ⟨g,12,none⟩=some (.int .i64 fn.line)∧w1.drew.cell? ⟨g,13,none⟩=some (.int .i64 fn.col)):=by
  have o:∀i,w1.drew.cell? ⟨g,i,none⟩=w.cell? ⟨g,i,none⟩:=fun i=>(below_drewN b1 1).cell (p:=⟨g,i,none⟩) hg
  have h':=h;simp only[←o] at h';exact h'
 rw[hD] at hk1 b1;have HG:Hid (g≠B):=by show g≠B;omega
 have HW1:=hid hw1.symm;have HB:=hid b1;have HK1:Hid (w1.drew.heap[B]?=some (.cells #[.int .i64 0,.string ⟨#[]⟩,.int .i64 0,.int .i64 0,.int .i64 0,.string ⟨#[]⟩,.int .i64 0,.int .i64 0,.int .i64 0,.bool false,.slice none 0 0,.slice none 0 0,.string ⟨#[]⟩,.int .i64 0,.int .i64 0,.int .i64 0] 95 (0,0))):=hk1;have HD:=hid hD;clear hw1 b1 hk1 hD h hg;go_enter Tryz.func337,Tryz.ntmps337;go_upto_region 1 with fail;rw[HW1.out,HD.out];clear HW1;refine wp_region_held_drew (S:=fun w'=>w'.cell? ⟨g,0,none⟩=some (.int .i64 k)∧w'.cell? ⟨g,1,none⟩=some (.string lb.text)∧w'.cell? ⟨g,2,none⟩=some (.int .i64 lb.off)∧w'.cell? ⟨g,3,none⟩=some (.int .i64 lb.line)∧w'.cell? ⟨g,4,none⟩=some (.int .i64 lb.col)∧w'.cell? ⟨g,5,none⟩=some (.string ky.text)∧w'.cell? ⟨g,6,none⟩=some (.int .i64 ky.off)∧w'.cell? ⟨g,7,none⟩=some (.int .i64 ky.line)∧w'.cell? ⟨g,8,none⟩=some (.int .i64 ky.col)∧w'.cell? ⟨g,9,none⟩=some (.slice aw nw cw)∧w'.cell? ⟨g,10,none⟩=some (.string fn.text)∧w'.cell? ⟨g,11,none⟩=some (.int .i64 fn.off)∧w'.cell? ⟨g,12,none⟩=some (.int .i64 fn.line)∧w'.cell? ⟨g,13,none⟩=some (.int .i64 fn.col)) (by kernel_rfl) ?_ (fun hZ=>?_)
 ·exact CS.out
 refine tkq 0 hZ ?_;refine tkq 1 hZ ?_;refine tkq 2 hZ ?_;refine tkq 3 hZ ?_;refine tkq 4 hZ ?_;refine tkq 5 hZ ?_;refine tkq 6 hZ ?_;refine tkq 7 hZ ?_;refine tkq 8 hZ ?_;refine tkq 9 hZ ?_;refine tkq 10 hZ ?_;refine tkq 11 hZ ?_;refine tkq 12 hZ ?_;refine tkq 13 hZ ?_;refine tkq 14 hZ ?_;refine tkq 15 hZ ?_;refine tkq 16 hZ ?_;refine tkq 17 hZ ?_;refine tkq 18 hZ ?_;refine tkq 19 hZ ?_;refine tkq 20 hZ ?_;refine rkq 21 fun K hK=>?_
 refine wp_store_mid 95 _ _ rfl B 0 #[.int .i64 k,.string lb.text,.int .i64 lb.off,.int .i64 lb.line,.int .i64 lb.col,.string ky.text,.int .i64 ky.off,.int .i64 ky.line,.int .i64 ky.col,.bool false,.slice aw nw cw,.slice none 0 0,.string fn.text,.int .i64 fn.off,.int .i64 fn.line,.int .i64 fn.col] rfl rfl (show w1.drew.there B 0 16 from q3d (cs:=#[.int .i64 0,.string ⟨#[]⟩,.int .i64 0,.int .i64 0,.int .i64 0,.string ⟨#[]⟩,.int .i64 0,.int .i64 0,.int .i64 0,.bool false,.slice none 0 0,.slice none 0 0,.string ⟨#[]⟩,.int .i64 0,.int .i64 0,.int .i64 0]) (t:=95) HK1.out) (by kernel_rfl) (by simp[Value.oneCell']) ?_;obtain⟨wz,hwz⟩:=eXa (w1.drew.setCells B 0 (#[.int .i64 k,.string lb.text,.int .i64 lb.off,.int .i64 lb.line,.int .i64 lb.col,.string ky.text,.int .i64 ky.off,.int .i64 ky.line,.int .i64 ky.col,.bool false,.slice aw nw cw,.slice none 0 0,.string fn.text,.int .i64 fn.off,.int .i64 fn.line,.int .i64 fn.col]:Array Value).toList);have KZ:Hid (wz.heap[B]?=some (.cells #[.int .i64 k,.string lb.text,.int .i64 lb.off,.int .i64 lb.line,.int .i64 lb.col,.string ky.text,.int .i64 ky.off,.int .i64 ky.line,.int .i64 ky.col,.bool false,.slice aw nw cw,.slice none 0 0,.string fn.text,.int .i64 fn.off,.int .i64 fn.line,.int .i64 fn.col] 95 (0,0))):=by show _=_;rw[hwz];exact q1f B 95 [.int .i64 k,.string lb.text,.int .i64 lb.off,.int .i64 lb.line,.int .i64 lb.col,.string ky.text,.int .i64 ky.off,.int .i64 ky.line,.int .i64 ky.col,.bool false,.slice aw nw cw,.slice none 0 0,.string fn.text,.int .i64 fn.off,.int .i64 fn.line,.int .i64 fn.col] [] [.int .i64 0,.string ⟨#[]⟩,.int .i64 0,.int .i64 0,.int .i64 0,.string ⟨#[]⟩,.int .i64 0,.int .i64 0,.int .i64 0,.bool false,.slice none 0 0,.slice none 0 0,.string ⟨#[]⟩,.int .i64 0,.int .i64 0,.int .i64 0] w1.drew HK1.out rfl
 have BZ:Hid (Below B w wz):=by show Below _ _ _;rw[hwz];exact q3h (Nat.le_refl _) _ _ _ (below_drewN HB.out 1)
 have CZ:Hid (wz.cell? ⟨g,0,none⟩=some (.int .i64 k)∧wz.cell? ⟨g,1,none⟩=some (.string lb.text)∧wz.cell? ⟨g,2,none⟩=some (.int .i64 lb.off)∧wz.cell? ⟨g,3,none⟩=some (.int .i64 lb.line)∧wz.cell? ⟨g,4,none⟩=some (.int .i64 lb.col)∧wz.cell? ⟨g,5,none⟩=some (.string ky.text)∧wz.cell? ⟨g,6,none⟩=some (.int .i64 ky.off)∧wz.cell? ⟨g,7,none⟩=some (.int .i64 ky.line)∧wz.cell? ⟨g,8,none⟩=some (.int .i64 ky.col)∧wz.cell? ⟨g,9,none⟩=some (.slice aw nw cw)∧wz.cell? ⟨g,10,none⟩=some (.string fn.text)∧wz.cell? ⟨g,11,none⟩=some (.int .i64 fn.off)∧wz.cell? ⟨g,12,none⟩=some (.int .i64 fn.line)∧wz.cell? ⟨g,13,none⟩=some (.int .i64 fn.col)):=by
  have o:∀i,wz.cell? ⟨g,i,none⟩=w1.drew.cell? ⟨g,i,none⟩:=fun i=>by rw[hwz];simp only[World.cell?,q4l B _ _ _ g HG.out]
  have h:=CS.out;simp only[←o] at h;exact h
 rw[←hwz];clear hwz;refine hK.out _ _ ?_ (fun hZ_21=>?_)
 ·exact CZ.out
 clear hK K
 try simp only[Act.put]
 refine wpAnyH_done (by kernel_rfl) ?_ _;go_wp2_with fail;refine bodyPost_ret (results_cell_row Tryz.results337 _ _ B 95 #[.int .i64 k,.string lb.text,.int .i64 lb.off,.int .i64 lb.line,.int .i64 lb.col,.string ky.text,.int .i64 ky.off,.int .i64 ky.line,.int .i64 ky.col,.bool false,.slice aw nw cw,.slice none 0 0,.string fn.text,.int .i64 fn.off,.int .i64 fn.line,.int .i64 fn.col] (0,0) _ rfl KZ.out Tryz.underlying95 rfl (by kernel_rfl)) rfl ?_;exact⟨rfl,by rw[HD.out];exact BZ.out⟩
theorem qlj (w:World)(g:Nat)(k:Int)(ky:Tok)(h:w.cell? ⟨g,0,none⟩=some (.int .i64 k)∧w.cell? ⟨g,1,none⟩=some (.string ky.text)∧w.cell? ⟨g,2,none⟩=some (.int .i64 ky.off)∧w.cell? ⟨g,3,none⟩=some (.int .i64 ky.line)∧w.cell? ⟨g,4,none⟩=some (.int .i64 ky.col)) :
  Calls Tryz.prog 338 #[.pointer (some ⟨g,0,none⟩)] w fun e w'=>e=.returned (.agg (q4w k ⟨⟨#[]⟩,0,0,0⟩ ky ky false (.slice none 0 0) (.slice none 0 0)))∧Below w.heap.size w w':=by
 have hg:g < w.heap.size:=bLt h.1;obtain⟨w1,hw1⟩:=eXa (w.alloc (.cells #[.int .i64 0,.string ⟨#[]⟩,.int .i64 0,.int .i64 0,.int .i64 0,.string ⟨#[]⟩,.int .i64 0,.int .i64 0,.int .i64 0,.bool false,.slice none 0 0,.slice none 0 0,.string ⟨#[]⟩,.int .i64 0,.int .i64 0,.int .i64 0] 95));have b1:Below w.heap.size w w1:=by rw[hw1];exact qg _ _
 have hk1:w1.drew.heap[w.heap.size]?=some (.cells #[.int .i64 0,.string ⟨#[]⟩,.int .i64 0,.int .i64 0,.int .i64 0,.string ⟨#[]⟩,.int .i64 0,.int .i64 0,.int .i64 0,.bool false,.slice none 0 0,.slice none 0 0,.string ⟨#[]⟩,.int .i64 0,.int .i64 0,.int .i64 0] 95 (0,0)):=by rw[hw1];exact heap_alloc_new w _
 obtain⟨B,hD⟩:=eXb w.heap.size;have CS:Hid (w1.drew.cell? ⟨g,0,none⟩=some (.int .i64 k)∧w1.drew.cell? ⟨g,1,none⟩=some (.string ky.text)∧w1.drew.cell? ⟨g,2,none⟩=some (.int .i64 ky.off)∧w1.drew.cell? ⟨g,3,none⟩=some (.int .i64 ky.line)∧w1.drew.cell? ⟨g,4,none⟩=some (.int .i64 ky.col)):=by
  have o:∀i,w1.drew.cell? ⟨g,i,none⟩=w.cell? ⟨g,i,none⟩:=fun i=>(below_drewN b1 1).cell (p:=⟨g,i,none⟩) hg
  have h':=h;simp only[←o] at h';exact h'
 rw[hD] at hk1 b1;have HG:Hid (g≠B):=by show g≠B;omega
 have HW1:=hid hw1.symm;have HB:=hid b1;have HK1:Hid (w1.drew.heap[B]?=some (.cells #[.int .i64 0,.string ⟨#[]⟩,.int .i64 0,.int .i64 0,.int .i64 0,.string ⟨#[]⟩,.int .i64 0,.int .i64 0,.int .i64 0,.bool false,.slice none 0 0,.slice none 0 0,.string ⟨#[]⟩,.int .i64 0,.int .i64 0,.int .i64 0] 95 (0,0))):=hk1;have HD:=hid hD;clear hw1 b1 hk1 hD h hg;go_enter Tryz.func338,Tryz.ntmps338;go_upto_region 1 with fail;rw[HW1.out,HD.out];clear HW1;refine wp_region_held_drew (S:=fun w'=>w'.cell? ⟨g,0,none⟩=some (.int .i64 k)∧w'.cell? ⟨g,1,none⟩=some (.string ky.text)∧w'.cell? ⟨g,2,none⟩=some (.int .i64 ky.off)∧w'.cell? ⟨g,3,none⟩=some (.int .i64 ky.line)∧w'.cell? ⟨g,4,none⟩=some (.int .i64 ky.col)) (by kernel_rfl) ?_ (fun hZ=>?_)
 ·exact CS.out
 refine tkq 0 hZ ?_;refine tkq 1 hZ ?_;refine tkq 2 hZ ?_;refine tkq 3 hZ ?_;refine tkq 4 hZ ?_;refine tkq 5 hZ ?_;refine tkq 6 hZ ?_;refine tkq 7 hZ ?_;refine tkq 8 hZ ?_;refine tkq 9 hZ ?_;refine tkq 10 hZ ?_;refine tkq 11 hZ ?_;refine tkq 12 hZ ?_;refine rkq 13 fun K hK=>?_
 refine wp_store_mid 95 _ _ rfl B 0 #[.int .i64 k,.string ⟨#[]⟩,.int .i64 0,.int .i64 0,.int .i64 0,.string ky.text,.int .i64 ky.off,.int .i64 ky.line,.int .i64 ky.col,.bool false,.slice none 0 0,.slice none 0 0,.string ky.text,.int .i64 ky.off,.int .i64 ky.line,.int .i64 ky.col] rfl rfl (show w1.drew.there B 0 16 from q3d (cs:=#[.int .i64 0,.string ⟨#[]⟩,.int .i64 0,.int .i64 0,.int .i64 0,.string ⟨#[]⟩,.int .i64 0,.int .i64 0,.int .i64 0,.bool false,.slice none 0 0,.slice none 0 0,.string ⟨#[]⟩,.int .i64 0,.int .i64 0,.int .i64 0]) (t:=95) HK1.out) (by kernel_rfl) (by simp[Value.oneCell']) ?_;obtain⟨wz,hwz⟩:=eXa (w1.drew.setCells B 0 (#[.int .i64 k,.string ⟨#[]⟩,.int .i64 0,.int .i64 0,.int .i64 0,.string ky.text,.int .i64 ky.off,.int .i64 ky.line,.int .i64 ky.col,.bool false,.slice none 0 0,.slice none 0 0,.string ky.text,.int .i64 ky.off,.int .i64 ky.line,.int .i64 ky.col]:Array Value).toList);have KZ:Hid (wz.heap[B]?=some (.cells #[.int .i64 k,.string ⟨#[]⟩,.int .i64 0,.int .i64 0,.int .i64 0,.string ky.text,.int .i64 ky.off,.int .i64 ky.line,.int .i64 ky.col,.bool false,.slice none 0 0,.slice none 0 0,.string ky.text,.int .i64 ky.off,.int .i64 ky.line,.int .i64 ky.col] 95 (0,0))):=by show _=_;rw[hwz];exact q1f B 95 [.int .i64 k,.string ⟨#[]⟩,.int .i64 0,.int .i64 0,.int .i64 0,.string ky.text,.int .i64 ky.off,.int .i64 ky.line,.int .i64 ky.col,.bool false,.slice none 0 0,.slice none 0 0,.string ky.text,.int .i64 ky.off,.int .i64 ky.line,.int .i64 ky.col] [] [.int .i64 0,.string ⟨#[]⟩,.int .i64 0,.int .i64 0,.int .i64 0,.string ⟨#[]⟩,.int .i64 0,.int .i64 0,.int .i64 0,.bool false,.slice none 0 0,.slice none 0 0,.string ⟨#[]⟩,.int .i64 0,.int .i64 0,.int .i64 0] w1.drew HK1.out rfl
 have BZ:Hid (Below B w wz):=by show Below _ _ _;rw[hwz];exact q3h (Nat.le_refl _) _ _ _ (below_drewN HB.out 1)
 have CZ:Hid (wz.cell? ⟨g,0,none⟩=some (.int .i64 k)∧wz.cell? ⟨g,1,none⟩=some (.string ky.text)∧wz.cell? ⟨g,2,none⟩=some (.int .i64 ky.off)∧wz.cell? ⟨g,3,none⟩=some (.int .i64 ky.line)∧wz.cell? ⟨g,4,none⟩=some (.int .i64 ky.col)):=by
  have o:∀i,wz.cell? ⟨g,i,none⟩=w1.drew.cell? ⟨g,i,none⟩:=fun i=>by rw[hwz];simp only[World.cell?,q4l B _ _ _ g HG.out]
  have h:=CS.out;simp only[←o] at h;exact h
 rw[←hwz];clear hwz;refine hK.out _ _ ?_ (fun hZ_13=>?_)
 ·exact CZ.out
 clear hK K
 try simp only[Act.put]
 refine wpAnyH_done (by kernel_rfl) ?_ _;go_wp2_with fail;refine bodyPost_ret (results_cell_row Tryz.results338 _ _ B 95 #[.int .i64 k,.string ⟨#[]⟩,.int .i64 0,.int .i64 0,.int .i64 0,.string ky.text,.int .i64 ky.off,.int .i64 ky.line,.int .i64 ky.col,.bool false,.slice none 0 0,.slice none 0 0,.string ky.text,.int .i64 ky.off,.int .i64 ky.line,.int .i64 ky.col] (0,0) _ rfl KZ.out Tryz.underlying95 rfl (by kernel_rfl)) rfl ?_;exact⟨rfl,by rw[HD.out];exact BZ.out⟩
theorem qlk (w:World)(g:Nat)(k:Int)(lb ky fn:Tok)(aw:Option Addr)(nw cw:Nat)(pr:Bool)(ap:Option Addr)(np cp:Nat)(h:w.cell? ⟨g,0,none⟩=some (.int .i64 k)∧w.cell? ⟨g,1,none⟩=some (.string lb.text)∧w.cell? ⟨g,2,none⟩=some (.int .i64 lb.off)∧w.cell? ⟨g,3,none⟩=some (.int .i64 lb.line)∧w.cell? ⟨g,4,none⟩=some (.int .i64 lb.col)∧w.cell? ⟨g,5,none⟩=some (.string ky.text)∧w.cell? ⟨g,6,none⟩=some (.int .i64 ky.off)∧w.cell? ⟨g,7,none⟩=some (.int .i64 ky.line)∧w.cell? ⟨g,8,none⟩=some (.int .i64 ky.col)∧w.cell? ⟨g,9,none⟩=some (.slice aw nw cw)∧w.cell? ⟨g,10,none⟩=some (.string fn.text)∧w.cell? ⟨g,11,none⟩=some (.int .i64 fn.off)∧w.cell? ⟨g,12,none⟩=some (.int .i64 fn.line)∧w.cell? ⟨g,13,none⟩=some (.int .i64 fn.col)∧w.cell? ⟨g,14,none⟩=some (.bool pr)∧w.cell? ⟨g,15,none⟩=some (.slice ap np cp)) :
  Calls Tryz.prog 336 #[.pointer (some ⟨g,0,none⟩)] w fun e w'=>e=.returned (.agg (q4w k lb ky fn pr (.slice aw nw cw) (.slice ap np cp)))∧Below w.heap.size w w':=by
 have hg:g < w.heap.size:=bLt h.1;obtain⟨w1,hw1⟩:=eXa (w.alloc (.cells #[.int .i64 0,.string ⟨#[]⟩,.int .i64 0,.int .i64 0,.int .i64 0,.string ⟨#[]⟩,.int .i64 0,.int .i64 0,.int .i64 0,.bool false,.slice none 0 0,.slice none 0 0,.string ⟨#[]⟩,.int .i64 0,.int .i64 0,.int .i64 0] 95));have b1:Below w.heap.size w w1:=by rw[hw1];exact qg _ _
 have hk1:w1.heap[w.heap.size]?=some (.cells #[.int .i64 0,.string ⟨#[]⟩,.int .i64 0,.int .i64 0,.int .i64 0,.string ⟨#[]⟩,.int .i64 0,.int .i64 0,.int .i64 0,.bool false,.slice none 0 0,.slice none 0 0,.string ⟨#[]⟩,.int .i64 0,.int .i64 0,.int .i64 0] 95 (0,0)):=by rw[hw1];exact heap_alloc_new w _
 obtain⟨B,hD⟩:=eXb w.heap.size;have CS:Hid (w1.cell? ⟨g,0,none⟩=some (.int .i64 k)∧w1.cell? ⟨g,1,none⟩=some (.string lb.text)∧w1.cell? ⟨g,2,none⟩=some (.int .i64 lb.off)∧w1.cell? ⟨g,3,none⟩=some (.int .i64 lb.line)∧w1.cell? ⟨g,4,none⟩=some (.int .i64 lb.col)∧w1.cell? ⟨g,5,none⟩=some (.string ky.text)∧w1.cell? ⟨g,6,none⟩=some (.int .i64 ky.off)∧w1.cell? ⟨g,7,none⟩=some (.int .i64 ky.line)∧w1.cell? ⟨g,8,none⟩=some (.int .i64 ky.col)∧w1.cell? ⟨g,9,none⟩=some (.slice aw nw cw)∧w1.cell? ⟨g,10,none⟩=some (.string fn.text)∧w1.cell? ⟨g,11,none⟩=some (.int .i64 fn.off)∧w1.cell? ⟨g,12,none⟩=some (.int .i64 fn.line)∧w1.cell? ⟨g,13,none⟩=some (.int .i64 fn.col)∧w1.cell? ⟨g,14,none⟩=some (.bool pr)∧w1.cell? ⟨g,15,none⟩=some (.slice ap np cp)):=by
  have o:∀i,w1.cell? ⟨g,i,none⟩=w.cell? ⟨g,i,none⟩:=fun i=>b1.cell (p:=⟨g,i,none⟩) hg
  have h':=h;simp only[←o] at h';exact h'
 have TC:Hid _:=qd0 w1 g k lb ky fn aw nw cw (by have h:=CS.out;exact⟨h.1,h.2.1,h.2.2.1,h.2.2.2.1,h.2.2.2.2.1,h.2.2.2.2.2.1,h.2.2.2.2.2.2.1,h.2.2.2.2.2.2.2.1,h.2.2.2.2.2.2.2.2.1,h.2.2.2.2.2.2.2.2.2.1,h.2.2.2.2.2.2.2.2.2.2.1,h.2.2.2.2.2.2.2.2.2.2.2.1,h.2.2.2.2.2.2.2.2.2.2.2.2.1,h.2.2.2.2.2.2.2.2.2.2.2.2.2.1⟩);rw[hD] at hk1 b1;have HG:Hid (g < w1.heap.size):=Nat.lt_of_lt_of_le hg b1.size;have HW1:=hid hw1.symm;have HB:=hid b1;have HK1:=hid hk1;have HD:=hid hD;clear hw1 b1 hk1 hD h hg;go_enter Tryz.func336,Tryz.ntmps336;go_upto_region 1 with fail;rw[HW1.out,HD.out];clear HW1;go_wp2_with fail;refine cMo TC.out ?_;rintro e w2 ⟨rfl,hb2⟩;unfold q4w;have HB2:=hid hb2;obtain⟨w3,hw3⟩:=eXa (w2.alloc (.cells #[.int .i64 k,.string lb.text,.int .i64 lb.off,.int .i64 lb.line,.int .i64 lb.col,.string ky.text,.int .i64 ky.off,.int .i64 ky.line,.int .i64 ky.col,.bool false,.slice aw nw cw,.slice none 0 0,.string fn.text,.int .i64 fn.off,.int .i64 fn.line,.int .i64 fn.col] 95));have b3:Below w1.heap.size w1 w3:=by rw[hw3];exact hb2.alloc hb2.size _
 have hk3:w3.heap[w2.heap.size]?=some (.cells #[.int .i64 k,.string lb.text,.int .i64 lb.off,.int .i64 lb.line,.int .i64 lb.col,.string ky.text,.int .i64 ky.off,.int .i64 ky.line,.int .i64 ky.col,.bool false,.slice aw nw cw,.slice none 0 0,.string fn.text,.int .i64 fn.off,.int .i64 fn.line,.int .i64 fn.col] 95 (0,0)):=by rw[hw3];exact heap_alloc_new w2 _
 have hs3:w1.heap.size≤w2.heap.size:=hb2.size;obtain⟨D,hD⟩:=eXb w2.heap.size;rw[hD] at hk3 hs3;have HB3:=hid b3;have HS3:=hid hs3;have Kw3:=hid hk3;have HW3:=hid hw3.symm;have HD3:=hid hD;clear hw3 b3 hk3 hD hs3 hb2 TC;go_upto_region 2 with fail;rw[HW3.out,HD3.out];clear HW3 HD3 HB2;have Cw4:Hid (M.Ch (fun b=>b=D) w3 w3.drew):=⟨rfl,rfl,rfl,Nat.le_refl _,fun _ _ _=>rfl⟩;have BC:Hid (∀wx,M.Ch (fun b=>b=D) w3 wx→wx.cell? ⟨g,14,none⟩=some (.bool pr)∧wx.cell? ⟨g,15,none⟩=some (.slice ap np cp)):=fun wx hx=>by
  have o:∀i,wx.cell? ⟨g,i,none⟩=w1.cell? ⟨g,i,none⟩:=fun i=>by
   have h1:=hx.block g (Nat.lt_of_lt_of_le HG.out HB3.out.size) (by have:=HG.out;have:=HS3.out;omega);have h2:=HB3.out.cell (p:=⟨g,i,none⟩) HG.out;rw[←h2];simp only[World.cell?,h1]
  rw[o,o];exact CS.out.2.2.2.2.2.2.2.2.2.2.2.2.2.2
 refine wp_region_held_drew (S:=fun w'=>w'.cell? ⟨g,14,none⟩=some (.bool pr)∧w'.cell? ⟨g,15,none⟩=some (.slice ap np cp)) (by kernel_rfl) ?_ (fun hZ=>?_)
 ·exact BC.out _ Cw4.out
 obtain⟨w4,hw4⟩:=eXa w3.drew;have Kw4:Hid (w4.heap[D]?=some (.cells #[.int .i64 k,.string lb.text,.int .i64 lb.off,.int .i64 lb.line,.int .i64 lb.col,.string ky.text,.int .i64 ky.off,.int .i64 ky.line,.int .i64 ky.col,.bool false,.slice aw nw cw,.slice none 0 0,.string fn.text,.int .i64 fn.off,.int .i64 fn.line,.int .i64 fn.col] 95 (0,0))):=by show _=_;rw[hw4];exact Kw3.out
 rw[←hw4] at Cw4 hZ;rw[←hw4];clear hw4 Kw3;refine tkq 0 hZ ?_;refine tkq 1 hZ ?_;refine tkq 2 hZ ?_;refine tkq 3 hZ ?_;refine tkq 4 hZ ?_;refine tkq 5 hZ ?_;refine tkq 6 hZ ?_;refine tkq 7 hZ ?_;refine tkq 8 hZ ?_;refine rkq 9 fun K hK=>?_
 obtain⟨w5,hw5⟩:=eXa (w4.setCell ⟨D,9,none⟩ (.bool pr));have Kw5:Hid (w5.heap[D]?=some (.cells #[.int .i64 k,.string lb.text,.int .i64 lb.off,.int .i64 lb.line,.int .i64 lb.col,.string ky.text,.int .i64 ky.off,.int .i64 ky.line,.int .i64 ky.col,.bool pr,.slice aw nw cw,.slice none 0 0,.string fn.text,.int .i64 fn.off,.int .i64 fn.line,.int .i64 fn.col] 95 (0,0))):=by show _=_;rw[hw5];exact M.qj Kw4.out
 have Cw5:Hid (M.Ch (fun b=>b=D) w3 w5):=by show M.Ch _ _ _;rw[hw5];exact Cw4.out.trans (M.jc _ _ _ _)
 have gc:w4.cell? ⟨D,9,none⟩=some (.bool false):=M.qc Kw4.out 9;have gf:w4.frozen? ⟨D,9,none⟩=false:=by simp[World.frozen?,Kw4.out]
 go_simp;rw[←hw5];clear hw5 gc gf;refine aQq hK ?_ fun hZ_9=>?_
 ·exact BC.out _ Cw5.out
 clear hK K;refine tkq 10 hZ_9 ?_;refine rkq 11 fun K hK=>?_
 obtain⟨w6,hw6⟩:=eXa (w5.setCell ⟨D,11,none⟩ (.slice ap np cp));have Kw6:Hid (w6.heap[D]?=some (.cells #[.int .i64 k,.string lb.text,.int .i64 lb.off,.int .i64 lb.line,.int .i64 lb.col,.string ky.text,.int .i64 ky.off,.int .i64 ky.line,.int .i64 ky.col,.bool pr,.slice aw nw cw,.slice ap np cp,.string fn.text,.int .i64 fn.off,.int .i64 fn.line,.int .i64 fn.col] 95 (0,0))):=by show _=_;rw[hw6];exact M.qj Kw5.out
 have Cw6:Hid (M.Ch (fun b=>b=D) w3 w6):=by show M.Ch _ _ _;rw[hw6];exact Cw5.out.trans (M.jc _ _ _ _)
 have gc:w5.cell? ⟨D,11,none⟩=some (.slice none 0 0):=M.qc Kw5.out 11;have gf:w5.frozen? ⟨D,11,none⟩=false:=by simp[World.frozen?,Kw5.out]
 go_simp;rw[←hw6];clear hw6 gc gf;refine aQq hK ?_ fun hZ_11=>?_
 ·exact BC.out _ Cw6.out
 clear hK K;refine wpAnyH_done (by kernel_rfl) ?_ _;go_upto_region 3 with fail;have hBl:B < w1.heap.size:=(aIx HK1.out);have KB6:Hid (w6.heap[B]?=some (.cells #[.int .i64 0,.string ⟨#[]⟩,.int .i64 0,.int .i64 0,.int .i64 0,.string ⟨#[]⟩,.int .i64 0,.int .i64 0,.int .i64 0,.bool false,.slice none 0 0,.slice none 0 0,.string ⟨#[]⟩,.int .i64 0,.int .i64 0,.int .i64 0] 95 (0,0))):=by
  have h1:=Cw6.out.block B (Nat.lt_of_lt_of_le hBl HB3.out.size) (by have:=HS3.out;omega);exact h1.trans ((HB3.out.block B hBl).trans HK1.out)
 have BD6:Hid (Below B w w6):=HB.out.trans ((HB3.out.trans (Cw6.out.below HB3.out.size fun b e=>by have:=HS3.out;omega)).mono (by omega));clear hZ_9 hZ_11 Kw4 Kw5 Cw4 Cw5 Cw6 BC;refine wp_region_list ?_;refine wpList_load_row rfl 95 _ rfl D rfl 95 #[.int .i64 k,.string lb.text,.int .i64 lb.off,.int .i64 lb.line,.int .i64 lb.col,.string ky.text,.int .i64 ky.off,.int .i64 ky.line,.int .i64 ky.col,.bool pr,.slice aw nw cw,.slice ap np cp,.string fn.text,.int .i64 fn.off,.int .i64 fn.line,.int .i64 fn.col] (0,0) _ Kw6.out Tryz.underlying95 rfl (by kernel_rfl) ?_;refine wpList_store_mid rfl 95 _ _ rfl B 0 #[.int .i64 k,.string lb.text,.int .i64 lb.off,.int .i64 lb.line,.int .i64 lb.col,.string ky.text,.int .i64 ky.off,.int .i64 ky.line,.int .i64 ky.col,.bool pr,.slice aw nw cw,.slice ap np cp,.string fn.text,.int .i64 fn.off,.int .i64 fn.line,.int .i64 fn.col] rfl rfl (show w6.there B 0 16 from q3d (cs:=#[.int .i64 0,.string ⟨#[]⟩,.int .i64 0,.int .i64 0,.int .i64 0,.string ⟨#[]⟩,.int .i64 0,.int .i64 0,.int .i64 0,.bool false,.slice none 0 0,.slice none 0 0,.string ⟨#[]⟩,.int .i64 0,.int .i64 0,.int .i64 0]) (t:=95) KB6.out) (by kernel_rfl) (by simp[Value.oneCell']) ?_;obtain⟨wz,hwz⟩:=eXa (w6.setCells B 0 (#[.int .i64 k,.string lb.text,.int .i64 lb.off,.int .i64 lb.line,.int .i64 lb.col,.string ky.text,.int .i64 ky.off,.int .i64 ky.line,.int .i64 ky.col,.bool pr,.slice aw nw cw,.slice ap np cp,.string fn.text,.int .i64 fn.off,.int .i64 fn.line,.int .i64 fn.col]:Array Value).toList);have KZ:Hid (wz.heap[B]?=some (.cells #[.int .i64 k,.string lb.text,.int .i64 lb.off,.int .i64 lb.line,.int .i64 lb.col,.string ky.text,.int .i64 ky.off,.int .i64 ky.line,.int .i64 ky.col,.bool pr,.slice aw nw cw,.slice ap np cp,.string fn.text,.int .i64 fn.off,.int .i64 fn.line,.int .i64 fn.col] 95 (0,0))):=by show _=_;rw[hwz];exact q1f B 95 [.int .i64 k,.string lb.text,.int .i64 lb.off,.int .i64 lb.line,.int .i64 lb.col,.string ky.text,.int .i64 ky.off,.int .i64 ky.line,.int .i64 ky.col,.bool pr,.slice aw nw cw,.slice ap np cp,.string fn.text,.int .i64 fn.off,.int .i64 fn.line,.int .i64 fn.col] [] [.int .i64 0,.string ⟨#[]⟩,.int .i64 0,.int .i64 0,.int .i64 0,.string ⟨#[]⟩,.int .i64 0,.int .i64 0,.int .i64 0,.bool false,.slice none 0 0,.slice none 0 0,.string ⟨#[]⟩,.int .i64 0,.int .i64 0,.int .i64 0] w6 KB6.out rfl
 have BZ:Hid (Below B w wz):=by show Below _ _ _;rw[hwz];exact q3h (Nat.le_refl _) _ _ _ BD6.out
 rw[←hwz];clear hwz;go_wp2_with fail;refine bodyPost_ret (results_cell_row Tryz.results336 _ _ B 95 #[.int .i64 k,.string lb.text,.int .i64 lb.off,.int .i64 lb.line,.int .i64 lb.col,.string ky.text,.int .i64 ky.off,.int .i64 ky.line,.int .i64 ky.col,.bool pr,.slice aw nw cw,.slice ap np cp,.string fn.text,.int .i64 fn.off,.int .i64 fn.line,.int .i64 fn.col] (0,0) _ rfl KZ.out Tryz.underlying95 rfl (by kernel_rfl)) rfl ?_;exact⟨rfl,by rw[HD.out];exact BZ.out⟩
theorem q6b (b:Nat):∀(new:List Value) (o:Nat) (W:World),M.Ch (fun x=>x=b) W (W.setCells b o new)
 | [],_,W=>M.Ch.refl _ W
 | v :: new,o,W=>by
  rw[q2w];exact (M.jc W b o v).trans (q6b b new (o + 1) _)
def put4 (cs:Array Value)(o:Nat)(tk:Tok):Array Value:=(((cs.setIfInBounds o (.string tk.text)).setIfInBounds (o + 1) (.int .i64 tk.off)).setIfInBounds (o + 2) (.int .i64 tk.line)).setIfInBounds (o + 3) (.int .i64 tk.col)
theorem q8m {W:World}{b:Nat}{t:TypeId}{cs:Array Value}(h:W.heap[b]?=some (.cells cs t (0,0)))(o:Nat)(tk:Tok):(W.setCells b o [.string tk.text,.int .i64 tk.off,.int .i64 tk.line,.int .i64 tk.col]).heap[b]?=some (.cells (put4 cs o tk) t (0,0)):=by
 simp only[q2w];exact M.qj (M.qj (M.qj (M.qj h)))
theorem qhv (w:World) (g:Nat) (cs:Array Value) (t:TypeId) (k:Nat) (hk:k < 10) (aw:Option Addr) (nw cw:Nat) (tk:Tok)
  (hB:w.heap[g]?=some (.cells cs t (0,0))) (h0:cs[0]?=some (.int .i64 k)) (h9:cs[9]?=some (.slice aw nw cw)) (hs:14≤cs.size) (hS:gy w) :
  Calls Tryz.prog 268 #[.pointer (some ⟨g,0,none⟩),zo tk] w fun e w' =>
   e=.returned (.int .i64 (if (nw:Int) < q9z k then 62 else 0))∧M.Ch (fun b=>b=g) w w'∧w'.heap[g]?=some (.cells (if (nw:Int) < q9z k then cs else put4 cs 10 tk) t (0,0)):=by
 unfold zo;obtain⟨w1,hw1⟩:=eXa (w.alloc (.cells #[.string tk.text,.int .i64 tk.off,.int .i64 tk.line,.int .i64 tk.col] 36));have hb1:Below w.heap.size w w1:=by rw[hw1];exact qg _ _
 have hg:g < w.heap.size:=(aIx hB);have HB1:Hid (w1.heap[g]?=some (.cells cs t (0,0))):=(hb1.block g hg).trans hB;have HN1:Hid (w1.heap[w.heap.size]?=some (.cells #[.string tk.text,.int .i64 tk.off,.int .i64 tk.line,.int .i64 tk.col] 36 (0,0))):=by show _=_;rw[hw1];exact heap_alloc_new w _
 have HC1:Hid (M.Ch (fun b=>b=g) w w1):=M.Ch.oB hb1;obtain⟨_,_,l2,_⟩:=(hS.under hb1) k hk;have c0:w1.cell? ⟨g,0,none⟩=some (.int .i64 k):=(M.qc HB1.out 0).trans h0;have c9:w1.cell? ⟨g,9,none⟩=some (.slice aw nw cw):=(M.qc HB1.out 9).trans h9;have k0:(0:Int)≤(k:Int):=by omega
 have k1:(k:Int) < 10:=by omega
 obtain⟨L,hL⟩:=eXb (q9z k);rw[hL] at l2 ⊢;clear hL hS hb1 h0 h9;go_enter Tryz.func268,Tryz.ntmps268;go_upto_region 1 with fail;rw[←hw1];clear hw1
 go_quiet (fail)
 have HB2:Hid ((w1.drewN nq).heap[g]?=some (.cells cs t (0,0))):=HB1.out;have HN2:Hid ((w1.drewN nq).heap[w.heap.size]?=some (.cells #[.string tk.text,.int .i64 tk.off,.int .i64 tk.line,.int .i64 tk.col] 36 (0,0))):=HN1.out;have HC2:Hid (M.Ch (fun b=>b=g) w (w1.drewN nq)):=⟨HC1.out.os,HC1.out.tape,HC1.out.output,HC1.out.size,HC1.out.block⟩;clear HB1 HN1 HC1 c0 c9 l2;generalize w1.drewN nq=w2 at *
 by_cases hlt:(nw:Int) < L
 ·go_wp2
  go_ret
  exact⟨rfl,HC2.out,HB2.out⟩
 ·have x0:w2.cell? ⟨w.heap.size,0,none⟩=some (.string tk.text):=M.qc HN2.out 0;have x1:w2.cell? ⟨w.heap.size,1,none⟩=some (.int .i64 tk.off):=M.qc HN2.out 1;have x2:w2.cell? ⟨w.heap.size,2,none⟩=some (.int .i64 tk.line):=M.qc HN2.out 2;have x3:w2.cell? ⟨w.heap.size,3,none⟩=some (.int .i64 tk.col):=M.qc HN2.out 3;obtain⟨v0,v1,v2,v3,d0,d1,d2,d3⟩:∃v0 v1 v2 v3,w2.cell? ⟨g,10,none⟩=some v0∧w2.cell? ⟨g,11,none⟩=some v1∧w2.cell? ⟨g,12,none⟩=some v2∧w2.cell? ⟨g,13,none⟩=some v3 :=
   ⟨cs[10],cs[11],cs[12],cs[13],(M.qc HB2.out 10).trans (Array.getElem?_eq_getElem _),(M.qc HB2.out 11).trans (Array.getElem?_eq_getElem _),(M.qc HB2.out 12).trans (Array.getElem?_eq_getElem _),(M.qc HB2.out 13).trans (Array.getElem?_eq_getElem _)⟩
  have f:∀i,w2.frozen? ⟨g,i,none⟩=false:=fun i=>by simp[World.frozen?,HB2.out]
  have f0:=f 10;have f1:=f 11;have f2:=f 12;have f3:=f 13;clear f
  go_wp2
  go_ret
  exact⟨rfl,HC2.out.trans (q6b g [.string tk.text,.int .i64 tk.off,.int .i64 tk.line,.int .i64 tk.col] 10 w2),q8m HB2.out 10 tk⟩
def q2d (w w':World)(N g o:Nat)(cs:Array Value)(t:TypeId)(v:Value)(ts:List Tok)(tk:Tok):Prop :=
 ∃v',w'.ownsRow N 36 4 v' (ts.length + 1) (rowT (ts++[tk]))∧(∀b,v'.ownBlock=some b→v.ownBlock=some b∨w.heap.size≤b)∧M.Ch (fun b=>b=g∨v.ownBlock=some b) w w'∧w'.heap[g]?=some (.cells (cs.setIfInBounds o v') t (0,0))
theorem q2d.of {w w0 w1 w2:World} {N g o:Nat} {cs:Array Value} {t:TypeId} {v:Value} {ts:List Tok} {tk:Tok} {gg cap:Nat} (hB:w.heap[g]?=some (.cells cs t (0,0))) (h0:Below w.heap.size w w0) (hgr:w0.grownBy w1 v.ownBlock) (hat:v.ownBlock=some gg∨gg=w0.heap.size) (hvg:v.ownBlock≠some g)
  (ho:w1.ownsRow N 36 4 (.slice (some ⟨gg,0,none⟩) (ts.length + 1) cap) (ts.length + 1) (rowT ts++q06 tk)) (e2:w2=w1.setCell ⟨g,o,none⟩ (.slice (some ⟨gg,0,none⟩) (ts.length + 1) cap)):q2d w w2 N g o cs t v ts tk:=by
 have hg:g < w.heap.size:=(aIx hB);have hc0:M.Ch (fun b=>b=g∨v.ownBlock=some b) w w0:=M.Ch.oB h0;have hc1:M.Ch (fun b=>b=g∨v.ownBlock=some b) w0 w1:=(M.Ch.jw hgr).mono fun _ e=>.inr e
 have hc2:M.Ch (fun b=>b=g) w1 w2:=by rw[e2];exact M.jc _ _ _ _
 have hl:∀b,(Value.slice (some ⟨gg,0,none⟩) (ts.length + 1) cap).ownBlock=some b→v.ownBlock=some b∨w.heap.size≤b:=fun b e=>by
  rcases M.q4k hat b e with h | h
  ·exact .inl h
  ·exact .inr (nLt h0.size h)
 refine⟨_,?_,hl,(hc0.trans hc1).trans (hc2.mono fun _ e=>.inl e),?_⟩
 ·rw[qf1];refine M.qh (xs:=rowT ts++rowT [tk]) ?_ hc2 fun b e e2=>?_
  ·simpa [rowT] using ho
  ·subst e2;rcases hl _ e with h | h
   ·exact hvg h
   ·omega
 ·rw[e2];exact M.qj ((hgr.block g (Nat.lt_of_lt_of_le hg h0.size) (fun e=>hvg e.symm)).trans ((h0.block g hg).trans hB))
theorem add_any (w:World) (N g:Nat) (cs:Array Value) (t:TypeId) (k:Nat) (hk:k < 10) (aw:Option Addr) (nw cw:Nat) (tk:Tok) (ws:List Tok)
  (hB:w.heap[g]?=some (.cells cs t (0,0))) (h0:cs[0]?=some (.int .i64 k)) (h9:cs[9]?=some (.slice aw nw cw)) (hS:gy w) (hN:N≤w.heap.size) (hl:ws.length=nw) (hn:nw≤1048576)
  (hO:w.ownsRow N 36 4 (.slice aw nw cw) nw (rowT ws)) (hvg:(Value.slice aw nw cw).ownBlock≠some g) :
  Calls Tryz.prog 246 #[.pointer (some ⟨g,0,none⟩),zo tk] w fun e w' =>
   ((nw:Int)=qf2 k∧e=.returned (.int .i64 62)∧Below w.heap.size w w')∨((nw:Int)≠qf2 k∧e=.returned (.int .i64 0)∧q2d w w' N g 9 cs t (.slice aw nw cw) ws tk):=by
 unfold zo;obtain⟨ip,hip,ipz,ips,ipb⟩:=info_parts qk7;obtain⟨w1,hw1⟩:=eXa (w.alloc (.cells #[.string tk.text,.int .i64 tk.off,.int .i64 tk.line,.int .i64 tk.col] 36));have hb1:Below w.heap.size w w1:=by rw[hw1];exact qg _ _
 have hg:g < w.heap.size:=(aIx hB);have HB1:Hid (w1.heap[g]?=some (.cells cs t (0,0))):=(hb1.block g hg).trans hB;have HN1:Hid (w1.heap[w.heap.size]?=some (.cells #[.string tk.text,.int .i64 tk.off,.int .i64 tk.line,.int .i64 tk.col] 36 (0,0))):=by show _=_;rw[hw1];exact heap_alloc_new w _
 have HC1:=hid hb1;obtain⟨_,_,_,l3⟩:=(hS.under hb1) k hk;have c0:w1.cell? ⟨g,0,none⟩=some (.int .i64 k):=(M.qc HB1.out 0).trans h0;have c9:w1.cell? ⟨g,9,none⟩=some (.slice aw nw cw):=(M.qc HB1.out 9).trans h9;have k0:(0:Int)≤(k:Int):=by omega
 have k1:(k:Int) < 10:=by omega
 obtain⟨L,hL⟩:=eXb (qf2 k);have O1:Hid (w1.ownsRow N 36 4 (.slice aw nw cw) nw (rowT ws)):=M.qh hO (M.Ch.oB (X:=fun _=>False) hb1) fun _ _ e=>e
 have HB:=hid hB;have HV:=hid hvg;have HL:=hid hl;have H9:=hid h9;rw[hL] at l3 ⊢;clear hL hS hb1 h0 h9 hO hB hvg hl;go_enter Tryz.func246,Tryz.ntmps246;go_upto_region 1 with fail;rw[←hw1];clear hw1
 go_quiet (fail)
 have HB2:Hid ((w1.drewN nq).heap[g]?=some (.cells cs t (0,0))):=HB1.out;have HN2:Hid ((w1.drewN nq).heap[w.heap.size]?=some (.cells #[.string tk.text,.int .i64 tk.off,.int .i64 tk.line,.int .i64 tk.col] 36 (0,0))):=HN1.out;have HC2:Hid (Below w.heap.size w (w1.drewN nq)):=below_drewN HC1.out nq;have O2:Hid ((w1.drewN nq).ownsRow N 36 4 (.slice aw nw cw) nw (rowT ws)):=O1.out;clear HB1 HN1 HC1 c0 c9 l3 O1;generalize w1.drewN nq=w2 at *
 by_cases he:(nw:Int)=L
 ·have hb:((nw:Int) == L)=true:=by simpa using he
  go_wp2
  go_ret
  exact .inl ⟨he,rfl,HC2.out⟩
 ·have hb:((nw:Int) == L)=false:=by simpa using he
  have x0:w2.cell? ⟨w.heap.size,0,none⟩=some (.string tk.text):=M.qc HN2.out 0;have x1:w2.cell? ⟨w.heap.size,1,none⟩=some (.int .i64 tk.off):=M.qc HN2.out 1;have x2:w2.cell? ⟨w.heap.size,2,none⟩=some (.int .i64 tk.line):=M.qc HN2.out 2;have x3:w2.cell? ⟨w.heap.size,3,none⟩=some (.int .i64 tk.col):=M.qc HN2.out 3;have d9:w2.cell? ⟨g,9,none⟩=some (.slice aw nw cw):=(M.qc HB2.out 9).trans H9.out;have HE:=hid he;clear he;have hg2:g < w2.heap.size:=(aIx HB2.out);have HG2:=hid hg2;have HZ:Hid (w.heap.size≤w2.heap.size):=HC2.out.size;have hne1:g≠w2.heap.size:=by omega
  have hne2:w2.heap.size≠g:=by omega
  clear hg2;go_upto_region 3 with fail;have e9:(w2.alloc (.cells #[.string tk.text,.int .i64 tk.off,.int .i64 tk.line,.int .i64 tk.col] 36)).cell? ⟨g,9,none⟩=some (.slice aw nw cw):=(M.qc ((Below.heap_alloc _ _ g HG2.out).trans HB2.out) 9).trans H9.out
  go_region_law (refine step_append_lies _ (by rfl) _ _ _ (by rfl) N 36 ip _ 4 40 Tryz.underlying32 hip ipz ips ipb rfl (by omega) _ nw (rowT ws) (by rfl) (by exact (M.zk O2.out _)) ⟨w2.heap.size,0,none⟩ 1 1 (q06 tk) (by rfl) (by rfl) (World.news_of_block (cs:=#[.string tk.text,.int .i64 tk.off,.int .i64 tk.line,.int .i64 tk.col]) (t:=36) (fr:=(0,0)) (heap_alloc_new w2 _)) (by simp[q06,Value.oneCell']) (by omega) (by unfold maxLen;omega) (by omega) (by have:=HZ.out;simp;omega) _ rfl ?_;intro gg cap' w3 hown3 hgrow hat hlt3;have K3:Hid (w3.heap[g]?=some (.cells cs t (0,0))):=(hgrow.block g (by have:=HG2.out;simp;omega) (fun e=>HV.out e.symm)).trans ((Below.heap_alloc _ _ g HG2.out).trans HB2.out);have d9':w3.cell? ⟨g,9,none⟩=some (.slice aw nw cw):=(M.qc K3.out 9).trans H9.out;have f9':w3.frozen? ⟨g,9,none⟩=false:=(by simp[World.frozen?,K3.out]);have PO:Hid (q2d w (w3.setCell ⟨g,9,none⟩ (.slice (some ⟨gg,0,none⟩) (nw + 1) cap')) N g 9 cs t (.slice aw nw cw) ws tk):=(by have hl:=HL.out;subst hl;exact q2d.of HB.out (show Below w.heap.size w (w2.alloc (.cells #[.string tk.text,.int .i64 tk.off,.int .i64 tk.line,.int .i64 tk.col] 36)).drew from below_drewN (HC2.out.alloc HC2.out.size _) 1) hgrow hat HV.out hown3 rfl);clear hgrow hat hown3 hlt3)
  all_goals go_wp2
  all_goals go_ret
  all_goals exact .inr ⟨HE.out,rfl,PO.out⟩
def qe0 (w w':World)(N g:Nat)(cs:Array Value)(t:TypeId)(k:Nat)(v:Value)(ws:List Tok)(tk:Tok)(c:Int):Prop :=
 ((ws.length:Int)=qf2 k∧c=62∧Below w.heap.size w w')∨((ws.length:Int)≠qf2 k∧c=0∧q2d w w' N g 9 cs t v ws tk)
theorem q2d.from {w w0 w':World}{N g o:Nat}{cs:Array Value}{t:TypeId}{v:Value}{ts:List Tok}{tk:Tok}(h0:Below w.heap.size w w0)(h:q2d w0 w' N g o cs t v ts tk):q2d w w' N g o cs t v ts tk:=by
 obtain⟨v',h1,h2,h3,h4⟩:=h;exact⟨v',h1,fun b e=>(h2 b e).elim .inl fun e=>.inr (nLt h0.size e),(M.Ch.oB h0).trans h3,h4⟩
theorem qe0.from {w w0 w':World}{N g:Nat}{cs:Array Value}{t:TypeId}{k:Nat}{v:Value}{ws:List Tok}{tk:Tok}{c:Int}(h0:Below w.heap.size w w0)(h:qe0 w0 w' N g cs t k v ws tk c):qe0 w w' N g cs t k v ws tk c:=by
 rcases h with ⟨a,b,d⟩ | ⟨a,b,d⟩
 ·exact .inl ⟨a,b,h0.trans (d.mono h0.size)⟩
 ·exact .inr ⟨a,b,d.from h0⟩
theorem qkb (w:World) (N g:Nat) (cs:Array Value) (t:TypeId) (k:Nat) (hk:k < 10) (aw:Option Addr) (nw cw:Nat) (tk:Tok) (ws:List Tok)
  (hB:w.heap[g]?=some (.cells cs t (0,0))) (h0:cs[0]?=some (.int .i64 k)) (h9:cs[9]?=some (.slice aw nw cw)) (hS:gy w) (hN:N≤w.heap.size) (hl:ws.length=nw) (hn:nw≤1048576)
  (hO:w.ownsRow N 36 4 (.slice aw nw cw) nw (rowT ws)) (hvg:(Value.slice aw nw cw).ownBlock≠some g) :
  Calls Tryz.prog 246 #[.pointer (some ⟨g,0,none⟩),zo tk] w fun e w'=>∃c,e=.returned (.int .i64 c)∧qe0 w w' N g cs t k (.slice aw nw cw) ws tk c:=by
 refine cMo (add_any w N g cs t k hk aw nw cw tk ws hB h0 h9 hS hN hl hn hO hvg) ?_;subst hl;rintro e w' (⟨a,b,d⟩ | ⟨a,b,d⟩)
 ·exact⟨62,b,.inl ⟨a,rfl,d⟩⟩
 ·exact⟨0,b,.inr ⟨a,rfl,d⟩⟩
theorem qom (w:World) (N g:Nat) (cs:Array Value) (t:TypeId) (k:Nat) (hk:k < 10) (aw:Option Addr) (nw cw:Nat) (tk:Tok) (ws:List Tok)
  (hB:w.heap[g]?=some (.cells cs t (0,0))) (h0:cs[0]?=some (.int .i64 k)) (h9:cs[9]?=some (.slice aw nw cw)) (hS:gy w) (hN:N≤w.heap.size) (hl:ws.length=nw) (hn:nw≤1048576)
  (hO:w.ownsRow N 36 4 (.slice aw nw cw) nw (rowT ws)) (hvg:(Value.slice aw nw cw).ownBlock≠some g) :
  Calls Tryz.prog 208 #[.iface 202 (.pointer (some ⟨g,0,none⟩)),zo tk] w fun e w'=>∃c,e=.returned (.int .i64 c)∧qe0 w w' N g cs t k (.slice aw nw cw) ws tk c:=by
 obtain⟨w1,hw1⟩:=eXa (w.alloc (.cells #[.string tk.text,.int .i64 tk.off,.int .i64 tk.line,.int .i64 tk.col] 36));have hb1:Below w.heap.size w w1:=by rw[hw1];exact qg _ _
 have hg:g < w.heap.size:=(aIx hB);have HN1:w1.heap[w.heap.size]?=some (.cells #[.string tk.text,.int .i64 tk.off,.int .i64 tk.line,.int .i64 tk.col] 36 (0,0)):=by rw[hw1];exact heap_alloc_new w _
 have x0:w1.cell? ⟨w.heap.size,0,none⟩=some (.string tk.text):=M.qc HN1 0;have x1:w1.cell? ⟨w.heap.size,1,none⟩=some (.int .i64 tk.off):=M.qc HN1 1;have x2:w1.cell? ⟨w.heap.size,2,none⟩=some (.int .i64 tk.line):=M.qc HN1 2;have x3:w1.cell? ⟨w.heap.size,3,none⟩=some (.int .i64 tk.col):=M.qc HN1 3;have HB:=hid hb1;have AD:Hid _:=qkb w1 N g cs t k hk aw nw cw tk ws ((hb1.block g hg).trans hB) h0 h9 (hS.under hb1) (nLt hN hb1.size) hl hn (M.qh hO (M.Ch.oB (X:=fun _=>False) hb1) fun _ _ e=>e) hvg;unfold zo at AD ⊢;clear hB h0 h9 hS hO hvg HN1 hb1;have a1:=q71;have a2:=q8k;go_enter Tryz.func208,Tryz.ntmps208;go_upto_region 1 with fail;rw[←hw1];clear hw1;go_wp2_with fail;refine cMo AD.out ?_;rintro e w2 ⟨c,rfl,hp⟩;have HP:Hid (qe0 w w2 N g cs t k (.slice aw nw cw) ws tk c):=hp.from HB.out;clear hp AD
 go_wp2
 go_ret
 exact⟨c,rfl,HP.out⟩
theorem qon (w:World) (N g:Nat) (cs:Array Value) (t:TypeId) (k:Nat) (hk:k < 10) (aw:Option Addr) (nw cw:Nat) (tk:Tok) (ws:List Tok)
  (hB:w.heap[g]?=some (.cells cs t (0,0))) (h0:cs[0]?=some (.int .i64 k)) (h9:cs[9]?=some (.slice aw nw cw)) (h14:cs[14]?=some (.bool false)) (hS:gy w) (hN:N≤w.heap.size) (hl:ws.length=nw) (hn:nw≤1048576)
  (hO:w.ownsRow N 36 4 (.slice aw nw cw) nw (rowT ws)) (hvg:(Value.slice aw nw cw).ownBlock≠some g) :
  Calls Tryz.prog 208 #[.iface 197 (.pointer (some ⟨g,0,none⟩)),zo tk] w fun e w'=>∃c,e=.returned (.int .i64 c)∧qe0 w w' N g cs t k (.slice aw nw cw) ws tk c:=by
 obtain⟨w1,hw1⟩:=eXa (w.alloc (.cells #[.string tk.text,.int .i64 tk.off,.int .i64 tk.line,.int .i64 tk.col] 36));have hb1:Below w.heap.size w w1:=by rw[hw1];exact qg _ _
 have hg:g < w.heap.size:=(aIx hB);have HN1:w1.heap[w.heap.size]?=some (.cells #[.string tk.text,.int .i64 tk.off,.int .i64 tk.line,.int .i64 tk.col] 36 (0,0)):=by rw[hw1];exact heap_alloc_new w _
 have x0:w1.cell? ⟨w.heap.size,0,none⟩=some (.string tk.text):=M.qc HN1 0;have x1:w1.cell? ⟨w.heap.size,1,none⟩=some (.int .i64 tk.off):=M.qc HN1 1;have x2:w1.cell? ⟨w.heap.size,2,none⟩=some (.int .i64 tk.line):=M.qc HN1 2;have x3:w1.cell? ⟨w.heap.size,3,none⟩=some (.int .i64 tk.col):=M.qc HN1 3;have HB1:w1.heap[g]?=some (.cells cs t (0,0)):=(hb1.block g hg).trans hB;have c14:w1.cell? ⟨g,14,none⟩=some (.bool false):=(M.qc HB1 14).trans h14;have HB:Hid (Below w.heap.size w w1.drew):=below_drewN hb1 1;have AD:Hid _:=qkb w1.drew N g cs t k hk aw nw cw tk ws HB1 h0 h9 (hS.under HB.out) (nLt hN hb1.size) hl hn (M.qh hO (M.Ch.oB (X:=fun _=>False) HB.out) fun _ _ e=>e) hvg;unfold zo at AD ⊢;clear hB h0 h9 h14 hS hO hvg HN1 hb1 HB1;have a1:=q59;go_enter Tryz.func208,Tryz.ntmps208;go_upto_region 1 with fail;rw[←hw1];clear hw1;go_upto_region 7 with fail
 go_region_law (go_simp;go_at_call 246;refine cMo AD.out ?_;rintro e w2 ⟨c,rfl,hp⟩;have HP:Hid (qe0 w w2 N g cs t k (.slice aw nw cw) ws tk c):=hp.from HB.out;clear hp)
 go_wp2
 go_ret
 exact⟨c,rfl,HP.out⟩
theorem qoo (w:World) (N g:Nat) (cs:Array Value) (t:TypeId) (aw:Option Addr) (nw cw:Nat) (tk:Tok) (ws:List Tok)
  (hB:w.heap[g]?=some (.cells cs t (0,0))) (h14:cs[14]?=some (.bool true)) (h15:cs[15]?=some (.slice aw nw cw)) (hN:N≤w.heap.size) (hl:ws.length=nw) (hn:nw≤1048576)
  (hO:w.ownsRow N 36 4 (.slice aw nw cw) nw (rowT ws)) (hvg:(Value.slice aw nw cw).ownBlock≠some g) :
  Calls Tryz.prog 208 #[.iface 197 (.pointer (some ⟨g,0,none⟩)),zo tk] w fun e w'=>e=.returned (.int .i64 0)∧q2d w w' N g 15 cs t (.slice aw nw cw) ws tk:=by
 obtain⟨ip,hip,ipz,ips,ipb⟩:=info_parts qk7;obtain⟨w1,hw1⟩:=eXa (w.alloc (.cells #[.string tk.text,.int .i64 tk.off,.int .i64 tk.line,.int .i64 tk.col] 36));have hb1:Below w.heap.size w w1:=by rw[hw1];exact qg _ _
 have hg:g < w.heap.size:=(aIx hB);have HN1:w1.heap[w.heap.size]?=some (.cells #[.string tk.text,.int .i64 tk.off,.int .i64 tk.line,.int .i64 tk.col] 36 (0,0)):=by rw[hw1];exact heap_alloc_new w _
 have x0:w1.cell? ⟨w.heap.size,0,none⟩=some (.string tk.text):=M.qc HN1 0;have x1:w1.cell? ⟨w.heap.size,1,none⟩=some (.int .i64 tk.off):=M.qc HN1 1;have x2:w1.cell? ⟨w.heap.size,2,none⟩=some (.int .i64 tk.line):=M.qc HN1 2;have x3:w1.cell? ⟨w.heap.size,3,none⟩=some (.int .i64 tk.col):=M.qc HN1 3;have HB1:w1.heap[g]?=some (.cells cs t (0,0)):=(hb1.block g hg).trans hB;have c14:w1.cell? ⟨g,14,none⟩=some (.bool true):=(M.qc HB1 14).trans h14;have HC1:=hid hb1;have O1:Hid (w1.ownsRow N 36 4 (.slice aw nw cw) nw (rowT ws)):=M.qh hO (M.Ch.oB (X:=fun _=>False) hb1) fun _ _ e=>e
 have HB:=hid hB;have HB2:=hid HB1;have HV:=hid hvg;have HL:=hid hl;have H9:=hid h15;have d9:w1.cell? ⟨g,15,none⟩=some (.slice aw nw cw):=(M.qc HB1 15).trans h15;have HG2:Hid (g < w1.heap.size):=Nat.lt_of_lt_of_le hg hb1.size;have HZ:Hid (w.heap.size≤w1.heap.size):=hb1.size;unfold zo;clear hB h14 h15 hO hvg HN1 hb1 HB1 hl hg;have a1:=q59;go_enter Tryz.func208,Tryz.ntmps208;go_upto_region 1 with fail;rw[←hw1];clear hw1;go_upto_region 5 with fail;have e9:(w1.alloc (.cells #[.string tk.text,.int .i64 tk.off,.int .i64 tk.line,.int .i64 tk.col] 36)).cell? ⟨g,15,none⟩=some (.slice aw nw cw):=(M.qc ((Below.heap_alloc _ _ g HG2.out).trans HB2.out) 15).trans H9.out
 go_region_law (refine step_append_lies _ (by rfl) _ _ _ (by rfl) N 36 ip _ 4 40 Tryz.underlying32 hip ipz ips ipb rfl (by omega) _ nw (rowT ws) (by rfl) (by exact (M.zk O1.out _)) ⟨w1.heap.size,0,none⟩ 1 1 (q06 tk) (by rfl) (by rfl) (World.news_of_block (cs:=#[.string tk.text,.int .i64 tk.off,.int .i64 tk.line,.int .i64 tk.col]) (t:=36) (fr:=(0,0)) (heap_alloc_new w1 _)) (by simp[q06,Value.oneCell']) (by omega) (by unfold maxLen;omega) (by omega) (by have:=HZ.out;simp;omega) _ rfl ?_;intro gg cap' w3 hown3 hgrow hat hlt3;have K3:Hid (w3.heap[g]?=some (.cells cs t (0,0))):=(hgrow.block g (by have:=HG2.out;simp;omega) (fun e=>HV.out e.symm)).trans ((Below.heap_alloc _ _ g HG2.out).trans HB2.out);have d9':w3.cell? ⟨g,15,none⟩=some (.slice aw nw cw):=(M.qc K3.out 15).trans H9.out;have f9':w3.frozen? ⟨g,15,none⟩=false:=(by simp[World.frozen?,K3.out]);have PO:Hid (q2d w (w3.setCell ⟨g,15,none⟩ (.slice (some ⟨gg,0,none⟩) (nw + 1) cap')) N g 15 cs t (.slice aw nw cw) ws tk):=(by have hl:=HL.out;subst hl;exact q2d.of HB.out (show Below w.heap.size w (w1.alloc (.cells #[.string tk.text,.int .i64 tk.off,.int .i64 tk.line,.int .i64 tk.col] 36)).drew from below_drewN (HC1.out.alloc HC1.out.size _) 1) hgrow hat HV.out hown3 rfl);clear hgrow hat hown3 hlt3)
 all_goals go_wp2
 all_goals go_ret
 all_goals exact⟨rfl,PO.out⟩
theorem beginC (w:World)(g:Nat):Calls Tryz.prog 209 #[.iface 202 (.pointer (some ⟨g,0,none⟩))] w fun e w'=>e=.returned (.int .i64 60)∧w'=w:=by
 have a1:=q71;go_enter Tryz.func209,Tryz.ntmps209
 go_wp2
 go_ret
 exact⟨rfl,rfl⟩
theorem beginT (w:World) (g:Nat) (cs:Array Value) (t:TypeId) (k:Nat) (hk:k < 10) (aw:Option Addr) (nw cw:Nat) (pr:Bool)
  (hB:w.heap[g]?=some (.cells cs t (0,0))) (h0:cs[0]?=some (.int .i64 k)) (h9:cs[9]?=some (.slice aw nw cw)) (h14:cs[14]?=some (.bool pr)) (hS:gy w) :
  Calls Tryz.prog 209 #[.iface 197 (.pointer (some ⟨g,0,none⟩))] w fun e w' =>
   e=.returned (.int .i64 (if pr then 60 else if (nw:Int) < q9z k then 62 else 0))∧M.Ch (fun b=>b=g) w w'∧w'.heap[g]?=some (.cells (if pr then cs else if (nw:Int) < q9z k then cs else cs.setIfInBounds 14 (.bool true)) t (0,0)):=by
 have a1:=q59;have HB:=hid hB;have c0:w.cell? ⟨g,0,none⟩=some (.int .i64 k):=(M.qc hB 0).trans h0;have c9:w.cell? ⟨g,9,none⟩=some (.slice aw nw cw):=(M.qc hB 9).trans h9;have c14:w.cell? ⟨g,14,none⟩=some (.bool pr):=(M.qc hB 14).trans h14;obtain⟨_,_,l2,_⟩:=hS k hk;have k0:(0:Int)≤(k:Int):=by omega
 have k1:(k:Int) < 10:=by omega
 obtain⟨L,hL⟩:=eXb (q9z k);have H14:=hid h14;rw[hL] at l2 ⊢;clear hL hS hB h0 h9 h14
 cases pr with
 | true =>
  go_enter Tryz.func209,Tryz.ntmps209
  go_wp2
  go_ret
  exact⟨rfl,M.Ch.refl _ _,HB.out⟩
 | false =>
  go_enter Tryz.func209,Tryz.ntmps209;go_upto_region 6 with fail
  go_quiet (fail)
  have HB2:Hid ((w.drewN nq).heap[g]?=some (.cells cs t (0,0))):=HB.out;have HC2:Hid (M.Ch (fun b=>b=g) w (w.drewN nq)):=⟨rfl,rfl,rfl,Nat.le_refl _,fun _ _ _=>rfl⟩;clear c0 c9 c14 l2;generalize w.drewN nq=w2 at *
  by_cases hlt:(nw:Int) < L
  ·go_wp2
   go_ret
   exact⟨rfl,HC2.out,HB2.out⟩
  ·have d14:w2.cell? ⟨g,14,none⟩=some (.bool false):=(M.qc HB2.out 14).trans H14.out;have f14:w2.frozen? ⟨g,14,none⟩=false:=by simp[World.frozen?,HB2.out]
   go_wp2
   go_ret
   exact⟨rfl,HC2.out.trans (M.jc _ _ _ _),M.qj HB2.out⟩
def q2i:Tok:=⟨⟨#[]⟩,0,0,0⟩
def qkc (k:Int)(lb ky:Tok)(wd:Value)(fn:Tok):Array Value:=#[.int .i64 k,.string lb.text,.int .i64 lb.off,.int .i64 lb.line,.int .i64 lb.col,.string ky.text,.int .i64 ky.off,.int .i64 ky.line,.int .i64 ky.col,wd,.string fn.text,.int .i64 fn.off,.int .i64 fn.line,.int .i64 fn.col]
def qf3 (k:Int)(lb ky:Tok)(wd:Value)(fn:Tok)(pr:Bool)(pf:Value):Array Value:=#[.int .i64 k,.string lb.text,.int .i64 lb.off,.int .i64 lb.line,.int .i64 lb.col,.string ky.text,.int .i64 ky.off,.int .i64 ky.line,.int .i64 ky.col,wd,.string fn.text,.int .i64 fn.off,.int .i64 fn.line,.int .i64 fn.col,.bool pr,pf]
structure Itm where
 s:Stm
 g:Nat
 vw:Value
 vp:Value
def brk (k:Int):Bool:=decide (k=8) || decide (k=9)
def q2u (x:Itm):Array Value:=if brk x.s.kind then qhu x.s.kind x.s.key else if x.s.kind=7 then qf3 x.s.kind x.s.label x.s.key x.vw x.s.fin x.s.proving x.vp else qkc x.s.kind x.s.label x.s.key x.vw x.s.fin
def qcj (x:Itm):TypeId:=if brk x.s.kind then 207 else if x.s.kind=7 then 201 else 199
def q4b (x:Itm):TypeId:=if brk x.s.kind then 204 else if x.s.kind=7 then 197 else 202
def gu (x:Itm):Value:=.iface (q4b x) (.pointer (some ⟨x.g,0,none⟩))
theorem q02 {x:Itm}(h7:x.s.kind=7):q2u x=qf3 x.s.kind x.s.label x.s.key x.vw x.s.fin x.s.proving x.vp:=by
 have hb:brk x.s.kind=false:=by rw[h7];rfl
 unfold q2u;rw[if_neg (by rw[hb];exact Bool.false_ne_true),if_pos h7]
theorem q3i {x:Itm}(hb:brk x.s.kind=false)(h7:x.s.kind≠7):q2u x=qkc x.s.kind x.s.label x.s.key x.vw x.s.fin:=by
 unfold q2u;rw[if_neg (by rw[hb];exact Bool.false_ne_true),if_neg h7]
theorem qkd {x:Itm}(hb:brk x.s.kind=true):q2u x=qhu x.s.kind x.s.key:=by
 unfold q2u;rw[if_pos hb]
def blk (x:Itm)(b:Nat):Prop:=b=x.g∨x.vw.ownBlock=some b∨x.vp.ownBlock=some b
structure q0f (W:World)(N:Nat)(x:Itm):Prop where
 k1:1≤x.s.kind
 k9:x.s.kind≤9
 box:W.heap[x.g]?=some (.cells (q2u x) (qcj x) (0,0))
 ge:N≤x.g
 ow:W.ownsRow N 36 4 x.vw x.s.words.length (rowT x.s.words)
 op:W.ownsRow N 36 4 x.vp x.s.proof.length (rowT x.s.proof)
 gw:x.vw.ownBlock≠some x.g
 gp:x.vp.ownBlock≠some x.g
 wp:∀b,x.vw.ownBlock=some b→x.vp.ownBlock≠some b
 nt:x.s.kind≠7→x.s.proof=[]∧x.s.proving=false∧x.vp=.slice none 0 0
 nb:brk x.s.kind=true→x.s.words=[]∧x.vw=.slice none 0 0∧x.s.label=q2i∧x.s.fin=x.s.key
theorem q0f.lt {W:World}{N:Nat}{x:Itm}(h:q0f W N x):∀b,blk x b→b < W.heap.size:=fun b e=>by
 rcases e with rfl | e | e
 ·exact (aIx h.box)
 ·exact M.jr h.ow b e
 ·exact M.jr h.op b e
theorem q0f.ch {W W':World}{N:Nat}{x:Itm}{X:Nat→Prop}(h:q0f W N x)(hc:M.Ch X W W')(hx:∀b,blk x b→¬X b):q0f W' N x :=
 ⟨h.k1,h.k9,(hc.block x.g (h.lt _ (.inl rfl)) (hx _ (.inl rfl))).trans h.box,h.ge,M.qh h.ow hc fun b e=>hx b (.inr (.inl e)),M.qh h.op hc fun b e=>hx b (.inr (.inr e)),h.gw,h.gp,h.wp,h.nt,h.nb⟩
theorem q0f.under {W W':World}{N:Nat}{x:Itm}(h:q0f W N x)(hb:Below W.heap.size W W'):q0f W' N x:=h.ch (M.Ch.oB (X:=fun _=>False) hb) fun _ _ e=>e
structure Step (w w':World)(N:Nat)(x x':Itm):Prop where
 at':q0f w' N x'
 g:x'.g=x.g
 y:q4b x'=q4b x
 bl:∀b,blk x' b→blk x b∨w.heap.size≤b
 ch:M.Ch (blk x) w w'
theorem Step.refl {w:World}{N:Nat}{x:Itm}(h:q0f w N x):Step w w N x x:=⟨h,rfl,rfl,fun _ e=>.inl e,M.Ch.refl _ _⟩
theorem Step.below {w w':World}{N:Nat}{x:Itm}(h:q0f w N x)(hb:Below w.heap.size w w'):Step w w' N x x:=⟨h.under hb,rfl,rfl,fun _ e=>.inl e,M.Ch.oB hb⟩
theorem Step.from {w w0 w':World}{N:Nat}{x x':Itm}(hb:Below w.heap.size w w0)(h:Step w0 w' N x x'):Step w w' N x x' :=
 ⟨h.at',h.g,h.y,fun b e=>(h.bl b e).elim .inl fun e=>.inr (nLt hb.size e),(M.Ch.oB hb).trans h.ch⟩
theorem Step.iface {w w':World}{N:Nat}{x x':Itm}(h:Step w w' N x x'):gu x'=gu x:=by unfold gu;rw[h.y,h.g]
theorem qll {w w':World}{N:Nat}{x:Itm}{tk:Tok}(h:q0f w N x)(hb:brk x.s.kind=false)(ha:q2d w w' N x.g 9 (q2u x) (qcj x) x.vw x.s.words tk):∃x',x'.s={ x.s with words:=x.s.words++[tk] }∧Step w w' N x x':=by
 obtain⟨v',h1,h2,h3,h4⟩:=ha;have hc:(q2u x).setIfInBounds 9 v'=q2u ⟨{ x.s with words:=x.s.words++[tk] },x.g,v',x.vp⟩:=by
  by_cases h7:x.s.kind=7
  ·rw[q02 h7,q02 (x:=⟨{ x.s with words:=x.s.words++[tk] },x.g,v',x.vp⟩) h7];rfl
  ·rw[q3i hb h7,q3i (x:=⟨{ x.s with words:=x.s.words++[tk] },x.g,v',x.vp⟩) hb h7];rfl
 have lg:x.g < w.heap.size:=h.lt _ (.inl rfl);refine⟨⟨{ x.s with words:=x.s.words++[tk] },x.g,v',x.vp⟩,rfl,⟨h.k1,h.k9,?_,h.ge,by simpa using h1,M.qh h.op h3 fun b e e2=>?_,fun e=>?_,h.gp,fun b e e2=>?_,h.nt,fun e=>?_⟩,rfl,rfl,fun b e=>?_,h3.mono fun b e=>?_⟩
 ·rw[←hc];exact h4
 ·rcases e2 with rfl | e2
  ·exact h.gp e
  ·exact h.wp b e2 e
 ·rcases h2 _ e with e | e
  ·exact h.gw e
  ·exact absurd lg (Nat.not_lt.2 e)
 ·rcases h2 _ e with e | e
  ·exact h.wp b e e2
  ·have:=M.jr h.op b e2;omega
 ·have e':brk x.s.kind=true:=e;rw[hb] at e';cases e'
 ·rcases e with rfl | e | e
  ·exact .inl (.inl rfl)
  ·exact (h2 b e).elim (fun e=>.inl (.inr (.inl e))) .inr
  ·exact .inl (.inr (.inr e))
 ·exact e.elim .inl fun e=>.inr (.inl e)
theorem qlm {w w':World}{N:Nat}{x:Itm}{tk:Tok}(h:q0f w N x)(h7:x.s.kind=7)(ha:q2d w w' N x.g 15 (q2u x) (qcj x) x.vp x.s.proof tk):∃x',x'.s={ x.s with proof:=x.s.proof++[tk] }∧Step w w' N x x':=by
 obtain⟨v',h1,h2,h3,h4⟩:=ha;have hb:brk x.s.kind=false:=by rw[h7];rfl
 have hc:(q2u x).setIfInBounds 15 v'=q2u ⟨{ x.s with proof:=x.s.proof++[tk] },x.g,x.vw,v'⟩:=by
  rw[q02 h7,q02 (x:=⟨{ x.s with proof:=x.s.proof++[tk] },x.g,x.vw,v'⟩) h7];rfl
 have lg:x.g < w.heap.size:=h.lt _ (.inl rfl);refine⟨⟨{ x.s with proof:=x.s.proof++[tk] },x.g,x.vw,v'⟩,rfl,⟨h.k1,h.k9,?_,h.ge,M.qh h.ow h3 fun b e e2=>?_,by simpa using h1,h.gw,fun e=>?_,fun b e e2=>?_,fun e=>absurd h7 e,fun e=>?_⟩,rfl,rfl,fun b e=>?_,h3.mono fun b e=>?_⟩
 ·rw[←hc];exact h4
 ·rcases e2 with rfl | e2
  ·exact h.gw e
  ·exact h.wp b e e2
 ·rcases h2 _ e with e | e
  ·exact h.gp e
  ·exact absurd lg (Nat.not_lt.2 e)
 ·rcases h2 _ e2 with e2 | e2
  ·exact h.wp b e e2
  ·have:=M.jr h.ow b e;omega
 ·have e':brk x.s.kind=true:=e;rw[hb] at e';cases e'
 ·rcases e with rfl | e | e
  ·exact .inl (.inl rfl)
  ·exact .inl (.inr (.inl e))
  ·exact (h2 b e).elim (fun e=>.inl (.inr (.inr e))) .inr
 ·exact e.elim .inl fun e=>.inr (.inr e)
theorem qf4 {w w':World}{N:Nat}{x:Itm}(h:q0f w N x)(h7:x.s.kind=7)(h3:M.Ch (fun b=>b=x.g) w w')(h4:w'.heap[x.g]?=some (.cells ((q2u x).setIfInBounds 14 (.bool true)) (qcj x) (0,0))):∃x',x'.s={ x.s with proving:=true }∧Step w w' N x x':=by
 have hb:brk x.s.kind=false:=by rw[h7];rfl
 have hc:(q2u x).setIfInBounds 14 (.bool true)=q2u ⟨{ x.s with proving:=true },x.g,x.vw,x.vp⟩:=by
  rw[q02 h7,q02 (x:=⟨{ x.s with proving:=true },x.g,x.vw,x.vp⟩) h7];rfl
 refine⟨⟨{ x.s with proving:=true },x.g,x.vw,x.vp⟩,rfl,⟨h.k1,h.k9,?_,h.ge,M.qh h.ow h3 fun b e e2=>h.gw (by rw[←e2];exact e),M.qh h.op h3 fun b e e2=>h.gp (by rw[←e2];exact e),h.gw,h.gp,h.wp,fun e=>absurd h7 e,fun e=>?_⟩,rfl,rfl,fun b e=>.inl e,h3.mono fun b e=>.inl e⟩
 ·rw[←hc];exact h4
 ·have e':brk x.s.kind=true:=e;rw[hb] at e';cases e'
theorem itm_fin {w w':World}{N:Nat}{x:Itm}{tk:Tok}(h:q0f w N x)(hb:brk x.s.kind=false)(h3:M.Ch (fun b=>b=x.g) w w')(h4:w'.heap[x.g]?=some (.cells (put4 (q2u x) 10 tk) (qcj x) (0,0))):∃x',x'.s={ x.s with fin:=tk }∧Step w w' N x x':=by
 have hc:put4 (q2u x) 10 tk=q2u ⟨{ x.s with fin:=tk },x.g,x.vw,x.vp⟩:=by
  by_cases h7:x.s.kind=7
  ·rw[q02 h7,q02 (x:=⟨{ x.s with fin:=tk },x.g,x.vw,x.vp⟩) h7];rfl
  ·rw[q3i hb h7,q3i (x:=⟨{ x.s with fin:=tk },x.g,x.vw,x.vp⟩) hb h7];rfl
 refine⟨⟨{ x.s with fin:=tk },x.g,x.vw,x.vp⟩,rfl,⟨h.k1,h.k9,?_,h.ge,M.qh h.ow h3 fun b e e2=>h.gw (by rw[←e2];exact e),M.qh h.op h3 fun b e e2=>h.gp (by rw[←e2];exact e),h.gw,h.gp,h.wp,h.nt,fun e=>?_⟩,rfl,rfl,fun b e=>.inl e,h3.mono fun b e=>.inl e⟩
 ·rw[←hc];exact h4
 ·have e':brk x.s.kind=true:=e;rw[hb] at e';cases e'
def q69 (s:Stm)(t:Tok):Int × Stm:=if s.kind=7∧s.proving=true then (0,{ s with proof:=s.proof++[t] }) else if (s.words.length:Int)=qf2 s.kind.toNat then (62,s) else (0,{ s with words:=s.words++[t] })
def q5t (s:Stm):Int × Stm:=if s.kind=7 then (if s.proving=true then (60,s) else if (s.words.length:Int) < q9z 7 then (62,s) else (0,{ s with proving:=true })) else (60,s)
def q3f (s:Stm)(t:Tok):Int × Stm:=if s.kind=7∧s.proving=false then (62,s) else if (s.words.length:Int) < q9z s.kind.toNat then (62,s) else (0,{ s with fin:=t })
def Turns (w:World)(N:Nat)(x:Itm)(r:Int × Stm)(e:Ending)(w':World):Prop:=∃x',e=.returned (.int .i64 r.1)∧x'.s=r.2∧Step w w' N x x'
theorem ji {W:World}{N n:Nat}{v:Value}{xs:List Value}(h:W.ownsRow N 36 4 v n xs):∃a c,v=.slice a n c:=by
 obtain⟨a,c,e,_⟩:=ql h;exact⟨a,c,e⟩
theorem qf5 (w:World)(N:Nat)(x:Itm)(tk:Tok)(h:q0f w N x)(hb:brk x.s.kind=false)(hS:gy w)(hN:N≤w.heap.size)(hw:x.s.words.length≤1048576)(hp:x.s.proof.length≤1048576) :
  Calls Tryz.prog 208 #[gu x,zo tk] w (Turns w N x (q69 x.s tk)):=by
 obtain⟨k,hk⟩:∃k:Nat,x.s.kind=k:=⟨x.s.kind.toNat,by have:=h.k1;omega⟩;have hk10:k < 10:=by have:=h.k9;omega
 obtain⟨aw,cw,ew⟩:=ji h.ow;obtain⟨ap,cp,ep⟩:=ji h.op;have how:=h.ow;have hop:=h.op;have hgw:=h.gw;have hgp:=h.gp;rw[ew] at how hgw;rw[ep] at hop hgp;have c0:(q2u x)[0]?=some (.int .i64 k):=by
  by_cases h7:x.s.kind=7
  ·rw[q02 h7,←hk];rfl
  ·rw[q3i hb h7,←hk];rfl
 have c9:(q2u x)[9]?=some (.slice aw x.s.words.length cw):=by
  by_cases h7:x.s.kind=7
  ·rw[q02 h7,ew];rfl
  ·rw[q3i hb h7,ew];rfl
 have fin:∀e w',(x.s.kind≠7∨x.s.proving≠true)→(∃c,e=Ending.returned (.int .i64 c)∧qe0 w w' N x.g (q2u x) (qcj x) k (.slice aw x.s.words.length cw) x.s.words tk c)→Turns w N x (q69 x.s tk) e w':=by
  rintro e w' hn ⟨c,rfl,hr⟩;have hnn:¬(x.s.kind=7∧x.s.proving=true):=fun e=>hn.elim (fun h=>h e.1) fun h=>h e.2
  have kt:x.s.kind.toNat=k:=by omega
  rcases hr with ⟨h1,rfl,h3⟩ | ⟨h1,rfl,h3⟩
  ·refine⟨x,?_,?_,Step.below h h3⟩ <;> unfold q69 <;> rw[if_neg hnn,kt,if_pos h1]
  ·rw[←ew] at h3;obtain⟨x',e1,e2⟩:=qll h hb h3;refine⟨x',?_,?_,e2⟩
   ·unfold q69;rw[if_neg hnn,kt,if_neg h1]
   ·rw[e1];unfold q69;rw[if_neg hnn,kt,if_neg h1]
 by_cases h7:x.s.kind=7
 ·have ey:gu x=.iface 197 (.pointer (some ⟨x.g,0,none⟩)):=by unfold gu q4b;simp only[h7];rfl
  rw[ey]
  cases hpr:x.s.proving with
  | true =>
   have c14:(q2u x)[14]?=some (.bool true):=by rw[q02 h7,hpr];rfl
   have c15:(q2u x)[15]?=some (.slice ap x.s.proof.length cp):=by rw[q02 h7,ep];rfl
   refine cMo (qoo w N x.g _ _ ap _ cp tk x.s.proof h.box c14 c15 hN rfl hp hop hgp) ?_;rintro e w' ⟨rfl,ha⟩;rw[←ep] at ha;obtain⟨x',e1,e2⟩:=qlm h h7 ha;refine⟨x',?_,?_,e2⟩
   ·unfold q69;rw[if_pos ⟨h7,hpr⟩]
   ·rw[e1];unfold q69;rw[if_pos ⟨h7,hpr⟩]
  | false =>
   have c14:(q2u x)[14]?=some (.bool false):=by rw[q02 h7,hpr];rfl
   exact Calls.mono (qon w N x.g _ _ k hk10 aw _ cw tk x.s.words h.box c0 c9 c14 hS hN rfl hw how hgw) fun e w' he=>fin e w' (.inr (by rw[hpr];exact Bool.false_ne_true)) he
 ·have ey:gu x=.iface 202 (.pointer (some ⟨x.g,0,none⟩)):=by unfold gu q4b;simp only[hb,h7];rfl
  rw[ey];exact Calls.mono (qom w N x.g _ _ k hk10 aw _ cw tk x.s.words h.box c0 c9 hS hN rfl hw how hgw) fun e w' he=>fin e w' (.inl h7) he
theorem qai (w:World)(N:Nat)(x:Itm)(h:q0f w N x)(hb:brk x.s.kind=false)(hS:gy w) :
  Calls Tryz.prog 209 #[gu x] w (Turns w N x (q5t x.s)):=by
 by_cases h7:x.s.kind=7
 ·have ey:gu x=.iface 197 (.pointer (some ⟨x.g,0,none⟩)):=by unfold gu q4b;simp only[h7];rfl
  obtain⟨aw,cw,ew⟩:=ji h.ow;have c0:(q2u x)[0]?=some (.int .i64 ((7:Nat):Int)):=by rw[q02 h7,h7];rfl
  have c9:(q2u x)[9]?=some (.slice aw x.s.words.length cw):=by rw[q02 h7,ew];rfl
  have c14:(q2u x)[14]?=some (.bool x.s.proving):=by rw[q02 h7];rfl
  rw[ey];refine cMo (beginT w x.g _ _ 7 (by omega) aw _ cw x.s.proving h.box c0 c9 c14 hS) ?_;rintro e w' ⟨rfl,hc,hh⟩;have same:w'.heap[x.g]?=some (.cells (q2u x) (qcj x) (0,0))→Step w w' N x x:=fun hh=>⟨⟨h.k1,h.k9,hh,h.ge,M.qh h.ow hc fun b e e2=>h.gw (by rw[←e2];exact e),M.qh h.op hc fun b e e2=>h.gp (by rw[←e2];exact e),h.gw,h.gp,h.wp,h.nt,h.nb⟩,rfl,rfl,fun b e=>.inl e,hc.mono fun b e=>.inl e⟩
  unfold Turns
  by_cases hp:x.s.proving=true
  ·rw[show q5t x.s=(60,x.s) by unfold q5t;rw[if_pos h7,if_pos hp]];rw[if_pos hp] at hh;exact⟨x,by rw[if_pos hp],rfl,same hh⟩
  ·rw[if_neg hp] at hh
   by_cases hl:(x.s.words.length:Int) < q9z 7
   ·rw[show q5t x.s=(62,x.s) by unfold q5t;rw[if_pos h7,if_neg hp,if_pos hl]];rw[if_pos hl] at hh;exact⟨x,by rw[if_neg hp,if_pos hl],rfl,same hh⟩
   ·rw[show q5t x.s=(0,{ x.s with proving:=true }) by unfold q5t;rw[if_pos h7,if_neg hp,if_neg hl]];rw[if_neg hl] at hh;obtain⟨x',e1,e2⟩:=qf4 h h7 hc hh;exact⟨x',by rw[if_neg hp,if_neg hl],e1,e2⟩
 ·have ey:gu x=.iface 202 (.pointer (some ⟨x.g,0,none⟩)):=by unfold gu q4b;simp only[hb,h7];rfl
  rw[ey];refine cMo (beginC w x.g) ?_;rintro e w' ⟨rfl,rfl⟩;refine⟨x,?_,?_,Step.refl h⟩ <;> unfold q5t <;> rw[if_neg h7]
theorem Turns.from {w w0 w':World}{N:Nat}{x:Itm}{r:Int × Stm}{e:Ending}(hb:Below w.heap.size w w0)(h:Turns w0 N x r e w'):Turns w N x r e w':=by
 obtain⟨x',h1,h2,h3⟩:=h;exact⟨x',h1,h2,h3.from hb⟩
theorem qaj (w:World)(N:Nat)(x:Itm)(tk:Tok)(h:q0f w N x)(hb:brk x.s.kind=false)(hn:¬(x.s.kind=7∧x.s.proving=false))(hS:gy w) :
  Calls Tryz.prog 268 #[.pointer (some ⟨x.g,0,none⟩),zo tk] w (Turns w N x (q3f x.s tk)):=by
 obtain⟨k,hk⟩:∃k:Nat,x.s.kind=k:=⟨x.s.kind.toNat,by have:=h.k1;omega⟩;have hk10:k < 10:=by have:=h.k9;omega
 have kt:x.s.kind.toNat=k:=by omega
 obtain⟨aw,cw,ew⟩:=ji h.ow;have c0:(q2u x)[0]?=some (.int .i64 k):=by
  by_cases h7:x.s.kind=7
  ·rw[q02 h7,←hk];rfl
  ·rw[q3i hb h7,←hk];rfl
 have c9:(q2u x)[9]?=some (.slice aw x.s.words.length cw):=by
  by_cases h7:x.s.kind=7
  ·rw[q02 h7,ew];rfl
  ·rw[q3i hb h7,ew];rfl
 have cs:14≤(q2u x).size:=by
  by_cases h7:x.s.kind=7
  ·rw[q02 h7];exact (by decide:14≤16)
  ·rw[q3i hb h7];exact Nat.le_refl _
 refine cMo (qhv w x.g _ _ k hk10 aw _ cw tk h.box c0 c9 cs hS) ?_;rintro e w' ⟨rfl,hc,hh⟩;have same:w'.heap[x.g]?=some (.cells (q2u x) (qcj x) (0,0))→Step w w' N x x:=fun hh=>⟨⟨h.k1,h.k9,hh,h.ge,M.qh h.ow hc fun b e e2=>h.gw (by rw[←e2];exact e),M.qh h.op hc fun b e e2=>h.gp (by rw[←e2];exact e),h.gw,h.gp,h.wp,h.nt,h.nb⟩,rfl,rfl,fun b e=>.inl e,hc.mono fun b e=>.inl e⟩
 unfold Turns
 by_cases hl:(x.s.words.length:Int) < q9z k
 ·rw[show q3f x.s tk=(62,x.s) by unfold q3f;rw[if_neg hn,kt,if_pos hl]];rw[if_pos hl] at hh;exact⟨x,by rw[if_pos hl],rfl,same hh⟩
 ·rw[show q3f x.s tk=(0,{ x.s with fin:=tk }) by unfold q3f;rw[if_neg hn,kt,if_neg hl]];rw[if_neg hl] at hh;obtain⟨x',e1,e2⟩:=itm_fin h hb hc hh;exact⟨x',by rw[if_neg hl],e1,e2⟩
theorem qln (w:World)(N:Nat)(x:Itm)(tk:Tok)(h:q0f w N x)(hb:brk x.s.kind=false)(hS:gy w) :
  Calls Tryz.prog 247 #[gu x,zo tk] w (Turns w N x (q3f x.s tk)):=by
 obtain⟨w1,hw1⟩:=eXa (w.alloc (.cells #[.string tk.text,.int .i64 tk.off,.int .i64 tk.line,.int .i64 tk.col] 36));have hb1:Below w.heap.size w w1:=by rw[hw1];exact qg _ _
 have HN1:w1.heap[w.heap.size]?=some (.cells #[.string tk.text,.int .i64 tk.off,.int .i64 tk.line,.int .i64 tk.col] 36 (0,0)):=by rw[hw1];exact heap_alloc_new w _
 have x0:w1.cell? ⟨w.heap.size,0,none⟩=some (.string tk.text):=M.qc HN1 0;have x1:w1.cell? ⟨w.heap.size,1,none⟩=some (.int .i64 tk.off):=M.qc HN1 1;have x2:w1.cell? ⟨w.heap.size,2,none⟩=some (.int .i64 tk.line):=M.qc HN1 2;have x3:w1.cell? ⟨w.heap.size,3,none⟩=some (.int .i64 tk.col):=M.qc HN1 3;have HB:=hid hb1;have HBd:Hid (Below w.heap.size w w1.drew):=below_drewN hb1 1
 by_cases h7:x.s.kind=7
 ·have ey:gu x=.iface 197 (.pointer (some ⟨x.g,0,none⟩)):=by unfold gu q4b;simp only[h7];rfl
  rw[ey];have a1:=q59;have hI1:=h.under hb1
  cases hpr:x.s.proving with
  | true =>
   have c14:w1.cell? ⟨x.g,14,none⟩=some (.bool true):=by rw[M.qc hI1.box 14,q02 h7,hpr];rfl
   have FN:Hid _:=qaj w1.drew N x tk (h.under HBd.out) hb (fun e=>by rw[hpr] at e;cases e.2) (hS.under HBd.out);unfold zo at FN ⊢;generalize gu x=ix at *;clear h hS HN1 hb1 hI1;go_enter Tryz.func247,Tryz.ntmps247;go_upto_region 1 with fail;rw[←hw1];clear hw1;go_upto_region 5 with fail
   go_region_law (go_simp;go_at_call 268;refine cMo FN.out ?_;rintro e w2 ⟨x',rfl,hs,hp⟩;have HP:Hid (x'.s=(q3f x.s tk).2∧Step w w2 N x x'):=⟨hs,hp.from HBd.out⟩;clear hp hs)
   go_wp2
   go_ret
   exact⟨x',rfl,HP.out.1,HP.out.2⟩
  | false =>
   have c14:w1.cell? ⟨x.g,14,none⟩=some (.bool false):=by rw[M.qc hI1.box 14,q02 h7,hpr];rfl
   have FN:Hid (Turns w N x (q3f x.s tk) (.returned (.int .i64 62)) w1):=by
    show Turns _ _ _ _ _ _
    have e1:q3f x.s tk=(62,x.s):=by unfold q3f;rw[if_pos ⟨h7,hpr⟩]
    rw[e1];exact⟨x,rfl,rfl,Step.below h HB.out⟩
   unfold zo;generalize gu x=ix at *;clear h hS HN1 hb1 hI1;go_enter Tryz.func247,Tryz.ntmps247;go_upto_region 1 with fail;rw[←hw1];clear hw1
   go_wp2
   go_ret
   exact FN.out
 ·have ey:gu x=.iface 202 (.pointer (some ⟨x.g,0,none⟩)):=by unfold gu q4b;simp only[hb,h7];rfl
  rw[ey];have a1:=q71;have a2:=q8k;have FN:Hid _:=qaj w1 N x tk (h.under HB.out) hb (fun e=>h7 e.1) (hS.under HB.out);unfold zo at FN ⊢;generalize gu x=ix at *;clear h hS HN1 hb1;go_enter Tryz.func247,Tryz.ntmps247;go_upto_region 1 with fail;rw[←hw1];clear hw1;go_wp2_with fail;refine cMo FN.out ?_;rintro e w2 ⟨x',rfl,hs,hp⟩;have HP:Hid (x'.s=(q3f x.s tk).2∧Step w w2 N x x'):=⟨hs,hp.from HB.out⟩;clear hp hs FN
  go_wp2
  go_ret
  exact⟨x',rfl,HP.out.1,HP.out.2⟩
end S
end Go.Proofs.YtbancemhfjjmlaaGreatDoor
