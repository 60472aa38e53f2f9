/- Laid together: SOnto, SMem, SToks, SPlain, SShape, SPage, SPut, SStm, SMade, SStore. -/
import Derived.Deep.AppendLies
import Derived.Deep.Upon
import Derived.Below
import Derived.OwnWalk
import Derived.Test.YtbancemhfjjmlaaGreatDoorProg
import Derived.WalkKit
import Derived.BigQuiet
import Derived.Deep.RegionHeld3
import Derived.Laws.StructEq
import Derived.WalkLawsBesides
import Derived.WalkSpells
import Derived.Outline
import Derived.Lib.Strings
import Derived.Deep.Light
import Derived.Deep.Cut
import Derived.Lib.Builder
import Derived.Lib.AppendStr
import Derived.Lib.UnsafeStr
import Derived.Lib.MakeNoZero
import Derived.Laws.Externs
import Derived.Shelf.RegionOpenPlain
import Derived.Deep.DeepCutAuto
import Derived.Deep.CutRange
import Derived.Deep.MidRow
set_option maxRecDepth 100000
set_option maxHeartbeats 32000000
namespace Go.Proofs.YtbancemhfjjmlaaGreatDoor
namespace S
open Go.RowKit
section
variable {P:Program} {w:World}
theorem qfw {base:Nat}{e:TypeId}{size:Nat}{v:Value}{n:Nat}{xs:List Value}(h:w.ownsRow base e size v n xs):∀k,v.ownBlock=some k→base≤k:=fun k hk=>by
 rcases h.2 with ⟨rfl,_⟩ | ⟨g,cap,cur,rfl,hb,_⟩
 ·cases hk
 ·cases hk;exact hb
theorem qm {base:Nat}{e:TypeId}{size:Nat}{v:Value}{n:Nat}{xs:List Value}(h:w.ownsRow base e size v n xs):∃a c,v=.slice a n c∧n≤c:=by
 rcases h.2 with ⟨rfl,rfl⟩ | ⟨g,cap,cur,rfl,_,_,hc,_⟩
 ·exact⟨_,_,rfl,Nat.le_refl _⟩
 ·exact⟨_,_,rfl,hc⟩
theorem q8w (t ty:TypeId) (base:Nat) (e:TypeId) (i:TypeInfo) (z:Value) (size bytes:Nat) (ht:P.underlying t=some (.slice e)) (hi:P.info? e=some i) (hz:i.zero=some z)
  (hsize:i.size=size) (hby:i.bytes=bytes) (hzs:z.cells.size=size) (hsz:0 < size)
  (v:Value) (n:Nat) (xs:List Value) (hown:w.ownsRow base e size v n xs)
  (x0:Option Addr) (m c:Nat) (news:List Value) (hl:news.length=m * size) (hnews:∀j u,news[j]?=some u→∃ad,x0=some ad∧w.cell? (ad.add j)=some u) (h1:∀u ∈ news,u.oneCell'=true)
  (h63:n + m≤maxLen) (hbytes:(n + m) * bytes≤140737488355328) (hbase:base≤w.heap.size) :
  ∃a' c' w',(Builtin.append_ #[t,t] ty #[v,.slice x0 m c]).run P w=.ok (.slice a' (n + m) c') w'∧w'.ownsRow base e size (.slice a' (n + m) c') (n + m) (xs++news)∧Below base w w':=by
 rcases Nat.eq_zero_or_pos m with rfl | hm
 ·have hn0:news=[]:=List.eq_nil_of_length_eq_zero (by rw[hl,Nat.zero_mul])
  subst hn0
  obtain⟨a',c',rfl,hc⟩:=qm hown
  have src:Src P i.size t (.slice x0 0 c) 0 [] w:=by
   cases x0 with
   | none=>exact Src.ofNil w ht c
   | some ad=>exact Src.ofSlice w ht ad 0 c [] (by simp) (fun j u hu=>by simp at hu) (fun u hu=>by simp at hu)
  refine⟨a',c',w,run_append_nothing w t t ty e i ht hi a' n c' hc _ src,?_,Below.refl _ _⟩
  rw[List.append_nil]
  exact hown
 ·have hne:0 < news.length:=by rw[hl];exact Nat.mul_pos hm hsz
  obtain⟨ad,rfl,_⟩:=hnews 0 _ (List.getElem?_eq_getElem hne)
  obtain⟨g,cap,w',hr,h2,h3,_,_⟩:=run_append_lies (P:=P) w t ty base e i z size bytes ht hi hz hsize hby hzs hsz v n xs hown ad m c news hl (fun j u hu=>by
   obtain⟨ad',he,hc⟩:=hnews j u hu
   cases he
   exact hc) h1 hm h63 hbytes hbase w.heap.size rfl
  exact⟨_,_,w',hr,h2,(Below.refl _ _).grown h3 hbase (qfw hown)⟩
theorem q9b {o:Oper} {a:Act} {K:Act→World→Prop} {Q:Exit→Act→World→Prop} (s x:Operand) (t:TypeId)
  (ho:o.op=.call { callee:=.builtin .append,args:=#[s,x],argTypes:=#[t,t] })
  (base:Nat) (e:TypeId) (i:TypeInfo) (z:Value) (size bytes:Nat) (ht:P.underlying t=some (.slice e)) (hi:P.info? e=some i) (hz:i.zero=some z)
  (hsize:i.size=size) (hby:i.bytes=bytes) (hzs:z.cells.size=size) (hsz:0 < size)
  (v:Value) (n:Nat) (xs:List Value) (hs:a.eval s=v) (hown:w.ownsRow base e size v n xs)
  (x0:Option Addr) (m c:Nat) (news:List Value) (hx:a.eval x=.slice x0 m c) (hl:news.length=m * size) (hnews:∀j u,news[j]?=some u→∃ad,x0=some ad∧w.cell? (ad.add j)=some u) (h1:∀u ∈ news,u.oneCell'=true)
  (h63:n + m≤maxLen) (hbytes:(n + m) * bytes≤140737488355328) (hbase:base≤w.heap.size)
  (h:∀a' c' w',w'.ownsRow base e size (.slice a' (n + m) c') (n + m) (xs++news)→Below base w w'→K (a.put o.dst (.slice a' (n + m) c')) w'):o.wp P a w K Q:=by
 obtain⟨a',c',w',hr,h2,h3⟩:=q8w (P:=P) (w:=w) t o.type base e i z size bytes ht hi hz hsize hby hzs hsz v n xs hown x0 m c news hl hnews h1 h63 hbytes hbase
 unfold Oper.wp execOp
 simp only[ho,resolve,invoke,builtin,Sem.run_bind,Sem.run_pure,Result.andThen_ok,List.map_toArray,List.map_cons,List.map_nil,hs,hx,hr]
 exact h a' c' w' h2 h3
theorem jg {ops:Array Oper} {rest:List Oper} {o:Oper} {a:Act} {Q:Exit→Act→World→Prop} (hgd:o.guard=none) (s x:Operand) (t:TypeId)
  (ho:o.op=.call { callee:=.builtin .append,args:=#[s,x],argTypes:=#[t,t] })
  (base:Nat) (e:TypeId) (i:TypeInfo) (z:Value) (size bytes:Nat) (ht:P.underlying t=some (.slice e)) (hi:P.info? e=some i) (hz:i.zero=some z)
  (hsize:i.size=size) (hby:i.bytes=bytes) (hzs:z.cells.size=size) (hsz:0 < size)
  (v:Value) (n:Nat) (xs:List Value) (hs:a.eval s=v) (hown:w.ownsRow base e size v n xs)
  (x0:Option Addr) (m c:Nat) (news:List Value) (hx:a.eval x=.slice x0 m c) (hl:news.length=m * size) (hnews:∀j u,news[j]?=some u→∃ad,x0=some ad∧w.cell? (ad.add j)=some u) (h1:∀u ∈ news,u.oneCell'=true)
  (h63:n + m≤maxLen) (hbytes:(n + m) * bytes≤140737488355328) (hbase:base≤w.heap.size)
  (h:∀a' c' w',w'.ownsRow base e size (.slice a' (n + m) c') (n + m) (xs++news)→Below base w w'→wpList P ops Q rest (a.put o.dst (.slice a' (n + m) c')) w'):wpList P ops Q (o :: rest) a w :=
 wpList_plain hgd fun _ hK=>q9b s x t ho base e i z size bytes ht hi hz hsize hby hzs hsz v n xs hs hown x0 m c news hx hl hnews h1 h63 hbytes hbase fun a' c' w' h2 h3=>hK _ _ (h a' c' w' h2 h3)
end
end S
namespace S.M
open Go.RowKit
theorem qj {W:World}{b o:Nat}{v:Value}{cs:Array Value}{t:TypeId}{fr:Nat × Nat}(h:W.heap[b]?=some (.cells cs t fr)):(W.setCell ⟨b,o,none⟩ v).heap[b]?=some (.cells (cs.setIfInBounds o v) t fr):=by
 obtain⟨hlt,hk⟩:=Array.getElem?_eq_some_iff.1 h
 show (W.heap.modify b _)[b]?=_
 rw[Array.getElem?_eq_getElem (by rw[Array.size_modify];exact hlt),Array.getElem_modify_self,hk]
 rfl
theorem zk {W:World}{base e size:Nat}{v:Value}{n:Nat}{xs:List Value}(h:W.ownsRow base e size v n xs)(O:Obj):(W.alloc O).ownsRow base e size v n xs:=by
 refine⟨h.1,?_⟩
 rcases h.2 with h0 | ⟨g,cap,cur,hv,hb,hh,hr⟩
 ·exact .inl h0
 ·exact .inr ⟨g,cap,cur,hv,hb,(Below.heap_alloc W O g (Array.getElem?_eq_some_iff.1 hh).1).trans hh,hr⟩
theorem zx {W:World}{base e size:Nat}{v:Value}{n:Nat}{xs:List Value}(h:W.ownsRow base e size v n xs):∃a c,v=.slice a n c∧n≤c∧∀(i:Nat) (u:Value),xs[i]?=some u→∃g,a=some ⟨g,0,none⟩∧W.cell? ⟨g,i,none⟩=some u:=by
 rcases h.2 with ⟨rfl,rfl⟩ | ⟨g,cap,cur,rfl,hg,hh,hc,hs,hsz,ht⟩
 ·refine⟨_,_,rfl,Nat.le_refl _,fun i u hi=>?_⟩
  have:=h.1
  rw[Nat.zero_mul] at this
  rw[List.eq_nil_of_length_eq_zero this] at hi
  simp at hi
 ·refine⟨_,_,rfl,hc,fun i u hi=>⟨g,rfl,?_⟩⟩
  have hlt:i < n * size:=by have:=h.1;have:=(List.getElem?_eq_some_iff.1 hi).1;omega
  have:cur[i]?=some u:=by
   rw[←ht,List.getElem?_take,if_pos hlt] at hi
   simpa using hi
  simp[World.cell?,hh,this]
theorem qc {W:World}{b:Nat}{t:TypeId}{cs:Array Value}{fr:Nat × Nat}(h:W.heap[b]?=some (.cells cs t fr))(i:Nat):W.cell? ⟨b,i,none⟩=cs[i]?:=by
 simp[World.cell?,h]
theorem zf {W:World}{base e size:Nat}{v:Value}{n:Nat}{xs:List Value}(h:W.ownsRow base e size v n xs):∀k,v.ownBlock=some k→base≤k:=fun k hk=>by
 rcases h.2 with ⟨rfl,_⟩ | ⟨g,cap,cur,rfl,hb,_⟩
 ·cases hk
 ·cases hk;exact hb
theorem jl {W:World}{base e size:Nat}{v:Value}{n:Nat}{xs:List Value}(h:W.ownsRow base e size v n xs):∀k,v.ownBlock=some k→k < W.heap.size:=fun k hk=>by
 rcases h.2 with ⟨rfl,_⟩ | ⟨g,cap,cur,rfl,hb,hh,_⟩
 ·cases hk
 ·cases hk;exact (Array.getElem?_eq_some_iff.1 hh).1
theorem q34 {W:World}{base e size g n cap:Nat}{xs:List Value}(h:W.ownsRow base e size (.slice (some ⟨g,0,none⟩) n cap) n xs)(i:Nat)(u:Value)(hi:xs[i]?=some u):W.cell? ⟨g,i,none⟩=some u:=by
 rcases h.2 with ⟨e',_⟩ | ⟨g',cap',cur,hv,hg',hh,hn,hc,hsz,ht⟩
 ·cases e'
 ·simp only[Value.slice.injEq,Option.some.injEq,Addr.mk.injEq] at hv
  obtain⟨⟨rfl,_⟩,_,rfl⟩:=hv
  have hlt:i < n * size:=by have:=h.1;have:=(List.getElem?_eq_some_iff.1 hi).1;omega
  have:cur[i]?=some u:=by
   rw[←ht,List.getElem?_take,if_pos hlt] at hi
   simpa using hi
  simp[World.cell?,hh,this]
theorem zo {W W':World}{base e size:Nat}{v:Value}{n:Nat}{xs:List Value}(h:W.ownsRow base e size v n xs)(hk:∀g,v.ownBlock=some g→W'.heap[g]?=W.heap[g]?):W'.ownsRow base e size v n xs:=by
 refine⟨h.1,?_⟩
 rcases h.2 with h0 | ⟨g,cap,cur,hv,hg,hh,hr⟩
 ·exact .inl h0
 ·exact .inr ⟨g,cap,cur,hv,hg,(hk g (by rw[hv];rfl)).trans hh,hr⟩
theorem q0f {W:World}{base e size n:Nat}{v:Value}{xs:List Value}(h:W.ownsRow base e size v n xs)(hn:0 < n):∃g c,v=.slice (some ⟨g,0,none⟩) n c∧n≤c∧base≤g∧g < W.heap.size:=by
 rcases h.2 with ⟨_,rfl⟩ | ⟨g,cap,cur,rfl,hg,hh,hc,_⟩
 ·omega
 ·exact⟨g,cap,rfl,hc,hg,(Array.getElem?_eq_some_iff.1 hh).1⟩
theorem qp {W:World}{base base' e size n:Nat}{v:Value}{xs:List Value}(h:W.ownsRow base e size v n xs)(hb:base'≤base):W.ownsRow base' e size v n xs:=by
 refine⟨h.1,?_⟩
 rcases h.2 with h0 | ⟨g,cap,cur,hv,hg,hr⟩
 ·exact .inl h0
 ·exact .inr ⟨g,cap,cur,hv,Nat.le_trans hb hg,hr⟩
structure Ch (X:Nat→Prop)(W W':World):Prop where
 os:W'.os=W.os
 tape:W'.tape=W.tape
 output:W'.output=W.output
 size:W.heap.size≤W'.heap.size
 block:∀g,g < W.heap.size→¬X g→W'.heap[g]?=W.heap[g]?
theorem Ch.refl (X:Nat→Prop)(W:World):Ch X W W:=⟨rfl,rfl,rfl,Nat.le_refl _,fun _ _ _=>rfl⟩
theorem Ch.trans {X:Nat→Prop}{A B C:World}(h:Ch X A B)(k:Ch X B C):Ch X A C:=⟨k.os.trans h.os,k.tape.trans h.tape,k.output.trans h.output,Nat.le_trans h.size k.size,fun g hg hx=>(k.block g (Nat.lt_of_lt_of_le hg h.size) hx).trans (h.block g hg hx)⟩
theorem Ch.mono {X Y:Nat→Prop}{A B:World}(h:Ch X A B)(hm:∀g,X g→Y g):Ch Y A B:=⟨h.os,h.tape,h.output,h.size,fun g hg hx=>h.block g hg fun e=>hx (hm g e)⟩
theorem Ch.of_below {X:Nat→Prop}{A B:World}(h:Below A.heap.size A B):Ch X A B:=⟨h.os,h.tape,h.output,h.size,fun g hg _=>h.block g hg⟩
theorem Ch.jm {A B:World}{r:Option Nat}(h:A.grownBy B r):Ch (fun g=>r=some g) A B:=⟨h.os,h.tape,h.output,h.size,fun g hg hx=>h.block g hg fun e=>hx e.symm⟩
theorem Ch.below {X:Nat→Prop}{A B:World}(h:Ch X A B){N:Nat}(hN:N≤A.heap.size)(hx:∀g,X g→N≤g):Below N A B:=⟨h.os,h.tape,h.output,Nat.le_trans hN h.size |> fun _=>h.size,fun g hg=>h.block g (Nat.lt_of_lt_of_le hg hN) fun e=>by have:=hx g e;omega⟩
theorem xu (W:World)(g i:Nat)(u:Value):Ch (fun b=>b=g) W (W.setCell ⟨g,i,none⟩ u):=⟨rfl,rfl,rfl,by simp[World.setCell],fun b _ hb=>Below.heap_setCell _ _ _ b hb⟩
theorem qh {X:Nat→Prop}{W W':World}{base e size n:Nat}{v:Value}{xs:List Value}(h:W.ownsRow base e size v n xs)(hc:Ch X W W')(hx:∀g,v.ownBlock=some g→¬X g):W'.ownsRow base e size v n xs :=
 zo h fun g hg=>hc.block g (jl h g hg) (hx g hg)
def qdj (W:World)(Pr:Nat→Prop)(v:Value)(n:Nat)(xs:List Value):Prop:=∃a c,v=.slice a n c∧n≤c∧∀(i:Nat) (u:Value),xs[i]?=some u→∃g,a=some ⟨g,0,none⟩∧Pr g∧g < W.heap.size∧W.cell? ⟨g,i,none⟩=some u
theorem qdj.ch {X Pr Pr':Nat→Prop}{W W':World}{v:Value}{n:Nat}{xs:List Value}(h:qdj W Pr v n xs)(hc:Ch X W W')(hx:∀g,Pr g→¬X g)(hp:∀g,Pr g→Pr' g):qdj W' Pr' v n xs:=by
 obtain⟨a,c,e,hn,h⟩:=h
 refine⟨a,c,e,hn,fun i u hu=>?_⟩
 obtain⟨g,ea,hg,hl,hcell⟩:=h i u hu
 refine⟨g,ea,hp g hg,Nat.lt_of_lt_of_le hl hc.size,?_⟩
 have hb:=hc.block g hl (hx g hg)
 exact (World.cell?_of_block (a:=⟨g,i,none⟩) hb).trans hcell
theorem qdj.own {W:World}{Pr:Nat→Prop}{base e size n:Nat}{v:Value}{xs:List Value}(h:W.ownsRow base e size v n xs)(hp:∀g,v.ownBlock=some g→Pr g):qdj W Pr v n xs:=by
 obtain⟨a,c,e,hc,hcell⟩:=zx h
 refine⟨a,c,e,hc,fun i u hu=>?_⟩
 obtain⟨g,rfl,h0⟩:=hcell i u hu
 subst e
 exact⟨g,rfl,hp g rfl,jl h g rfl,h0⟩
theorem q43 {x:Value}{g n c N:Nat}(h:x.ownBlock=some g∨g=N):∀b,(Value.slice (some ⟨g,0,none⟩) n c).ownBlock=some b→x.ownBlock=some b∨N≤b:=fun b e=>by
 cases e
 rcases h with h | h
 ·exact .inl h
 ·exact .inr (by rw[h];exact Nat.le_refl _)
end S.M
namespace S
open Go.RowKit
theorem qg (w:World)(o:Obj):Below w.heap.size w (w.alloc o):=(Below.refl _ w).alloc (Nat.le_refl _) o
theorem below_drewN {N:Nat}{w w':World}(h:Below N w w')(k:Nat):Below N w (w'.drewN k):=⟨h.os,h.tape,h.output,h.size,h.block⟩
theorem M.zi {N:Nat}{w w':World}(h:Below N w w')(k:Nat):Below N w (w'.drewN k):=below_drewN h k
structure Tok where
 text:ByteArray
 off:Int
 line:Int
 col:Int
def zn (t:Tok):Value:=.agg #[.string t.text,.int .i64 t.off,.int .i64 t.line,.int .i64 t.col]
def um (t:Tok):List Value:=[.string t.text,.int .i64 t.off,.int .i64 t.line,.int .i64 t.col]
def rowT (ts:List Tok):List Value:=ts.flatMap um
theorem qdk (l m:List Tok):rowT (l++m)=rowT l++rowT m:=by simp[rowT]
theorem qlu (l:List Tok):(rowT l).length=l.length * 4:=by
 induction l with
 | nil=>rfl
 | cons x l ih =>
  have e:rowT (x :: l)=um x++rowT l:=rfl
  rw[e,List.length_append,ih,List.length_cons]
  simp[um];omega
theorem q6v:∀(ts:List Tok) (i j:Nat) (t:Tok),ts[i]?=some t→j < 4→(rowT ts)[i * 4 + j]?=(um t)[j]?
 | [],i,j,t,h,_=>by simp at h
 | x :: r,0,j,t,h,hj=>by
  simp at h;subst h
  have e:rowT (x :: r)=um x++rowT r:=rfl
  rw[e,Nat.zero_mul,Nat.zero_add,List.getElem?_append_left (by simp[um];omega)]
 | x :: r,i + 1,j,t,h,hj=>by
  have e:rowT (x :: r)=um x++rowT r:=rfl
  have h2:r[i]?=some t:=by simpa using h
  rw[e,List.getElem?_append_right (by simp[um];omega)]
  have e2:(i + 1) * 4 + j - (um x).length=i * 4 + j:=by simp[um];omega
  rw[e2]
  exact q6v r i j t h2 hj
theorem qlv:(Tryz.prog.info? 36).map (fun i=>(i.zero,i.size,i.bytes))=some (some (.agg #[.string ⟨#[]⟩,.int .i64 0,.int .i64 0,.int .i64 0]),4,40):=by kernel_rfl
def q3m (w:World)(a:Option Addr)(ts:List Tok):Prop:=∀(i:Nat) (t:Tok),ts[i]?=some t→∃b off,a=some ⟨b,off,none⟩ ∧
 w.cell? ⟨b,off + i * 4,none⟩=some (.string t.text)∧w.cell? ⟨b,off + i * 4 + 1,none⟩=some (.int .i64 t.off)∧w.cell? ⟨b,off + i * 4 + 2,none⟩=some (.int .i64 t.line)∧w.cell? ⟨b,off + i * 4 + 3,none⟩=some (.int .i64 t.col)
theorem q3m.under {w w':World}{a:Option Addr}{ts:List Tok}(h:q3m w a ts)(hb:Below w.heap.size w w'):q3m w' a ts:=fun i t hi=>by
 obtain⟨b,off,e,h0,h1,h2,h3⟩:=h i t hi
 have hlt:b < w.heap.size:=World.block_lt_of_cell? _ _ h0
 exact⟨b,off,e,(hb.cell (p:=⟨b,_,none⟩) hlt).trans h0,(hb.cell (p:=⟨b,_,none⟩) hlt).trans h1,(hb.cell (p:=⟨b,_,none⟩) hlt).trans h2,(hb.cell (p:=⟨b,_,none⟩) hlt).trans h3⟩
theorem gu {W:World}{base:Nat}{v:Value}{n:Nat}{ts:List Tok}(h:W.ownsRow base 36 4 v n (rowT ts)):∃a c,v=.slice a n c∧n≤c∧q3m W a ts:=by
 obtain⟨a,c,rfl,hc,hcell⟩:=M.zx h
 refine⟨a,c,rfl,hc,fun i t ht=>?_⟩
 have k0:=q6v ts i 0 t ht (by omega)
 have k1:=q6v ts i 1 t ht (by omega)
 have k2:=q6v ts i 2 t ht (by omega)
 have k3:=q6v ts i 3 t ht (by omega)
 obtain⟨g,rfl,h0⟩:=hcell _ _ k0
 obtain⟨_,e,h1⟩:=hcell _ _ k1
 cases e
 obtain⟨_,e,h2⟩:=hcell _ _ k2
 cases e
 obtain⟨_,e,h3⟩:=hcell _ _ k3
 cases e
 refine⟨g,0,rfl,?_,?_,?_,?_⟩ <;> rw[Nat.zero_add] <;> assumption
theorem qlw (ts:List Tok):∀u ∈ rowT ts,u.oneCell'=true:=fun u hu=>by
 unfold rowT at hu
 rw[List.mem_flatMap] at hu
 obtain⟨t,_,ht⟩:=hu
 simp[um] at ht
 rcases ht with rfl | rfl | rfl | rfl <;> rfl
end S
namespace S
open Go.RowKit
theorem q26 {a b:Bool}(h:a=b):Ending.returned (.bool a)=.returned (.bool b):=by rw[h]
theorem take_snoc (s:ByteArray)(k:Nat)(h:k < s.size):s.data.toList.take (k + 1)=s.data.toList.take k++[s[k]]:=by
 have hk:k < s.data.toList.length:=by simpa using h
 rw[List.take_add_one,List.getElem?_eq_getElem hk];rfl
theorem q6w {p:UInt8→Bool}{s:ByteArray}{k:Nat}(h:k < s.size)(ha:(s.data.toList.take k).all p=true)(hp:p s[k]=true):(s.data.toList.take (k + 1)).all p=true:=by
 rw[take_snoc s k h];simp[ha,hp]
theorem q6x {p:UInt8→Bool}{s:ByteArray}{k:Nat}(h:s.size≤k)(ha:(s.data.toList.take k).all p=true):s.data.toList.all p=true:=by
 rwa [List.take_of_length_le (by simpa using h)] at ha
theorem q6y {p:UInt8→Bool}{s:ByteArray}{k:Nat}(h:k < s.size)(hp:p s[k]=false):s.data.toList.all p=false:=by
 rw[List.all_eq_false]
 refine⟨s[k],?_,by simp[hp]⟩
 have:s.data.toList[k]'(by simpa using h)=s[k]:=rfl
 rw[←this];exact List.getElem_mem _
theorem qlx {s:ByteArray}(h:0 < s.size):s.toList.isEmpty=false:=by
 rw[Lib.toList_data]
 cases hl:s.data.toList with
 | nil =>
  have h1:s.data.toList.length=s.size:=by rw[Array.length_toList];rfl
  rw[hl] at h1
  simp at h1
  omega
 | cons a l=>rfl
def okB (b:UInt8):Bool:=decide (33≤b.toNat) && decide (b.toNat≤126)
def keyB (s:ByteArray):Bool:=if h:0 < s.size then decide ((s[0]'h).toNat=36) else false
def q2q (s:ByteArray):Bool:=decide (0 < s.size) && !keyB s && s.data.toList.all okB
theorem qi3 {s:ByteArray}(h:0 < s.size):keyB s=decide ((s[0]'h).toNat=36):=by unfold keyB;rw[dif_pos h]
theorem qj4 {s:ByteArray}(h:¬0 < s.size):s=⟨#[]⟩:=by
 obtain⟨d⟩:=s
 have:d.size=0:=by simpa [ByteArray.size] using h
 rw[Array.eq_empty_of_size_eq_zero this]
theorem qbf (s:ByteArray)(w:World)(hs:s.size≤1099511627776):Calls Tryz.prog 183 #[.string s] w fun e w'=>e=.returned (.bool (q2q s))∧w'=w:=by
 by_cases h0:0 < s.size
 ·by_cases hd:(s[0]'h0).toNat=36
  ·have hp:Hid (q2q s=false):=by show _=_;unfold q2q;rw[qi3 h0,decide_eq_true hd];simp
   have h1:(((s[0]'h0).toNat:Int) == 36)=true:=by simp;omega
   have h2:s.toList.isEmpty=false:=qlx h0
   go_enter Tryz.func183,Tryz.ntmps183
   go_wp2
   go_ret
   exact⟨q26 (by rw[hp.out]),rfl⟩
  ·have hp:Hid (q2q s=s.data.toList.all okB):=by show _=_;unfold q2q;rw[qi3 h0,decide_eq_false hd,decide_eq_true h0];simp
   have h1:(((s[0]'h0).toNat:Int) == 36)=false:=by simp;omega
   have h2:s.toList.isEmpty=false:=qlx h0
   go_enter Tryz.func183,Tryz.ntmps183
   go_wp2
   go_loop [13] (fun i=>∃n:Nat,n≤s.size∧i=.int .i64 n∧Hid ((s.data.toList.take n).all okB=true)) (fun i=>s.size - (intOf i).toNat)
   case atStart=>exact⟨0,Nat.zero_le _,rfl,rfl⟩
   case round =>
    obtain⟨n,hn,rfl,ha⟩:=hrel
    by_cases hlt:n < s.size
    ·have n1:(n:Int) < (s.size:Int):=by omega
     by_cases hb:okB s[n]=true
     ·have hb2:33≤s[n].toNat∧s[n].toNat≤126:=by unfold okB at hb;simpa using hb
      have a1:¬((s[n].toNat:Int) < 33):=by omega
      have a2:¬((126:Int) < (s[n].toNat:Int)):=by omega
      go_wp2
      exact⟨⟨n + 1,by omega,by go_num,q6w hlt ha.out hb⟩,by simp[intOf];omega⟩
     ·have hb2:¬(33≤s[n].toNat∧s[n].toNat≤126):=by unfold okB at hb;simpa using hb
      have hF:Hid (q2q s=false):=by show _=_;rw[hp.out];exact q6y hlt (by simpa using hb)
      by_cases a1:(s[n].toNat:Int) < 33
      ·go_wp2
       go_ret
       exact⟨q26 (by rw[hF.out]),rfl⟩
      ·have a2:(126:Int) < (s[n].toNat:Int):=by omega
       go_wp2
       go_ret
       exact⟨q26 (by rw[hF.out]),rfl⟩
    ·have n1:¬(n:Int) < (s.size:Int):=by omega
     go_wp2
     go_ret
     exact⟨q26 (by rw[hp.out,q6x (by omega) ha.out]),rfl⟩
 ·have hp:Hid (q2q s=false):=by show _=_;unfold q2q;rw[decide_eq_false h0];simp
  have he:=qj4 h0
  subst he
  go_enter Tryz.func183,Tryz.ntmps183
  go_wp2
  go_ret
  exact⟨q26 (by rw[hp.out]),rfl⟩
end S
namespace S
open Go.RowKit
def q5g:List (List UInt8 × Bool × Int × Int):=[([],false,0,0),([36,99],false,1,9223372036854775807),([36,118],false,1,9223372036854775807),([36,102],true,2,2),([36,101],true,1,9223372036854775807),([36,100],false,2,32),([36,97],true,1,9223372036854775807),([36,112],true,1,9223372036854775807),([36,123],false,0,0),([36,125],false,0,0)]
def kwB (k:Nat):ByteArray:=⟨(q5g.getD k ([],false,0,0)).1.toArray⟩
def qj5 (k:Nat):Bool:=(q5g.getD k ([],false,0,0)).2.1
def q8x (k:Nat):Int:=(q5g.getD k ([],false,0,0)).2.2.1
def qdl (k:Nat):Int:=(q5g.getD k ([],false,0,0)).2.2.2
def yh (w:World):Prop:=∀k,k < 10→w.cell? ⟨0,k * 4,none⟩=some (.string (kwB k))∧w.cell? ⟨0,k * 4 + 1,none⟩=some (.bool (qj5 k))∧w.cell? ⟨0,k * 4 + 2,none⟩=some (.int .i64 (q8x k))∧w.cell? ⟨0,k * 4 + 3,none⟩=some (.int .i64 (qdl k))
theorem yh.size {w:World}(h:yh w):0 < w.heap.size:=World.block_lt_of_cell? _ _ (h 0 (by omega)).1
theorem yh.under {w w':World}(h:yh w)(hb:Below w.heap.size w w'):yh w':=fun k hk=>by
 obtain⟨h0,h1,h2,h3⟩:=h k hk
 have hlt:=h.size
 exact⟨(hb.cell (p:=⟨0,_,none⟩) hlt).trans h0,(hb.cell (p:=⟨0,_,none⟩) hlt).trans h1,(hb.cell (p:=⟨0,_,none⟩) hlt).trans h2,(hb.cell (p:=⟨0,_,none⟩) hlt).trans h3⟩
end S
namespace S
open Go.RowKit
def q0k (c:UInt8):Value:=.int .u8 c.toNat
theorem qi4:(Tryz.prog.info? 5).map (fun i=>(i.zero,i.size,i.bytes))=some (some (.int .u8 0),1,1):=by kernel_rfl
theorem q40 (s:ByteArray):s.data.toList.length=s.size:=by rw[Array.length_toList];rfl
section
variable {P:Program} {w:World}
theorem q6d (base:Nat) (t u ty e:TypeId) (i:TypeInfo) (ht:P.underlying t=some (.slice e)) (hu:P.underlying u=some .string) (hi:P.info? e=some i) (hz:i.zero=some (.int .u8 0)) (hsize:i.size=1) (hby:i.bytes=1)
  (v:Value) (n:Nat) (xs:List Value) (hown:w.ownsRow base e 1 v n xs) (s:ByteArray) (h63:n + s.size≤maxLen) (hbytes:n + s.size≤140737488355328) (hbase:base≤w.heap.size) :
  ∃a c w',(Builtin.append_ #[t,u] ty #[v,.string s]).run P w=.ok (.slice a (n + s.size) c) w'∧w'.ownsRow base e 1 (.slice a (n + s.size) c) (n + s.size) (xs++Lib.strCells s)∧w.grownBy w' v.ownBlock∧∀b,(Value.slice a (n + s.size) c).ownBlock=some b→v.ownBlock=some b∨w.heap.size≤b:=by
 obtain⟨v',w',hr,h2,h3,_⟩:=Lib.run_append_own_string (P:=P) (w:=w) base t u ty e i ht hu hi hz hsize hby v n xs hown s h63 hbytes hbase
 obtain⟨a',c',rfl,_⟩:=qm h2
 refine⟨a',c',w',hr,h2,h3,fun b hb=>?_⟩
 have hxl:xs.length=n:=by simpa using hown.1
 rcases hown.2 with ⟨rfl,rfl⟩ | ⟨g,cap,cur,rfl,hbg,hg,hnc,hcm,hcs,htake⟩
 ·have hx:xs=[]:=List.eq_nil_of_length_eq_zero hxl
  subst hx
  obtain⟨v2,w2,hr2,k2,_,_⟩:=Lib.run_append_own_string (P:=P) (w:=w) w.heap.size t u ty e i ht hu hi hz hsize hby (.slice none 0 0) 0 [] (World.ownsRow_nil _ _ _ _) s h63 hbytes (Nat.le_refl _)
  rw[hr] at hr2
  simp only[Result.ok.injEq] at hr2
  obtain⟨e2,e3⟩:=hr2
  rw[←e2,←e3] at k2
  exact .inr (M.zf k2 b hb)
 ·by_cases hroom:n + s.size≤cap
  ·have hr':=Lib.run_append_room_string (P:=P) w t u ty e i ht hu hi hsize g n cap cur hg s hroom (by omega)
   rw[hr] at hr'
   simp only[Result.ok.injEq,Value.slice.injEq] at hr'
   obtain⟨⟨rfl,_⟩,_⟩:=hr'
   cases hb
   exact .inl rfl
  ·have holds:∀j u,xs[j]?=some u→w.cell? ((⟨g,0,none⟩:Addr).add j)=some u:=hown.cells (g:=g) rfl
   have hr':=Lib.run_append_grow_string (P:=P) w t u ty e i (.int .u8 0) ht hu hi hz ⟨g,0,none⟩ n cap xs (by rw[hsize];simpa using hxl) holds s (by omega) (by omega) (by rw[hby];exact growslice_fits (by omega) (by omega))
   rw[hr] at hr'
   simp only[Result.ok.injEq,Value.slice.injEq] at hr'
   obtain⟨⟨rfl,_⟩,_⟩:=hr'
   cases hb
   exact .inr (Nat.le_refl _)
theorem q4i {ops:Array Oper} {rest:List Oper} {o:Oper} {a:Act} {Q:Exit→Act→World→Prop} (hgd:o.guard=none) (s x:Operand) (t u:TypeId)
  (ho:o.op=.call { callee:=.builtin .append,args:=#[s,x],argTypes:=#[t,u] })
  (base:Nat) (e:TypeId) (i:TypeInfo) (ht:P.underlying t=some (.slice e)) (hu:P.underlying u=some .string) (hi:P.info? e=some i) (hz:i.zero=some (.int .u8 0)) (hsize:i.size=1) (hby:i.bytes=1)
  (v:Value) (n:Nat) (xs:List Value) (hs:a.eval s=v) (hown:w.ownsRow base e 1 v n xs) (str:ByteArray) (hx:a.eval x=.string str)
  (h63:n + str.size≤maxLen) (hbytes:n + str.size≤140737488355328) (hbase:base≤w.heap.size)
  (h:∀a' c' w',w'.ownsRow base e 1 (.slice a' (n + str.size) c') (n + str.size) (xs++Lib.strCells str)→w.grownBy w' v.ownBlock→(∀b,(Value.slice a' (n + str.size) c').ownBlock=some b→v.ownBlock=some b∨w.heap.size≤b)→wpList P ops Q rest (a.put o.dst (.slice a' (n + str.size) c')) w'):wpList P ops Q (o :: rest) a w:=by
 refine wpList_plain hgd fun K hK=>?_
 obtain⟨a',c',w',hr,h2,h3,h4⟩:=q6d (P:=P) (w:=w) base t u o.type e i ht hu hi hz hsize hby v n xs hown str h63 hbytes hbase
 unfold Oper.wp execOp
 simp only[ho,resolve,invoke,builtin,Sem.run_bind,Sem.run_pure,Result.andThen_ok,List.map_toArray,List.map_cons,List.map_nil,hs,hx,hr]
 exact hK _ _ (h a' c' w' h2 h3 h4)
end
structure Pst where
 bs:List UInt8
 n:Nat
 full:Bool
structure q27 (w:World)(P:Nat)(v:Value)(s:Pst):Prop where
 box:∃p,(p=.pointer none∨p=.pointer (some ⟨P,0,none⟩))∧w.heap[P]?=some (.cells #[p,v,.int .i64 s.n,.bool s.full] 139 (0,0))
 own:w.ownsRow (P + 1) 5 1 v s.bs.length (s.bs.map q0k)
 nil:s.bs=[]→v=.slice none 0 0
 len:s.bs.length≤65536
 num:s.n≤16384
structure Pg (P:Nat)(w:World)(v:Value)(w':World)(v':Value):Prop where
 ch:M.Ch (fun g=>g=P∨v.ownBlock=some g) w w'
 loc:∀g,v'.ownBlock=some g→v.ownBlock=some g∨w.heap.size≤g
theorem Pg.refl (P:Nat)(w:World)(v:Value):Pg P w v w v:=⟨M.Ch.refl _ _,fun _ e=>.inl e⟩
theorem Pg.trans {P:Nat}{a b c:World}{u v x:Value}(h:Pg P a u b v)(k:Pg P b v c x):Pg P a u c x :=
 ⟨⟨k.ch.os.trans h.ch.os,k.ch.tape.trans h.ch.tape,k.ch.output.trans h.ch.output,Nat.le_trans h.ch.size k.ch.size,fun g hg hx=>(k.ch.block g (Nat.lt_of_lt_of_le hg h.ch.size) fun e=>e.elim (fun e=>hx (.inl e)) fun e=>(h.loc g e).elim (fun e=>hx (.inr e)) fun e=>by omega).trans (h.ch.block g hg hx)⟩,
  fun g e=>(k.loc g e).elim (h.loc g) fun e=>.inr (Nat.le_trans h.ch.size e)⟩
theorem Pg.of_below {P:Nat}{a b:World}{v:Value}(h:Below a.heap.size a b):Pg P a v b v:=⟨M.Ch.of_below h,fun _ e=>.inl e⟩
theorem q27.down {w w':World}{P:Nat}{v:Value}{s:Pst}(h:q27 w P v s)(hb:Below w.heap.size w w'):q27 w' P v s:=by
 obtain⟨p,hp,hk⟩:=h.box
 exact⟨⟨p,hp,(hb.block P (Array.getElem?_eq_some_iff.1 hk).1).trans hk⟩,M.qh h.own (M.Ch.of_below (X:=fun _=>False) hb) (fun _ _ e=>e),h.nil,h.len,h.num⟩
theorem q27.lt {w:World}{P:Nat}{v:Value}{s:Pst}(h:q27 w P v s):P < w.heap.size:=by
 obtain⟨p,hp,hk⟩:=h.box
 exact (Array.getElem?_eq_some_iff.1 hk).1
theorem q27.ge {w:World}{P:Nat}{v:Value}{s:Pst}(h:q27 w P v s):∀g,v.ownBlock=some g→P < g:=fun g e=>M.zf h.own g e
theorem Pg.below {P N:Nat}{a b:World}{u v:Value}{s:Pst}(h:Pg P a u b v)(hp:q27 a P u s)(hN:N≤P):Below N a b :=
 h.ch.below (by have:=hp.lt;omega) fun g e=>e.elim (fun e=>by omega) fun e=>by have:=hp.ge g e;omega
theorem qbg (w:World)(P:Nat)(v:Value)(n:Int)(f:Bool)(p:Value)(hp:p=.pointer none∨p=.pointer (some ⟨P,0,none⟩))(hk:w.heap[P]?=some (.cells #[p,v,.int .i64 n,.bool f] 139 (0,0))) :
  Calls Tryz.prog 147 #[.pointer (some ⟨P,0,none⟩)] w fun e w'=>e=.returned (.tuple #[])∧w'.heap[P]?=some (.cells #[.pointer (some ⟨P,0,none⟩),v,.int .i64 n,.bool f] 139 (0,0))∧M.Ch (fun g=>g=P) w w':=by
 obtain⟨j,hj,hjs⟩:∃j,Tryz.prog.info? 137=some j∧j.size=2:=Option.map_eq_some_iff.1 (show (Tryz.prog.info? 137).map (·.size)=some 2 by kernel_rfl)
 have h0:w.cell? ⟨P,0,none⟩=some p:=M.qc hk 0
 have hfz:w.frozen? ⟨P,0,none⟩=false:=by simp[World.frozen?,hk]
 have hsh:w.shape? P=some (139,4):=by simp[World.shape?,hk]
 have HK:Hid (w.heap[P]?=some (.cells #[p,v,.int .i64 n,.bool f] 139 (0,0))):=hk
 clear hk
 rcases hp with rfl | rfl
 ·go_enter Tryz.func147,Tryz.ntmps147
  go_wp2
  rw[Lib.run_to_unsafe _ ⟨P,0,none⟩ Tryz.underlying135 Tryz.underlying255 hj (by rw[hjs];decide) hsh (by show 0 < 4;omega)]
  simp only[Result.andThen]
  rw[Oper.upon_value]
  go_wp2
  rw[run_callFunc_extern Tryz.func207 (by kernel_rfl) (by kernel_rfl) (by kernel_rfl) (e:=Extern.AbiNoEscape.same) (by kernel_rfl)]
  rw[Lib.run_noEscape]
  simp only[Result.andThen]
  rw[Oper.upon_value]
  go_wp2
  rw[Lib.run_from_unsafe _ ⟨P,0,none⟩ Tryz.underlying255 Tryz.underlying135 hj hsh (by kernel_rfl)]
  simp only[Result.andThen]
  rw[Oper.upon_value]
  go_wp2
  go_end0
  exact⟨rfl,M.qj HK.out,M.xu _ _ _ _⟩
 ·go_enter Tryz.func147,Tryz.ntmps147
  go_wp2
  rw[Lib.run_neq_ptr_same _ _ Tryz.underlying135 hj]
  go_wp2
  go_end0
  exact⟨rfl,HK.out,M.Ch.refl _ _⟩
theorem qly (w:World)(P:Nat)(v:Value)(s:Pst)(h:q27 w P v s):Calls Tryz.prog 184 #[.pointer (some ⟨P,0,none⟩)] w fun e w'=>e=.returned (.int .i64 s.bs.length)∧w'=w:=by
 obtain⟨p,_,hk⟩:=h.box
 obtain⟨a,c,rfl,hc,_⟩:=M.zx h.own
 have h1:w.cell? ⟨P,1,none⟩=some (.slice a s.bs.length c):=M.qc hk 1
 clear h hk
 go_enter Tryz.func184,Tryz.ntmps184
 go_wp2
 go_ret
 exact⟨rfl,rfl⟩
theorem Pg.qi5 {P:Nat}{w w1 w2:World}{v v':Value}(h1:M.Ch (fun g=>g=P) w w1)(h2:w1.grownBy w2 v.ownBlock)(h3:∀b,v'.ownBlock=some b→v.ownBlock=some b∨w1.heap.size≤b)(u:Value):Pg P w v (w2.setCell ⟨P,1,none⟩ u) v' :=
 ⟨((h1.mono fun _ e=>.inl e).trans ((M.Ch.jm h2).mono fun _ e=>.inr e)).trans ((M.xu w2 P 1 u).mono fun _ e=>.inl e),fun g e=>(h3 g e).elim .inl fun e=>.inr (Nat.le_trans h1.size e)⟩
theorem qfx (w:World)(P:Nat)(v p:Value)(n:Int)(f:Bool)(bs:List UInt8)(word:ByteArray)(hp:p=.pointer none∨p=.pointer (some ⟨P,0,none⟩))(hk:w.heap[P]?=some (.cells #[p,v,.int .i64 n,.bool f] 139 (0,0)))(hown:w.ownsRow (P + 1) 5 1 v bs.length (bs.map q0k))(hlen:bs.length + word.size≤1099511627776) :
  Calls Tryz.prog 94 #[.pointer (some ⟨P,0,none⟩),.string word] w fun e w'=>e=.returned (.tuple #[.int .i64 word.size,.nilIface])∧∃v',w'.heap[P]?=some (.cells #[.pointer (some ⟨P,0,none⟩),v',.int .i64 n,.bool f] 139 (0,0))∧w'.ownsRow (P + 1) 5 1 v' (bs++word.data.toList).length ((bs++word.data.toList).map q0k)∧Pg P w v w' v':=by
 obtain⟨i0,hi0,hz0,hz1,hz3⟩:=info_parts qi4
 obtain⟨m,hm⟩:∃m,bs.length=m:=⟨_,rfl⟩
 rw[hm] at hown hlen
 obtain⟨a,c,rfl,hc,_⟩:=M.zx hown
 have CC:Hid _:=qbg w P (.slice a m c) n f p hp hk
 have HO:Hid (w.ownsRow (P + 1) 5 1 (.slice a m c) m (bs.map q0k)):=hown
 have HP:Hid (P < w.heap.size):=(Array.getElem?_eq_some_iff.1 hk).1
 have HM:Hid (bs.length=m):=hm
 clear hp hk hown hm
 go_enter Tryz.func94,Tryz.ntmps94
 go_wp2_with fail
 refine Calls.mono CC.out ?_
 rintro e w1 ⟨rfl,hk1,hc1⟩
 have HO1:Hid (w1.ownsRow (P + 1) 5 1 (.slice a m c) m (bs.map q0k)):=M.qh HO.out hc1 fun g e hx=>by have h1:=M.zf HO.out g e;omega
 have C1:Hid (M.Ch (fun g=>g=P) w w1):=hc1
 have c1:w1.cell? ⟨P,1,none⟩=some (.slice a m c):=M.qc hk1 1
 have HK1:Hid (w1.heap[P]?=some (.cells #[.pointer (some ⟨P,0,none⟩),.slice a m c,.int .i64 n,.bool f] 139 (0,0))):=hk1
 clear hk1 hc1 CC HO
 go_wp2_with (at_builtin;refine q4i (w:=w1) rfl _ _ _ _ rfl (P + 1) 5 i0 Tryz.underlying133 Tryz.underlying9 hi0 hz0 hz1 hz3 _ m (bs.map q0k) (by rfl) (by exact HO1.out) word (by rfl) (by unfold maxLen;omega) (by omega) (by have h1:=C1.out.size;have h2:=HP.out;omega) ?_;intro a2 c2 w2 ho2 hg2 hl2;have HO2:Hid (w2.ownsRow (P + 1) 5 1 (.slice a2 (m + word.size) c2) (m + word.size) (bs.map q0k++Lib.strCells word)):=ho2;have HG2:Hid (w1.grownBy w2 (Value.slice a m c).ownBlock):=hg2;have HL2:Hid (∀b,(Value.slice a2 (m + word.size) c2).ownBlock=some b→(Value.slice a m c).ownBlock=some b∨w1.heap.size≤b):=hl2;clear ho2 hg2 hl2;have HK2:Hid (w2.heap[P]?=some (.cells #[.pointer (some ⟨P,0,none⟩),.slice a m c,.int .i64 n,.bool f] 139 (0,0))):=(HG2.out.block P (by have h1:=C1.out.size;have h2:=HP.out;omega) (fun e=>by have h1:=M.zf HO1.out P e.symm;omega)).trans HK1.out;have c2':w2.cell? ⟨P,1,none⟩=some (.slice a m c):=M.qc HK2.out 1;have f2':w2.frozen? ⟨P,1,none⟩=false:=by simp[World.frozen?,HK2.out])
 go_ret2
 refine⟨rfl,.slice a2 (m + word.size) c2,M.qj HK2.out,?_,Pg.qi5 C1.out HG2.out HL2.out _⟩
 rw[List.length_append,HM.out,q40,List.map_append]
 exact M.qh HO2.out (M.xu w2 P 1 _) fun g e hx=>by have h1:=M.zf HO2.out g e;omega
theorem qj6 (w:World)(P:Nat)(v p:Value)(n:Int)(f:Bool)(bs:List UInt8)(ch:UInt8)(ci:Int)(hci:(ch.toNat:Int)=ci)(hp:p=.pointer none∨p=.pointer (some ⟨P,0,none⟩))(hk:w.heap[P]?=some (.cells #[p,v,.int .i64 n,.bool f] 139 (0,0)))(hown:w.ownsRow (P + 1) 5 1 v bs.length (bs.map q0k))(hlen:bs.length≤1099511627776) :
  Calls Tryz.prog 93 #[.pointer (some ⟨P,0,none⟩),.int .u8 ci] w fun e w'=>e=.returned .nilIface∧∃v',w'.heap[P]?=some (.cells #[.pointer (some ⟨P,0,none⟩),v',.int .i64 n,.bool f] 139 (0,0))∧w'.ownsRow (P + 1) 5 1 v' (bs++[ch]).length ((bs++[ch]).map q0k)∧Pg P w v w' v':=by
 obtain⟨i0,hi0,hz0,hz1,hz3⟩:=info_parts qi4
 obtain⟨m,hm⟩:∃m,bs.length=m:=⟨_,rfl⟩
 rw[hm] at hown hlen
 obtain⟨a,c,rfl,hc,_⟩:=M.zx hown
 have CC:Hid _:=qbg w P (.slice a m c) n f p hp hk
 have HO:Hid (w.ownsRow (P + 1) 5 1 (.slice a m c) m (bs.map q0k)):=hown
 have HP:Hid (P < w.heap.size):=(Array.getElem?_eq_some_iff.1 hk).1
 have HM:Hid (bs.length=m):=hm
 have HCI:Hid ((ch.toNat:Int)=ci):=hci
 clear hp hk hown hm hci
 go_enter Tryz.func93,Tryz.ntmps93
 go_wp2_with fail
 refine Calls.mono CC.out ?_
 rintro e w1 ⟨rfl,hk1,hc1⟩
 have HO1:Hid (w1.ownsRow (P + 1) 5 1 (.slice a m c) m (bs.map q0k)):=M.qh HO.out hc1 fun g e hx=>by have h1:=M.zf HO.out g e;omega
 have C1:Hid (M.Ch (fun g=>g=P) w w1):=hc1
 have c1:w1.cell? ⟨P,1,none⟩=some (.slice a m c):=M.qc hk1 1
 have HK1:Hid (w1.heap[P]?=some (.cells #[.pointer (some ⟨P,0,none⟩),.slice a m c,.int .i64 n,.bool f] 139 (0,0))):=hk1
 clear hk1 hc1 CC HO
 go_wp2_with (at_builtin;refine wpList_append_lies (w:=w1.alloc (.cells #[.int .u8 ci] 5)) rfl _ _ _ rfl (P + 1) 5 i0 (.int .u8 0) 1 1 Tryz.underlying133 hi0 hz0 hz1 hz3 rfl (by decide) _ m (bs.map q0k) (by rfl) (by exact M.zk HO1.out _) ⟨w1.heap.size,0,none⟩ 1 1 [.int .u8 ci] (by rfl) (by rfl) (fun j' u hu=>World.news_of_block (cs:=#[.int .u8 ci]) (t:=5) (fr:=(0,0)) (heap_alloc_new w1 _) j' u hu) (by simp[Value.oneCell']) (by omega) (by unfold maxLen;omega) (by omega) (by have h1:=C1.out.size;have h2:=HP.out;simp;omega) _ rfl ?_;intro g2 c2 w2 ho2 hg2 hl2 _;have HO2:Hid (w2.ownsRow (P + 1) 5 1 (.slice (some ⟨g2,0,none⟩) (m + 1) c2) (m + 1) (bs.map q0k++[.int .u8 ci])):=ho2;have HG2:Hid ((w1.alloc (.cells #[.int .u8 ci] 5)).grownBy w2 (Value.slice a m c).ownBlock):=hg2;have HL2:Hid ((Value.slice a m c).ownBlock=some g2∨g2=(w1.alloc (.cells #[.int .u8 ci] 5)).heap.size):=hl2;clear ho2 hg2 hl2;have HK2:Hid (w2.heap[P]?=some (.cells #[.pointer (some ⟨P,0,none⟩),.slice a m c,.int .i64 n,.bool f] 139 (0,0))):=(HG2.out.block P (by have h1:=C1.out.size;have h2:=HP.out;simp;omega) (fun e=>by have h1:=M.zf HO1.out P e.symm;omega)).trans (((qg w1 _).block P (by have h1:=C1.out.size;have h2:=HP.out;omega)).trans HK1.out);have c2':w2.cell? ⟨P,1,none⟩=some (.slice a m c):=M.qc HK2.out 1;have f2':w2.frozen? ⟨P,1,none⟩=false:=by simp[World.frozen?,HK2.out])
 go_ret
 refine⟨rfl,.slice (some ⟨g2,0,none⟩) (m + 1) c2,M.qj HK2.out,?_,?_⟩
 ·rw[List.length_append,HM.out,List.map_append]
  have h3:w2.ownsRow (P + 1) 5 1 (.slice (some ⟨g2,0,none⟩) (m + 1) c2) (m + 1) (bs.map q0k++[ch].map q0k):=by
   have h:=HO2.out
   rw[←HCI.out] at h
   exact h
  exact M.qh h3 (M.xu w2 P 1 _) fun g e hx=>by have h1:=M.zf HO2.out g e;omega
 ·refine Pg.trans (Pg.of_below (P:=P) (Below.refl _ w)) ?_
  have hc3:M.Ch (fun g=>g=P) w (w1.alloc (.cells #[.int .u8 ci] 5)):=C1.out.trans (M.Ch.of_below (qg w1 _))
  exact Pg.qi5 hc3 HG2.out (M.q43 HL2.out) _
end S
namespace S
open Go.RowKit
def qlz (s:Pst)(x:ByteArray × UInt8):Pst:=if s.full=true∨s.n=16384∨65536≤s.bs.length + x.1.size then ⟨s.bs,s.n,true⟩ else ⟨s.bs++x.1.data.toList++[x.2],s.n + 1,false⟩
theorem q27.fill {w:World}{P:Nat}{v:Value}{s:Pst}(h:q27 w P v s):q27 (w.setCell ⟨P,3,none⟩ (.bool true)) P v ⟨s.bs,s.n,true⟩:=by
 obtain⟨p,hp,hk⟩:=h.box
 exact⟨⟨p,hp,M.qj hk⟩,M.qh h.own (M.xu w P 3 _) fun g e hx=>by have:=h.ge g e;omega,h.nil,h.len,h.num⟩
theorem Pg.set {P:Nat}{w:World}{v:Value}(o:Nat)(u:Value):Pg P w v (w.setCell ⟨P,o,none⟩ u) v:=⟨(M.xu w P o u).mono fun _ e=>.inl e,fun _ e=>.inl e⟩
theorem put_any (w:World)(P:Nat)(v:Value)(s:Pst)(word:ByteArray)(ch:UInt8)(ci:Int)(hci:(ch.toNat:Int)=ci)(h:q27 w P v s)(_:word.size≤1048576) :
  Calls Tryz.prog 133 #[.pointer (some ⟨P,0,none⟩),.string word,.int .u8 ci] w fun e w'=>e=.returned (.tuple #[])∧∃v',q27 w' P v' (qlz s (word,ch))∧Pg P w v w' v':=by
 have LEN:Hid _:=qly w P v s h
 have FILL:Hid (q27 (w.setCell ⟨P,3,none⟩ (.bool true)) P v ⟨s.bs,s.n,true⟩):=h.fill
 have HA:Hid (q27 w P v s):=h
 obtain⟨p,hp,hk⟩:=h.box
 have c2:w.cell? ⟨P,2,none⟩=some (.int .i64 s.n):=M.qc hk 2
 have c3:w.cell? ⟨P,3,none⟩=some (.bool s.full):=M.qc hk 3
 have f2:w.frozen? ⟨P,2,none⟩=false:=by simp[World.frozen?,hk]
 have f3:w.frozen? ⟨P,3,none⟩=false:=by simp[World.frozen?,hk]
 have hlen:=h.len
 have hnum:=h.num
 have HP:Hid (p=.pointer none∨p=.pointer (some ⟨P,0,none⟩)):=hp
 have HK:Hid (w.heap[P]?=some (.cells #[p,v,.int .i64 s.n,.bool s.full] 139 (0,0))):=hk
 have HCI:Hid ((ch.toNat:Int)=ci):=hci
 clear h hp hk hci
 obtain⟨bs,n,full⟩:=s
 dsimp only at *
 obtain⟨m,hm⟩:∃m,bs.length=m:=⟨_,rfl⟩
 rw[hm] at LEN hlen
 by_cases hn:n=16384
 ·subst hn
  have k3:(w.setCell ⟨P,3,none⟩ (.bool true)).cell? ⟨P,3,none⟩=some (.bool true):=World.cell?_setCell_same _ _ _ c3
  clear LEN
  go_enter Tryz.func133,Tryz.ntmps133
  go_wp2
  try simp only[Exit.inBlock,Exit.then]
  refine bodyPost_ret (results_none rfl _ _ _) rfl ?_
  refine⟨rfl,v,?_,Pg.set 3 _⟩
  rw[show qlz ⟨bs,16384,full⟩ (word,ch)=⟨bs,16384,true⟩ from if_pos (.inr (.inl rfl))]
  exact FILL.out
 ·have n1:((n:Int) == 16384)=false:=by simp;omega
  by_cases hb:65536≤m + word.size
  ·have n2:decide ((65536:Int) - (m:Int)≤(word.size:Int))=true:=by simp;omega
   have k3:(w.setCell ⟨P,3,none⟩ (.bool true)).cell? ⟨P,3,none⟩=some (.bool true):=World.cell?_setCell_same _ _ _ c3
   go_enter Tryz.func133,Tryz.ntmps133
   go_wp2_with fail
   refine Calls.mono LEN.out ?_
   rintro e w1 ⟨rfl,hw1⟩
   subst w1
   clear LEN
   go_wp2
   try simp only[Exit.inBlock,Exit.then]
   refine bodyPost_ret (results_none rfl _ _ _) rfl ?_
   refine⟨rfl,v,?_,Pg.set 3 _⟩
   rw[show qlz ⟨bs,n,full⟩ (word,ch)=⟨bs,n,true⟩ from if_pos (.inr (.inr (by show 65536≤bs.length + word.size;omega)))]
   exact FILL.out
  ·have n2:decide ((65536:Int) - (m:Int)≤(word.size:Int))=false:=by simp;omega
   cases full with
   | true =>
    go_enter Tryz.func133,Tryz.ntmps133
    go_wp2_with fail
    refine Calls.mono LEN.out ?_
    rintro e w1 ⟨rfl,hw1⟩
    subst w1
    clear LEN
    go_wp2
    try simp only[Exit.inBlock,Exit.then]
    refine bodyPost_ret (results_none rfl _ _ _) rfl ?_
    refine⟨rfl,v,?_,Pg.refl _ _ _⟩
    rw[show qlz ⟨bs,n,true⟩ (word,ch)=⟨bs,n,true⟩ from if_pos (.inl rfl)]
    exact HA.out
   | false =>
    have HS:Hid (qlz ⟨bs,n,false⟩ (word,ch)=⟨bs++word.data.toList++[ch],n + 1,false⟩):=if_neg (by simp;omega)
    have HO:Hid (w.ownsRow (P + 1) 5 1 v bs.length (bs.map q0k)):=HA.out.own
    have HM:Hid (bs.length=m):=hm
    obtain⟨w1,hw1⟩:∃w1,w1=w.setCell ⟨P,2,none⟩ (.int .i64 ((n:Int) + 1)):=⟨_,rfl⟩
    have HK1:Hid (w1.heap[P]?=some (.cells #[p,v,.int .i64 ((n:Int) + 1),.bool false] 139 (0,0))):=by rw[hw1];exact M.qj HK.out
    have HO1:Hid (w1.ownsRow (P + 1) 5 1 v bs.length (bs.map q0k)):=by rw[hw1];exact M.qh HO.out (M.xu w P 2 _) fun g e hx=>by have:=HA.out.ge g e;omega
    have G1:Hid (Pg P w v w1 v):=by rw[hw1];exact Pg.set 2 _
    have W1:Hid _:=qfx w1 P v p ((n:Int) + 1) false bs word HP.out HK1.out HO1.out (by omega)
    clear hm
    go_enter Tryz.func133,Tryz.ntmps133
    go_wp2_with fail
    refine Calls.mono LEN.out ?_
    rintro e wx ⟨rfl,hwx⟩
    subst wx
    clear LEN
    go_wp2_with fail
    rw[←hw1]
    clear hw1 c2 c3 f2 f3
    refine Calls.mono W1.out ?_
    rintro e w2 ⟨rfl,v2,hk2,ho2,hg2⟩
    have G2:Hid (Pg P w v w2 v2):=G1.out.trans hg2
    have W2:Hid _:=qj6 w2 P v2 _ ((n:Int) + 1) false (bs++word.data.toList) ch ci HCI.out (.inr rfl) hk2 ho2 (by rw[List.length_append,q40,HM.out];omega)
    clear W1 hk2 ho2 hg2
    go_wp2_with fail
    refine Calls.mono W2.out ?_
    rintro e w3 ⟨rfl,v3,hk3,ho3,hg3⟩
    have G3:Hid (Pg P w v w3 v3):=G2.out.trans hg3
    have A3:Hid (q27 w3 P v3 ⟨bs++word.data.toList++[ch],n + 1,false⟩):=⟨⟨_,.inr rfl,hk3⟩,ho3,fun h=>by simp at h,by show List.length _≤_;rw[List.length_append,List.length_append,q40,HM.out];simp;omega,by show n + 1≤_;omega⟩
    clear W2 hk3 ho3 hg3
    go_wp2
    go_end0
    exact⟨rfl,v3,by rw[HS.out];exact A3.out,G3.out⟩
end S
namespace S
open Go.RowKit
structure Stm where
 kind:Int
 label:Tok
 key:Tok
 proving:Bool
 words:List Tok
 proof:List Tok
 fin:Tok
abbrev z4:List Value:=[.string ⟨#[]⟩,.int .i64 0,.int .i64 0,.int .i64 0]
def qfy (k:Int)(ky:Tok):Array Value:=#[.int .i64 k,.string ky.text,.int .i64 ky.off,.int .i64 ky.line,.int .i64 ky.col]
def q56 (k:Int)(lb ky:Tok)(wd:Value):Array Value:=#[.int .i64 k,.string lb.text,.int .i64 lb.off,.int .i64 lb.line,.int .i64 lb.col,.string ky.text,.int .i64 ky.off,.int .i64 ky.line,.int .i64 ky.col,wd,.string ⟨#[]⟩,.int .i64 0,.int .i64 0,.int .i64 0]
def qm0 (k:Int)(lb ky:Tok)(wd pf:Value):Array Value:=#[.int .i64 k,.string lb.text,.int .i64 lb.off,.int .i64 lb.line,.int .i64 lb.col,.string ky.text,.int .i64 ky.off,.int .i64 ky.line,.int .i64 ky.col,wd,.string ⟨#[]⟩,.int .i64 0,.int .i64 0,.int .i64 0,.bool false,pf]
def Holds (W:World)(N:Nat)(st:Value)(k:Int)(lb ky:Tok)(wd pf:Value):Prop:=∃g,N≤g∧g < W.heap.size ∧
 (((k=8∨k=9)∧st=.iface 204 (.pointer (some ⟨g,0,none⟩))∧W.heap[g]?=some (.cells (qfy k ky) 207 (0,0))) ∨
  (k=7∧st=.iface 197 (.pointer (some ⟨g,0,none⟩))∧W.heap[g]?=some (.cells (qm0 k lb ky wd pf) 201 (0,0))) ∨
  (k≠7∧k≠8∧k≠9∧st=.iface 202 (.pointer (some ⟨g,0,none⟩))∧W.heap[g]?=some (.cells (q56 k lb ky wd) 199 (0,0))))
theorem qj7 (w:World)(k:Int)(lb ky:Tok) :
  Calls Tryz.prog 131 #[.int .i64 k,zn lb,zn ky] w fun e w'=>Below w.heap.size w w'∧∃st,e=.returned st∧Holds w' w.heap.size st k lb ky (.slice none 0 0) (.slice none 0 0):=by
 unfold zn
 obtain⟨w1,hw1⟩:∃w1,w1=w.alloc (.cells #[.string lb.text,.int .i64 lb.off,.int .i64 lb.line,.int .i64 lb.col] 36):=⟨_,rfl⟩
 obtain⟨w2,hw2⟩:∃w2,w2=w1.alloc (.cells #[.string ky.text,.int .i64 ky.off,.int .i64 ky.line,.int .i64 ky.col] 36):=⟨_,rfl⟩
 obtain⟨w3,hw3⟩:∃w3,w3=w2.alloc (.cells (q56 k lb ky (.slice none 0 0)) 199):=⟨_,rfl⟩
 have b1:Below w.heap.size w w1:=by rw[hw1];exact qg _ _
 have b2:Below w1.heap.size w1 w2:=by rw[hw2];exact qg _ _
 have b3:Below w2.heap.size w2 w3:=by rw[hw3];exact qg _ _
 have k1:w2.heap[w.heap.size]?=some (.cells #[.string lb.text,.int .i64 lb.off,.int .i64 lb.line,.int .i64 lb.col] 36 (0,0)):=(b2.block _ (by rw[hw1];simp)).trans (by rw[hw1];exact heap_alloc_new w _)
 have k2:w2.heap[w1.heap.size]?=some (.cells #[.string ky.text,.int .i64 ky.off,.int .i64 ky.line,.int .i64 ky.col] 36 (0,0)):=by rw[hw2];exact heap_alloc_new w1 _
 have l1:w1.heap.size < w2.heap.size:=(Array.getElem?_eq_some_iff.1 k2).1
 have k2':w3.heap[w1.heap.size]?=some (.cells #[.string ky.text,.int .i64 ky.off,.int .i64 ky.line,.int .i64 ky.col] 36 (0,0)):=(b3.block _ l1).trans k2
 have k3:w3.heap[w2.heap.size]?=some (.cells (q56 k lb ky (.slice none 0 0)) 199 (0,0)):=by rw[hw3];exact heap_alloc_new w2 _
 have B3:Hid (Below w.heap.size w w3):=b1.trans ((b2.trans (b3.mono b2.size)).mono b1.size)
 have HK3:Hid (w3.heap[w2.heap.size]?=some (.cells (q56 k lb ky (.slice none 0 0)) 199 (0,0))):=k3
 have HS:Hid (w.heap.size≤w2.heap.size):=Nat.le_trans b1.size b2.size
 have x0:w2.cell? ⟨w.heap.size,0,none⟩=some (.string lb.text):=M.qc k1 0
 have x1:w2.cell? ⟨w.heap.size,1,none⟩=some (.int .i64 lb.off):=M.qc k1 1
 have x2:w2.cell? ⟨w.heap.size,2,none⟩=some (.int .i64 lb.line):=M.qc k1 2
 have x3:w2.cell? ⟨w.heap.size,3,none⟩=some (.int .i64 lb.col):=M.qc k1 3
 have y0:w2.cell? ⟨w1.heap.size,0,none⟩=some (.string ky.text):=M.qc k2 0
 have y1:w2.cell? ⟨w1.heap.size,1,none⟩=some (.int .i64 ky.off):=M.qc k2 1
 have y2:w2.cell? ⟨w1.heap.size,2,none⟩=some (.int .i64 ky.line):=M.qc k2 2
 have y3:w2.cell? ⟨w1.heap.size,3,none⟩=some (.int .i64 ky.col):=M.qc k2 3
 have hs1:w1.heap.size=w.heap.size + 1:=by rw[hw1];simp
 have E1:Hid (w.heap.size + 1=w1.heap.size):=hs1.symm
 clear hs1
 clear b1 b2 b3 k1 k2 k3 l1
 have H1:Hid (w1=w.alloc (.cells #[.string lb.text,.int .i64 lb.off,.int .i64 lb.line,.int .i64 lb.col] 36)):=hw1
 have H2:Hid (w2=w1.alloc (.cells #[.string ky.text,.int .i64 ky.off,.int .i64 ky.line,.int .i64 ky.col] 36)):=hw2
 have H3:Hid (w3=w2.alloc (.cells (q56 k lb ky (.slice none 0 0)) 199)):=hw3
 clear hw1 hw2 hw3
 go_enter Tryz.func131,Tryz.ntmps131
 go_upto_region 1 with fail
 rw[←H1.out,E1.out,←H2.out]
 clear H1 H2 E1
 go_upto_region 2 with fail
 rw[show w2.alloc (.cells #[.int .i64 k,.string lb.text,.int .i64 lb.off,.int .i64 lb.line,.int .i64 lb.col,.string ky.text,.int .i64 ky.off,.int .i64 ky.line,.int .i64 ky.col,.slice none 0 0,.string ⟨#[]⟩,.int .i64 0,.int .i64 0,.int .i64 0] 199)=w3 from H3.out.symm]
 have yz0:w3.cell? ⟨w1.heap.size,0,none⟩=some (.string ky.text):=M.qc k2' 0
 have yz1:w3.cell? ⟨w1.heap.size,1,none⟩=some (.int .i64 ky.off):=M.qc k2' 1
 have yz2:w3.cell? ⟨w1.heap.size,2,none⟩=some (.int .i64 ky.line):=M.qc k2' 2
 have yz3:w3.cell? ⟨w1.heap.size,3,none⟩=some (.int .i64 ky.col):=M.qc k2' 3
 clear H3 x0 x1 x2 x3 y0 y1 y2 y3 k2'
 by_cases h89:k=8∨k=9
 ·have HB:Hid (∀O,Below w.heap.size w (w3.alloc O)∧w.heap.size≤w3.heap.size∧w3.heap.size < (w3.alloc O).heap.size):=fun O=>⟨B3.out.alloc B3.out.size _,B3.out.size,by simp⟩
  rcases h89 with h8 | h9
  ·subst h8
   go_wp2
   go_ret
   exact⟨(HB.out _).1,_,rfl,_,B3.out.size,(HB.out _).2.2,.inl ⟨.inl rfl,rfl,heap_alloc_new w3 _⟩⟩
  ·subst h9
   go_wp2
   go_ret
   exact⟨(HB.out _).1,_,rfl,_,B3.out.size,(HB.out _).2.2,.inl ⟨.inr rfl,rfl,heap_alloc_new w3 _⟩⟩
 ·have e8:(k == 8)=false:=by simp;omega
  have e9:(k == 9)=false:=by simp;omega
  by_cases h7:k=7
  ·subst h7
   have HB:Hid (∀O,Below w.heap.size w (w3.alloc O)∧w.heap.size≤w3.heap.size∧w3.heap.size < (w3.alloc O).heap.size):=fun O=>⟨B3.out.alloc B3.out.size _,B3.out.size,by simp⟩
   have c:∀i,w3.cell? ⟨w2.heap.size,i,none⟩=(q56 7 lb ky (.slice none 0 0))[i]?:=fun i=>M.qc HK3.out i
   have c0:=c 0
   have c1:=c 1
   have c2:=c 2
   have c3:=c 3
   have c4:=c 4
   have c5:=c 5
   have c6:=c 6
   have c7:=c 7
   have c8:=c 8
   have c9:=c 9
   have c10:=c 10
   have c11:=c 11
   have c12:=c 12
   have c13:=c 13
   clear c
   simp only[q56] at c0 c1 c2 c3 c4 c5 c6 c7 c8 c9 c10 c11 c12 c13
   go_wp2
   go_ret
   exact⟨(HB.out _).1,_,rfl,_,B3.out.size,(HB.out _).2.2,.inr (.inl ⟨rfl,rfl,heap_alloc_new w3 _⟩)⟩
  ·have e7:(k == 7)=false:=by simp;omega
   go_wp2
   go_ret
   exact⟨B3.out,_,rfl,w2.heap.size,HS.out,(Array.getElem?_eq_some_iff.1 HK3.out).1,.inr (.inr ⟨h7,fun e=>h89 (.inl e),fun e=>h89 (.inr e),rfl,HK3.out⟩)⟩
end S
namespace S
open Go.RowKit
theorem q4q (W:World)(v:Value):(Instr.typeAssert (.iface 197 v) 141 197 true).run Tryz.prog W=.ok (.tuple #[v,.bool true]) W:=by kernel_rfl
theorem qj8 (W:World)(v:Value):(Instr.typeAssert (.iface 197 v) 141 202 true).run Tryz.prog W=.ok (.tuple #[.pointer none,.bool false]) W:=by kernel_rfl
theorem q65 (W:World)(v:Value):(Instr.typeAssert (.iface 202 v) 141 197 true).run Tryz.prog W=.ok (.tuple #[.pointer none,.bool false]) W:=by kernel_rfl
theorem q7k (W:World)(v:Value):(Instr.typeAssert (.iface 202 v) 141 202 true).run Tryz.prog W=.ok (.tuple #[v,.bool true]) W:=by kernel_rfl
theorem qj9 (W:World)(v:Value):(Instr.typeAssert (.iface 204 v) 141 197 true).run Tryz.prog W=.ok (.tuple #[.pointer none,.bool false]) W:=by kernel_rfl
theorem qja (W:World)(v:Value):(Instr.typeAssert (.iface 204 v) 141 202 true).run Tryz.prog W=.ok (.tuple #[.pointer none,.bool false]) W:=by kernel_rfl
def q4g (k:Int)(lb ky fn:Tok)(pr:Bool)(vw vp:Value):Array Value:=#[.int .i64 k,.string lb.text,.int .i64 lb.off,.int .i64 lb.line,.int .i64 lb.col,.string ky.text,.int .i64 ky.off,.int .i64 ky.line,.int .i64 ky.col,.bool pr,vw,vp,.string fn.text,.int .i64 fn.off,.int .i64 fn.line,.int .i64 fn.col]
end S
namespace S
open Go.RowKit
theorem q2g (W:World)(b o:Nat)(v:Value)(vs:List Value):W.setCells b o (v :: vs)=(W.setCell ⟨b,o,none⟩ v).setCells b (o + 1) vs:=rfl
theorem q14 (b:Nat)(t:TypeId):∀(new pre olds:List Value) (W:World),W.heap[b]?=some (.cells (pre++olds).toArray t (0,0))→olds.length=new.length→(W.setCells b pre.length new).heap[b]?=some (.cells (pre++new).toArray t (0,0))
 | [],pre,olds,W,h,hl=>by
  have:olds=[]:=List.eq_nil_of_length_eq_zero hl
  subst this
  exact h
 | v :: new,pre,[],W,h,hl=>by simp at hl
 | v :: new,pre,x :: xs,W,h,hl=>by
  rw[q2g]
  have h1:=M.qj (o:=pre.length) (v:=v) h
  have e:(pre++x :: xs).toArray.setIfInBounds pre.length v=((pre++[v])++xs).toArray:=by simp
  rw[e] at h1
  have:=q14 b t new (pre++[v]) xs _ h1 (by simpa using hl)
  simpa using this
theorem q44 (b:Nat):∀(new:List Value) (o:Nat) (W:World) (k:Nat),k≠b→(W.setCells b o new).heap[k]?=W.heap[k]?
 | [],_,_,_,_=>rfl
 | v :: new,o,W,k,h=>by
  rw[q2g,q44 b new (o + 1) _ k h]
  exact Below.heap_setCell W ⟨b,o,none⟩ v k h
theorem q2r {w:World}{N b:Nat}(hb:N≤b):∀(new:List Value) (o:Nat) (W:World),Below N w W→Below N w (W.setCells b o new)
 | [],_,_,h=>h
 | v :: new,o,W,h=>by
  rw[q2g]
  exact q2r hb new (o + 1) _ (h.setCell (p:=⟨b,o,none⟩) hb v)
theorem q2o {W:World}{b:Nat}{t:TypeId}{cs:Array Value}(h:W.heap[b]?=some (.cells cs t (0,0))):W.there b 0 cs.size:=fun j hj=>by
 rw[Nat.zero_add]
 refine⟨?_,?_⟩
 ·simp[World.cell?,h,hj]
 ·simp[World.frozen?,h]
end S
end Go.Proofs.YtbancemhfjjmlaaGreatDoor
