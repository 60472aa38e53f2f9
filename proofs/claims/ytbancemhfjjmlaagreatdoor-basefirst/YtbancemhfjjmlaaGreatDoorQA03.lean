/- Laid together: SRst, SBegin, SBetween, SRTake, SRTold, SKPure, SKKinds, SKShelf. -/
import Derived.Test.YtbancemhfjjmlaaGreatDoorQA02
import Derived.Handy
import Derived.Test.YtbancemhfjjmlaaGreatDoorProg
import Derived.WalkKit
import Derived.WalkLawsBesides
import Derived.WalkSpells
import Derived.BigQuiet
import Derived.Deep.QuietTactic
import Derived.Shelf.LaysM
import Derived.Shelf.Strconv.Clone
import Derived.Shelf.Strings.Search1
import Derived.Shelf.Strings.Search2
import Derived.Shelf.Strings.Search3
import Derived.Shelf.Strings.Count
import Derived.Shelf.Strings.LastIndex
set_option maxRecDepth 100000
set_option maxHeartbeats 32000000
namespace Go.Proofs.YtbancemhfjjmlaaGreatDoor
namespace S
open Go.RowKit
def rdC (vb vo:Value)(wt:Tok):Array Value:=#[vb,vo,.string wt.text,.int .i64 wt.off,.int .i64 wt.line,.int .i64 wt.col]
structure RSt (N R:Nat)(W:World)(vb vo:Value)(its:List Itm)(wt:Tok):Prop where
 box:W.heap[R]?=some (.cells (rdC vb vo wt) 160 (0,0))
 own:W.ownsRow N 141 1 vb its.length (its.map yc)
 ge:N≤R
 vbR:vb.ownBlock≠some R
 all:∀x ∈ its,q05 W N x
 ap:∀x ∈ its,∀b,blk x b→b≠R∧vb.ownBlock≠some b
 pw:its.Pairwise fun x y=>∀b,blk x b→¬blk y b
theorem RSt.lt {N R:Nat}{W:World}{vb vo:Value}{its:List Itm}{wt:Tok}(h:RSt N R W vb vo its wt):R < W.heap.size:=(Array.getElem?_eq_some_iff.1 h.box).1
theorem RSt.under {N R:Nat}{W W':World}{vb vo:Value}{its:List Itm}{wt:Tok}(h:RSt N R W vb vo its wt)(hb:Below W.heap.size W W'):RSt N R W' vb vo its wt :=
 ⟨(hb.block R h.lt).trans h.box,M.qh h.own (M.Ch.of_below (X:=fun _=>False) hb) fun _ _ e=>e,h.ge,h.vbR,fun x hx=>(h.all x hx).under hb,h.ap,h.pw⟩
theorem RSt.cells {N R:Nat}{W W':World}{vb vo vo':Value}{its:List Itm}{wt wt':Tok}(h:RSt N R W vb vo its wt)(hc:M.Ch (fun b=>b=R) W W')(hb:W'.heap[R]?=some (.cells (rdC vb vo' wt') 160 (0,0))):RSt N R W' vb vo' its wt' :=
 ⟨hb,M.qh h.own hc fun b e e2=>h.vbR (by rw[←e2];exact e),h.ge,h.vbR,fun x hx=>(h.all x hx).ch hc fun b e=>(h.ap x hx b e).1,h.ap,h.pw⟩
theorem RSt.last {N R:Nat} {W W':World} {vb vo vo':Value} {pre:List Itm} {x x':Itm} {wt:Tok} (h:RSt N R W vb vo (pre++[x]) wt) (hi:q05 W' N x') (hg:x'.g=x.g) (hy:q3v x'=q3v x) (hbl:∀b,blk x' b→blk x b∨W.heap.size≤b)
  (hc:M.Ch (fun b=>blk x b∨b=R) W W') (hb:W'.heap[R]?=some (.cells (rdC vb vo' wt) 160 (0,0))):RSt N R W' vb vo' (pre++[x']) wt:=by
 have hxm:x ∈ pre++[x]:=by simp
 have hI:yc x'=yc x:=by unfold yc;rw[hy,hg]
 have hpw:=List.pairwise_append.1 h.pw
 have hap':∀b,blk x' b→b≠R∧vb.ownBlock≠some b:=fun b e=>by
  rcases hbl b e with e | e
  ·exact h.ap x hxm b e
  ·refine⟨fun e2=>?_,fun e2=>?_⟩
   ·have:=h.lt;omega
   ·have:=M.jl h.own b e2;omega
 refine⟨hb,?_,h.ge,h.vbR,?_,?_,?_⟩
 ·have h1:=h.own
  rw[List.length_append,List.map_append] at h1 ⊢
  simp only[List.map_cons,List.map_nil,List.length_cons,List.length_nil,hI] at h1 ⊢
  exact M.qh h1 hc fun b e e2=>by
   rcases e2 with e2 | e2
   ·exact (h.ap x hxm b e2).2 e
   ·exact h.vbR (by rw[←e2];exact e)
 ·intro y hy
  rcases List.mem_append.1 hy with hy | hy
  ·refine (h.all y (by simp[hy])).ch hc fun b e e2=>?_
   rcases e2 with e2 | e2
   ·exact hpw.2.2 y hy x (by simp) b e e2
   ·exact (h.ap y (by simp[hy]) b e).1 e2
  ·rw[List.mem_singleton.1 hy];exact hi
 ·intro y hy
  rcases List.mem_append.1 hy with hy | hy
  ·exact h.ap y (by simp[hy])
  ·rw[List.mem_singleton.1 hy];exact hap'
 ·refine List.pairwise_append.2 ⟨hpw.1,List.pairwise_singleton _ _,fun y hy z hz b e e2=>?_⟩
  rw[List.mem_singleton.1 hz] at e2
  rcases hbl b e2 with e2 | e2
  ·exact hpw.2.2 y hy x (by simp) b e e2
  ·have:=(h.all y (by simp[hy])).lt b e;omega
theorem RSt.more {N R:Nat} {W W':World} {vb vb' vo:Value} {its:List Itm} {x:Itm} {wt:Tok} (h:RSt N R W vb vo its wt) (hi:q05 W N x) (hx:∀b,blk x b→b≠R∧vb.ownBlock≠some b) (hp:∀y ∈ its,∀b,blk y b→¬blk x b)
  (hg:W.grownBy W' vb.ownBlock) (ho:W'.ownsRow N 141 1 vb' (its.length + 1) (its.map yc++[yc x])) (hl:∀b,vb'.ownBlock=some b→vb.ownBlock=some b∨W.heap.size≤b):RSt N R (W'.setCell ⟨R,0,none⟩ vb') vb' vo (its++[x]) wt:=by
 have hR:W'.heap[R]?=some (.cells (rdC vb vo wt) 160 (0,0)):=(hg.block R h.lt (fun e=>h.vbR e.symm)).trans h.box
 have cg:=M.Ch.jm hg
 have cs:=M.xu W' R 0 vb'
 have nR:vb'.ownBlock≠some R:=fun e=>by
  rcases hl R e with e | e
  ·exact h.vbR e
  ·have:=h.lt;omega
 have far:∀y,q05 W N y→(∀b,blk y b→b≠R∧vb.ownBlock≠some b)→q05 (W'.setCell ⟨R,0,none⟩ vb') N y∧∀b,blk y b→b≠R∧vb'.ownBlock≠some b:=fun y hy hap=>by
  refine⟨(hy.ch cg fun b e e2=>(hap b e).2 e2).ch cs fun b e e2=>(hap b e).1 e2,fun b e=>⟨(hap b e).1,fun e2=>?_⟩⟩
  rcases hl b e2 with e2 | e2
  ·exact (hap b e).2 e2
  ·have:=hy.lt b e;omega
 refine⟨M.qj hR,?_,h.ge,nR,?_,?_,?_⟩
 ·rw[List.length_append,List.map_append]
  exact M.qh ho cs fun b e e2=>nR (by rw[←e2];exact e)
 ·intro y hy
  rcases List.mem_append.1 hy with hy | hy
  ·exact (far y (h.all y hy) (h.ap y hy)).1
  ·rw[List.mem_singleton.1 hy];exact (far x hi hx).1
 ·intro y hy
  rcases List.mem_append.1 hy with hy | hy
  ·exact (far y (h.all y hy) (h.ap y hy)).2
  ·rw[List.mem_singleton.1 hy];exact (far x hi hx).2
 ·refine List.pairwise_append.2 ⟨h.pw,List.pairwise_singleton _ _,fun y hy z hz b e e2=>?_⟩
  rw[List.mem_singleton.1 hz] at e2
  exact hp y hy b e e2
def newS (k:Int)(lb ky:Tok):Stm:=if brk k=true then ⟨k,q1v,ky,false,[],[],ky⟩ else ⟨k,lb,ky,false,[],[],q1v⟩
theorem qjg {w w':World}{N:Nat}{st:Value}{k:Int}{lb ky:Tok}(hk1:1≤k)(hk9:k≤9)(hN:N≤w.heap.size)(hh:Holds w' w.heap.size st k lb ky (.slice none 0 0) (.slice none 0 0)):∃x,st=yc x∧x.s=newS k lb ky∧q05 w' N x∧∀b,blk x b→w.heap.size≤b:=by
 obtain⟨g,hg,hlt,hh⟩:=hh
 have nil:w'.ownsRow N 36 4 (.slice none 0 0) 0 (rowT []):=World.ownsRow_nil _ _ _ _
 have bl:∀(s:Stm) (b:Nat),blk ⟨s,g,.slice none 0 0,.slice none 0 0⟩ b→w.heap.size≤b:=fun s b e=>by
  rcases e with rfl | e | e
  ·exact hg
  ·cases e
  ·cases e
 rcases hh with ⟨hk,rfl,hb⟩ | ⟨hk,rfl,hb⟩ | ⟨h7,h8,h9,rfl,hb⟩
 ·have hbk:brk k=true:=by rcases hk with rfl | rfl <;> rfl
  refine⟨⟨⟨k,q1v,ky,false,[],[],ky⟩,g,.slice none 0 0,.slice none 0 0⟩,?_,?_,⟨hk1,hk9,?_,Nat.le_trans hN hg,nil,nil,(fun e=>by cases e),(fun e=>by cases e),(fun b e=>by cases e),fun _=>⟨rfl,rfl,rfl⟩,fun _=>⟨rfl,rfl,rfl,rfl⟩⟩,bl _⟩
  ·unfold yc q3v;rw[if_pos hbk]
  ·unfold newS;rw[if_pos hbk]
  ·rw[qi8 hbk];unfold qax;rw[if_pos hbk];exact hb
 ·subst hk
  refine⟨⟨⟨7,lb,ky,false,[],[],q1v⟩,g,.slice none 0 0,.slice none 0 0⟩,rfl,rfl,⟨hk1,hk9,hb,Nat.le_trans hN hg,nil,nil,(fun e=>by cases e),(fun e=>by cases e),(fun b e=>by cases e),fun e=>absurd rfl e,fun e=>by cases e⟩,bl _⟩
 ·have hbk:brk k=false:=by unfold brk;simp[h8,h9]
  have hbn:¬brk k=true:=by rw[hbk];exact Bool.false_ne_true
  refine⟨⟨⟨k,lb,ky,false,[],[],q1v⟩,g,.slice none 0 0,.slice none 0 0⟩,?_,?_,⟨hk1,hk9,?_,Nat.le_trans hN hg,nil,nil,(fun e=>by cases e),(fun e=>by cases e),(fun b e=>by cases e),fun _=>⟨rfl,rfl,rfl⟩,fun e=>absurd e hbn⟩,bl _⟩
  ·unfold yc q3v;rw[if_neg hbn,if_neg h7]
  ·unfold newS;rw[if_neg hbn]
  ·rw[q2s hbk h7];unfold qax;rw[if_neg hbn,if_neg h7];exact hb
end S
namespace S
open Go.RowKit
theorem infoI:(Tryz.prog.info? 141).map (fun i=>(i.zero,i.size,i.bytes))=some (some .nilIface,1,16):=by kernel_rfl
theorem q7n (w:World) (N R:Nat) (vb:Value) (its:List Itm) (x:Itm) (wt:Tok) (h:RSt N R w vb .nilIface its wt) (hi:q05 w N x) (hx:∀b,blk x b→b≠R∧vb.ownBlock≠some b) (hp:∀y ∈ its,∀b,blk y b→¬blk x b) (hn:its.length≤1048576) (hN:N≤w.heap.size)
  (b1 b2:Bool) (v1 v2:Value) (a1:∀W,(Instr.typeAssert (yc x) 141 202 true).run Tryz.prog W=.ok (.tuple #[v1,.bool b1]) W) (a2:∀W,(Instr.typeAssert (yc x) 141 197 true).run Tryz.prog W=.ok (.tuple #[v2,.bool b2]) W) :
  Calls Tryz.prog 212 #[.pointer (some ⟨R,0,none⟩),yc x] w fun e w'=>e=.returned (.tuple #[])∧∃vb',RSt N R w' vb' (if (b1 || b2)=true then yc x else .nilIface) (its++[x]) q1v∧M.Ch (fun b=>b=R∨vb.ownBlock=some b) w w'∧∀b,vb'.ownBlock=some b→vb.ownBlock=some b∨w.heap.size≤b:=by
 obtain⟨ip,hip,ipz,ips,ipb⟩:=info_parts infoI
 obtain⟨y,g,hix⟩:∃y g,yc x=.iface y (.pointer (some ⟨g,0,none⟩)):=⟨_,_,rfl⟩
 obtain⟨n,hnn⟩:∃n,its.length=n:=⟨_,rfl⟩
 obtain⟨av,cv,hvb,_⟩:=qm h.own
 rw[hnn] at hn hvb
 subst hvb
 have H:Hid (RSt N R w (.slice av n cv) .nilIface its wt):=h
 rw[hix] at a1 a2
 have HA:Hid (RSt N R (w.alloc (.cells #[.iface y (.pointer (some ⟨g,0,none⟩))] 141)) (.slice av n cv) .nilIface its wt∧q05 (w.alloc (.cells #[.iface y (.pointer (some ⟨g,0,none⟩))] 141)) N x):=⟨h.under (qg _ _),hi.under (qg _ _)⟩
 have HX:Hid ((∀b,blk x b→b≠R∧(Value.slice av n cv).ownBlock≠some b)∧∀y ∈ its,∀b,blk y b→¬blk x b):=⟨hx,hp⟩
 have HI:Hid (yc x=.iface y (.pointer (some ⟨g,0,none⟩))∧its.length=n):=⟨hix,hnn⟩
 have r0:w.cell? ⟨R,0,none⟩=some (.slice av n cv):=M.qc h.box 0
 have OW:Hid ((w.alloc (.cells #[.iface y (.pointer (some ⟨g,0,none⟩))] 141)).ownsRow N 141 1 (.slice av n cv) n (its.map yc)):=by have:=HA.out.1.own;rw[hnn] at this;exact this
 rw[hix]
 have HRl:Hid (R < w.heap.size):=h.lt
 have NB:Hid (∀b,b=R∨(Value.slice av n cv).ownBlock=some b→N≤b):=fun b e=>e.elim (fun e=>by rw[e];exact h.ge) fun e=>M.zf h.own b e
 clear h hi hx hp hix hnn
 go_enter Tryz.func212,Tryz.ntmps212
 go_upto_region 1 with (at_builtin;(refine wpList_append_lies (w.alloc (.cells #[.iface y (.pointer (some ⟨g,0,none⟩))] 141)) rfl _ _ _ rfl N 141 ip _ 1 16 Tryz.underlying158 hip ipz ips ipb rfl (by omega) _ n (its.map yc) (by rfl) (by exact OW.out) ⟨w.heap.size,0,none⟩ 1 1 [.iface y (.pointer (some ⟨g,0,none⟩))] (by rfl) (by rfl) (World.news_of_block (cs:=#[.iface y (.pointer (some ⟨g,0,none⟩))]) (t:=141) (fr:=(0,0)) (heap_alloc_new w _)) (by simp[Value.oneCell']) (by omega) (by unfold maxLen;omega) (by omega) (by simp;omega) _ rfl ?_;intro gg cap w2 ho hgr hat hlt;have K2:Hid (w2.heap[R]?=some (.cells (rdC (.slice av n cv) .nilIface wt) 160 (0,0))):=(hgr.block R (by have:=HRl.out;simp;omega) (fun e=>H.out.vbR e.symm)).trans HA.out.1.box;have d0:w2.cell? ⟨R,0,none⟩=some (.slice av n cv):=M.qc K2.out 0;have f0:w2.frozen? ⟨R,0,none⟩=false:=(by simp[World.frozen?,K2.out]);have HM:Hid (RSt N R (w2.setCell ⟨R,0,none⟩ (.slice (some ⟨gg,0,none⟩) (n + 1) cap)) (.slice (some ⟨gg,0,none⟩) (n + 1) cap) .nilIface (its++[x]) wt∧M.Ch (fun b=>b=R∨(Value.slice av n cv).ownBlock=some b) w (w2.setCell ⟨R,0,none⟩ (.slice (some ⟨gg,0,none⟩) (n + 1) cap))∧∀b,(Value.slice (some ⟨gg,0,none⟩) (n + 1) cap).ownBlock=some b→(Value.slice av n cv).ownBlock=some b∨w.heap.size≤b):=(by refine⟨HA.out.1.more HA.out.2 HX.out.1 HX.out.2 hgr (by rw[HI.out.1,HI.out.2];exact ho) (M.q43 hat),((M.Ch.of_below (qg w (.cells #[.iface y (.pointer (some ⟨g,0,none⟩))] 141))).trans ((M.Ch.jm hgr).mono fun _ e=>.inr e)).trans ((M.xu w2 R 0 _).mono fun _ e=>.inl e),fun b e=>(M.q43 hat b e).elim .inl fun h=>.inr (Nat.le_trans (by simp) h)⟩);clear ho hgr hat hlt))
 generalize w2.setCell ⟨R,0,none⟩ (.slice (some ⟨gg,0,none⟩) (n + 1) cap)=w3 at *
 obtain⟨vb',hvb'⟩:∃vb':Value,vb'=.slice (some ⟨gg,0,none⟩) (n + 1) cap:=⟨_,rfl⟩
 rw[←hvb'] at HM ⊢
 clear hvb' d0 f0 K2 r0
 have c:∀i,w3.cell? ⟨R,i,none⟩=(rdC vb' .nilIface wt)[i]?:=fun i=>M.qc HM.out.1.box i
 have c1:=c 1
 have c2:=c 2
 have c3:=c 3
 have c4:=c 4
 have c5:=c 5
 clear c
 simp only[rdC] at c1 c2 c3 c4 c5
 have f:∀i,w3.frozen? ⟨R,i,none⟩=false:=fun i=>by simp[World.frozen?,HM.out.1.box]
 have f2:=f 2
 have f3:=f 3
 have f4:=f 4
 have f5:=f 5
 clear f
 go_upto_region 2 with fail
 have H4:Hid (RSt N R ((((w3.setCell ⟨R,2,none⟩ (.string ⟨#[]⟩)).setCell ⟨R,3,none⟩ (.int .i64 0)).setCell ⟨R,4,none⟩ (.int .i64 0)).setCell ⟨R,5,none⟩ (.int .i64 0)) vb' .nilIface (its++[x]) q1v∧M.Ch (fun b=>b=R∨(Value.slice av n cv).ownBlock=some b) w ((((w3.setCell ⟨R,2,none⟩ (.string ⟨#[]⟩)).setCell ⟨R,3,none⟩ (.int .i64 0)).setCell ⟨R,4,none⟩ (.int .i64 0)).setCell ⟨R,5,none⟩ (.int .i64 0))∧∀b,vb'.ownBlock=some b→(Value.slice av n cv).ownBlock=some b∨w.heap.size≤b) :=
  ⟨HM.out.1.cells (q5h R [.string ⟨#[]⟩,.int .i64 0,.int .i64 0,.int .i64 0] 2 w3) (q7m HM.out.1.box 2 q1v),HM.out.2.1.trans ((q5h R [.string ⟨#[]⟩,.int .i64 0,.int .i64 0,.int .i64 0] 2 w3).mono fun _ e=>.inl e),HM.out.2.2⟩
 clear HM c1 c2 c3 c4 c5 f2 f3 f4 f5
 generalize (((w3.setCell ⟨R,2,none⟩ (.string ⟨#[]⟩)).setCell ⟨R,3,none⟩ (.int .i64 0)).setCell ⟨R,4,none⟩ (.int .i64 0)).setCell ⟨R,5,none⟩ (.int .i64 0)=w4 at *
 have c1:w4.cell? ⟨R,1,none⟩=some .nilIface:=M.qc H4.out.1.box 1
 have f1:w4.frozen? ⟨R,1,none⟩=false:=by simp[World.frozen?,H4.out.1.box]
 have H5:Hid (RSt N R (w4.setCell ⟨R,1,none⟩ (.iface y (.pointer (some ⟨g,0,none⟩)))) vb' (.iface y (.pointer (some ⟨g,0,none⟩))) (its++[x]) q1v∧M.Ch (fun b=>b=R∨(Value.slice av n cv).ownBlock=some b) w (w4.setCell ⟨R,1,none⟩ (.iface y (.pointer (some ⟨g,0,none⟩))))∧∀b,vb'.ownBlock=some b→(Value.slice av n cv).ownBlock=some b∨w.heap.size≤b) :=
  ⟨H4.out.1.cells (M.xu _ _ _ _) (M.qj H4.out.1.box),H4.out.2.1.trans ((M.xu w4 R 1 _).mono fun _ e=>.inl e),H4.out.2.2⟩
 cases b1 with
 | true =>
  go_wp2
  first | go_ret | (refine bodyPost_end (results_none rfl _ _ _) rfl ?_) | skip
  exact⟨rfl,vb',H5.out⟩
 | false =>
  cases b2 with
  | true =>
   go_wp2
   first | go_ret | (refine bodyPost_end (results_none rfl _ _ _) rfl ?_) | skip
   exact⟨rfl,vb',H5.out⟩
  | false =>
   go_wp2
   first | go_ret | (refine bodyPost_end (results_none rfl _ _ _) rfl ?_) | skip
   exact⟨rfl,vb',H4.out⟩
theorem qjh (w:World)(N R:Nat)(vb:Value)(its:List Itm)(x:Itm)(wt:Tok)(h:RSt N R w vb .nilIface its wt)(hi:q05 w N x)(hx:∀b,blk x b→b≠R∧vb.ownBlock≠some b)(hp:∀y ∈ its,∀b,blk y b→¬blk x b)(hn:its.length≤1048576)(hN:N≤w.heap.size) :
  Calls Tryz.prog 212 #[.pointer (some ⟨R,0,none⟩),yc x] w fun e w'=>e=.returned (.tuple #[])∧∃vb',RSt N R w' vb' (if brk x.s.kind=true then .nilIface else yc x) (its++[x]) q1v∧M.Ch (fun b=>b=R∨vb.ownBlock=some b) w w'∧∀b,vb'.ownBlock=some b→vb.ownBlock=some b∨w.heap.size≤b:=by
 cases hb:brk x.s.kind with
 | true =>
  have ey:yc x=.iface 204 (.pointer (some ⟨x.g,0,none⟩)):=by unfold yc q3v;rw[if_pos hb]
  exact q7n w N R vb its x wt h hi hx hp hn hN false false _ _ (by rw[ey];exact fun W=>qja W _) (by rw[ey];exact fun W=>qj9 W _)
 | false =>
  have hbn:¬brk x.s.kind=true:=by rw[hb];exact Bool.false_ne_true
  by_cases h7:x.s.kind=7
  ·have ey:yc x=.iface 197 (.pointer (some ⟨x.g,0,none⟩)):=by unfold yc q3v;rw[if_neg hbn,if_pos h7]
   exact q7n w N R vb its x wt h hi hx hp hn hN false true _ _ (by rw[ey];exact fun W=>qj8 W _) (by rw[ey];exact fun W=>q4q W _)
  ·have ey:yc x=.iface 202 (.pointer (some ⟨x.g,0,none⟩)):=by unfold yc q3v;rw[if_neg hbn,if_neg h7]
   exact q7n w N R vb its x wt h hi hx hp hn hN true false _ _ (by rw[ey];exact fun W=>q7k W _) (by rw[ey];exact fun W=>q65 W _)
end S
namespace S
open Go.RowKit
structure PS where
 l:List Stm
 opn:Bool
 wt:Tok
def wtB (t:Tok):Bool:=!t.text.toList.isEmpty
def q0s (P:PS)(t:Tok):Int × PS :=
 if q2q t.text=true then (if wtB P.wt=true then (60,P) else (0,{ P with wt:=t }))
 else if q0r t.text=0 then (60,P)
 else if qj5 (q0r t.text)≠wtB P.wt then (61,P)
 else (0,⟨P.l++[newS (q0r t.text) P.wt t],!brk (q0r t.text),q1v⟩)
def Held (R:Nat)(vb:Value)(its:List Itm)(b:Nat):Prop:=b=R∨vb.ownBlock=some b∨∃x ∈ its,blk x b
def q4r (N R:Nat)(H:Nat→Prop)(W:World)(P:PS):Prop:=∃vb vo its,RSt N R W vb vo its P.wt∧its.map (·.s)=P.l∧(P.opn=false→vo=.nilIface)∧(P.opn=true→∃pre x,its=pre++[x]∧vo=yc x∧brk x.s.kind=false)∧∀b,Held R vb its b→H b
theorem q4r.mono {N R:Nat}{H H':Nat→Prop}{W:World}{P:PS}(h:q4r N R H W P)(hm:∀b,H b→H' b):q4r N R H' W P:=by
 obtain⟨vb,vo,its,h1,h2,h3,h4,h5⟩:=h
 exact⟨vb,vo,its,h1,h2,h3,h4,fun b e=>hm b (h5 b e)⟩
theorem q4r.under {N R:Nat}{H:Nat→Prop}{W W':World}{P:PS}(h:q4r N R H W P)(hb:Below W.heap.size W W'):q4r N R H W' P:=by
 obtain⟨vb,vo,its,h1,h2⟩:=h
 exact⟨vb,vo,its,h1.under hb,h2⟩
def Takes (N R:Nat)(H:Nat→Prop)(w:World)(r:Int × PS)(e:Ending)(w':World):Prop:=e=.returned (.int .i64 r.1)∧q4r N R (fun b=>H b∨w.heap.size≤b) w' r.2∧M.Ch H w w'
theorem Takes.from {N R:Nat}{H:Nat→Prop}{w w0 w':World}{r:Int × PS}{e:Ending}(hb:Below w.heap.size w w0)(h:Takes N R H w0 r e w'):Takes N R H w r e w' :=
 ⟨h.1,h.2.1.mono fun _ e=>e.imp id fun e=>Nat.le_trans hb.size e,(M.Ch.of_below hb).trans h.2.2⟩
theorem qm5 {R:Nat}{H:Nat→Prop}{vb vb':Value}{its:List Itm}{x:Itm}{m:Nat}(h:∀b,Held R vb its b→H b)(hl:∀b,vb'.ownBlock=some b→vb.ownBlock=some b∨m≤b)(hx:∀b,blk x b→m≤b):∀b,Held R vb' (its++[x]) b→H b∨m≤b:=fun b e=>by
 rcases e with e | e | ⟨y,hy,e⟩
 ·exact .inl (h b (.inl e))
 ·exact (hl b e).imp (fun e=>h b (.inr (.inl e))) id
 ·rcases List.mem_append.1 hy with hy | hy
  ·exact .inl (h b (.inr (.inr ⟨y,hy,e⟩)))
  ·rw[List.mem_singleton.1 hy] at e;exact .inr (hx b e)
theorem qbi (k:Int)(lb ky:Tok):(newS k lb ky).kind=k:=by unfold newS;split <;> rfl
theorem qm6 {N R:Nat}{W:World}{vb:Value}{its:List Itm}{x:Itm}{P:PS}{k:Int}{tk:Tok}(hxs:x.s=newS k P.wt tk)(hr:RSt N R W vb (if brk x.s.kind=true then .nilIface else yc x) (its++[x]) q1v)(hits:its.map (·.s)=P.l){H:Nat→Prop}(hh:∀b,Held R vb (its++[x]) b→H b):q4r N R H W ⟨P.l++[newS k P.wt tk],!brk k,q1v⟩:=by
 have hk:x.s.kind=k:=by rw[hxs,qbi]
 rw[hk] at hr
 refine⟨vb,_,its++[x],hr,by rw[List.map_append,hits,List.map_singleton,hxs],fun e=>?_,fun e=>?_,hh⟩
 ·have e':brk k=true:=by simpa using e
  rw[if_pos e']
 ·have e':brk k=false:=by simpa using e
  exact⟨its,x,rfl,by rw[if_neg (by rw[e'];exact Bool.false_ne_true)],by rw[hk];exact e'⟩
theorem q8y (w:World)(N R:Nat)(H:Nat→Prop)(P:PS)(tk:Tok)(h:q4r N R H w P)(ho:P.opn=false)(hS:yh w)(hN:N≤w.heap.size)(hn:P.l.length≤1048576)(ht:tk.text.size≤1048576) :
  Calls Tryz.prog 149 #[.pointer (some ⟨R,0,none⟩),zn tk] w (Takes N R H w (q0s P tk)):=by
 obtain⟨w1,hw1⟩:∃w1,w1=w.alloc (.cells #[.string tk.text,.int .i64 tk.off,.int .i64 tk.line,.int .i64 tk.col] 36):=⟨_,rfl⟩
 have hb1:Below w.heap.size w w1:=by rw[hw1];exact qg _ _
 have HN1:w1.heap[w.heap.size]?=some (.cells #[.string tk.text,.int .i64 tk.off,.int .i64 tk.line,.int .i64 tk.col] 36 (0,0)):=by rw[hw1];exact heap_alloc_new w _
 have x0:w1.cell? ⟨w.heap.size,0,none⟩=some (.string tk.text):=M.qc HN1 0
 have x1:w1.cell? ⟨w.heap.size,1,none⟩=some (.int .i64 tk.off):=M.qc HN1 1
 have x2:w1.cell? ⟨w.heap.size,2,none⟩=some (.int .i64 tk.line):=M.qc HN1 2
 have x3:w1.cell? ⟨w.heap.size,3,none⟩=some (.int .i64 tk.col):=M.qc HN1 3
 have HB:Hid (Below w.heap.size w w1):=hb1
 have h1:=h.under hb1
 obtain⟨vb,vo,its,hR,hits,hvo,_,hH⟩:=h
 have hvo':=hvo ho
 subst hvo'
 have hR1:=hR.under hb1
 have r2:w1.cell? ⟨R,2,none⟩=some (.string P.wt.text):=M.qc hR1.box 2
 have PL:Hid _:=qbf tk.text w1 (by omega)
 have WT:Hid _:=q7l w1 R P.wt.text r2
 have HST:Hid (∀c,Takes N R H w (c,P) (.returned (.int .i64 c)) w1):=fun c=>⟨rfl,h1.mono fun _ e=>.inl e,M.Ch.of_below hb1⟩
 have HHd:Hid (∀b,Held R vb its b→H b):=hH
 clear hH
 cases hpl:q2q tk.text with
 | true =>
  rw[hpl] at PL
  cases hwt:wtB P.wt with
  | true =>
   have hw':(!P.wt.text.toList.isEmpty)=true:=hwt
   rw[hw'] at WT
   have E:Hid (q0s P tk=(60,P)):=by show _=_;unfold q0s;rw[if_pos hpl,if_pos hwt]
   rw[E.out]
   unfold zn
   clear h1 hR hR1 hS HN1 hb1 hvo hits hwt hpl hw'
   go_enter Tryz.func149,Tryz.ntmps149
   go_upto_region 1 with fail
   rw[←hw1]
   clear hw1
   go_wp2_with fail
   refine Calls.mono PL.out ?_
   rintro e w2 ⟨rfl,hw2⟩
   subst w2
   clear PL
   go_wp2_with fail
   refine Calls.mono WT.out ?_
   rintro e w2 ⟨rfl,hw2⟩
   subst w2
   clear WT
   go_wp2
   go_ret
   exact HST.out 60
  | false =>
   have hw':(!P.wt.text.toList.isEmpty)=false:=hwt
   rw[hw'] at WT
   have E:Hid (q0s P tk=(0,{ P with wt:=tk })):=by show _=_;unfold q0s;rw[if_pos hpl,if_neg (by rw[hwt];exact Bool.false_ne_true)]
   rw[E.out]
   have HP:Hid (q4r N R (fun b=>H b∨w.heap.size≤b) ((((w1.setCell ⟨R,2,none⟩ (.string tk.text)).setCell ⟨R,3,none⟩ (.int .i64 tk.off)).setCell ⟨R,4,none⟩ (.int .i64 tk.line)).setCell ⟨R,5,none⟩ (.int .i64 tk.col)) { P with wt:=tk }∧M.Ch H w ((((w1.setCell ⟨R,2,none⟩ (.string tk.text)).setCell ⟨R,3,none⟩ (.int .i64 tk.off)).setCell ⟨R,4,none⟩ (.int .i64 tk.line)).setCell ⟨R,5,none⟩ (.int .i64 tk.col))):=by
    have hc:=q5h R [.string tk.text,.int .i64 tk.off,.int .i64 tk.line,.int .i64 tk.col] 2 w1
    refine⟨⟨vb,.nilIface,its,hR1.cells hc (q7m hR1.box 2 tk),hits,fun _=>rfl,fun e=>?_,fun b e=>.inl (HHd.out b e)⟩,(M.Ch.of_below hb1).trans (hc.mono fun b e=>HHd.out b (.inl e))⟩
    have e':P.opn=true:=e
    rw[ho] at e'
    cases e'
   have c:∀i,w1.cell? ⟨R,i,none⟩=(rdC vb .nilIface P.wt)[i]?:=fun i=>M.qc hR1.box i
   have c3:=c 3
   have c4:=c 4
   have c5:=c 5
   clear c
   simp only[rdC] at c3 c4 c5
   have f:∀i,w1.frozen? ⟨R,i,none⟩=false:=fun i=>by simp[World.frozen?,hR1.box]
   have f2:=f 2
   have f3:=f 3
   have f4:=f 4
   have f5:=f 5
   unfold zn
   clear f h1 hR hR1 hS HN1 hb1 hvo hits hwt hpl hw'
   go_enter Tryz.func149,Tryz.ntmps149
   go_upto_region 1 with fail
   rw[←hw1]
   clear hw1
   go_wp2_with fail
   refine Calls.mono PL.out ?_
   rintro e w2 ⟨rfl,hw2⟩
   subst w2
   clear PL
   go_wp2_with fail
   refine Calls.mono WT.out ?_
   rintro e w2 ⟨rfl,hw2⟩
   subst w2
   clear WT
   go_wp2
   go_ret
   exact⟨rfl,HP.out.1,HP.out.2⟩
 | false =>
  rw[hpl] at PL
  have hnp:¬q2q tk.text=true:=by rw[hpl];exact Bool.false_ne_true
  have KO:Hid _:=q28 w1 tk.text (hS.under hb1)
  obtain⟨k,hk⟩:∃k,q0r tk.text=k:=⟨_,rfl⟩
  have hk10:k < 10:=by rw[←hk];exact qm4 _
  rw[hk] at KO
  by_cases hk0:k=0
  ·have E:Hid (q0s P tk=(60,P)):=by show _=_;unfold q0s;rw[if_neg hnp,hk,if_pos hk0]
   rw[E.out]
   subst hk0
   have HS2:Hid (∀w2,Below w1.heap.size w1 w2→Takes N R H w (60,P) (.returned (.int .i64 60)) w2):=fun w2 hb2=>⟨rfl,(h1.under hb2).mono fun _ e=>.inl e,M.Ch.of_below (hb1.trans (hb2.mono hb1.size))⟩
   unfold zn
   clear h1 hR hR1 hS HN1 hb1 hvo hits hpl hnp hk
   go_enter Tryz.func149,Tryz.ntmps149
   go_upto_region 1 with fail
   rw[←hw1]
   clear hw1
   go_wp2_with fail
   refine Calls.mono PL.out ?_
   rintro e w2 ⟨rfl,hw2⟩
   subst w2
   clear PL
   go_wp2_with fail
   refine Calls.mono KO.out ?_
   rintro e w2 ⟨rfl,hb2⟩
   have HB2:Hid (Below w1.heap.size w1 w2):=hb2
   clear KO hb2
   go_wp2
   go_ret
   exact HS2.out _ HB2.out
  ·obtain⟨b,hwt⟩:∃b,wtB P.wt=b:=⟨_,rfl⟩
   have hw':(!P.wt.text.toList.isEmpty)=b:=hwt
   obtain⟨lb,hlb⟩:∃lb,qj5 k=lb:=⟨_,rfl⟩
   have hk0':((k:Int) == 0)=false:=by simpa using hk0
   have k0:(0:Int)≤(k:Int):=by omega
   have k1:(k:Int) < 10:=by omega
   have HSh:Hid (yh w):=hS
   have HRd:Hid (RSt N R w1 vb .nilIface its P.wt):=hR1
   have HIT:Hid (its.map (·.s)=P.l∧its.length≤1048576):=⟨hits,by have:=congrArg List.length hits;rw[List.length_map] at this;omega⟩
   have HE:Hid (q0s P tk=if lb≠b then (61,P) else (0,⟨P.l++[newS k P.wt tk],!brk k,q1v⟩)):=by
    show _=_
    unfold q0s
    rw[if_neg hnp,hk,if_neg hk0,hlb,hwt]
   have HLB:Hid (qj5 k=lb∧(!P.wt.text.toList.isEmpty)=b∧k < 10∧1≤k):=⟨hlb,hw',hk10,by omega⟩
   have HNB:Hid (w1.heap[w.heap.size]?=some (.cells #[.string tk.text,.int .i64 tk.off,.int .i64 tk.line,.int .i64 tk.col] 36 (0,0))):=HN1
   unfold zn
   clear h1 hR hR1 hS HN1 hb1 hvo hits hpl hnp hk hwt hw' hlb WT hk0 x1 x2 x3 r2
   go_enter Tryz.func149,Tryz.ntmps149
   go_upto_region 1 with fail
   rw[←hw1]
   clear hw1
   go_wp2_with fail
   refine Calls.mono PL.out ?_
   rintro e w2 ⟨rfl,hw2⟩
   subst w2
   clear PL
   go_wp2_with fail
   refine Calls.mono KO.out ?_
   rintro e w2 ⟨rfl,hb2⟩
   have HB2:Hid (Below w1.heap.size w1 w2):=hb2
   have HBw:Hid (Below w.heap.size w w2):=HB.out.trans (hb2.mono HB.out.size)
   have HR2:Hid (RSt N R w2 vb .nilIface its P.wt):=HRd.out.under hb2
   have r2:w2.cell? ⟨R,2,none⟩=some (.string P.wt.text):=M.qc HR2.out.box 2
   have WT:Hid _:=q7l w2.drew R P.wt.text r2
   obtain⟨_,l1,_,_⟩:=(HSh.out.under HBw.out) k hk10
   rw[HLB.out.1] at l1
   rw[HLB.out.2.1] at WT
   clear KO hb2 x0
   go_upto_region 9 with fail
   go_region_law (go_simp;go_at_call 150;refine Calls.mono WT.out ?_;rintro e w3 ⟨rfl,hw3⟩;subst w3)
   all_goals
    have HR3:Hid (RSt N R w2.drew vb .nilIface its P.wt):=HR2.out.under (below_drewN (Below.refl _ _) 1)
    have HB3:Hid (Below w.heap.size w w2.drew):=below_drewN HBw.out 1
    have HN3:Hid (w2.drew.heap[w.heap.size]?=some (.cells #[.string tk.text,.int .i64 tk.off,.int .i64 tk.line,.int .i64 tk.col] 36 (0,0))):=(HB2.out.block _ (Array.getElem?_eq_some_iff.1 HNB.out).1).trans HNB.out
    clear WT l1 r2 HR2 HBw HB2 HNB
    generalize w2.drew=w3 at *
    by_cases hbe:lb=b
    ·have E:Hid (q0s P tk=(0,⟨P.l++[newS k P.wt tk],!brk k,q1v⟩)):=by show _=_;rw[HE.out,if_neg (by simpa using hbe)]
     have c:∀i,w3.cell? ⟨R,i,none⟩=(rdC vb .nilIface P.wt)[i]?:=fun i=>M.qc HR3.out.box i
     have c2:=c 2
     have c3:=c 3
     have c4:=c 4
     have c5:=c 5
     clear c
     simp only[rdC] at c2 c3 c4 c5
     have x0:w3.cell? ⟨w.heap.size,0,none⟩=some (.string tk.text):=M.qc HN3.out 0
     have x1:w3.cell? ⟨w.heap.size,1,none⟩=some (.int .i64 tk.off):=M.qc HN3.out 1
     have x2:w3.cell? ⟨w.heap.size,2,none⟩=some (.int .i64 tk.line):=M.qc HN3.out 2
     have x3:w3.cell? ⟨w.heap.size,3,none⟩=some (.int .i64 tk.col):=M.qc HN3.out 3
     have NS:Hid _:=qj7 w3.drew k P.wt tk
     unfold zn at NS
     subst hbe
     rcases lb with _ | _
     all_goals go_upto_region 11 with fail
     all_goals go_region_law (first
      | (go_simp;go_at_call 131;refine Calls.mono NS.out ?_;rintro e w4 ⟨hb4,st,rfl,hh⟩;obtain⟨x,rfl,hxs,hxi,hxb⟩:=qjg (w:=w3.drew) (N:=N) (by have:=HLB.out.2.2.2;omega) (by have:=HLB.out.2.2.1;omega) (Nat.le_trans hN HB3.out.size) hh;have HXS:Hid (x.s=newS k P.wt tk∧Below w.heap.size w w4∧∀b,blk x b→w.heap.size≤b):=⟨hxs,HB3.out.trans (Below.mono (show Below w3.heap.size w3 w4 from ⟨hb4.os,hb4.tape,hb4.output,hb4.size,hb4.block⟩) HB3.out.size),fun b e=>Nat.le_trans HB3.out.size (hxb b e)⟩;have BG:Hid _:=qjh w4 N R vb its x P.wt (HR3.out.under ⟨hb4.os,hb4.tape,hb4.output,hb4.size,hb4.block⟩) hxi (fun b e=>⟨fun e2=>(by have h1:=hxb b e;have h2:=HR3.out.lt;subst e2;exact absurd h2 (Nat.not_lt.2 h1)),fun e2=>(by have h1:=hxb b e;have h2:=M.jl HR3.out.own b e2;exact absurd h2 (Nat.not_lt.2 h1))⟩) (fun y hy b e e2=>absurd ((HR3.out.all y hy).lt b e) (Nat.not_lt.2 (hxb b e2))) HIT.out.2 (Nat.le_trans hN HXS.out.2.1.size);clear hb4 hh hxs hxi hxb)
      | (go_simp;go_at_call 212;refine Calls.mono BG.out ?_;rintro e w5 ⟨rfl,vb',hr5,hb5,hl5⟩;have H5:Hid (RSt N R w5 vb' (if brk x.s.kind=true then .nilIface else yc x) (its++[x]) q1v∧M.Ch H w w5∧∀b,Held R vb' (its++[x]) b→H b∨w.heap.size≤b):=⟨hr5,(M.Ch.of_below HXS.out.2.1).trans (hb5.mono fun b e=>HHd.out b (e.imp id .inl)),qm5 HHd.out (fun b e=>(hl5 b e).imp id fun h=>Nat.le_trans HXS.out.2.1.size h) HXS.out.2.2⟩;clear hr5 hb5 hl5))
     all_goals have HF:Hid (q4r N R (fun b=>H b∨w.heap.size≤b) w5 ⟨P.l++[newS k P.wt tk],!brk k,q1v⟩):=qm6 HXS.out.1 H5.out.1 HIT.out.1 H5.out.2.2
     all_goals clear BG NS
     all_goals go_wp2
     all_goals go_ret
     all_goals show Takes _ _ _ _ _ _ _
     all_goals rw[E.out]
     all_goals exact⟨rfl,HF.out,H5.out.2.1⟩
    ·have E:Hid (q0s P tk=(61,P)):=by show _=_;rw[HE.out,if_pos hbe]
     have HD:Hid (q4r N R (fun b=>H b∨w.heap.size≤b) w3 P):=⟨vb,.nilIface,its,HR3.out,HIT.out.1,fun _=>rfl,(fun e=>by rw[ho] at e;cases e),fun b e=>.inl (HHd.out b e)⟩
     clear HE
     rcases lb with _ | _ <;> rcases b with _ | _
     all_goals first | exact absurd rfl hbe | skip
     all_goals clear hbe
     all_goals go_wp2
     all_goals go_ret
     all_goals show Takes _ _ _ _ _ _ _
     all_goals rw[E.out]
     all_goals exact⟨rfl,HD.out,M.Ch.of_below HB3.out⟩
end S
namespace S
open Go.RowKit
def ql (P:PS)(t:Tok):Int × PS :=
 if P.opn=true then (match P.l.getLast? with
  | some s=>((yj s t).1,⟨P.l.dropLast++[(yj s t).2.1],!(yj s t).2.2,P.wt⟩)
  | none=>(0,P))
 else q0s P t
theorem take_any (w:World)(N R:Nat)(H:Nat→Prop)(P:PS)(tk:Tok)(h:q4r N R H w P)(hS:yh w)(hN:N≤w.heap.size)(hn:P.l.length≤1048576)(hsz:∀s ∈ P.l,s.words.length≤1048576∧s.proof.length≤1048576)(ht:tk.text.size≤1048576) :
  Calls Tryz.prog 96 #[.pointer (some ⟨R,0,none⟩),zn tk] w (Takes N R H w (ql P tk)):=by
 obtain⟨w1,hw1⟩:∃w1,w1=w.alloc (.cells #[.string tk.text,.int .i64 tk.off,.int .i64 tk.line,.int .i64 tk.col] 36):=⟨_,rfl⟩
 have hb1:Below w.heap.size w w1:=by rw[hw1];exact qg _ _
 have HN1:w1.heap[w.heap.size]?=some (.cells #[.string tk.text,.int .i64 tk.off,.int .i64 tk.line,.int .i64 tk.col] 36 (0,0)):=by rw[hw1];exact heap_alloc_new w _
 have x0:w1.cell? ⟨w.heap.size,0,none⟩=some (.string tk.text):=M.qc HN1 0
 have x1:w1.cell? ⟨w.heap.size,1,none⟩=some (.int .i64 tk.off):=M.qc HN1 1
 have x2:w1.cell? ⟨w.heap.size,2,none⟩=some (.int .i64 tk.line):=M.qc HN1 2
 have x3:w1.cell? ⟨w.heap.size,3,none⟩=some (.int .i64 tk.col):=M.qc HN1 3
 have HB:Hid (Below w.heap.size w w1):=hb1
 have h1:=h.under hb1
 cases ho:P.opn with
 | false =>
  have BT:Hid (Calls Tryz.prog 149 #[.pointer (some ⟨R,0,none⟩),zn tk] w1 (Takes N R H w (ql P tk))):=by
   show Calls _ _ _ _ _
   refine Calls.mono (q8y w1 N R H P tk h1 ho (hS.under hb1) (Nat.le_trans hN hb1.size) hn ht) fun e w' he=>?_
   unfold ql
   rw[if_neg (by rw[ho];exact Bool.false_ne_true)]
   exact he.from hb1
  obtain⟨vb,vo,its,hR,hits,hvo,_,_⟩:=h1
  have hvo':=hvo ho
  subst hvo'
  have r1:w1.cell? ⟨R,1,none⟩=some .nilIface:=M.qc hR.box 1
  obtain⟨Q,hQ⟩:∃Q,Takes N R H w (ql P tk)=Q:=⟨_,rfl⟩
  rw[hQ] at BT ⊢
  have HQ:Hid (∀e w',Q e w'→∃c,e=.returned (.int .i64 c)):=fun e w' hq=>by rw[←hQ] at hq;exact⟨_,hq.1⟩
  unfold zn at BT ⊢
  clear h hS HN1 hb1 hR hits hvo hQ
  go_enter Tryz.func96,Tryz.ntmps96
  go_upto_region 1 with fail
  rw[←hw1]
  clear hw1
  go_wp2_with fail
  refine Calls.mono BT.out ?_
  intro e w2 hq
  have HP:Hid (Q e w2):=hq
  obtain⟨c,rfl⟩:=HQ.out _ _ hq
  clear hq
  go_wp2
  try go_ret
  exact HP.out
 | true =>
  obtain⟨vb,vo,its,hR,hits,_,hvo,hH⟩:=h1
  obtain⟨pre,x,rfl,rfl,hbk⟩:=hvo ho
  have hxm:x ∈ pre++[x]:=by simp
  have hsx:x.s ∈ P.l:=by rw[←hits];exact List.mem_map_of_mem hxm
  have hl:P.l.getLast?=some x.s:=by rw[←hits];simp
  have hd:P.l.dropLast=pre.map (·.s):=by rw[←hits];simp
  have BT:Hid (Calls Tryz.prog 148 #[.pointer (some ⟨R,0,none⟩),zn tk] w1 (Takes N R H w (ql P tk))):=by
   show Calls _ _ _ _ _
   refine Calls.mono (q9f w1 N R x tk _ hR.box rfl (fun e=>(hR.ap x hxm R e).1 rfl) (hR.all x hxm) hbk (hS.under hb1) (Nat.le_trans hN hb1.size) (hsz _ hsx).1 (hsz _ hsx).2 ht) fun e w' he=>?_
   obtain⟨x',e1,e2,e3,e4,e5,e6,e7,e8⟩:=he
   unfold ql
   rw[if_pos ho,hl]
   dsimp only
   have eR:∀c:Bool,(if c=true then (rdC vb (yc x) P.wt).setIfInBounds 1 .nilIface else rdC vb (yc x) P.wt)=rdC vb (if c=true then .nilIface else yc x) P.wt:=fun c=>by cases c <;> rfl
   rw[eR] at e8
   refine⟨e1,⟨vb,_,pre++[x'],hR.last e3 e4 e5 e6 e7 e8,by rw[hd,List.map_append,List.map_singleton,e2],fun e=>?_,fun e=>?_,fun b e=>?_⟩,(M.Ch.of_below hb1).trans (e7.mono fun b e=>e.elim (fun e=>hH b (.inr (.inr ⟨x,hxm,e⟩))) fun e=>hH b (.inl e))⟩
   ·have e':(yj x.s tk).2.2=true:=by simpa using e
    rw[if_pos e']
   ·have e':(yj x.s tk).2.2=false:=by simpa using e
    refine⟨pre,x',rfl,?_,?_⟩
    ·rw[if_neg (by rw[e'];exact Bool.false_ne_true)];unfold yc;rw[e5,e4]
    ·have:q3v x'≠204:=by
      rw[e5];unfold q3v
      rw[if_neg (by rw[hbk];exact Bool.false_ne_true)]
      split <;> decide
     cases hb:brk x'.s.kind with
     | false=>rfl
     | true=>exact absurd (by unfold q3v;rw[if_pos hb]) this
   ·rcases e with e | e | ⟨y,hy,e⟩
    ·exact .inl (hH b (.inl e))
    ·exact .inl (hH b (.inr (.inl e)))
    ·rcases List.mem_append.1 hy with hy | hy
     ·exact .inl (hH b (.inr (.inr ⟨y,by simp[hy],e⟩)))
     ·rw[List.mem_singleton.1 hy] at e
      exact (e6 b e).imp (fun e=>hH b (.inr (.inr ⟨x,hxm,e⟩))) fun e=>Nat.le_trans hb1.size e
  have r1:w1.cell? ⟨R,1,none⟩=some (yc x):=M.qc hR.box 1
  obtain⟨y,g,hix⟩:∃y g,yc x=.iface y (.pointer (some ⟨g,0,none⟩)):=⟨_,_,rfl⟩
  rw[hix] at r1
  obtain⟨Q,hQ⟩:∃Q,Takes N R H w (ql P tk)=Q:=⟨_,rfl⟩
  rw[hQ] at BT ⊢
  have HQ:Hid (∀e w',Q e w'→∃c,e=.returned (.int .i64 c)):=fun e w' hq=>by rw[←hQ] at hq;exact⟨_,hq.1⟩
  unfold zn at BT ⊢
  clear h hS HN1 hb1 hR hits hvo hQ hsx hl hd hix hxm hH
  go_enter Tryz.func96,Tryz.ntmps96
  go_upto_region 1 with fail
  rw[←hw1]
  clear hw1
  go_wp2_with fail
  refine Calls.mono BT.out ?_
  intro e w2 hq
  have HP:Hid (Q e w2):=hq
  obtain⟨c,rfl⟩:=HQ.out _ _ hq
  clear hq
  go_wp2
  try go_ret
  exact HP.out
theorem qg1 (w:World)(N R:Nat)(H:Nat→Prop)(P:PS)(h:q4r N R H w P):Calls Tryz.prog 98 #[.pointer (some ⟨R,0,none⟩)] w fun e w'=>e=.returned (.bool (P.opn || wtB P.wt))∧w'=w:=by
 cases ho:P.opn with
 | false =>
  obtain⟨vb,vo,its,hR,hits,hvo,_,_⟩:=h
  have hvo':=hvo ho
  subst hvo'
  have r1:w.cell? ⟨R,1,none⟩=some .nilIface:=M.qc hR.box 1
  have r2:w.cell? ⟨R,2,none⟩=some (.string P.wt.text):=M.qc hR.box 2
  have WT:Hid _:=q7l w R P.wt.text r2
  clear hR hits hvo r2
  go_enter Tryz.func98,Tryz.ntmps98
  go_wp2_with fail
  refine Calls.mono WT.out ?_
  rintro e w2 ⟨rfl,hw2⟩
  subst w2
  clear WT
  go_wp2
  go_ret
  exact⟨rfl,rfl⟩
 | true =>
  obtain⟨vb,vo,its,hR,hits,_,hvo,_⟩:=h
  obtain⟨pre,x,rfl,rfl,hbk⟩:=hvo ho
  have r1:w.cell? ⟨R,1,none⟩=some (yc x):=M.qc hR.box 1
  obtain⟨y,g,hix⟩:∃y g,yc x=.iface y (.pointer (some ⟨g,0,none⟩)):=⟨_,_,rfl⟩
  rw[hix] at r1
  clear hR hits hvo hix
  go_enter Tryz.func98,Tryz.ntmps98
  go_wp2
  go_ret
  exact⟨rfl,rfl⟩
end S
namespace S
open Go.RowKit
def q57 (x:Itm):Array Value:=q4g x.s.kind x.s.label x.s.key x.s.fin x.s.proving x.vw x.vp
theorem infoSM:(Tryz.prog.info? 95).map (fun i=>(i.zero,i.size,i.bytes))=some (some (.agg #[.int .i64 0,.string ⟨#[]⟩,.int .i64 0,.int .i64 0,.int .i64 0,.string ⟨#[]⟩,.int .i64 0,.int .i64 0,.int .i64 0,.bool false,.slice none 0 0,.slice none 0 0,.string ⟨#[]⟩,.int .i64 0,.int .i64 0,.int .i64 0]),16,184):=by kernel_rfl
theorem qm7 (w:World)(N:Nat)(x:Itm)(h:q05 w N x)(h7:x.s.kind=7):Calls Tryz.prog 336 #[.pointer (some ⟨x.g,0,none⟩)] w fun e w'=>e=.returned (.agg (q57 x))∧Below w.heap.size w w':=by
 obtain⟨aw,cw,ew⟩:=jf h.ow
 obtain⟨ap,cp,ep⟩:=jf h.op
 have hb:=h.box
 rw[ug h7,ew,ep] at hb
 have c:∀i,w.cell? ⟨x.g,i,none⟩=_:=fun i=>M.qc hb i
 unfold q57
 rw[ew,ep]
 exact qjc w x.g x.s.kind x.s.label x.s.key x.s.fin aw _ cw x.s.proving ap _ cp ⟨c 0,c 1,c 2,c 3,c 4,c 5,c 6,c 7,c 8,c 9,c 10,c 11,c 12,c 13,c 14,c 15⟩
theorem qji (w:World)(N:Nat)(x:Itm)(h:q05 w N x)(hb:brk x.s.kind=false)(h7:x.s.kind≠7):Calls Tryz.prog 337 #[.pointer (some ⟨x.g,0,none⟩)] w fun e w'=>e=.returned (.agg (q57 x))∧Below w.heap.size w w':=by
 obtain⟨aw,cw,ew⟩:=jf h.ow
 have hbx:=h.box
 rw[q2s hb h7,ew] at hbx
 have c:∀i,w.cell? ⟨x.g,i,none⟩=_:=fun i=>M.qc hbx i
 unfold q57
 obtain⟨_,e2,e3⟩:=h.nt h7
 rw[ew,e2,e3]
 exact qbh w x.g x.s.kind x.s.label x.s.key x.s.fin aw _ cw ⟨c 0,c 1,c 2,c 3,c 4,c 5,c 6,c 7,c 8,c 9,c 10,c 11,c 12,c 13⟩
theorem qm8 (w:World)(N:Nat)(x:Itm)(h:q05 w N x)(hb:brk x.s.kind=true):Calls Tryz.prog 338 #[.pointer (some ⟨x.g,0,none⟩)] w fun e w'=>e=.returned (.agg (q57 x))∧Below w.heap.size w w':=by
 have h7:x.s.kind≠7:=fun e=>by rw[e] at hb;cases hb
 have hbx:=h.box
 rw[qi8 hb] at hbx
 have c:∀i,w.cell? ⟨x.g,i,none⟩=_:=fun i=>M.qc hbx i
 unfold q57
 obtain⟨_,e2,e3⟩:=h.nt h7
 obtain⟨_,d2,d3,d4⟩:=h.nb hb
 rw[e2,e3,d2,d3,d4]
 exact qjb w x.g x.s.kind x.s.key ⟨c 0,c 1,c 2,c 3,c 4⟩
def q3g (l:List Itm):List Value:=l.flatMap fun x=>(q57 x).toList
theorem q9g {w:World}{N:Nat}(x:Itm)(h:q05 w N x):∀u ∈ (#[.int .i64 x.s.kind,.string x.s.label.text,.int .i64 x.s.label.off,.int .i64 x.s.label.line,.int .i64 x.s.label.col,.string x.s.key.text,.int .i64 x.s.key.off,.int .i64 x.s.key.line,.int .i64 x.s.key.col,.bool x.s.proving,x.vw,x.vp,.string x.s.fin.text,.int .i64 x.s.fin.off,.int .i64 x.s.fin.line,.int .i64 x.s.fin.col]:Array Value).toList,u.oneCell'=true:=fun u hu=>by
 obtain⟨aw,cw,ew⟩:=jf h.ow
 obtain⟨ap,cp,ep⟩:=jf h.op
 rw[ew,ep] at hu
 simp at hu
 rcases hu with rfl | rfl | rfl | rfl | rfl | rfl | rfl | rfl | rfl | rfl | rfl | rfl | rfl | rfl | rfl | rfl <;> rfl
theorem qdp (w:World)(N R:Nat)(vb vo:Value)(its:List Itm)(wt:Tok)(h:RSt N R w vb vo its wt)(hn:its.length≤1048576) :
  Calls Tryz.prog 97 #[.pointer (some ⟨R,0,none⟩)] w fun e w'=>∃v,e=.returned v∧w'.ownsRow w.heap.size 95 16 v its.length (q3g its)∧Below w.heap.size w w':=by
 obtain⟨ip,hip,ipz,ips,ipb⟩:=info_parts infoSM
 obtain⟨n,hnn⟩:∃n,its.length=n:=⟨_,rfl⟩
 have H:Hid (RSt N R w vb vo its wt):=h
 obtain⟨av,cv,hvb,_,hcell⟩:=M.zx h.own
 rw[hnn] at hn hvb
 subst hvb
 have HC:Hid (∀i x,its[i]?=some x→∃g,av=some ⟨g,0,none⟩∧w.cell? ⟨g,i,none⟩=some (yc x)):=fun i x hx=>hcell i _ (by rw[List.getElem?_map,hx];rfl)
 have HL:Hid (its.length=n):=hnn
 have r0:w.cell? ⟨R,0,none⟩=some (.slice av n cv):=M.qc h.box 0
 rw[hnn]
 clear h hcell hnn
 go_enter Tryz.func97,Tryz.ntmps97
 go_wp2_with fail
 go_loopw [11,3] (fun v11 v3 wx=>∃(j:Nat) (v:Value),j≤n∧v11=.int .i64 j∧v3=v∧Hid (wx.ownsRow w.heap.size 95 16 v j (q3g (its.take j)))∧Hid (Below w.heap.size w wx)) (fun v11 _ _=>n - (intOf v11).toNat)
 case atStart=>exact⟨0,_,Nat.zero_le _,rfl,rfl,World.ownsRow_nil _ _ _ _,Below.refl _ _⟩
 case round =>
  obtain⟨j,v,hj,rfl,rfl,hO,hB⟩:=hrel
  obtain⟨a3,c3,hv3,_⟩:=qm hO.out
  subst hv3
  by_cases hlt:j < n
  ·have n1:(j:Int) < (n:Int):=by omega
   obtain⟨x,hx⟩:∃x,its[j]?=some x:=⟨its[j]'(by rw[HL.out];exact hlt),List.getElem?_eq_getElem _⟩
   have HIt:Hid (q05 w N x):=H.out.all x (List.mem_of_getElem? hx)
   have HIr:Hid (q05 wr N x):=HIt.out.under hB.out
   obtain⟨gb,rfl,y0⟩:=HC.out j x hx
   have y1:wr.cell? ⟨gb,j,none⟩=some (yc x):=(hB.out.cell (p:=⟨gb,j,none⟩) (World.block_lt_of_cell? _ _ y0)).trans y0
   have TK:Hid (q3g (its.take (j + 1))=q3g (its.take j)++(q57 x).toList):=by show _=_;rw[List.take_add_one,hx];simp[q3g]
   clear hx y0 r0
   cases hb:brk x.s.kind with
   | true =>
    have ey:yc x=.iface 204 (.pointer (some ⟨x.g,0,none⟩)):=by unfold yc q3v;rw[if_pos hb]
    have TD:Hid _:=qm8 wr N x HIr.out hb
    rw[ey] at y1
    clear ey hb
    go_wp2_with fail
    refine Calls.mono TD.out ?_
    rintro e w2 ⟨rfl,hb2⟩
    have HB2:Hid (Below wr.heap.size wr w2):=hb2
    have HBw:Hid (Below w.heap.size w w2):=hB.out.trans (hb2.mono hB.out.size)
    have O2:Hid ((w2.alloc (.cells #[.int .i64 x.s.kind,.string x.s.label.text,.int .i64 x.s.label.off,.int .i64 x.s.label.line,.int .i64 x.s.label.col,.string x.s.key.text,.int .i64 x.s.key.off,.int .i64 x.s.key.line,.int .i64 x.s.key.col,.bool x.s.proving,x.vw,x.vp,.string x.s.fin.text,.int .i64 x.s.fin.off,.int .i64 x.s.fin.line,.int .i64 x.s.fin.col] 95)).ownsRow w.heap.size 95 16 (.slice a3 j c3) j (q3g (its.take j))):=M.zk (M.qh hO.out (M.Ch.of_below (X:=fun _=>False) hb2) fun _ _ e=>e) _
    have HS2:Hid (w.heap.size≤w2.heap.size):=HBw.out.size
    simp only[q57,q4g]
    clear hb2
    go_wp2_with (at_builtin;(refine wpList_append_lies (w2.alloc (.cells #[.int .i64 x.s.kind,.string x.s.label.text,.int .i64 x.s.label.off,.int .i64 x.s.label.line,.int .i64 x.s.label.col,.string x.s.key.text,.int .i64 x.s.key.off,.int .i64 x.s.key.line,.int .i64 x.s.key.col,.bool x.s.proving,x.vw,x.vp,.string x.s.fin.text,.int .i64 x.s.fin.off,.int .i64 x.s.fin.line,.int .i64 x.s.fin.col] 95)) rfl _ _ _ rfl w.heap.size 95 ip _ 16 184 Tryz.underlying75 hip ipz ips ipb rfl (by omega) _ j (q3g (its.take j)) (by rfl) (by exact O2.out) ⟨w2.heap.size,0,none⟩ 1 1 (#[.int .i64 x.s.kind,.string x.s.label.text,.int .i64 x.s.label.off,.int .i64 x.s.label.line,.int .i64 x.s.label.col,.string x.s.key.text,.int .i64 x.s.key.off,.int .i64 x.s.key.line,.int .i64 x.s.key.col,.bool x.s.proving,x.vw,x.vp,.string x.s.fin.text,.int .i64 x.s.fin.off,.int .i64 x.s.fin.line,.int .i64 x.s.fin.col]:Array Value).toList (by rfl) (by rfl) (fun j' u hu=>World.news_of_block (cs:=#[.int .i64 x.s.kind,.string x.s.label.text,.int .i64 x.s.label.off,.int .i64 x.s.label.line,.int .i64 x.s.label.col,.string x.s.key.text,.int .i64 x.s.key.off,.int .i64 x.s.key.line,.int .i64 x.s.key.col,.bool x.s.proving,x.vw,x.vp,.string x.s.fin.text,.int .i64 x.s.fin.off,.int .i64 x.s.fin.line,.int .i64 x.s.fin.col]) (t:=95) (fr:=(0,0)) (heap_alloc_new w2 _) j' u hu) (fun u hu=>q9g x HIt.out u hu) (by omega) (by unfold maxLen;omega) (by omega) (by have:=HS2.out;simp;omega) _ rfl ?_;intro gg cap w3 ho hgr hat hlt;have O3:Hid (w3.ownsRow w.heap.size 95 16 (.slice (some ⟨gg,0,none⟩) (j + 1) cap) (j + 1) (q3g (its.take (j + 1)))):=(by show World.ownsRow _ _ _ _ _ _ _;rw[TK.out];exact ho);have B3:Hid (Below w.heap.size w w3):=(HBw.out.alloc HBw.out.size _).trans ((M.Ch.jm hgr).below (by have:=HS2.out;simp;omega) fun b e=>M.zf O2.out b e);clear ho hgr hat hlt))
    exact⟨⟨j + 1,_,by omega,by go_num,rfl,O3.out,B3.out⟩,by simp[intOf];omega⟩
   | false =>
    have hbn:¬brk x.s.kind=true:=by rw[hb];exact Bool.false_ne_true
    by_cases h7:x.s.kind=7
    ·have ey:yc x=.iface 197 (.pointer (some ⟨x.g,0,none⟩)):=by unfold yc q3v;rw[if_neg hbn,if_pos h7]
     have TD:Hid _:=qm7 wr N x HIr.out h7
     rw[ey] at y1
     clear ey hb hbn h7
     go_wp2_with fail
     refine Calls.mono TD.out ?_
     rintro e w2 ⟨rfl,hb2⟩
     have HB2:Hid (Below wr.heap.size wr w2):=hb2
     have HBw:Hid (Below w.heap.size w w2):=hB.out.trans (hb2.mono hB.out.size)
     have O2:Hid ((w2.alloc (.cells #[.int .i64 x.s.kind,.string x.s.label.text,.int .i64 x.s.label.off,.int .i64 x.s.label.line,.int .i64 x.s.label.col,.string x.s.key.text,.int .i64 x.s.key.off,.int .i64 x.s.key.line,.int .i64 x.s.key.col,.bool x.s.proving,x.vw,x.vp,.string x.s.fin.text,.int .i64 x.s.fin.off,.int .i64 x.s.fin.line,.int .i64 x.s.fin.col] 95)).ownsRow w.heap.size 95 16 (.slice a3 j c3) j (q3g (its.take j))):=M.zk (M.qh hO.out (M.Ch.of_below (X:=fun _=>False) hb2) fun _ _ e=>e) _
     have HS2:Hid (w.heap.size≤w2.heap.size):=HBw.out.size
     simp only[q57,q4g]
     clear hb2
     go_wp2_with (at_builtin;(refine wpList_append_lies (w2.alloc (.cells #[.int .i64 x.s.kind,.string x.s.label.text,.int .i64 x.s.label.off,.int .i64 x.s.label.line,.int .i64 x.s.label.col,.string x.s.key.text,.int .i64 x.s.key.off,.int .i64 x.s.key.line,.int .i64 x.s.key.col,.bool x.s.proving,x.vw,x.vp,.string x.s.fin.text,.int .i64 x.s.fin.off,.int .i64 x.s.fin.line,.int .i64 x.s.fin.col] 95)) rfl _ _ _ rfl w.heap.size 95 ip _ 16 184 Tryz.underlying75 hip ipz ips ipb rfl (by omega) _ j (q3g (its.take j)) (by rfl) (by exact O2.out) ⟨w2.heap.size,0,none⟩ 1 1 (#[.int .i64 x.s.kind,.string x.s.label.text,.int .i64 x.s.label.off,.int .i64 x.s.label.line,.int .i64 x.s.label.col,.string x.s.key.text,.int .i64 x.s.key.off,.int .i64 x.s.key.line,.int .i64 x.s.key.col,.bool x.s.proving,x.vw,x.vp,.string x.s.fin.text,.int .i64 x.s.fin.off,.int .i64 x.s.fin.line,.int .i64 x.s.fin.col]:Array Value).toList (by rfl) (by rfl) (fun j' u hu=>World.news_of_block (cs:=#[.int .i64 x.s.kind,.string x.s.label.text,.int .i64 x.s.label.off,.int .i64 x.s.label.line,.int .i64 x.s.label.col,.string x.s.key.text,.int .i64 x.s.key.off,.int .i64 x.s.key.line,.int .i64 x.s.key.col,.bool x.s.proving,x.vw,x.vp,.string x.s.fin.text,.int .i64 x.s.fin.off,.int .i64 x.s.fin.line,.int .i64 x.s.fin.col]) (t:=95) (fr:=(0,0)) (heap_alloc_new w2 _) j' u hu) (fun u hu=>q9g x HIt.out u hu) (by omega) (by unfold maxLen;omega) (by omega) (by have:=HS2.out;simp;omega) _ rfl ?_;intro gg cap w3 ho hgr hat hlt;have O3:Hid (w3.ownsRow w.heap.size 95 16 (.slice (some ⟨gg,0,none⟩) (j + 1) cap) (j + 1) (q3g (its.take (j + 1)))):=(by show World.ownsRow _ _ _ _ _ _ _;rw[TK.out];exact ho);have B3:Hid (Below w.heap.size w w3):=(HBw.out.alloc HBw.out.size _).trans ((M.Ch.jm hgr).below (by have:=HS2.out;simp;omega) fun b e=>M.zf O2.out b e);clear ho hgr hat hlt))
     exact⟨⟨j + 1,_,by omega,by go_num,rfl,O3.out,B3.out⟩,by simp[intOf];omega⟩
    ·have ey:yc x=.iface 202 (.pointer (some ⟨x.g,0,none⟩)):=by unfold yc q3v;rw[if_neg hbn,if_neg h7]
     have TD:Hid _:=qji wr N x HIr.out hb h7
     rw[ey] at y1
     clear ey hb hbn h7
     go_wp2_with fail
     refine Calls.mono TD.out ?_
     rintro e w2 ⟨rfl,hb2⟩
     have HB2:Hid (Below wr.heap.size wr w2):=hb2
     have HBw:Hid (Below w.heap.size w w2):=hB.out.trans (hb2.mono hB.out.size)
     have O2:Hid ((w2.alloc (.cells #[.int .i64 x.s.kind,.string x.s.label.text,.int .i64 x.s.label.off,.int .i64 x.s.label.line,.int .i64 x.s.label.col,.string x.s.key.text,.int .i64 x.s.key.off,.int .i64 x.s.key.line,.int .i64 x.s.key.col,.bool x.s.proving,x.vw,x.vp,.string x.s.fin.text,.int .i64 x.s.fin.off,.int .i64 x.s.fin.line,.int .i64 x.s.fin.col] 95)).ownsRow w.heap.size 95 16 (.slice a3 j c3) j (q3g (its.take j))):=M.zk (M.qh hO.out (M.Ch.of_below (X:=fun _=>False) hb2) fun _ _ e=>e) _
     have HS2:Hid (w.heap.size≤w2.heap.size):=HBw.out.size
     simp only[q57,q4g]
     clear hb2
     go_wp2_with (at_builtin;(refine wpList_append_lies (w2.alloc (.cells #[.int .i64 x.s.kind,.string x.s.label.text,.int .i64 x.s.label.off,.int .i64 x.s.label.line,.int .i64 x.s.label.col,.string x.s.key.text,.int .i64 x.s.key.off,.int .i64 x.s.key.line,.int .i64 x.s.key.col,.bool x.s.proving,x.vw,x.vp,.string x.s.fin.text,.int .i64 x.s.fin.off,.int .i64 x.s.fin.line,.int .i64 x.s.fin.col] 95)) rfl _ _ _ rfl w.heap.size 95 ip _ 16 184 Tryz.underlying75 hip ipz ips ipb rfl (by omega) _ j (q3g (its.take j)) (by rfl) (by exact O2.out) ⟨w2.heap.size,0,none⟩ 1 1 (#[.int .i64 x.s.kind,.string x.s.label.text,.int .i64 x.s.label.off,.int .i64 x.s.label.line,.int .i64 x.s.label.col,.string x.s.key.text,.int .i64 x.s.key.off,.int .i64 x.s.key.line,.int .i64 x.s.key.col,.bool x.s.proving,x.vw,x.vp,.string x.s.fin.text,.int .i64 x.s.fin.off,.int .i64 x.s.fin.line,.int .i64 x.s.fin.col]:Array Value).toList (by rfl) (by rfl) (fun j' u hu=>World.news_of_block (cs:=#[.int .i64 x.s.kind,.string x.s.label.text,.int .i64 x.s.label.off,.int .i64 x.s.label.line,.int .i64 x.s.label.col,.string x.s.key.text,.int .i64 x.s.key.off,.int .i64 x.s.key.line,.int .i64 x.s.key.col,.bool x.s.proving,x.vw,x.vp,.string x.s.fin.text,.int .i64 x.s.fin.off,.int .i64 x.s.fin.line,.int .i64 x.s.fin.col]) (t:=95) (fr:=(0,0)) (heap_alloc_new w2 _) j' u hu) (fun u hu=>q9g x HIt.out u hu) (by omega) (by unfold maxLen;omega) (by omega) (by have:=HS2.out;simp;omega) _ rfl ?_;intro gg cap w3 ho hgr hat hlt;have O3:Hid (w3.ownsRow w.heap.size 95 16 (.slice (some ⟨gg,0,none⟩) (j + 1) cap) (j + 1) (q3g (its.take (j + 1)))):=(by show World.ownsRow _ _ _ _ _ _ _;rw[TK.out];exact ho);have B3:Hid (Below w.heap.size w w3):=(HBw.out.alloc HBw.out.size _).trans ((M.Ch.jm hgr).below (by have:=HS2.out;simp;omega) fun b e=>M.zf O2.out b e);clear ho hgr hat hlt))
     exact⟨⟨j + 1,_,by omega,by go_num,rfl,O3.out,B3.out⟩,by simp[intOf];omega⟩
  ·have n1:¬(j:Int) < (n:Int):=by omega
   obtain rfl:j=n:=by omega
   have O2:Hid (wr.ownsRow w.heap.size 95 16 (.slice a3 j c3) j (q3g its)):=by have h:=hO.out;rw[List.take_of_length_le (by rw[HL.out];exact Nat.le_refl _)] at h;exact h
   go_wp2
   go_ret
   exact⟨_,rfl,O2.out,hB.out⟩
end S
namespace S.K
def tbl:List Int:=[0,0,0,0,0,0,0,0,0,1,1,0,1,1,0,0,0,0,0,0,0,0,0,0,0,0,0,0,0,0,0,0,1,3,3,3,2,3,3,3,3,3,3,3,3,4,4,3,4,4,4,4,4,4,4,4,4,4,3,3,3,3,3,3,3,4,4,4,4,4,4,4,4,4,4,4,4,4,4,4,4,4,4,4,4,4,4,4,4,4,4,3,3,3,3,4,3,4,4,4,4,4,4,4,4,4,4,4,4,4,4,4,4,4,4,4,4,4,4,4,4,4,4,3,3,3,3,0]
def xq (c:Int):Int:=if c < 128 then tbl.getD c.toNat 0 else 0
theorem q7o:∀i:Nat,i < 128→0≤tbl.getD i 0∧tbl.getD i 0≤4:=by decide
theorem q8i (c:Int)(h0:0≤c):0≤xq c∧xq c≤4:=by
 unfold xq
 split
 ·exact q7o c.toNat (by omega)
 ·omega
theorem take_snoc (s:ByteArray)(k:Nat)(h:k < s.size):s.data.toList.take (k + 1)=s.data.toList.take k++[s[k]]:=by
 rw[List.take_succ_eq_append_getElem (by simpa using h)];rfl
theorem q6w {p:UInt8→Bool}{s:ByteArray}{k:Nat}(h:k < s.size)(ha:(s.data.toList.take k).all p=true)(hp:p s[k]=true):(s.data.toList.take (k + 1)).all p=true:=by
 rw[take_snoc s k h];simp[ha,hp]
theorem q6x {p:UInt8→Bool}{s:ByteArray}{k:Nat}(h:s.size≤k)(ha:(s.data.toList.take k).all p=true):s.data.toList.all p=true:=by
 rwa [List.take_of_length_le (by simpa using h)] at ha
theorem q6y {p:UInt8→Bool}{s:ByteArray}{k:Nat}(h:k < s.size)(hp:p s[k]=false):s.data.toList.all p=false:=by
 rw[List.all_eq_false]
 refine⟨s[k],?_,by simp[hp]⟩
 have:s.data.toList[k]'(by simpa using h)=s[k]:=rfl
 rw[←this];exact List.getElem_mem _
def gy (s:ByteArray)(k:Int):Bool:=decide (1≤s.size) && decide (s.size≤32) && s.data.toList.all (fun b=>decide (k≤xq b.toNat))
theorem q8j (s:ByteArray)(k:Int)(h:s.size < 1):gy s k=false:=by
 unfold gy;rw[decide_eq_false (show ¬1≤s.size by omega)];rfl
theorem q9h (s:ByteArray)(k:Int)(h:32 < s.size):gy s k=false:=by
 unfold gy;rw[decide_eq_false (show ¬s.size≤32 by omega)];simp
theorem qdq (s:ByteArray)(k:Int)(h1:1≤s.size)(h2:s.size≤32):gy s k=s.data.toList.all (fun b=>decide (k≤xq b.toNat)):=by
 unfold gy;simp[h1,h2]
end S.K
namespace S.K
open Go.RowKit
def KB (w:World):Prop:=∀i:Nat,i < 128→w.cell? ⟨1,i,none⟩=some (.int .u8 (tbl.getD i 0))
theorem q58 {k:IntKind}{a b:Int}(h:a=b):Ending.returned (.int k a)=.returned (.int k b):=by rw[h]
theorem q26 {a b:Bool}(h:a=b):Ending.returned (.bool a)=.returned (.bool b):=by rw[h]
theorem q28 (c:Int)(w:World)(h0:0≤c)(h1:c < 256)(hk:KB w) :
  Calls Tryz.prog 120 #[.int .u8 c] w fun e w'=>e=.returned (.int .u8 (xq c))∧w'=w:=by
 by_cases hc:c < 128
 ·have hcell:=hk c.toNat (by omega)
  have hkf:Hid (xq c=tbl.getD c.toNat 0):=by unfold xq;rw[if_pos hc];rfl
  clear hk
  go_enter Tryz.func120,Tryz.ntmps120
  go_wp2
  go_ret
  exact⟨q58 (by rw[hkf.out];simp),rfl⟩
 ·have hkf:Hid (xq c=0):=by unfold xq;rw[if_neg hc];rfl
  clear hk
  go_enter Tryz.func120,Tryz.ntmps120
  go_wp2
  go_ret
  exact⟨q58 (by rw[hkf.out]),rfl⟩
theorem q66 (b:UInt8):((b.toNat:Nat):Int) < 256:=by have:=b.toNat_lt;omega
end S.K
namespace S
open Go.Shelf
def Tryz.q2t:Go.Shelf.Ren:=⟨fun | 316=>151 | n=>n,fun | 9=>9 | 3=>3 | 4=>4 | 37=>133 | 0=>0 | 127=>210 | 5=>5 | n=>n,fun | n=>n⟩
theorem Tryz.laysM316:Go.Proofs.LaysM.n316 Tryz.prog Tryz.q2t:={
 mixed:=by kernel_rfl
 f316:=Tryz.func151.trans (congrArg some (by kernel_rfl))
 t0:=Tryz.underlying0
 a0:=Tryz.isAgg0
 z0:=Tryz.sizeOf0
 v0:=Tryz.zeroValue0
 t3:=Tryz.underlying3
 a3:=Tryz.isAgg3
 z3:=Tryz.sizeOf3
 v3:=Tryz.zeroValue3
 t4:=Tryz.underlying4
 a4:=Tryz.isAgg4
 z4:=Tryz.sizeOf4
 v4:=Tryz.zeroValue4
 t9:=Tryz.underlying9
 a9:=Tryz.isAgg9
 z9:=Tryz.sizeOf9
 v9:=Tryz.zeroValue9
 t37:=Tryz.underlying133
 a37:=Tryz.isAgg133
 z37:=Tryz.sizeOf133
 v37:=Tryz.zeroValue133
 t127:=Tryz.underlying210
 a127:=Tryz.isAgg210
 z127:=Tryz.sizeOf210
 v127:=Tryz.zeroValue210
 t5:=Tryz.underlying5
 a5:=Tryz.isAgg5
 z5:=Tryz.sizeOf5
 v5:=Tryz.zeroValue5
 i0:=by kernel_rfl
 i3:=by kernel_rfl
 i4:=by kernel_rfl
 i5:=by kernel_rfl
 i9:=by kernel_rfl
 i37:=by kernel_rfl
 i127:=by kernel_rfl }
open Go.RowKit in
theorem Tryz.stringslite_Clone (s:ByteArray)(w:World)(hlim:s.size≤281474976710656) :
  Calls Tryz.prog 151 #[.string s] w fun e w'=>e=.returned (.string s)∧Below w.heap.size w w':=Any.stringslite_Clone Tryz.laysM316 s w hlim
def Tryz.qdr:Go.Shelf.Ren:=⟨fun | 144=>179 | 143=>177 | 219=>236 | 217=>262 | 225=>263 | 224=>264 | 267=>265 | 266=>274 | 314=>275 | n=>n,fun | 9=>9 | 4=>4 | 3=>3 | 5=>5 | 46=>116 | 146=>300 | 51=>299 | n=>n,fun | 1=>2 | n=>n⟩
theorem Tryz.lays144:Go.Proofs.Lays.n144 Tryz.prog Tryz.qdr:={
 mixed:=by kernel_rfl
 f143:=Tryz.func177.trans (congrArg some (by kernel_rfl))
 f144:=Tryz.func179.trans (congrArg some (by kernel_rfl))
 f217:=Tryz.func262.trans (congrArg some (by kernel_rfl))
 f219:=Tryz.func236.trans (congrArg some (by kernel_rfl))
 f224:=Tryz.func264.trans (congrArg some (by kernel_rfl))
 f225:=Tryz.func263.trans (congrArg some (by kernel_rfl))
 f266:=Tryz.func274.trans (congrArg some (by kernel_rfl))
 f267:=Tryz.func265.trans (congrArg some (by kernel_rfl))
 f314:=Tryz.func275.trans (congrArg some (by kernel_rfl))
 t3:=Tryz.underlying3
 a3:=Tryz.isAgg3
 z3:=Tryz.sizeOf3
 v3:=Tryz.zeroValue3
 t4:=Tryz.underlying4
 a4:=Tryz.isAgg4
 z4:=Tryz.sizeOf4
 v4:=Tryz.zeroValue4
 t5:=Tryz.underlying5
 a5:=Tryz.isAgg5
 z5:=Tryz.sizeOf5
 v5:=Tryz.zeroValue5
 t9:=Tryz.underlying9
 a9:=Tryz.isAgg9
 z9:=Tryz.sizeOf9
 v9:=Tryz.zeroValue9
 t46:=Tryz.underlying116
 a46:=Tryz.isAgg116
 z46:=Tryz.sizeOf116
 v46:=Tryz.zeroValue116
 t51:=Tryz.underlying299
 a51:=Tryz.isAgg299
 z51:=Tryz.sizeOf299
 v51:=Tryz.zeroValue299
 t146:=Tryz.underlying300
 a146:=Tryz.isAgg300
 z146:=Tryz.sizeOf300
 v146:=Tryz.zeroValue300
 g1:=by kernel_rfl }
open Go.RowKit Go.Lib in
theorem Tryz.strings_Contains (s sub:ByteArray)(m:Int)(w:World)(hs:s.size < 4294967281)(hm:w.cell? ⟨2,0,none⟩=some (.int .i64 m)) :
  Calls Tryz.prog 179 #[.string s,.string sub] w fun e w'=>e=.returned (.bool (Lib.contains s.data.toList sub.data.toList))∧w'=w:=Any.strings_Contains Tryz.lays144 s sub m w hs hm
def Tryz.qds:Go.Shelf.Ren:=⟨fun | 138=>115 | 195=>175 | 218=>176 | 143=>177 | 219=>236 | 217=>262 | 225=>263 | 224=>264 | 267=>265 | 266=>274 | 314=>275 | n=>n,fun | 9=>9 | 3=>3 | 4=>4 | 5=>5 | 0=>0 | 46=>116 | 146=>300 | 51=>299 | n=>n,fun | 1=>2 | n=>n⟩
theorem Tryz.lays138:Go.Proofs.Lays.n138 Tryz.prog Tryz.qds:={
 mixed:=by kernel_rfl
 f138:=Tryz.func115.trans (congrArg some (by kernel_rfl))
 f143:=Tryz.func177.trans (congrArg some (by kernel_rfl))
 f195:=Tryz.func175.trans (congrArg some (by kernel_rfl))
 f217:=Tryz.func262.trans (congrArg some (by kernel_rfl))
 f218:=Tryz.func176.trans (congrArg some (by kernel_rfl))
 f219:=Tryz.func236.trans (congrArg some (by kernel_rfl))
 f224:=Tryz.func264.trans (congrArg some (by kernel_rfl))
 f225:=Tryz.func263.trans (congrArg some (by kernel_rfl))
 f266:=Tryz.func274.trans (congrArg some (by kernel_rfl))
 f267:=Tryz.func265.trans (congrArg some (by kernel_rfl))
 f314:=Tryz.func275.trans (congrArg some (by kernel_rfl))
 t0:=Tryz.underlying0
 a0:=Tryz.isAgg0
 z0:=Tryz.sizeOf0
 v0:=Tryz.zeroValue0
 t3:=Tryz.underlying3
 a3:=Tryz.isAgg3
 z3:=Tryz.sizeOf3
 v3:=Tryz.zeroValue3
 t4:=Tryz.underlying4
 a4:=Tryz.isAgg4
 z4:=Tryz.sizeOf4
 v4:=Tryz.zeroValue4
 t5:=Tryz.underlying5
 a5:=Tryz.isAgg5
 z5:=Tryz.sizeOf5
 v5:=Tryz.zeroValue5
 t9:=Tryz.underlying9
 a9:=Tryz.isAgg9
 z9:=Tryz.sizeOf9
 v9:=Tryz.zeroValue9
 t46:=Tryz.underlying116
 a46:=Tryz.isAgg116
 z46:=Tryz.sizeOf116
 v46:=Tryz.zeroValue116
 t51:=Tryz.underlying299
 a51:=Tryz.isAgg299
 z51:=Tryz.sizeOf299
 v51:=Tryz.zeroValue299
 t146:=Tryz.underlying300
 a146:=Tryz.isAgg300
 z146:=Tryz.sizeOf300
 v146:=Tryz.zeroValue300
 g1:=by kernel_rfl }
open Go.RowKit Go.Lib in
theorem Tryz.strings_Count_one (s:ByteArray)(c:UInt8)(w:World) :
  Calls Tryz.prog 115 #[.string s,.string ⟨#[c]⟩] w fun e w'=>e=.returned (.int .i64 (Lib.countByte s.data.toList c))∧w'=w:=Any.strings_Count_one Tryz.lays138 s c w
def Tryz.qdt:Go.Shelf.Ren:=⟨fun | 149=>116 | 222=>178 | n=>n,fun | 9=>9 | 5=>5 | 3=>3 | 4=>4 | n=>n,fun | n=>n⟩
theorem Tryz.lays149:Go.Proofs.Lays.n149 Tryz.prog Tryz.qdt:={
 mixed:=by kernel_rfl
 f149:=Tryz.func116.trans (congrArg some (by kernel_rfl))
 f222:=Tryz.func178.trans (congrArg some (by kernel_rfl))
 t3:=Tryz.underlying3
 a3:=Tryz.isAgg3
 z3:=Tryz.sizeOf3
 v3:=Tryz.zeroValue3
 t4:=Tryz.underlying4
 a4:=Tryz.isAgg4
 z4:=Tryz.sizeOf4
 v4:=Tryz.zeroValue4
 t5:=Tryz.underlying5
 a5:=Tryz.isAgg5
 z5:=Tryz.sizeOf5
 v5:=Tryz.zeroValue5
 t9:=Tryz.underlying9
 a9:=Tryz.isAgg9
 z9:=Tryz.sizeOf9
 v9:=Tryz.zeroValue9 }
open Go.RowKit Go.Lib in
theorem Tryz.strings_LastIndexByte (s:ByteArray)(c:Int)(hs:s.size < 4611686018427387904)(w:World) :
  Calls Tryz.prog 116 #[.string s,.int .u8 c] w fun e w'=>e=.returned (.int .i64 (Lib.lastIndexByte s c))∧w'=w:=Any.strings_LastIndexByte Tryz.lays149 s c hs w
end S
end Go.Proofs.YtbancemhfjjmlaaGreatDoor
