/- Laid together: YSymActs, YSymDecl, YSymLabels, YSymRefused, YSymTake, YSymClose, YSymCalls, YSymOk. -/
import Derived.Test.YtbancemhfjjmlaaGreatDoorQA07
import Derived.RegionTactic
set_option maxRecDepth 100000
set_option maxHeartbeats 32000000
namespace Go.Proofs.YtbancemhfjjmlaaGreatDoor
namespace Y
open Go.RowKit
def q7z (T:Tab)(n:Nat):Tab:={ T with act:=n :: T.act,scopes:=T.scopes.set (T.scopes.length - 1) (T.scopes.getD (T.scopes.length - 1) []++[n]) }
theorem q4v {l:List (ByteArray × Bool)}{s:ByteArray}{m:Nat}(h:numOf l s=some m):∃b,l[m]?=some (s,b):=by
 unfold numOf at h
 obtain⟨hlt,hp,_⟩:=List.findIdx?_eq_some_iff_getElem.1 h
 have e:l[m].1=s:=by simpa using hp
 exact⟨l[m].2,by rw[List.getElem?_eq_getElem hlt,←e]⟩
theorem q75 {l:List (ByteArray × Bool)}{n:Nat}{p:ByteArray × Bool}(hnd:(l.map (·.1)).Nodup)(h:l[n]?=some p):numOf l p.1=some n:=by
 unfold numOf
 obtain⟨hlt,rfl⟩:=List.getElem?_eq_some_iff.1 h
 refine List.findIdx?_eq_some_iff_getElem.2 ⟨hlt,by simp,fun j hj=>?_⟩
 have:=List.pairwise_iff_getElem.1 hnd j n (by simp;omega) (by simpa using hlt) hj
 simpa using this
theorem qbn (T:Tab)(n:Nat)(p:ByteArray × Bool)(hnd:(T.syms.map (·.1)).Nodup)(h:T.syms[n]?=some p):(fun t=>if t=p.1 then some n else uj T t)=uj (q7z T n):=by
 funext t
 unfold uj q7z
 dsimp only
 by_cases e:t=p.1
 ·rw[if_pos e,e,q75 hnd h]
  simp[Option.filter]
 ·rw[if_neg e]
  cases hm:numOf T.syms t with
  | none=>rfl
  | some m =>
   obtain⟨b,hb⟩:=q4v hm
   have hmn:m≠n:=by
    rintro rfl
    rw[h] at hb
    exact e (by rw[Option.some.inj hb])
   simp[Option.filter,hmn]
theorem qgh {W:World}{base e size g n cap:Nat}{xs:List Value}(h:W.ownsRow base e size (.slice (some ⟨g,0,none⟩) n cap) n xs)(i:Nat):W.frozen? ⟨g,i,none⟩=false:=by
 rcases h.2 with ⟨e',_⟩ | ⟨g',cap',cur,hv,hg,hh,_⟩
 ·cases e'
 ·simp only[Value.slice.injEq,Option.some.injEq,Addr.mk.injEq] at hv
  obtain⟨⟨rfl,_⟩,_,rfl⟩:=hv
  simp[World.frozen?,hh]
theorem own_set {W:World}{base e g n cap q:Nat}{xs:List Value}{V:Value}(h:W.ownsRow base e 1 (.slice (some ⟨g,0,none⟩) n cap) n xs)(_hq:q < n):(W.setCell ⟨g,q,none⟩ V).ownsRow base e 1 (.slice (some ⟨g,0,none⟩) n cap) n (xs.set q V):=by
 refine⟨by rw[List.length_set];exact h.1,.inr ?_⟩
 rcases h.2 with ⟨e',_⟩ | ⟨g',cap',cur,hv,hg,hh,h1,h2,h3,h4⟩
 ·cases e'
 ·simp only[Value.slice.injEq,Option.some.injEq,Addr.mk.injEq] at hv
  obtain⟨⟨rfl,_⟩,_,rfl⟩:=hv
  refine⟨g,cap,cur.setIfInBounds q V,rfl,hg,qj hh,h1,h2,by rw[Array.size_setIfInBounds];exact h3,?_⟩
  rw[Array.toList_setIfInBounds,List.take_set,h4]
theorem qcs (w:World)(bs:List Nat)(B k:Nat)(T:Tab)(n:Nat)(p:ByteArray × Bool)(hnd:(T.syms.map (·.1)).Nodup)(hp:T.syms[n]?=some p)(hsz:p.1.size≤maxLen)(hS:T.syms.length≤512)(hk:k < 17592186044416)(h:TabAt w bs B k T)(h0:T.scopes=[]) :
  Calls Tryz.prog 159 #[.pointer (some ⟨B,0,none⟩),.int .i64 n] w fun e w'=>e=.returned (.tuple #[])∧∃bs',TabAt w' bs' B (k + 1) (q7z T n)∧Goes bs w bs' w':=by
 obtain⟨vs,vc,vl,mk,ma,mt,vars,h,rfl⟩:=h
 obtain⟨j,hj,hm⟩:=h.active
 have hrow:=h.syms
 have hlt:n < T.syms.length:=(List.getElem?_eq_some_iff.1 hp).1
 obtain⟨g,cap,rfl⟩:=q48 hrow (by omega)
 obtain⟨y0,_⟩:=q96 _ _ _ hp
 have q0:=zx hrow _ _ y0
 have hmd:jd w.drew ma j (uj T):=hm.kept rfl
 obtain⟨W1,hmu,hm1,hg1⟩:=hmd.put (by unfold maxLen;omega) p.1 hsz n (by omega)
 obtain⟨c0,_,c2,c3,_⟩:=q0o h.block
 have hBlt:=h.lies.blt
 have hmaB:=h.lies.ne.2.1
 have hB1:W1.heap[B]?=w.heap[B]?:=hg1.block B hBlt (by simp;exact hmaB)
 obtain⟨av,capv,hvc⟩:=jf h.scopes
 have d3:W1.cell? ⟨B,3,none⟩=some (.slice av 0 capv):=by
  rw[World.cell?_of_block (w:=w) (a:=⟨B,3,none⟩) hB1,c3,hvc,h0];rfl
 have n1:(n:Int) < (T.syms.length:Int):=by omega
 generalize hL:T.syms.length=len at *
 have H:Hid (TabIs w B k T (.slice (some ⟨g,0,none⟩) len cap) vc vl mk ma mt vars):=h
 have Hm1:Hid _:=hm1
 have Hg1:Hid _:=hg1
 have HL:Hid (T.syms.length=len):=hL
 have H0:Hid (T.scopes=[]):=h0
 obtain⟨nm,vr⟩:=p
 have Hp:Hid (T.syms[n]?=some (nm,vr)):=hp
 clear h hm hrow y0 hmd hm1 hg1 hB1 c3 hL h0 hp hvc
 go_enter Tryz.func159,Tryz.ntmps159
 go_wp2_with fail
 go_region
 all_goals go_wp2
 all_goals go_end0
 refine⟨rfl,_,⟨_,_,_,_,_,_,_,(H.out.lies.putA (k':=k + 1) Hm1.out (by omega) (by omega) (fun i hi hne=>Hg1.out.block i hi (by simpa using hne))).tab (q7z T n) rfl rfl (qbn T n (nm,vr) hnd Hp.out) rfl ?_ rfl,rfl⟩,⟨fun b hb=>.inl hb,⟨Hg1.out.os,Hg1.out.tape,Hg1.out.output,Hg1.out.size,fun i hi hni=>Hg1.out.block i hi (fun e=>hni ?_)⟩⟩⟩
 ·show T.scopes=T.scopes.set _ _
  rw[H0.out];rfl
 ·rw[Option.some.inj e];simp[wo]
theorem qe3 (w:World)(bs:List Nat)(B k:Nat)(T:Tab)(n:Nat)(p:ByteArray × Bool)(hnd:(T.syms.map (·.1)).Nodup)(hp:T.syms[n]?=some p)(hsz:p.1.size≤maxLen)(hS:T.syms.length≤512)(hk:k < 17592186044415)(hC:T.scopes.length≤16)(hI:∀l ∈ T.scopes,l.length≤k)(h:TabAt w bs B k T)(h0:0 < T.scopes.length) :
  Calls Tryz.prog 159 #[.pointer (some ⟨B,0,none⟩),.int .i64 n] w fun e w'=>e=.returned (.tuple #[])∧∃bs',TabAt w' bs' B (k + 1) (q7z T n)∧Goes bs w bs' w':=by
 obtain⟨vs,vc,vl,mk,ma,mt,vars,h,rfl⟩:=h
 obtain⟨j,hj,hm⟩:=h.active
 have hrow:=h.syms
 have hlt:n < T.syms.length:=(List.getElem?_eq_some_iff.1 hp).1
 obtain⟨g,cap,rfl⟩:=q48 hrow (by omega)
 obtain⟨y0,_⟩:=q96 _ _ _ hp
 have q0:=zx hrow _ _ y0
 have hmd:jd w.drew ma j (uj T):=hm.kept rfl
 obtain⟨W1,hmu,hm1,hg1⟩:=hmd.put (by unfold maxLen;omega) p.1 hsz n (by omega)
 obtain⟨c0,_,c2,c3,_⟩:=q0o h.block
 have hBlt:=h.lies.blt
 have hmaB:=h.lies.ne.2.1
 have hB1:W1.heap[B]?=w.heap[B]?:=hg1.block B hBlt (by simp;exact hmaB)
 have L1:=h.lies.putA (k':=k + 1) hm1 (by omega) (by omega) (fun i hi hne=>hg1.block i hi (by simpa using hne))
 obtain⟨q,hq⟩:∃q,T.scopes.length=q + 1:=⟨T.scopes.length - 1,by omega⟩
 obtain⟨gc,capc,rfl⟩:=q48 h.scopes (by omega)
 have hsc1:=L1.scopes
 have hvl:vars.length=q + 1:=by have:=hsc1.1;omega
 obtain⟨v,hv⟩:∃v,vars[q]?=some v:=⟨vars[q]'(by omega),List.getElem?_eq_getElem _⟩
 obtain⟨l,hl,hin1⟩:=L1.inner q v hv
 have hll:l.length≤k:=hI l (List.mem_of_getElem? hl)
 have d3:W1.cell? ⟨B,3,none⟩=some (.slice (some ⟨gc,0,none⟩) (q + 1:Nat) capc):=by
  rw[World.cell?_of_block (w:=w) (a:=⟨B,3,none⟩) hB1,c3,hq]
 rw[hq] at hsc1
 have dq:W1.cell? ⟨gc,q,none⟩=some v:=zx hsc1 q v hv
 have gclt:gc < W1.heap.size:=jo hsc1 gc rfl
 obtain⟨i0,hi0,hz0,hz1,hz3⟩:=info_parts (show (Tryz.prog.info? 3).map (fun i=>(i.zero,i.size,i.bytes))=some (some (.int .i64 0),1,8) by kernel_rfl)
 have n1:(n:Int) < (T.syms.length:Int):=by omega
 generalize hL:T.syms.length=len at *
 have hgcv:v.ownBlock≠some gc:=fun e=>q74 L1.pair (i:=1) (j:=3 + q) rfl (by rw[List.getElem?_append_right (by simp)];simpa using hv) (by omega) gc rfl e
 have hq16:q < 16:=by omega
 generalize hlen:l.length=ll at *
 have LL:Hid (Lies W1 B (k + 1) T.syms (numOf T.syms) _ (q2a T.labels) T.scopes T.labels (.slice (some ⟨g,0,none⟩) len cap) (.slice (some ⟨gc,0,none⟩) T.scopes.length capc) vl mk ma mt vars):=L1
 have Hg1:Hid _:=hg1
 have HL:Hid (T.syms.length=len):=hL
 have Hq:Hid (T.scopes.length=q + 1):=hq
 have Hlen:Hid (l.length=ll):=hlen
 have Hin:Hid (W1.ownsRow 0 3 1 v ll (l.map (fun n:Nat=>Value.int .i64 n))):=hin1
 have Hsc:Hid (W1.ownsRow 0 228 1 (.slice (some ⟨gc,0,none⟩) (q + 1) capc) (q + 1) vars):=hsc1
 have Hgcv:Hid (v.ownBlock≠some gc):=hgcv
 have Hv:Hid (vars[q]?=some v):=hv
 have Hl:Hid (T.scopes[q]?=some l):=hl
 obtain⟨av,capv,hva⟩:=jf hin1
 obtain⟨nm,vr⟩:=p
 have Hp:Hid (T.syms[n]?=some (nm,vr)):=hp
 have Hva:Hid (v=.slice av ll capv):=hva
 rw[hva] at dq
 have ne1:∀i:Nat,i=q→i < q + 1:=fun i h=>by omega
 clear h hm hrow y0 hmd hm1 hg1 hB1 c3 hL hp hva L1 hsc1 hin1 hgcv hv hl hlen hq hI h0 hC ne1
 go_enter Tryz.func159,Tryz.ntmps159
 go_wp2_with fail
 go_region
 go_wp2_with fail
 go_quiet (fail)
 go_wp2_with (at_builtin;refine wpList_append_lies _ rfl _ _ _ rfl 0 3 i0 _ 1 8 Tryz.underlying38 hi0 hz0 hz1 hz3 rfl (by omega) _ ll (l.map (fun n:Nat=>Value.int .i64 n)) (by rfl) (by rw[←Hva.out];exact (Hin.out.alloc _)) ⟨W1.heap.size,0,none⟩ 1 1 [.int .i64 n] (by rfl) (by rfl) (by exact World.news_of_block (cs:=#[.int .i64 n]) (t:=3) (fr:=(0,0)) (heap_alloc_new W1 _)) (by simp[Value.oneCell']) (by omega) (by unfold maxLen;omega) (by omega) (by simp) (W1.heap.size + 1) (by simp) ?_;rw[←Hva.out];intro g2 cap2 w2 hown2 hgrow hat hlt2;have hgc2:w2.heap[gc]?=W1.heap[gc]?:=(hgrow.block gc (by simp;omega) (fun e=>Hgcv.out e.symm)).trans (Below.heap_alloc W1 _ gc gclt);have z3:w2.frozen? ⟨gc,q,none⟩=false:=(World.frozen?_of_block (w:=W1) (a:=⟨gc,q,none⟩) hgc2).trans (qgh Hsc.out q);have e3:w2.cell? ⟨gc,q,none⟩=some (.slice av ll capv):=(World.cell?_of_block (w:=W1) (a:=⟨gc,q,none⟩) hgc2).trans dq)
 go_end0
 replace hat:v.ownBlock=some g2∨g2=W1.heap.size + 1:=hat
 replace hgrow:((W1.alloc (.cells #[.int .i64 n] 3)).drewN nq).grownBy w2 v.ownBlock:=hgrow
 obtain⟨V,hV⟩:∃V,V=Value.slice (some ⟨g2,0,none⟩) (ll + 1) cap2:=⟨_,rfl⟩
 have hVo:V.ownBlock=some g2:=by rw[hV];rfl
 rw[←hV] at hown2 ⊢
 have hgg:gc≠g2:=by
  rcases hat with e | e
  ·intro e';exact Hgcv.out (e'.symm ▸ e)
  ·omega
 have hsz1:W1.heap.size + 1≤w2.heap.size:=by have:=hgrow.size;simpa using this
 have keep:∀i,i < W1.heap.size→i≠gc→v.ownBlock≠some i→(w2.setCell ⟨gc,q,none⟩ V).heap[i]?=W1.heap[i]?:=fun i hi hB hc =>
  (Below.heap_setCell _ _ _ i hB).trans ((hgrow.block i (by simp;omega) (fun e=>hc e.symm)).trans (Below.heap_alloc W1 _ i hi))
 have LV:=LL.out.rowV (W':=w2.setCell ⟨gc,q,none⟩ V) (V:=V) (g:=g2) (l':=l++[n]) Hv.out hVo (hat.imp id fun e=>by omega)
  (by
    rw[List.length_append,Hlen.out,List.map_append]
    exact zo hown2 fun g' e=>Below.heap_setCell _ _ _ g' (by rw[hVo] at e;cases e;exact Ne.symm hgg))
  (by
    rw[Hq.out]
    exact own_set (zo Hsc.out fun g' e=>by cases e;exact hgc2) (by omega))
  (fun i hi h1 h2=>keep i hi (fun e=>h1 (by rw[e];rfl)) h2)
 refine⟨rfl,_,⟨_,_,_,_,_,_,_,LV.tab (q7z T n) rfl rfl (qbn T n (nm,vr) hnd Hp.out) rfl ?_ rfl,rfl⟩,⟨fun b hb=>?_,⟨?_,?_,?_,?_,fun i hi hni=>?_⟩⟩⟩
 ·show T.scopes.set q (l++[n])=T.scopes.set (T.scopes.length - 1) _
  rw[Hq.out,Nat.add_sub_cancel,List.getD,Hl.out];rfl
 ·unfold wo at hb ⊢
  have e0:[Value.slice (some ⟨g,0,none⟩) len cap,Value.slice (some ⟨gc,0,none⟩) T.scopes.length capc,vl]++vars.set q V=([Value.slice (some ⟨g,0,none⟩) len cap,Value.slice (some ⟨gc,0,none⟩) T.scopes.length capc,vl]++vars).set (3 + q) V:=by
   rw[List.set_append_right _ _ (by simp)];simp
  rw[e0] at hb
  rcases qcr hVo hb with h | h
  ·exact .inl h
  ·rcases hat with e | e
   ·exact .inl (q2l (by have:=List.mem_of_getElem? Hv.out;simp[this]) (h ▸ e))
   ·have:=Hg1.out.size
    exact .inr (by rw[h,e];show w.drew.heap.size≤_;omega)
 ·exact hgrow.os.trans Hg1.out.os
 ·exact hgrow.tape.trans Hg1.out.tape
 ·exact hgrow.output.trans Hg1.out.output
 ·have:=Hg1.out.size
  show w.drew.heap.size≤(w2.setCell _ _).heap.size
  simp only[World.setCell,Array.size_modify]
  omega
 ·have h1:i < W1.heap.size:=Nat.lt_of_lt_of_le hi Hg1.out.size
  refine (keep i h1 (fun e=>hni ?_) (fun e=>hni ?_)).trans (Hg1.out.block i hi (fun e=>hni ?_))
  ·exact q2l (v:=Value.slice (some ⟨gc,0,none⟩) T.scopes.length capc) (by simp) (by rw[e];rfl)
  ·exact q2l (v:=v) (by have:=List.mem_of_getElem? Hv.out;simp[this]) e
  ·rw[Option.some.inj e];simp[wo]
end Y
namespace Y
open Go.RowKit
theorem q76 (w:World)(bs:List Nat)(B k:Nat)(T:Tab)(n:Nat)(p:ByteArray × Bool)(hnd:(T.syms.map (·.1)).Nodup)(hp:T.syms[n]?=some p)(hsz:p.1.size≤maxLen)(hS:T.syms.length≤512)(hk:k < 17592186044415)(hC:T.scopes.length≤16)(hI:∀l ∈ T.scopes,l.length≤k)(h:TabAt w bs B k T) :
  Calls Tryz.prog 159 #[.pointer (some ⟨B,0,none⟩),.int .i64 n] w fun e w'=>e=.returned (.tuple #[])∧∃bs',TabAt w' bs' B (k + 1) (q7z T n)∧Goes bs w bs' w':=by
 by_cases h0:T.scopes=[]
 ·exact qcs w bs B k T n p hnd hp hsz hS (by omega) h h0
 ·exact qe3 w bs B k T n p hnd hp hsz hS hk hC hI h (List.length_pos_iff.2 h0)
theorem clone_any (s:ByteArray)(w:World)(hs:s.size≤281474976710656):Calls Tryz.prog 100 #[.string s] w fun e w'=>e=.returned (.string s)∧Below w.heap.size w w':=by
 have A:Hid _:=Tryz.stringslite_Clone s w hs
 go_enter Tryz.func100,Tryz.ntmps100
 go_wp2_with fail
 refine Calls.mono A.out ?_
 rintro e w' ⟨rfl,hb⟩
 go_wp2
 go_ret
 exact⟨rfl,hb⟩
def q8z (T:Tab)(s:ByteArray)(v:Bool):Tab:={ T with syms:=T.syms++[(s,v)] }
theorem q80 (l:List (ByteArray × Bool))(s:ByteArray)(v:Bool)(h:numOf l s=none):(fun t=>if t=s then some l.length else numOf l t)=numOf (l++[(s,v)]):=by
 funext t
 unfold numOf at h ⊢
 rw[List.findIdx?_append]
 by_cases e:t=s
 ·subst e
  rw[if_pos rfl,h]
  simp
 ·rw[if_neg e]
  cases hm:l.findIdx? (fun p=>p.1=t) with
  | some m=>rfl
  | none =>
   have:¬s=t:=fun h=>e h.symm
   simp[this]
theorem qk2 (T:Tab)(s:ByteArray)(v:Bool)(h:numOf T.syms s=none)(hlt:∀n ∈ T.act,n < T.syms.length):uj T=uj (q8z T s v):=by
 funext t
 unfold uj q8z
 dsimp only
 rw[←q80 T.syms s v h]
 dsimp only
 by_cases e:t=s
 ·subst e
  rw[if_pos rfl,h]
  have:T.syms.length ∉ T.act:=fun hm=>by have:=hlt _ hm;omega
  simp[Option.filter,this]
 ·rw[if_neg e]
theorem q90 (l:List (ByteArray × Bool))(s:ByteArray)(v:Bool):q0v (l++[(s,v)])=q0v l++[.string s,.bool v]:=by simp[q0v]
theorem info61:(Tryz.prog.info? 183).map (fun i=>(i.zero,i.size,i.bytes))=some (some (.agg #[.string ⟨#[]⟩,.bool false]),2,24):=by kernel_rfl
theorem qct (w:World)(bs:List Nat)(B k:Nat)(T:Tab)(s:ByteArray)(v:Bool)(hS:512≤T.syms.length)(h:TabAt w bs B k T) :
  Calls Tryz.prog 160 #[.pointer (some ⟨B,0,none⟩),.string s,.bool v] w fun e w'=>e=.returned (.tuple #[.int .i64 0,.int .i64 22])∧w'=w:=by
 obtain⟨vs,vc,vl,mk,ma,mt,vars,h,_⟩:=h
 obtain⟨a,cap,rfl⟩:=jf h.syms
 obtain⟨c0,_⟩:=q0o h.block
 have hS':(512:Int)≤(T.syms.length:Int):=by omega
 clear h
 go_enter Tryz.func160,Tryz.ntmps160
 go_wp2
 exact bodyPost_ret (v:=.tuple #[.int .i64 0,.int .i64 22]) (by simp[results,Tryz.results160,go_sem]) rfl ⟨rfl,rfl⟩
theorem qe4 (w:World)(bs:List Nat)(B k:Nat)(T:Tab)(s:ByteArray)(v:Bool)(hs:s.size≤281474976710656)(hnd:(T.syms.map (·.1)).Nodup)(hno:numOf T.syms s=none)(hlt:∀n ∈ T.act,n < T.syms.length)(hS:T.syms.length < 512)(hk:k < 17592186044414)(hC:T.scopes.length≤16)(hI:∀l ∈ T.scopes,l.length≤k)(h:TabAt w bs B k T) :
  Calls Tryz.prog 160 #[.pointer (some ⟨B,0,none⟩),.string s,.bool v] w fun e w'=>e=.returned (.tuple #[.int .i64 T.syms.length,.int .i64 0])∧∃bs',TabAt w' bs' B (k + 2) (q7z (q8z T s v) T.syms.length)∧Goes bs w bs' w':=by
 obtain⟨vs,vc,vl,mk,ma,mt,vars,h,rfl⟩:=h
 obtain⟨a,cap,hva⟩:=jf h.syms
 obtain⟨c0,_⟩:=q0o h.block
 rw[hva] at c0
 have hBw:=h.lies.blt
 generalize hn:T.syms.length=n at *
 have CL:Hid _:=clone_any s w hs
 have H:Hid (TabIs w B k T vs vc vl mk ma mt vars):=h
 have Hn:Hid (T.syms.length=n):=hn
 have Hva:Hid (vs=.slice a n cap):=hva
 have hvB:vs.ownBlock≠some B:=h.lies.far B (by simp) vs (by simp)
 have HvB:Hid _:=hvB
 obtain⟨i0,hi0,hz0,hz1,hz3⟩:=info_parts info61
 have Hrow:Hid (w.ownsRow 0 183 2 vs n (q0v T.syms)):=by have:=h.syms;rw[hn] at this;exact this
 have hn512:(n:Int) < 512:=by omega
 have Hlt:Hid _:=hlt
 have Hno:Hid _:=hno
 have HI:Hid _:=hI
 clear h hn hva hvB hlt hno hI
 go_enter Tryz.func160,Tryz.ntmps160
 go_wp2_with fail
 refine Calls.mono CL.out ?_
 rintro e w1 ⟨rfl,hb⟩
 obtain⟨hc,hf⟩:=(show (∀b o,b < w.heap.size→w1.cell? ⟨b,o,none⟩=w.cell? ⟨b,o,none⟩)∧(∀b o,b < w.heap.size→w1.frozen? ⟨b,o,none⟩=w.frozen? ⟨b,o,none⟩) from ⟨fun b o h=>hb.cell (p:=⟨b,o,none⟩) h,fun b o h=>hb.frozen (p:=⟨b,o,none⟩) h⟩)
 have L1:Hid (Lies w1 B k T.syms (numOf T.syms) (uj T) (q2a T.labels) T.scopes T.labels vs vc vl mk ma mt vars):=H.out.lies.kept fun b hb'=>hb.block b (H.out.lies.mem b hb')
 have d0:w1.cell? ⟨B,0,none⟩=some (.slice a n cap):=by rw[hc B 0 hBw,c0]
 have Hb:Hid _:=hb
 clear hc hf CL hb
 have hBw1:B < w1.heap.size:=L1.out.blt
 have Hrow1:Hid (w1.ownsRow 0 183 2 (.slice a n cap) n (q0v T.syms)):=by have:=L1.out.syms;rw[Hn.out,Hva.out] at this;exact this
 have HvB1:Hid ((Value.slice a n cap).ownBlock≠some B):=by rw[←Hva.out];exact HvB.out
 have step:Hid (∀(g2 cap2:Nat) (w2:World),w2.ownsRow 0 183 2 (.slice (some ⟨g2,0,none⟩) (n + 1) cap2) (n + 1) (q0v T.syms++[.string s,.bool v])→(w1.alloc (.cells #[.string s,.bool v] 183)).grownBy w2 (Value.slice a n cap).ownBlock→((Value.slice a n cap).ownBlock=some g2∨g2=w1.heap.size + 1) →
   w2.cell? ⟨B,0,none⟩=some (.slice a n cap)∧w2.cell? ⟨B,1,none⟩=some (.map (some mk))∧w2.frozen? ⟨B,0,none⟩=false∧∃W4,(Instr.mapUpdate 118 (.map (some mk)) (.string s) (.int .i64 n)).run Tryz.prog (w2.setCell ⟨B,0,none⟩ (.slice (some ⟨g2,0,none⟩) (n + 1) cap2))=.ok () W4 ∧
    ∃bs',TabAt W4 bs' B (k + 1) (q8z T s v)∧Goes (wo B mk ma mt vs vc vl vars) w1 bs' W4):=by
  intro g2 cap2 w2 hown2 hgrow hat
  rw[←Hva.out] at hgrow hat
  have hB2:w2.heap[B]?=w1.heap[B]?:=(hgrow.block B (by simp;omega) (fun e=>HvB.out e.symm)).trans (Below.heap_alloc w1 _ B hBw1)
  obtain⟨_,c1,_⟩:=q0o (hB2.trans L1.out.block)
  have c0':w2.cell? ⟨B,0,none⟩=some (.slice a n cap):=by rw[←Hva.out];exact (q0o (hB2.trans L1.out.block)).1
  refine⟨c0',c1,by simp[World.frozen?,hB2.trans L1.out.block],?_⟩
  obtain⟨V,hV⟩:∃V,V=Value.slice (some ⟨g2,0,none⟩) (n + 1) cap2:=⟨_,rfl⟩
  have hVo:V.ownBlock=some g2:=by rw[hV];rfl
  rw[←hV] at hown2 ⊢
  have hg2B:g2≠B:=by
   rcases hat with e | e
   ·intro e';exact HvB.out (e'.symm ▸ e)
   ·omega
  have hsz:w1.heap.size + 1≤w2.heap.size:=by have:=hgrow.size;simpa using this
  have keep:∀i,i < w1.heap.size→i≠B→vs.ownBlock≠some i→(w2.setCell ⟨B,0,none⟩ V).heap[i]?=w1.heap[i]?:=fun i hi hB hc =>
   (Below.heap_setCell _ _ _ i hB).trans ((hgrow.block i (by simp;omega) (fun e=>hc e.symm)).trans (Below.heap_alloc w1 _ i hi))
  have L3:=L1.out.q3g (W':=w2.setCell ⟨B,0,none⟩ V) (S':=T.syms++[(s,v)]) hVo (hat.imp id fun e=>by omega)
   (by
     rw[q90,List.length_append,Hn.out]
     exact zo hown2 fun g e=>Below.heap_setCell _ _ _ g (by rw[hVo] at e;cases e;exact hg2B))
   (by rw[qj (hB2.trans L1.out.block)];rfl) keep
  obtain⟨m,hm,hk3⟩:=L3.known
  obtain⟨W4,hmu,hm4,hg4⟩:=hk3.put (by unfold maxLen;omega) s (by unfold maxLen;omega) n (by omega)
  have L4:=L3.putK (k':=k + 1) hm4 (by omega) (by omega) (fun i hi hne=>hg4.block i hi (by simpa using hne))
  refine⟨W4,hmu,_,⟨_,_,_,_,_,_,_,L4.tab (q8z T s v) rfl ?_ ?_ rfl rfl rfl,rfl⟩,⟨fun b hb=>?_,⟨hg4.os.trans hgrow.os,hg4.tape.trans hgrow.tape,hg4.output.trans hgrow.output,?_,fun i hi hni=>?_⟩⟩⟩
  ·rw[←Hn.out];exact q80 T.syms s v Hno.out
  ·exact qk2 T s v Hno.out (by rw[Hn.out];exact Hlt.out)
  ·rcases qcr (l:=[vs,vc,vl]++vars) (i:=0) hVo hb with h | h
   ·exact .inl h
   ·rcases hat with e | e
    ·exact .inl (q2l (v:=vs) (by simp) (h ▸ e))
    ·exact .inr (by omega)
  ·have h4:=hg4.size
   simp only[World.setCell,Array.size_modify] at h4
   omega
  ·refine (hg4.block i (by simp[World.setCell];omega) (fun e=>hni ?_)).trans (keep i hi (fun e=>hni ?_) (fun e=>hni ?_))
   ·rw[Option.some.inj e];simp[wo]
   ·rw[e];simp[wo]
   ·exact q2l (v:=vs) (by simp) e
 go_wp2_with (at_builtin;refine wpList_append_lies _ rfl _ _ _ rfl 0 183 i0 _ 2 24 Tryz.underlying188 hi0 hz0 hz1 hz3 rfl (by omega) _ n (q0v T.syms) (by rfl) (by exact (Hrow1.out.alloc _)) ⟨w1.heap.size,0,none⟩ 1 1 [.string s,.bool v] (by rfl) (by rfl) (World.news_of_block (cs:=#[.string s,.bool v]) (t:=183) (fr:=(0,0)) (heap_alloc_new w1 _)) (by simp[Value.oneCell']) (by omega) (by unfold maxLen;omega) (by omega) (by simp) (w1.heap.size + 1) (by simp) ?_;intro g2 cap2 w2 hown2 hgrow hat hlt2;obtain⟨e0,e1,ez,W4,hmu,hrest⟩:=step.out g2 cap2 w2 hown2 hgrow hat;have Hrest:Hid _:=hrest;clear hrest hown2 hgrow hat)
 obtain⟨bs',hT4,hG4⟩:=Hrest.out
 refine Calls.mono (q76 W4 bs' B (k + 1) (q8z T s v) n (s,v) ?_ ?_ (by unfold maxLen;dsimp only;omega) ?_ (by omega) hC (fun l hl=>Nat.le_succ_of_le (HI.out l hl)) hT4) ?_
 ·show ((T.syms++[(s,v)]).map (·.1)).Nodup
  rw[List.map_append]
  refine List.nodup_append.2 ⟨hnd,by simp,fun x hx y hy=>?_⟩
  simp only[List.map_cons,List.map_nil,List.mem_cons,List.not_mem_nil,or_false] at hy
  subst hy
  rintro rfl
  obtain⟨q,hq,e⟩:=List.mem_map.1 hx
  have:=Hno.out
  unfold numOf at this
  rw[List.findIdx?_eq_none_iff] at this
  have:=this q hq
  simp[e] at this
 ·show (T.syms++[(s,v)])[n]?=some (s,v)
  rw[←Hn.out];simp
 ·show (T.syms++[(s,v)]).length≤512
  rw[List.length_append,Hn.out];simp;omega
 ·rintro e w5 ⟨rfl,hrest⟩
  have Hr5:Hid _:=hrest
  clear hrest
  go_wp2
  obtain⟨bs5,hT5,hG5⟩:=Hr5.out
  exact bodyPost_ret (v:=.tuple #[.int .i64 n,.int .i64 0]) (by simp[results,Tryz.results160,go_sem]) rfl ⟨rfl,bs5,hT5,(Goes.of_below Hb.out).trans (hG4.trans hG5)⟩
end Y
namespace Y
open Go.RowKit
end Y
namespace Y
open Go.RowKit
theorem qk3 (w:World)(B:Nat)(s:ByteArray)(hs:s.size≤maxLen)(hKB:KB w)(hn:gy s 4=false) :
  Calls Tryz.prog 103 #[.pointer (some ⟨B,0,none⟩),.string s] w fun e w'=>e=.returned (.int .i64 21)∧w'=w:=by
 have A:=name_any s w hs hKB
 rw[hn] at A
 replace A:=show Hid _ from A
 go_enter Tryz.func103,Tryz.ntmps103
 go_wp2_with fail
 refine Calls.mono A.out ?_
 rintro e w' ⟨rfl,rfl⟩
 go_wp2
 go_ret
 exact⟨rfl,rfl⟩
theorem qe5 (w:World)(bs:List Nat)(B k:Nat)(T:Tab)(s:ByteArray)(hs:s.size≤maxLen)(hKB:KB w)(hn:gy s 4=true)(h:TabAt w bs B k T)(hl:(q2a T.labels s).isSome=true) :
  Calls Tryz.prog 103 #[.pointer (some ⟨B,0,none⟩),.string s] w fun e w'=>e=.returned (.int .i64 20)∧w'=w:=by
 have A:=name_any s w hs hKB
 rw[hn] at A
 replace A:=show Hid _ from A
 obtain⟨vs,vc,vl,mk,ma,mt,vars,h,_⟩:=h
 obtain⟨_,_,_,_,_,c5⟩:=q0o h.block
 obtain⟨n,_,hm⟩:=h.taken
 have hk:=hm.look s hs
 rw[hl] at hk
 generalize (q2a T.labels s).getD 0=r at hk
 clear h hm hl
 go_enter Tryz.func103,Tryz.ntmps103
 go_wp2_with fail
 refine Calls.mono A.out ?_
 rintro e w' ⟨rfl,rfl⟩
 go_wp2
 go_ret
 exact⟨rfl,rfl⟩
theorem qgi (w:World)(bs:List Nat)(B k:Nat)(T:Tab)(s:ByteArray)(hs:s.size≤maxLen)(hKB:KB w)(hn:gy s 4=true)(h:TabAt w bs B k T)(hl:(q2a T.labels s).isSome=false)(h4:1024≤T.labels.length) :
  Calls Tryz.prog 103 #[.pointer (some ⟨B,0,none⟩),.string s] w fun e w'=>e=.returned (.int .i64 22)∧w'=w:=by
 have A:=name_any s w hs hKB
 rw[hn] at A
 replace A:=show Hid _ from A
 obtain⟨vs,vc,vl,mk,ma,mt,vars,h,_⟩:=h
 obtain⟨_,_,_,_,c4,c5⟩:=q0o h.block
 obtain⟨a,cap,rfl⟩:=jf h.labels
 obtain⟨n,_,hm⟩:=h.taken
 have hk:=hm.look s hs
 rw[hl] at hk
 generalize (q2a T.labels s).getD 0=r at hk
 have h4':(1024:Int)≤(T.labels.length:Int):=by omega
 clear h hm hl
 go_enter Tryz.func103,Tryz.ntmps103
 go_wp2_with fail
 refine Calls.mono A.out ?_
 rintro e w' ⟨rfl,rfl⟩
 go_wp2
 go_ret
 exact⟨rfl,rfl⟩
theorem qgj (w:World)(bs:List Nat)(B k:Nat)(T:Tab)(h:TabAt w bs B k T)(hd:T.scopes.length=0):Calls Tryz.prog 106 #[.pointer (some ⟨B,0,none⟩)] w fun e w'=>e=.returned (.int .i64 23)∧w'=w:=by
 obtain⟨vs,vc,vl,mk,ma,mt,vars,h,_⟩:=h
 obtain⟨a,cap,rfl⟩:=jf h.scopes
 obtain⟨_,_,_,c3,_⟩:=q0o h.block
 rw[hd] at c3
 clear h
 go_enter Tryz.func106,Tryz.ntmps106
 go_wp2
 go_ret
 exact⟨rfl,rfl⟩
theorem qe6 (w:World)(bs:List Nat)(B k:Nat)(T:Tab)(s:ByteArray)(h:TabAt w bs B k T)(hd:0 < T.scopes.length):Calls Tryz.prog 157 #[.pointer (some ⟨B,0,none⟩),.string s] w fun e w'=>e=.returned (.tuple #[.int .i64 0,.int .i64 23])∧w'=w:=by
 obtain⟨vs,vc,vl,mk,ma,mt,vars,h,_⟩:=h
 obtain⟨a,cap,rfl⟩:=jf h.scopes
 obtain⟨_,_,_,c3,_⟩:=q0o h.block
 have hd':(0:Int) < (T.scopes.length:Int):=by omega
 clear h
 go_enter Tryz.func157,Tryz.ntmps157
 go_wp2
 exact bodyPost_ret (v:=.tuple #[.int .i64 0,.int .i64 23]) (by simp[results,Tryz.results157,go_sem]) rfl ⟨rfl,rfl⟩
theorem qk4 (w:World)(bs:List Nat)(B k:Nat)(T:Tab)(s:ByteArray)(hs:s.size≤maxLen)(hKB:KB w)(hn:gy s 3=false)(h:TabAt w bs B k T)(hd:T.scopes.length=0) :
  Calls Tryz.prog 157 #[.pointer (some ⟨B,0,none⟩),.string s] w fun e w'=>e=.returned (.tuple #[.int .i64 0,.int .i64 21])∧w'=w:=by
 have A:=q15 s w hs hKB
 rw[hn] at A
 replace A:=show Hid _ from A
 obtain⟨vs,vc,vl,mk,ma,mt,vars,h,_⟩:=h
 obtain⟨a,cap,rfl⟩:=jf h.scopes
 obtain⟨_,_,_,c3,_⟩:=q0o h.block
 rw[hd] at c3
 clear h
 go_enter Tryz.func157,Tryz.ntmps157
 go_wp2_with fail
 refine Calls.mono A.out ?_
 rintro e w' ⟨rfl,rfl⟩
 go_wp2
 exact bodyPost_ret (v:=.tuple #[.int .i64 0,.int .i64 21]) (by simp[results,Tryz.results157,go_sem]) rfl ⟨rfl,rfl⟩
theorem qe7 (w:World)(bs:List Nat)(B k:Nat)(T:Tab)(s:ByteArray)(hs:s.size≤maxLen)(hKB:KB w)(hn:gy s 3=true)(h:TabAt w bs B k T)(hd:T.scopes.length=0)(ho:(numOf T.syms s).isSome=true) :
  Calls Tryz.prog 157 #[.pointer (some ⟨B,0,none⟩),.string s] w fun e w'=>e=.returned (.tuple #[.int .i64 0,.int .i64 20])∧w'=w:=by
 have A:=q15 s w hs hKB
 rw[hn] at A
 replace A:=show Hid _ from A
 obtain⟨vs,vc,vl,mk,ma,mt,vars,h,_⟩:=h
 obtain⟨a,cap,rfl⟩:=jf h.scopes
 obtain⟨_,c1,_,c3,_⟩:=q0o h.block
 obtain⟨n,_,hm⟩:=h.known
 have hk:=hm.look s hs
 rw[ho] at hk
 generalize (numOf T.syms s).getD 0=r at hk
 rw[hd] at c3
 clear h hm ho
 go_enter Tryz.func157,Tryz.ntmps157
 go_wp2_with fail
 refine Calls.mono A.out ?_
 rintro e w' ⟨rfl,rfl⟩
 go_wp2
 exact bodyPost_ret (v:=.tuple #[.int .i64 0,.int .i64 20]) (by simp[results,Tryz.results157,go_sem]) rfl ⟨rfl,rfl⟩
theorem var_bad (w:World)(B:Nat)(s:ByteArray)(hs:s.size≤maxLen)(hKB:KB w)(hn:gy s 3=false) :
  Calls Tryz.prog 110 #[.pointer (some ⟨B,0,none⟩),.string s] w fun e w'=>e=.returned (.tuple #[.int .i64 0,.int .i64 21])∧w'=w:=by
 have A:=q15 s w hs hKB
 rw[hn] at A
 replace A:=show Hid _ from A
 go_enter Tryz.func110,Tryz.ntmps110
 go_wp2_with fail
 refine Calls.mono A.out ?_
 rintro e w' ⟨rfl,rfl⟩
 go_wp2
 exact bodyPost_ret (v:=.tuple #[.int .i64 0,.int .i64 21]) (by simp[results,Tryz.results110,go_sem]) rfl ⟨rfl,rfl⟩
theorem qk5 (w:World)(bs:List Nat)(B k:Nat)(T:Tab)(s:ByteArray)(hs:s.size≤maxLen)(hKB:KB w)(hn:gy s 3=true)(h:TabAt w bs B k T)(ho:(uj T s).isSome=true) :
  Calls Tryz.prog 110 #[.pointer (some ⟨B,0,none⟩),.string s] w fun e w'=>e=.returned (.tuple #[.int .i64 0,.int .i64 20])∧w'=w:=by
 have A:=q15 s w hs hKB
 rw[hn] at A
 replace A:=show Hid _ from A
 obtain⟨vs,vc,vl,mk,ma,mt,vars,h,_⟩:=h
 obtain⟨_,_,c2,_⟩:=q0o h.block
 obtain⟨n,_,hm⟩:=h.active
 have hk:=hm.look s hs
 rw[ho] at hk
 generalize (uj T s).getD 0=r at hk
 clear h hm ho
 go_enter Tryz.func110,Tryz.ntmps110
 go_wp2_with fail
 refine Calls.mono A.out ?_
 rintro e w' ⟨rfl,rfl⟩
 go_wp2
 exact bodyPost_ret (v:=.tuple #[.int .i64 0,.int .i64 20]) (by simp[results,Tryz.results110,go_sem]) rfl ⟨rfl,rfl⟩
end Y
namespace Y
open Go.RowKit
def labT (T:Tab)(s:ByteArray):Tab:={ T with labels:=T.labels++[s] }
theorem qk6 (l:List ByteArray)(s:ByteArray)(h:q2a l s=none):(fun t=>if t=s then some l.length else q2a l t)=q2a (l++[s]):=by
 funext t
 unfold q2a at h ⊢
 rw[List.findIdx?_append]
 by_cases e:t=s
 ·subst e
  rw[if_pos rfl,h]
  simp
 ·rw[if_neg e]
  cases hm:l.findIdx? (fun p=>p=t) with
  | some m=>rfl
  | none =>
   have:¬s=t:=fun h=>e h.symm
   simp[this]
theorem info9:(Tryz.prog.info? 9).map (fun i=>(i.zero,i.size,i.bytes))=some (some (.string ⟨#[]⟩),1,16):=by kernel_rfl
theorem qk7 (w:World)(bs:List Nat)(B k:Nat)(T:Tab)(s:ByteArray)(hs:s.size≤281474976710656)(hKB:KB w)(hnm:gy s 4=true)(hno:q2a T.labels s=none)(hS:T.labels.length < 1024)(hk:k < 17592186044414)(h:TabAt w bs B k T) :
  Calls Tryz.prog 103 #[.pointer (some ⟨B,0,none⟩),.string s] w fun e w'=>e=.returned (.int .i64 0)∧∃bs',TabAt w' bs' B (k + 1) (labT T s)∧Goes bs w bs' w':=by
 have A:=name_any s w (by unfold maxLen;omega) hKB
 rw[hnm] at A
 replace A:=show Hid _ from A
 obtain⟨vs,vc,vl,mk,ma,mt,vars,h,rfl⟩:=h
 obtain⟨a,cap,hva⟩:=jf h.labels
 obtain⟨_,_,_,_,c4,c5⟩:=q0o h.block
 rw[hva] at c4
 have hBw:=h.lies.blt
 obtain⟨m0,hm0,hm⟩:=h.taken
 have hlk:=hm.look s (by unfold maxLen;omega)
 rw[hno] at hlk
 replace hlk:(Instr.lookup 118 (.map (some mt)) (.string s) true).run Tryz.prog w=.ok (.tuple #[.int .i64 0,.bool false]) w:=hlk
 generalize hn:T.labels.length=n at *
 have CL:Hid _:=clone_any s w hs
 have H:Hid (TabIs w B k T vs vc vl mk ma mt vars):=h
 have Hn:Hid (T.labels.length=n):=hn
 have Hva:Hid (vl=.slice a n cap):=hva
 have HvB:Hid (vl.ownBlock≠some B):=h.lies.far B (by simp) vl (by simp)
 obtain⟨i0,hi0,hz0,hz1,hz3⟩:=info_parts info9
 have hn4:(n:Int) < 1024:=by omega
 have Hno:Hid _:=hno
 have Hnm:Hid _:=hnm
 clear h hn hva hno hnm hm
 go_enter Tryz.func103,Tryz.ntmps103
 go_wp2_with fail
 refine Calls.mono A.out ?_
 rintro e w' ⟨rfl,rfl⟩
 go_wp2_with fail
 refine Calls.mono CL.out ?_
 rintro e w1 ⟨rfl,hb⟩
 have L1:Hid (Lies w1 B k T.syms (numOf T.syms) (uj T) (q2a T.labels) T.scopes T.labels vs vc vl mk ma mt vars):=H.out.lies.kept fun b hb'=>hb.block b (H.out.lies.mem b hb')
 have hB1:w1.heap[B]?=w'.heap[B]?:=hb.block B hBw
 have d4:w1.cell? ⟨B,4,none⟩=some (.slice a n cap):=(World.cell?_of_block (a:=⟨B,4,none⟩) hB1).trans c4
 have d5:w1.cell? ⟨B,5,none⟩=some (.map (some mt)):=(World.cell?_of_block (a:=⟨B,5,none⟩) hB1).trans c5
 have Hb:Hid _:=hb
 have hBw1:B < w1.heap.size:=L1.out.blt
 obtain⟨m1,hm1,hmt1⟩:=L1.out.taken
 obtain⟨W2,hmu,hm2,hg2⟩:=(show jd w1.drew mt m1 _ from hmt1.kept rfl).put (by unfold maxLen;omega) s (by unfold maxLen;omega) n (by omega)
 have L2:Hid (Lies W2 B (k + 1) T.syms (numOf T.syms) (uj T) (fun t=>if t=s then some n else q2a T.labels t) T.scopes T.labels vs vc vl mk ma mt vars):=L1.out.putT hm2 (by omega) (by omega) (fun i hi hne=>hg2.block i hi (by simpa using hne))
 have f4:W2.cell? ⟨B,4,none⟩=some (.slice a n cap):=by
  rw[World.cell?_of_block (w:=w1) (a:=⟨B,4,none⟩) (hg2.block B hBw1 (fun e=>L1.out.ne.2.2.1 (Option.some.inj e))),d4]
 have Hg2:Hid _:=hg2
 have hBw2:B < W2.heap.size:=L2.out.blt
 have Hrow2:Hid (W2.ownsRow 0 9 1 (.slice a n cap) n (T.labels.map Value.string)):=by have:=L2.out.labels;rw[Hn.out,Hva.out] at this;exact this
 clear CL hb hB1 hmt1 hm2 hg2 A
 have step:Hid (∀(g2 cap2:Nat) (w2:World),w2.ownsRow 0 9 1 (.slice (some ⟨g2,0,none⟩) (n + 1) cap2) (n + 1) (T.labels.map Value.string++[.string s])→(W2.alloc (.cells #[.string s] 9)).grownBy w2 (Value.slice a n cap).ownBlock→((Value.slice a n cap).ownBlock=some g2∨g2=W2.heap.size + 1) →
   w2.cell? ⟨B,4,none⟩=some (.slice a n cap)∧w2.frozen? ⟨B,4,none⟩=false ∧
    ∃bs',TabAt (w2.setCell ⟨B,4,none⟩ (.slice (some ⟨g2,0,none⟩) (n + 1) cap2)) bs' B (k + 1) (labT T s)∧Goes (wo B mk ma mt vs vc vl vars) w1 bs' (w2.setCell ⟨B,4,none⟩ (.slice (some ⟨g2,0,none⟩) (n + 1) cap2))):=by
  intro g2 cap2 w2 hown2 hgrow hat
  rw[←Hva.out] at hgrow hat
  have hB2:w2.heap[B]?=W2.heap[B]?:=(hgrow.block B (by simp;omega) (fun e=>HvB.out e.symm)).trans (Below.heap_alloc W2 _ B hBw2)
  have c0':w2.cell? ⟨B,4,none⟩=some (.slice a n cap):=(World.cell?_of_block (a:=⟨B,4,none⟩) hB2).trans f4
  refine⟨c0',by simp[World.frozen?,hB2.trans L2.out.block],?_⟩
  obtain⟨V,hV⟩:∃V,V=Value.slice (some ⟨g2,0,none⟩) (n + 1) cap2:=⟨_,rfl⟩
  have hVo:V.ownBlock=some g2:=by rw[hV];rfl
  rw[←hV] at hown2 ⊢
  have hg2B:g2≠B:=by
   rcases hat with e | e
   ·intro e';exact HvB.out (e'.symm ▸ e)
   ·omega
  have hsz:W2.heap.size + 1≤w2.heap.size:=by have:=hgrow.size;simpa using this
  have keep:∀i,i < W2.heap.size→i≠B→vl.ownBlock≠some i→(w2.setCell ⟨B,4,none⟩ V).heap[i]?=W2.heap[i]?:=fun i hi hB hc =>
   (Below.heap_setCell _ _ _ i hB).trans ((hgrow.block i (by simp;omega) (fun e=>hc e.symm)).trans (Below.heap_alloc W2 _ i hi))
  have L3:=L2.out.rowL (W':=w2.setCell ⟨B,4,none⟩ V) (L':=T.labels++[s]) hVo (hat.imp id fun e=>by omega)
   (by
     rw[List.map_append,List.length_append,Hn.out]
     exact zo hown2 fun g e=>Below.heap_setCell _ _ _ g (by rw[hVo] at e;cases e;exact hg2B))
   (by rw[qj (hB2.trans L2.out.block)];rfl) keep
  have hg1:=Hg2.out
  have hs1:w1.heap.size≤W2.heap.size:=hg1.size
  refine⟨_,⟨_,_,_,_,_,_,_,L3.tab (labT T s) rfl rfl rfl ?_ rfl rfl,rfl⟩,⟨fun b hb=>?_,⟨hgrow.os.trans hg1.os,hgrow.tape.trans hg1.tape,hgrow.output.trans hg1.output,?_,fun i hi hni=>?_⟩⟩⟩
  ·rw[←Hn.out];exact qk6 T.labels s Hno.out
  ·rcases qcr (l:=[vs,vc,vl]++vars) (i:=2) hVo hb with h | h
   ·exact .inl h
   ·rcases hat with e | e
    ·exact .inl (q2l (v:=vl) (by simp) (h ▸ e))
    ·exact .inr (by omega)
  ·simp only[World.setCell,Array.size_modify]
   omega
  ·refine (keep i (by omega) (fun e=>hni ?_) (fun e=>hni ?_)).trans (hg1.block i hi (fun e=>hni ?_))
   ·rw[e];simp[wo]
   ·exact q2l (v:=vl) (by simp) e
   ·rw[Option.some.inj e];simp[wo]
 go_wp2_with fail
 go_region
 go_wp2_with (at_builtin;refine wpList_append_lies _ rfl _ _ _ rfl 0 9 i0 _ 1 16 Tryz.underlying84 hi0 hz0 hz1 hz3 rfl (by omega) _ n (T.labels.map Value.string) (by rfl) (by exact (Hrow2.out.alloc _)) ⟨W2.heap.size,0,none⟩ 1 1 [.string s] (by rfl) (by rfl) (World.news_of_block (cs:=#[.string s]) (t:=9) (fr:=(0,0)) (heap_alloc_new W2 _)) (by simp[Value.oneCell']) (by omega) (by unfold maxLen;omega) (by omega) (by simp) (W2.heap.size + 1) (by simp) ?_;intro g2 cap2 w2 hown2 hgrow hat hlt2;obtain⟨e0,ez,hrest⟩:=step.out g2 cap2 w2 hown2 hgrow hat;have Hrest:Hid _:=hrest;clear hrest hown2 hgrow hat)
 obtain⟨bs',hT4,hG4⟩:=Hrest.out
 go_ret
 exact⟨rfl,bs',hT4,(Goes.of_below Hb.out).trans hG4⟩
end Y
namespace Y
open Go.RowKit
def nameAt (S:List (ByteArray × Bool))(n:Nat):ByteArray:=nameOf S[n]?
def qe8 (S:List (ByteArray × Bool))(f:ByteArray→Option Nat)(l:List Nat):ByteArray→Option Nat:=l.foldl (fun f n=>fun t=>if t=nameAt S n then none else f t) f
theorem qk8 (S:List (ByteArray × Bool))(f:ByteArray→Option Nat)(l:List Nat)(n:Nat):qe8 S f (l++[n])=fun t=>if t=nameAt S n then none else qe8 S f l t:=by simp[qe8]
theorem dels_is (S:List (ByteArray × Bool)):∀(l:List Nat) (f:ByteArray→Option Nat) (t:ByteArray),((∃n ∈ l,nameAt S n=t)→qe8 S f l t=none)∧((∀n ∈ l,nameAt S n≠t)→qe8 S f l t=f t):=by
 intro l
 induction l with
 | nil=>intro f t;exact⟨fun ⟨n,h,_⟩=>by simp at h,fun _=>rfl⟩
 | cons a l ih =>
  intro f t
  obtain⟨i1,i2⟩:=ih (fun t=>if t=nameAt S a then none else f t) t
  refine⟨fun ⟨n,hn,e⟩=>?_,fun h=>?_⟩
  ·by_cases h2:∃n ∈ l,nameAt S n=t
   ·exact i1 h2
   ·have hna:n=a:=by
     rcases List.mem_cons.1 hn with h | h
     ·exact h
     ·exact absurd ⟨n,h,e⟩ h2
    refine (i2 fun m hm e'=>h2 ⟨m,hm,e'⟩).trans ?_
    subst hna
    exact if_pos e.symm
  ·exact (i2 fun m hm=>h m (List.mem_cons_of_mem _ hm)).trans (if_neg fun e=>h a (by simp) e.symm)
def q81 (T:Tab):Tab:={ T with act:=T.act.filter (fun n=>decide (n ∉ T.scopes.getD (T.scopes.length - 1) [])),scopes:=T.scopes.take (T.scopes.length - 1) }
theorem qe9 (T:Tab)(l:List Nat)(hl:T.scopes.getD (T.scopes.length - 1) []=l)(hnd:(T.syms.map (·.1)).Nodup)(hin:∀n ∈ l,n < T.syms.length):qe8 T.syms (uj T) l=uj (q81 T):=by
 funext t
 obtain⟨i1,i2⟩:=dels_is T.syms l (uj T) t
 have e2:uj (q81 T) t=(numOf T.syms t).filter (fun n=>decide (n ∈ T.act.filter (fun n=>decide (n ∉ l)))):=by
  rw[←hl];rfl
 have e1:uj T t=(numOf T.syms t).filter (fun n=>decide (n ∈ T.act)):=rfl
 rw[e2]
 cases hm:numOf T.syms t with
 | none =>
  rw[hm] at e1
  by_cases h:∃n ∈ l,nameAt T.syms n=t
  ·rw[i1 h];rfl
  ·rw[i2 fun n hn e=>h ⟨n,hn,e⟩,e1];rfl
 | some m =>
  obtain⟨b,hb⟩:=q4v hm
  rw[hm] at e1
  have key:(∃n ∈ l,nameAt T.syms n=t)↔m ∈ l:=by
   constructor
   ·intro h
    obtain⟨n,hn,e⟩:=h
    have hlt:=hin n hn
    have e':T.syms[n].1=t:=by
     unfold nameAt nameOf at e
     rw[List.getElem?_eq_getElem hlt] at e
     simpa using e
    have:=q75 hnd (List.getElem?_eq_getElem hlt)
    rw[e',hm] at this
    cases this
    exact hn
   ·intro h
    exact⟨m,h,by unfold nameAt nameOf;rw[hb];rfl⟩
  by_cases h2:m ∈ l
  ·rw[i1 (key.2 h2)]
   simp[Option.filter,h2]
  ·rw[i2 (fun n hn e=>h2 (key.1 ⟨n,hn,e⟩)),e1]
   simp[Option.filter,h2]
theorem close_some (w:World)(bs:List Nat)(B k:Nat)(T:Tab)(hnd:(T.syms.map (·.1)).Nodup)(hsy:∀p ∈ T.syms,p.1.size≤maxLen)(hS:T.syms.length≤512)(hk:k < 17592186044414)(hC:T.scopes.length≤16)(hI:∀l ∈ T.scopes,l.length≤k)(hin:∀l ∈ T.scopes,∀n ∈ l,n < T.syms.length)(h:TabAt w bs B k T)(h0:0 < T.scopes.length) :
  Calls Tryz.prog 106 #[.pointer (some ⟨B,0,none⟩)] w fun e w'=>e=.returned (.int .i64 0)∧∃bs',TabAt w' bs' B k (q81 T)∧Goes bs w bs' w':=by
 obtain⟨vs,vc,vl,mk,ma,mt,vars,h,rfl⟩:=h
 have L0:=h.lies
 obtain⟨q,hq⟩:∃q,T.scopes.length=q + 1:=⟨T.scopes.length - 1,by omega⟩
 obtain⟨gc,capc,rfl⟩:=q48 h.scopes (by omega)
 have hsc:=L0.scopes
 rw[hq] at hsc
 have hvl:vars.length=q + 1:=by have:=hsc.1;omega
 obtain⟨v,hv⟩:∃v,vars[q]?=some v:=⟨vars[q]'(by omega),List.getElem?_eq_getElem _⟩
 obtain⟨l,hl,hrow⟩:=L0.inner q v hv
 have hlm:l ∈ T.scopes:=List.mem_of_getElem? hl
 have hll:l.length≤k:=hI l hlm
 obtain⟨_,_,_,c3,_⟩:=q0o h.block
 have dq:w.cell? ⟨gc,q,none⟩=some v:=zx hsc q v hv
 rw[hq] at c3
 obtain⟨av,capv,hva⟩:=jf hrow
 rw[hva] at dq
 have HL0:Hid _:=L0
 have Hv:Hid (vars[q]?=some v):=hv
 have Hl:Hid (T.scopes[q]?=some l):=hl
 have Hva:Hid (v=.slice av l.length capv):=hva
 have Hq:Hid (T.scopes.length=q + 1):=hq
 have Hin:Hid (∀n ∈ l,n < T.syms.length):=hin l hlm
 have Hsy:Hid _:=hsy
 have Hvl:Hid (vars.length=q + 1):=hvl
 have hq16:q < 16:=by omega
 generalize hll':l.length=ll at *
 have Hll:Hid (l.length=ll):=hll'
 clear h L0 hsc hv hl hva hq hin hsy hI h0 hC hlm hrow hvl hll'
 go_enter Tryz.func106,Tryz.ntmps106
 go_wp2_with fail
 go_loopw [27] (fun i wx=>∃j:Nat,j≤ll∧i=.int .i64 j∧Hid (Lies wx B k T.syms (numOf T.syms) (qe8 T.syms (uj T) (l.take j)) (q2a T.labels) T.scopes T.labels vs (.slice (some ⟨gc,0,none⟩) T.scopes.length capc) vl mk ma mt vars)∧Hid (w.grownBy wx (some ma))) (fun i _=>ll - (intOf i).toNat)
 case atStart=>exact⟨0,Nat.zero_le _,rfl,HL0.out,⟨rfl,rfl,rfl,Nat.le_refl _,fun _ _ _=>rfl⟩⟩
 case round =>
  obtain⟨j,hj,rfl,hL,hG⟩:=hrel
  have hBw:B < wr.heap.size:=hL.out.blt
  obtain⟨c0,_,c2,c3,_⟩:=q0o hL.out.block
  rw[Hq.out] at c3
  by_cases hlt:j < ll
  ·obtain⟨n,hn⟩:∃n,l[j]?=some n:=⟨l[j]'(by rw[Hll.out];exact hlt),List.getElem?_eq_getElem _⟩
   have hnS:n < T.syms.length:=Hin.out n (List.mem_of_getElem? hn)
   obtain⟨l2,hl2,hrow2⟩:=hL.out.inner q v Hv.out
   have e2:l2=l:=Option.some.inj (hl2.symm.trans Hl.out)
   subst e2
   rw[Hll.out] at hrow2
   obtain⟨ga,capa,hva⟩:=q48 hrow2 (by omega)
   have hva':av=some ⟨ga,0,none⟩:=by have:=Hva.out;rw[hva] at this;cases this;rfl
   subst hva'
   have hcap:capv=capa:=by have:=Hva.out;rw[hva] at this;cases this;rfl
   subst hcap
   rw[hva] at hrow2
   have cj:wr.cell? ⟨ga,j,none⟩=some (.int .i64 n):=zx hrow2 j _ (by rw[List.getElem?_map,hn];rfl)
   obtain⟨gs,caps,hvs⟩:=q48 hL.out.syms (by omega)
   have hrs:=hL.out.syms
   rw[hvs] at hrs c0
   obtain⟨p,hp⟩:∃p,T.syms[n]?=some p:=⟨T.syms[n],List.getElem?_eq_getElem hnS⟩
   have q0:=zx hrs _ _ (q96 _ _ _ hp).1
   obtain⟨m,hm,hact⟩:=hL.out.active
   obtain⟨W1,hmu,hm1,hg1⟩:=(show jd wr.drew ma m _ from hact.kept rfl).del p.1 (Hsy.out p (List.mem_of_getElem? hp)) 0
   have n1:(n:Int) < (T.syms.length:Int):=by omega
   have n2:(j:Int) < (ll:Int):=by omega
   have hnm:nameAt T.syms n=p.1:=by unfold nameAt nameOf;rw[hp];rfl
   have Hnext:Hid (Lies W1 B k T.syms (numOf T.syms) (qe8 T.syms (uj T) (l2.take (j + 1))) (q2a T.labels) T.scopes T.labels vs (.slice (some ⟨gc,0,none⟩) T.scopes.length capc) vl mk ma mt vars):=by
    have:=hL.out.putA (k':=k) hm1 hm (Nat.le_refl _) (fun i hi hne=>hg1.block i hi (by simpa using hne))
    rw[List.take_add_one,hn,Option.toList_some,qk8,hnm]
    exact this
   have HG1:Hid (w.grownBy W1 (some ma)):=⟨hg1.os.trans hG.out.os,hg1.tape.trans hG.out.tape,hg1.output.trans hG.out.output,Nat.le_trans hG.out.size hg1.size,fun i hi hne=>(hg1.block i (Nat.lt_of_lt_of_le hi hG.out.size) hne).trans (hG.out.block i hi hne)⟩
   generalize T.syms.length=len at *
   clear hm1 hg1 hact hrs hrow2 hL hp hn hnm hva hvs
   go_wp2_with fail
   go_region
   go_wp2
   go_roundw
   case rel=>exact⟨j + 1,by omega,by go_num,Hnext,HG1⟩
   case measure=>simp[intOf];omega
  ·have hj':j=ll:=by omega
   subst hj'
   have z3:wr.frozen? ⟨B,3,none⟩=false:=by simp[World.frozen?,hL.out.block]
   have hcap:q + 1≤capc:=by
    rcases hL.out.scopes.2 with ⟨e,_⟩ | ⟨g',cap',cur,e,_,_,hn,_⟩
    ·cases e
    ·cases e;rw[Hq.out] at hn;exact hn
   have hcap1:(q:Int)≤(capc:Int):=by omega
   have hcap2:q≤capc:=by omega
   have hcap3:¬capc=0:=by omega
   go_wp2
   go_ret
   obtain⟨V,hV⟩:∃V,V=Value.slice (some ⟨gc,0,none⟩) q capc:=⟨_,rfl⟩
   rw[←hV]
   have hLL:=hL.out
   rw[List.take_of_length_le (by rw[Hll.out];exact Nat.le_refl _)] at hLL
   have hgB:gc≠B:=fun e=>hLL.far B (by simp) (.slice (some ⟨gc,0,none⟩) T.scopes.length capc) (by simp) (by rw[e];rfl)
   have keep:∀i,i≠B→(wr.setCell ⟨B,3,none⟩ V).heap[i]?=wr.heap[i]?:=fun i hB=>Below.heap_setCell _ _ _ i hB
   have hrow:(wr.setCell ⟨B,3,none⟩ V).ownsRow 0 228 1 V q (vars.take q):=by
    refine⟨by rw[List.length_take,Hvl.out];omega,.inr ?_⟩
    rcases hLL.scopes.2 with ⟨e,_⟩ | ⟨g',cap',cur,e,hg,hh,hn,hc,hsz,ht⟩
    ·cases e
    ·cases e
     refine⟨gc,capc,cur,hV,hg,(keep gc hgB).trans hh,by omega,hc,hsz,?_⟩
     rw[←ht,List.take_take,Nat.min_eq_left (by rw[Hq.out];omega)]
     rw[Nat.mul_one]
   have LP:=hLL.pop (W':=wr.setCell ⟨B,3,none⟩ V) (V:=V) (n:=q) Hq.out (by rw[hV];rfl) hrow (by rw[qj hLL.block];rfl) (fun i _ hB=>keep i hB)
   have hgd:T.scopes.getD (T.scopes.length - 1) []=l:=by rw[Hq.out,Nat.add_sub_cancel,List.getD,Hl.out];rfl
   refine⟨rfl,_,⟨_,_,_,_,_,_,_,LP.tab (q81 T) rfl rfl (qe9 T l hgd hnd Hin.out) rfl ?_ rfl,rfl⟩,⟨fun b hb=>.inl ?_,⟨hG.out.os,hG.out.tape,hG.out.output,?_,fun i hi hni=>?_⟩⟩⟩
   ·show T.scopes.take q=T.scopes.take (T.scopes.length - 1)
    rw[Hq.out,Nat.add_sub_cancel]
   ·rw[hV] at hb
    rcases List.mem_append.1 hb with h | h
    ·exact List.mem_append_left _ h
    ·refine List.mem_append_right _ ?_
     simp only[List.cons_append,List.nil_append,q4k] at h ⊢
     rcases List.mem_append.1 h with h | h
     ·exact List.mem_append_left _ h
     ·refine List.mem_append_right _ ?_
      rcases List.mem_append.1 h with h | h
      ·exact List.mem_append_left _ h
      ·refine List.mem_append_right _ ?_
       rcases List.mem_append.1 h with h | h
       ·exact List.mem_append_left _ h
       ·exact List.mem_append_right _ ((List.Sublist.filterMap _ (List.take_sublist _ _)).subset h)
   ·have:=hG.out.size
    simp only[World.setCell,Array.size_modify]
    exact this
   ·refine (keep i (fun e=>hni (by rw[e];simp[wo]))).trans (hG.out.block i hi (fun e=>hni ?_))
    rw[Option.some.inj e];simp[wo]
end Y
namespace Y
open Go.RowKit
structure Tab.Ok (T:Tab)(k:Nat):Prop where
 syms:T.syms.length≤512
 labels:T.labels.length≤1024
 scopes:T.scopes.length≤16
 names:∀p ∈ T.syms,gy p.1 3=true
 nodup:(T.syms.map (·.1)).Nodup
 acts:∀n ∈ T.act,n < T.syms.length
 lens:∀l ∈ T.scopes,l.length≤k
 inner:∀l ∈ T.scopes,∀n ∈ l,n < T.syms.length
theorem made_size {s:ByteArray}{k:Int}(h:gy s k=true):s.size≤32:=by
 unfold gy at h
 simp at h
 exact h.1.2
theorem Tab.Ok.sizes {T:Tab}{k:Nat}(h:T.Ok k):∀p ∈ T.syms,p.1.size≤maxLen:=fun p hp=>by
 have:=made_size (h.names p hp)
 unfold maxLen;omega
def ji (T:Tab):Nat × Tab:=if 16≤T.scopes.length then (23,T) else (0,{ T with scopes:=T.scopes++[[]] })
def xg (T:Tab):Nat × Tab:=if T.scopes.length=0 then (23,T) else (0,q81 T)
def q20 (T:Tab)(s:ByteArray)(v:Bool):Nat × Nat × Tab:=if 512≤T.syms.length then (0,22,T) else (T.syms.length,0,q7z (q8z T s v) T.syms.length)
def q02 (T:Tab)(s:ByteArray):Nat × Nat × Tab:=if 0 < T.scopes.length then (0,23,T) else if gy s 3=false then (0,21,T) else if (numOf T.syms s).isSome then (0,20,T) else q20 T s false
def q2v (T:Tab)(s:ByteArray):Nat × Nat × Tab:=if gy s 3=false then (0,21,T) else if (uj T s).isSome then (0,20,T) else match numOf T.syms s with | some n=>(n,0,q7z T n) | none=>q20 T s true
def zh (T:Tab)(s:ByteArray):Nat × Tab:=if gy s 4=false then (21,T) else if (q2a T.labels s).isSome then (20,T) else if 1024≤T.labels.length then (22,T) else (0,labT T s)
theorem TabAt.up {w:World}{bs:List Nat}{B k k':Nat}{T:Tab}(h:TabAt w bs B k T)(hk:k≤k'):TabAt w bs B k' T:=by
 obtain⟨vs,vc,vl,mk,ma,mt,vars,h,e⟩:=h
 exact⟨vs,vc,vl,mk,ma,mt,vars,(h.lies.up hk).tab T rfl rfl rfl rfl rfl rfl,e⟩
theorem TabAt.kept {w w':World}{bs:List Nat}{B k:Nat}{T:Tab}(h:TabAt w bs B k T)(hk:∀b ∈ bs,w'.heap[b]?=w.heap[b]?):TabAt w' bs B k T:=by
 obtain⟨vs,vc,vl,mk,ma,mt,vars,h,rfl⟩:=h
 exact⟨vs,vc,vl,mk,ma,mt,vars,(h.lies.kept hk).tab T rfl rfl rfl rfl rfl rfl,rfl⟩
theorem TabAt.low {w:World}{bs:List Nat}{B k:Nat}{T:Tab}(h:TabAt w bs B k T):∀b ∈ bs,b < w.heap.size:=by
 obtain⟨vs,vc,vl,mk,ma,mt,vars,h,rfl⟩:=h
 exact h.lies.mem
theorem TabAt.below {w w':World}{bs:List Nat}{B k:Nat}{T:Tab}(h:TabAt w bs B k T)(hb:Below w.heap.size w w'):TabAt w' bs B k T:=h.kept fun b hm=>hb.block b (h.low b hm)
theorem TabAt.own {w:World}{bs:List Nat}{B k:Nat}{T:Tab}(h:TabAt w bs B k T):B ∈ bs:=by
 obtain⟨vs,vc,vl,mk,ma,mt,vars,h,rfl⟩:=h
 simp[wo]
def Now (bs:List Nat)(w:World)(B k:Nat)(T':Tab)(w':World):Prop:=∃bs',TabAt w' bs' B (k + 2) T'∧Goes bs w bs' w'
theorem Now.same {bs:List Nat}{w:World}{B k:Nat}{T:Tab}(h:TabAt w bs B k T):Now bs w B k T w:=⟨bs,h.up (by omega),Goes.refl _ _⟩
theorem Now.one {bs:List Nat}{w w':World}{B k:Nat}{T:Tab}(h:∃bs',TabAt w' bs' B (k + 1) T∧Goes bs w bs' w'):Now bs w B k T w':=by
 obtain⟨bs',h,g⟩:=h
 exact⟨bs',h.up (by omega),g⟩
theorem Now.zero {bs:List Nat}{w w':World}{B k:Nat}{T:Tab}(h:∃bs',TabAt w' bs' B k T∧Goes bs w bs' w'):Now bs w B k T w':=by
 obtain⟨bs',h,g⟩:=h
 exact⟨bs',h.up (by omega),g⟩
theorem open_any (w:World)(bs:List Nat)(B k:Nat)(T:Tab)(h:TabAt w bs B k T) :
  Calls Tryz.prog 104 #[.pointer (some ⟨B,0,none⟩)] w fun e w'=>e=.returned (.int .i64 ((ji T).1:Nat))∧Now bs w B k (ji T).2 w':=by
 unfold ji
 by_cases hd:16≤T.scopes.length
 ·rw[if_pos hd]
  refine (qjz w bs B k T h hd).mono ?_
  rintro e w' ⟨rfl,rfl⟩
  exact⟨rfl,Now.same h⟩
 ·rw[if_neg hd]
  refine (qk0 w bs B k T h (by omega)).mono ?_
  rintro e w' ⟨rfl,⟨bs',h1,h2⟩,h3⟩
  exact⟨rfl,Now.zero ⟨bs',h1,h2,h3⟩⟩
theorem close_any (w:World)(bs:List Nat)(B k:Nat)(T:Tab)(hT:T.Ok k)(hk:k < 17592186044414)(h:TabAt w bs B k T) :
  Calls Tryz.prog 106 #[.pointer (some ⟨B,0,none⟩)] w fun e w'=>e=.returned (.int .i64 ((xg T).1:Nat))∧Now bs w B k (xg T).2 w':=by
 unfold xg
 by_cases hd:T.scopes.length=0
 ·rw[if_pos hd]
  refine (qgj w bs B k T h hd).mono ?_
  rintro e w' ⟨rfl,rfl⟩
  exact⟨rfl,Now.same h⟩
 ·rw[if_neg hd]
  refine (close_some w bs B k T hT.nodup hT.sizes hT.syms hk hT.scopes hT.lens hT.inner h (by omega)).mono ?_
  rintro e w' ⟨rfl,hn⟩
  exact⟨rfl,Now.zero hn⟩
theorem q8n (w:World)(bs:List Nat)(B k:Nat)(T:Tab)(s:ByteArray)(v:Bool)(hT:T.Ok k)(hk:k < 17592186044414)(hs:s.size≤281474976710656)(hno:numOf T.syms s=none)(h:TabAt w bs B k T) :
  Calls Tryz.prog 160 #[.pointer (some ⟨B,0,none⟩),.string s,.bool v] w fun e w'=>e=.returned (.tuple #[.int .i64 ((q20 T s v).1:Nat),.int .i64 ((q20 T s v).2.1:Nat)])∧Now bs w B k (q20 T s v).2.2 w':=by
 unfold q20
 by_cases hd:512≤T.syms.length
 ·rw[if_pos hd]
  refine (qct w bs B k T s v hd h).mono ?_
  rintro e w' ⟨rfl,rfl⟩
  exact⟨rfl,Now.same h⟩
 ·rw[if_neg hd]
  exact (qe4 w bs B k T s v hs hT.nodup hno hT.acts (by omega) hk hT.scopes hT.lens h).mono fun e w' ⟨he,hn⟩=>⟨he,hn⟩
theorem qgk (w:World)(bs:List Nat)(B k:Nat)(T:Tab)(s:ByteArray)(hT:T.Ok k)(hk:k < 17592186044414)(hs:s.size≤maxLen)(hKB:KB w)(hn:gy s 3=true)(h:TabAt w bs B k T)(hd:T.scopes.length=0)(ho:numOf T.syms s=none) :
  Calls Tryz.prog 157 #[.pointer (some ⟨B,0,none⟩),.string s] w fun e w'=>e=.returned (.tuple #[.int .i64 ((q20 T s false).1:Nat),.int .i64 ((q20 T s false).2.1:Nat)])∧Now bs w B k (q20 T s false).2.2 w':=by
 have A:=q15 s w hs hKB
 rw[hn] at A
 replace A:=show Hid _ from A
 have h32:=made_size hn
 have D:=q8n w bs B k T s false hT hk (by omega) ho h
 generalize q20 T s false=r at *
 replace D:=show Hid _ from D
 obtain⟨vs,vc,vl,mk,ma,mt,vars,h,_⟩:=h
 obtain⟨a,cap,rfl⟩:=jf h.scopes
 obtain⟨_,c1,_,c3,_⟩:=q0o h.block
 obtain⟨n,_,hm⟩:=h.known
 have hl:=hm.look s hs
 rw[ho] at hl
 replace hl:(Instr.lookup 118 (.map (some mk)) (.string s) true).run Tryz.prog w=.ok (.tuple #[.int .i64 0,.bool false]) w:=hl
 rw[hd] at c3
 clear h hm ho hT
 go_enter Tryz.func157,Tryz.ntmps157
 go_wp2_with fail
 refine Calls.mono A.out ?_
 rintro e w' ⟨rfl,rfl⟩
 go_wp2_with fail
 refine Calls.mono D.out ?_
 rintro e w1 ⟨rfl,hnow⟩
 have Hnow:Hid _:=hnow
 clear hnow D
 go_wp2
 exact bodyPost_ret (v:=.tuple #[.int .i64 (r.1:Nat),.int .i64 (r.2.1:Nat)]) (by simp[results,Tryz.results157,go_sem]) rfl ⟨rfl,Hnow.out⟩
theorem qk9 (w:World)(bs:List Nat)(B k:Nat)(T:Tab)(s:ByteArray)(hT:T.Ok k)(hk:k < 17592186044414)(hs:s.size≤maxLen)(hKB:KB w)(h:TabAt w bs B k T) :
  Calls Tryz.prog 157 #[.pointer (some ⟨B,0,none⟩),.string s] w fun e w'=>e=.returned (.tuple #[.int .i64 ((q02 T s).1:Nat),.int .i64 ((q02 T s).2.1:Nat)])∧Now bs w B k (q02 T s).2.2 w':=by
 have hs':=hs
 unfold q02
 by_cases hd:0 < T.scopes.length
 ·rw[if_pos hd]
  refine (qe6 w bs B k T s h hd).mono ?_
  rintro e w' ⟨rfl,rfl⟩
  exact⟨rfl,Now.same h⟩
 ·rw[if_neg hd]
  by_cases hn:gy s 3=false
  ·rw[if_pos hn]
   refine (qk4 w bs B k T s hs' hKB hn h (by omega)).mono ?_
   rintro e w' ⟨rfl,rfl⟩
   exact⟨rfl,Now.same h⟩
  ·rw[if_neg hn]
   have hn':gy s 3=true:=by simpa using hn
   by_cases ho:(numOf T.syms s).isSome
   ·rw[if_pos ho]
    refine (qe7 w bs B k T s hs' hKB hn' h (by omega) ho).mono ?_
    rintro e w' ⟨rfl,rfl⟩
    exact⟨rfl,Now.same h⟩
   ·rw[if_neg ho]
    exact qgk w bs B k T s hT hk hs hKB hn' h (by omega) (by simpa using ho)
theorem qmq (w:World)(bs:List Nat)(B k:Nat)(T:Tab)(s:ByteArray)(hT:T.Ok k)(hk:k < 17592186044414)(hs:s.size≤maxLen)(hKB:KB w)(hn:gy s 3=true)(h:TabAt w bs B k T)(hd:uj T s=none)(ho:numOf T.syms s=none) :
  Calls Tryz.prog 110 #[.pointer (some ⟨B,0,none⟩),.string s] w fun e w'=>e=.returned (.tuple #[.int .i64 ((q20 T s true).1:Nat),.int .i64 ((q20 T s true).2.1:Nat)])∧Now bs w B k (q20 T s true).2.2 w':=by
 have A:=q15 s w hs hKB
 rw[hn] at A
 replace A:=show Hid _ from A
 have h32:=made_size hn
 have D:=q8n w bs B k T s true hT hk (by omega) ho h
 generalize q20 T s true=r at *
 replace D:=show Hid _ from D
 obtain⟨vs,vc,vl,mk,ma,mt,vars,h,_⟩:=h
 obtain⟨_,c1,c2,_⟩:=q0o h.block
 obtain⟨n,_,hm⟩:=h.known
 have hl:=hm.look s hs
 rw[ho] at hl
 replace hl:(Instr.lookup 118 (.map (some mk)) (.string s) true).run Tryz.prog w=.ok (.tuple #[.int .i64 0,.bool false]) w:=hl
 obtain⟨n2,_,hm2⟩:=h.active
 have hl2:=hm2.look s hs
 rw[hd] at hl2
 replace hl2:(Instr.lookup 118 (.map (some ma)) (.string s) true).run Tryz.prog w=.ok (.tuple #[.int .i64 0,.bool false]) w:=hl2
 clear h hm hm2 ho hd hT
 go_enter Tryz.func110,Tryz.ntmps110
 go_wp2_with fail
 refine Calls.mono A.out ?_
 rintro e w' ⟨rfl,rfl⟩
 go_wp2_with fail
 refine Calls.mono D.out ?_
 rintro e w1 ⟨rfl,hnow⟩
 have Hnow:Hid _:=hnow
 clear hnow D
 go_wp2
 exact bodyPost_ret (v:=.tuple #[.int .i64 (r.1:Nat),.int .i64 (r.2.1:Nat)]) (by simp[results,Tryz.results110,go_sem]) rfl ⟨rfl,Hnow.out⟩
theorem qmr (w:World)(bs:List Nat)(B k:Nat)(T:Tab)(s:ByteArray)(hT:T.Ok k)(hk:k < 17592186044414)(hs:s.size≤maxLen)(hKB:KB w)(hn:gy s 3=true)(h:TabAt w bs B k T)(hd:uj T s=none)(m:Nat)(ho:numOf T.syms s=some m) :
  Calls Tryz.prog 110 #[.pointer (some ⟨B,0,none⟩),.string s] w fun e w'=>e=.returned (.tuple #[.int .i64 m,.int .i64 0])∧Now bs w B k (q7z T m) w':=by
 have A:=q15 s w hs hKB
 rw[hn] at A
 replace A:=show Hid _ from A
 obtain⟨b,hb⟩:=q4v ho
 have D:Hid _:=q76 w bs B k T m (s,b) hT.nodup hb hs hT.syms (by omega) hT.scopes hT.lens h
 obtain⟨vs,vc,vl,mk,ma,mt,vars,h,_⟩:=h
 obtain⟨_,c1,c2,_⟩:=q0o h.block
 obtain⟨n,_,hm⟩:=h.known
 have hl:=hm.look s hs
 rw[ho] at hl
 replace hl:(Instr.lookup 118 (.map (some mk)) (.string s) true).run Tryz.prog w=.ok (.tuple #[.int .i64 m,.bool true]) w:=hl
 obtain⟨n2,_,hm2⟩:=h.active
 have hl2:=hm2.look s hs
 rw[hd] at hl2
 replace hl2:(Instr.lookup 118 (.map (some ma)) (.string s) true).run Tryz.prog w=.ok (.tuple #[.int .i64 0,.bool false]) w:=hl2
 clear h hm hm2 ho hd hT hb
 go_enter Tryz.func110,Tryz.ntmps110
 go_wp2_with fail
 refine Calls.mono A.out ?_
 rintro e w' ⟨rfl,rfl⟩
 go_wp2_with fail
 refine Calls.mono D.out ?_
 rintro e w1 ⟨rfl,hnow⟩
 have Hnow:Hid _:=hnow
 clear hnow D
 go_wp2
 exact bodyPost_ret (v:=.tuple #[.int .i64 m,.int .i64 0]) (by simp[results,Tryz.results110,go_sem]) rfl ⟨rfl,Now.one Hnow.out⟩
theorem var_any (w:World)(bs:List Nat)(B k:Nat)(T:Tab)(s:ByteArray)(hT:T.Ok k)(hk:k < 17592186044414)(hs:s.size≤maxLen)(hKB:KB w)(h:TabAt w bs B k T) :
  Calls Tryz.prog 110 #[.pointer (some ⟨B,0,none⟩),.string s] w fun e w'=>e=.returned (.tuple #[.int .i64 ((q2v T s).1:Nat),.int .i64 ((q2v T s).2.1:Nat)])∧Now bs w B k (q2v T s).2.2 w':=by
 have hs':=hs
 unfold q2v
 by_cases hn:gy s 3=false
 ·rw[if_pos hn]
  refine (var_bad w B s hs' hKB hn).mono ?_
  rintro e w' ⟨rfl,rfl⟩
  exact⟨rfl,Now.same h⟩
 ·rw[if_neg hn]
  have hn':gy s 3=true:=by simpa using hn
  by_cases ho:(uj T s).isSome
  ·rw[if_pos ho]
   refine (qk5 w bs B k T s hs' hKB hn' h ho).mono ?_
   rintro e w' ⟨rfl,rfl⟩
   exact⟨rfl,Now.same h⟩
  ·rw[if_neg ho]
   have ho':uj T s=none:=by simpa using ho
   cases hm:numOf T.syms s with
   | some m=>exact qmr w bs B k T s hT hk hs hKB hn' h ho' m hm
   | none=>exact qmq w bs B k T s hT hk hs hKB hn' h ho' hm
theorem qka (w:World)(bs:List Nat)(B k:Nat)(T:Tab)(s:ByteArray)(hk:k < 17592186044414)(hs:s.size≤maxLen)(hKB:KB w)(h:TabAt w bs B k T) :
  Calls Tryz.prog 103 #[.pointer (some ⟨B,0,none⟩),.string s] w fun e w'=>e=.returned (.int .i64 ((zh T s).1:Nat))∧Now bs w B k (zh T s).2 w':=by
 have hs':=hs
 unfold zh
 by_cases hn:gy s 4=false
 ·rw[if_pos hn]
  refine (qk3 w B s hs' hKB hn).mono ?_
  rintro e w' ⟨rfl,rfl⟩
  exact⟨rfl,Now.same h⟩
 ·rw[if_neg hn]
  have hn':gy s 4=true:=by simpa using hn
  by_cases ho:(q2a T.labels s).isSome
  ·rw[if_pos ho]
   refine (qe5 w bs B k T s hs' hKB hn' h ho).mono ?_
   rintro e w' ⟨rfl,rfl⟩
   exact⟨rfl,Now.same h⟩
  ·rw[if_neg ho]
   by_cases h4:1024≤T.labels.length
   ·rw[if_pos h4]
    refine (qgi w bs B k T s hs' hKB hn' h (by simpa using ho) h4).mono ?_
    rintro e w' ⟨rfl,rfl⟩
    exact⟨rfl,Now.same h⟩
   ·rw[if_neg h4]
    refine (qk7 w bs B k T s (by have:=made_size hn';omega) hKB hn' (by simpa using ho) (by omega) hk h).mono ?_
    rintro e w' ⟨rfl,hn⟩
    exact⟨rfl,Now.one hn⟩
end Y
namespace Y
open Go.RowKit
theorem Tab.Ok.up {T:Tab}{k k':Nat}(h:T.Ok k)(hk:k≤k'):T.Ok k':=⟨h.syms,h.labels,h.scopes,h.names,h.nodup,h.acts,fun l hl=>Nat.le_trans (h.lens l hl) hk,h.inner⟩
theorem ok_open {T:Tab}{k:Nat}(h:T.Ok k):(ji T).2.Ok k:=by
 unfold ji
 split
 ·exact h
 ·refine⟨h.syms,h.labels,by simp;omega,h.names,h.nodup,h.acts,fun l hl=>?_,fun l hl=>?_⟩ <;>
  ·rcases List.mem_append.1 hl with hl | hl
   ·first | exact h.lens l hl | exact h.inner l hl
   ·simp at hl;subst hl;simp
theorem qnh {T:Tab}{k:Nat}(h:T.Ok k):(xg T).2.Ok k:=by
 unfold xg
 split
 ·exact h
 ·exact⟨h.syms,h.labels,by simp[q81];have:=h.scopes;omega,h.names,h.nodup,fun n hn=>h.acts n (List.mem_filter.1 hn).1,fun l hl=>h.lens l (List.mem_of_mem_take hl),fun l hl=>h.inner l (List.mem_of_mem_take hl)⟩
theorem qni {T:Tab}{k n:Nat}(h:T.Ok k)(hn:n < T.syms.length):(q7z T n).Ok (k + 1):=by
 have hd:∀x ∈ T.scopes.getD (T.scopes.length - 1) [],x < T.syms.length:=by
  intro x hx
  rw[List.getD] at hx
  cases e:T.scopes[T.scopes.length - 1]? with
  | none=>rw[e] at hx;simp at hx
  | some l=>rw[e] at hx;exact h.inner l (List.mem_of_getElem? e) x (by simpa using hx)
 have hl:(T.scopes.getD (T.scopes.length - 1) []).length≤k:=by
  rw[List.getD]
  cases e:T.scopes[T.scopes.length - 1]? with
  | none=>simp
  | some l=>exact h.lens l (List.mem_of_getElem? e)
 refine⟨h.syms,h.labels,by simp[q7z];exact h.scopes,h.names,h.nodup,fun m hm=>?_,fun l hl'=>?_,fun l hl' m hm=>?_⟩
 ·rcases List.mem_cons.1 hm with rfl | hm
  ·exact hn
  ·exact h.acts m hm
 ·rcases List.mem_or_eq_of_mem_set hl' with h1 | rfl
  ·exact Nat.le_succ_of_le (h.lens l h1)
  ·simp only[List.length_append,List.length_cons,List.length_nil];omega
 ·rcases List.mem_or_eq_of_mem_set hl' with h1 | rfl
  ·exact h.inner l h1 m hm
  ·rcases List.mem_append.1 hm with h1 | h1
   ·exact hd m h1
   ·simp at h1;subst h1;exact hn
theorem qkx {l:List (ByteArray × Bool)}{s:ByteArray}{v:Bool}(hnd:(l.map (·.1)).Nodup)(hno:numOf l s=none):((l++[(s,v)]).map (·.1)).Nodup:=by
 rw[List.map_append]
 refine List.nodup_append.2 ⟨hnd,by simp,fun x hx y hy=>?_⟩
 simp only[List.map_cons,List.map_nil,List.mem_cons,List.not_mem_nil,or_false] at hy
 subst hy
 rintro rfl
 obtain⟨q,hq,e⟩:=List.mem_map.1 hx
 unfold numOf at hno
 rw[List.findIdx?_eq_none_iff] at hno
 have:=hno q hq
 simp[e] at this
theorem ok_add {T:Tab}{k:Nat}{s:ByteArray}{v:Bool}(h:T.Ok k)(hno:numOf T.syms s=none)(hs:gy s 3=true)(hl:T.syms.length < 512):(q8z T s v).Ok k:=by
 refine⟨by simp[q8z];omega,h.labels,h.scopes,fun p hp=>?_,qkx h.nodup hno,fun n hn=>?_,h.lens,fun l hl' n hn=>?_⟩
 ·rcases List.mem_append.1 hp with hp | hp
  ·exact h.names p hp
  ·simp at hp;subst hp;exact hs
 ·have:=h.acts n hn
  simp[q8z];omega
 ·have:=h.inner l hl' n hn
  simp[q8z];omega
theorem qir {T:Tab}{k:Nat}{s:ByteArray}{v:Bool}(h:T.Ok k)(hno:numOf T.syms s=none)(hs:gy s 3=true):(q20 T s v).2.2.Ok (k + 2):=by
 unfold q20
 split
 ·exact h.up (by omega)
 ·exact (qni (ok_add (v:=v) h hno hs (by omega)) (by simp[q8z])).up (by omega)
theorem qf5 {T:Tab}{k:Nat}(s:ByteArray)(h:T.Ok k):(q02 T s).2.2.Ok (k + 2):=by
 unfold q02
 split
 ·exact h.up (by omega)
 ·split
  ·exact h.up (by omega)
  ·split
   ·exact h.up (by omega)
   ·exact qir h (by simpa using ‹¬(numOf T.syms s).isSome=true›) (by simpa using ‹¬gy s 3=false›)
theorem qnj {T:Tab}{k:Nat}(s:ByteArray)(h:T.Ok k):(q2v T s).2.2.Ok (k + 2):=by
 unfold q2v
 split
 ·exact h.up (by omega)
 ·split
  ·exact h.up (by omega)
  ·split
   ·rename_i m hm
    obtain⟨b,hb⟩:=q4v hm
    exact (qni h (List.getElem?_eq_some_iff.1 hb).1).up (by omega)
   ·exact qir h (by assumption) (by simpa using ‹¬gy s 3=false›)
theorem qnk {T:Tab}{k:Nat}(s:ByteArray)(h:T.Ok k):(zh T s).2.Ok k:=by
 unfold zh
 split
 ·exact h
 ·split
  ·exact h
  ·split
   ·exact h
   ·exact⟨h.syms,by simp[labT];omega,h.scopes,h.names,h.nodup,h.acts,h.lens,h.inner⟩
theorem KB.kept {w w':World}(h:KB w)(hb:w'.heap[1]?=w.heap[1]?):KB w':=fun i hi=>(World.cell?_of_block (a:=⟨1,i,none⟩) hb).trans (h i hi)
theorem KB.pos {w:World}(h:KB w):1 < w.heap.size:=World.block_lt_of_cell? _ _ (h 0 (by omega))
theorem KB.below {N:Nat}{w w':World}(h:KB w)(hb:Below N w w')(hN:1 < N):KB w':=h.kept (hb.block 1 hN)
end Y
end Go.Proofs.YtbancemhfjjmlaaGreatDoor
