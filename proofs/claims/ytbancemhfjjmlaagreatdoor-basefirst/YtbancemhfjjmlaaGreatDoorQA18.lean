/- Laid together: BPlaces, BAssL. -/
import Derived.Test.YtbancemhfjjmlaaGreatDoorQA16
import Derived.Test.YtbancemhfjjmlaaGreatDoorQA17
set_option maxRecDepth 100000
set_option maxHeartbeats 32000000
namespace Go.Proofs.YtbancemhfjjmlaaGreatDoor
namespace B
open Go.RowKit Go.Maps Go.WideMaps
open S (Tok Stm)
theorem map_get {W:World}{b n:Nat}{f:ByteArray→Option Nat}(h:Y.jd W b n f)(s:ByteArray)(hs:s.size≤maxLen) :
  (Instr.lookup 118 (.map (some b)) (.string s) false).run Tryz.prog W=.ok (.int .i64 ((f s).getD 0:Nat)) W:=by
 obtain⟨D,hown,hf⟩:=h
 obtain⟨v,ps,hrun,hv⟩:=hown.lookup Y.qmm Tryz.underlying118 (Y.zero3 W) (plainElem_int (H:=Unit) Tryz.underlying3 (by decide)) (Y.q95 hs)
 obtain⟨c,rfl,hc,_⟩:=plainElem_int_inv Tryz.underlying3 hv
 have h1:D.atKey (Y.q73 s) Y.qmn=.lit (.int .i64 c):=congrArg Prod.fst hc
 rw[(hf s).2] at h1
 have e:(((f s).getD 0:Nat):Int)=c:=by simpa using h1
 rw[hrun,e]
section
variable {N:Nat} {w:World} {lb:Nat} {txt:ByteArray} {k:Nat} {L:Ld} {nf:ByteArray→Option Nat} {m:LdM}
theorem q7h {Bb0 hb0:Nat}{hy0:List F.Hy}(hmm:∃n,n≤k∧Y.jd w hb0 n (q25 hy0))(hb4:w.cell? ⟨Bb0,4,none⟩=some (.map (some hb0)))(N1:Nat)(v:Value)(ts:List F.HyC)(ho:w.ownsRow N1 57 4 v ts.length (F.yx ts))(hn:ts.length≤1048576)(HV0:∀y ∈ ts,∃a n c,y.ve=.slice a n c)(hz:∀y ∈ ts,y.h.lab.size≤maxLen) :
  Calls Tryz.prog 174 #[.pointer (some ⟨Bb0,0,none⟩),v] w fun e w'=>Below w.heap.size w w'∧∃v',e=.returned v'∧w'.ownsRow w.heap.size 3 1 v' ts.length (F.zy (ts.map fun y=>q03 hy0 y.h)):=by
 obtain⟨iN,hiN,iNz,iNs,iNb⟩:=info_parts F.q83
 obtain⟨a,c,rfl,_,hcells⟩:=S.M.zx ho
 obtain⟨n,hnn⟩:∃n,ts.length=n:=⟨_,rfl⟩
 have HL:Hid (ts.length=n):=hnn
 have HC:Hid (∀(j:Nat) (y:F.HyC),ts[j]?=some y→∃g,a=some ⟨g,0,none⟩∧w.cell? ⟨g,j * 4,none⟩=some (.string y.h.lab)∧w.cell? ⟨g,j * 4 + 1,none⟩=some (.bool y.h.fl)∧w.cell? ⟨g,j * 4 + 2,none⟩=some (.int .i64 y.h.var)∧w.cell? ⟨g,j * 4 + 3,none⟩=some y.ve):=fun j y hy=>by
  have q:=fun i hi=>F.q9z ts j i y hy hi
  obtain⟨g,e0,h0⟩:=hcells (j * 4 + 0) _ ((q 0 (by omega)).trans rfl)
  obtain⟨g1,e1,h1⟩:=hcells (j * 4 + 1) _ ((q 1 (by omega)).trans rfl)
  obtain⟨g2,e2,h2⟩:=hcells (j * 4 + 2) _ ((q 2 (by omega)).trans rfl)
  obtain⟨g3,e3,h3⟩:=hcells (j * 4 + 3) _ ((q 3 (by omega)).trans rfl)
  cases e0
  cases e1
  cases e2
  cases e3
  exact⟨g,rfl,h0,h1,h2,h3⟩
 have HV:Hid (∀y ∈ ts,∃a n c,y.ve=.slice a n c):=fun y hy=>HV0 y hy
 have HZ:Hid (∀y ∈ ts,y.h.lab.size≤maxLen):=hz
 obtain⟨nm1,hn1,hm⟩:=hmm
 have HM:Hid (Y.jd w hb0 nm1 (q25 hy0)):=hm
 have b4:w.cell? ⟨Bb0,4,none⟩=some (.map (some hb0)):=hb4
 have HB4:Hid (w.cell? ⟨Bb0,4,none⟩=some (.map (some hb0))):=b4
 obtain⟨N0,hN⟩:∃N,w.heap.size=N:=⟨_,rfl⟩
 have HN:Hid (w.heap.size=N0):=hN
 rw[hnn] at hn
 rw[hN,hnn]
 generalize Bb0=Bb at *
 generalize hb0=hb at *
 generalize hhy:hy0=hy at *
 clear hb4 ho hnn hcells hz hm hN b4 hhy
 go_enter Tryz.func174,Tryz.ntmps174
 obtain⟨wm,hmk,hom,hgm⟩:=run_make_own (P:=Tryz.prog) w N0 38 3 iN _ 1 Tryz.underlying38 hiN iNz iNs .i64 .i64 n (by rw[iNb];omega) (by unfold maxLen;omega) (Nat.le_of_eq HN.out.symm)
 have BM:Hid (Below N0 w wm):=(Below.refl N0 w).grown hgm (Nat.le_of_eq HN.out.symm) (fun g e=>by cases e)
 have OM:Hid (wm.ownsRow N0 3 1 (.slice (some ⟨w.heap.size,0,none⟩) 0 n) 0 []):=hom
 clear hom hgm
 go_wp2_with fail
 clear hmk
 go_loopw [5,13] (fun v5 v13 wx=>∃j:Nat,j≤n∧v13=.int .i64 j∧Hid (wx.ownsRow N0 3 1 v5 j (F.zy ((ts.take j).map fun y=>q03 hy y.h)))∧Hid (Below N0 w wx)) (fun _ v13 _=>n - (intOf v13).toNat)
 case atStart=>exact⟨0,Nat.zero_le _,rfl,OM.out,BM.out⟩
 case round =>
  clear OM BM
  obtain⟨j,hj,rfl,hO,HB⟩:=hrel
  have HNr:Hid (N0≤wr.heap.size):=by have h1:=HB.out.size;have h2:=HN.out;show N0≤_;omega
  by_cases hlt:j < n
  ·have n1:(j:Int) < (n:Int):=by omega
   obtain⟨y,hy1⟩:∃y,ts[j]?=some y:=⟨_,List.getElem?_eq_getElem (by rw[HL.out];exact hlt)⟩
   obtain⟨g,rfl,y0,y1,y2,y3⟩:=HC.out j y hy1
   obtain⟨ae,ne,ce,he⟩:=HV.out y (List.mem_of_getElem? hy1)
   have hlab:=HZ.out y (List.mem_of_getElem? hy1)
   rw[he] at y3
   have HF:Hid (F.zy ((ts.take (j + 1)).map fun y=>q03 hy y.h)=F.zy ((ts.take j).map fun y=>q03 hy y.h)++[.int .i64 (q03 hy y.h)]):=by
    show _=_
    rw[List.take_add_one,hy1,Option.toList_some,List.map_append,F.q2d]
    rfl
   replace y0:=yu y0 HN.out HB.out
   replace y1:=yu y1 HN.out HB.out
   replace y2:=yu y2 HN.out HB.out
   replace y3:=yu y3 HN.out HB.out
   have hlt1:=(map_lt HM.out).1
   have hmr:Y.jd wr hb nm1 (q25 hy):=HM.out.kept (HB.out.block hb (by rw[←HN.out];exact hlt1))
   have bA:Below wr.heap.size wr (wr.alloc (.cells #[.string y.h.lab,.bool y.h.fl,.int .i64 y.h.var,.slice ae ne ce] 57)):=S.qg _ _
   have hlk:(Instr.lookup 118 (.map (some hb)) (.string y.h.lab) false).run Tryz.prog (wr.alloc (.cells #[.string y.h.lab,.bool y.h.fl,.int .i64 y.h.var,.slice ae ne ce] 57)).drew=.ok (.int .i64 (q03 hy y.h)) (wr.alloc (.cells #[.string y.h.lab,.bool y.h.fl,.int .i64 y.h.var,.slice ae ne ce] 57)).drew:=map_get (hmr.kept ((show (wr.alloc (.cells #[.string y.h.lab,.bool y.h.fl,.int .i64 y.h.var,.slice ae ne ce] 57)).drew.heap[hb]?=wr.heap[hb]? from bA.block hb (map_lt hmr).1))) y.h.lab hlab
   have b4:=yt (yu HB4.out HN.out HB.out) bA
   have OA:Hid ((wr.alloc (.cells #[.string y.h.lab,.bool y.h.fl,.int .i64 y.h.var,.slice ae ne ce] 57)).ownsRow N0 3 1 u5 j (F.zy ((ts.take j).map fun y=>q03 hy y.h))):=S.M.zk hO.out _
   have BA:Hid (Below N0 w (wr.alloc (.cells #[.string y.h.lab,.bool y.h.fl,.int .i64 y.h.var,.slice ae ne ce] 57))):=HB.out.trans (bA.mono HNr.out)
   have SA:Hid (N0≤(wr.alloc (.cells #[.string y.h.lab,.bool y.h.fl,.int .i64 y.h.var,.slice ae ne ce] 57)).heap.size):=Nat.le_trans HNr.out bA.size
   obtain⟨wa,hwa⟩:∃wa,wa=wr.alloc (.cells #[.string y.h.lab,.bool y.h.fl,.int .i64 y.h.var,.slice ae ne ce] 57):=⟨_,rfl⟩
   have z0:wa.cell? ⟨wr.heap.size,0,none⟩=some (.string y.h.lab):=by rw[hwa];exact (World.cell?_alloc_new wr _ 57 0).trans rfl
   rw[←hwa] at hlk b4 OA BA SA
   have n0:(0:Int)≤(j:Int):=by omega
   generalize hpl:q03 hy y.h=pl at *
   clear hy1 he hlab hmr bA hlt1 hO HB hpl
   go_upto_region 5 with fail
   rw[←hwa]
   clear hwa
   go_region_law (refine step_append_lies _ (by rfl) _ _ _ (by rfl) N0 3 iN _ 1 8 Tryz.underlying38 hiN iNz iNs iNb rfl (by omega) _ j (F.zy ((ts.take j).map fun y=>q03 hy y.h)) (by rfl) (by exact (S.M.zk OA.out _)) ⟨wa.heap.size,0,none⟩ 1 1 [.int .i64 pl] (by rfl) (by rfl) (World.news_of_block (cs:=#[.int .i64 pl]) (t:=3) (fr:=(0,0)) (World.alloc_heap_new wa _)) (by simp[Value.oneCell']) (by omega) (by unfold maxLen;omega) (by omega) (by have:=SA.out;simp;omega) (wa.heap.size + 1) (by simp) ?_;intro gg cap' w8 hown8 hgrow hat hlt8;have O8:Hid (w8.ownsRow N0 3 1 (.slice (some ⟨gg,0,none⟩) (j + 1) cap') (j + 1) (F.zy ((ts.take (j + 1)).map fun y=>q03 hy y.h))):=(by show World.ownsRow _ _ _ _ _ _ _;rw[HF.out];exact hown8);have B8:Hid (Below N0 w w8):=BA.out.trans (((Below.refl _ wa).alloc SA.out (.cells #[.int .i64 pl] 3)).trans ((Below.refl _ _).grown (show (wa.alloc (.cells #[.int .i64 pl] 3)).grownBy w8 _ from ⟨hgrow.os,hgrow.tape,hgrow.output,hgrow.size,hgrow.block⟩) (Nat.le_trans SA.out (S.qg wa _).size) (S.M.zf OA.out)));clear hown8 hgrow hat hlt8)
   all_goals go_wp2
   all_goals exact⟨⟨j + 1,by omega,by go_num,O8.out,B8.out⟩,by simp[intOf];omega⟩
  ·have n1:¬(j:Int) < (n:Int):=by omega
   have hje:j=n:=by omega
   subst hje
   have hO2:Hid (wr.ownsRow N0 3 1 u5 j (F.zy (ts.map fun y=>q03 hy y.h))):=by have h:=hO.out;rw[List.take_of_length_le (Nat.le_of_eq HL.out)] at h;exact h
   obtain⟨a5,c5,rfl,_⟩:=S.M.zx hO.out
   clear hO
   go_wp2
   go_ret
   exact⟨HB.out,_,rfl,hO2.out⟩
end
end B
namespace B
open Go.RowKit
open S (Tok Stm)
theorem qhd (l:List AsC)(y:AsC):q4d (l++[y])=q4d l++asC y:=by unfold q4d;rw[List.flatMap_append];simp
theorem ql0 {al:List As}{a:As}(hn:q33 al a.label.text=none):(fun t=>if t=a.label.text then some al.length else q33 al t)=q33 (al++[a]):=by
 funext t
 unfold q33 at hn ⊢
 rw[List.findIdx?_append]
 by_cases e:t=a.label.text
 ·subst e
  rw[if_pos rfl,hn]
  simp[List.findIdx?_cons]
 ·rw[if_neg e]
  have e2:¬a.label.text=t:=fun e'=>e e'.symm
  cases hc:al.findIdx? (fun x=>decide (x.label.text=t)) with
  | some i=>simp
  | none=>simp[List.findIdx?_cons,e2]
section
variable {N:Nat} {w W8:World} {lb:Nat} {txt:ByteArray} {k k':Nat} {L:Ld} {nf:ByteArray→Option Nat} {m:LdM}
theorem zq.asserted {va':Value} {y:AsC} (h:zq N w lb txt k L nf m) (hk:k≤k') (hm:∃n,n≤k'∧Y.jd W8 m.ab n (q33 (L.al++[y.a]))) (hr:W8.ownsRow N 123 15 va' (m.ax.length + 1) (q4d (m.ax++[y])))
  (hx:W8.heap[m.Bb]?=some (.cells #[.string txt,.pointer (some ⟨m.tq,0,none⟩),.map (some m.nb),m.vh,.map (some m.hb),va',.map (some m.ab)] 121 (0,0)))
  (hc:S.M.Ch (fun b=>b=m.ab∨b=m.Bb∨m.va.ownBlock=some b) w W8) (hl:∀b,va'.ownBlock=some b→m.va.ownBlock=some b∨w.heap.size≤b) (hy:q93 N W8 y) (hyb:∀b,qf2 y b→¬m.hot b):Goes N w lb txt m k' { L with al:=L.al++[y.a] } nf W8:=by
 have hN:=h.ge
 have hq:∀b,(b=m.ab∨b=m.Bb∨m.va.ownBlock=some b)→m.q b:=fun b hb=>by
  rcases hb with e | e | e
  ·exact .inr (.inr (.inr (.inl e)))
  ·exact .inl e
  ·exact .inr (.inr (.inr (.inr (.inr e))))
 have hC:S.M.Ch m.hot w W8:=hc.mono fun b hb=>.inr (.inr (hq b hb))
 have hot:∀b,LdM.hot { m with va:=va',ax:=m.ax++[y] } b→m.hot b∨va'.ownBlock=some b:=fun b hb=>by
  rcases hb with hb | hb | hb | hb | hb | hb | hb | hb
  ·exact .inl (.inl hb)
  ·exact .inl (.inr (.inl hb))
  ·exact .inl (.inr (.inr (.inl hb)))
  ·exact .inl (.inr (.inr (.inr (.inl hb))))
  ·exact .inl (.inr (.inr (.inr (.inr (.inl hb)))))
  ·exact .inl (.inr (.inr (.inr (.inr (.inr (.inl hb))))))
  ·exact .inl (.inr (.inr (.inr (.inr (.inr (.inr (.inl hb)))))))
  ·exact .inr hb
 have hot2:∀b,LdM.hot { m with va:=va',ax:=m.ax++[y] } b→m.hot b∨w.heap.size≤b:=fun b hb=>(hot b hb).elim .inl fun e=>(hl b e).imp (fun e=>.inr (.inr (.inr (.inr (.inr (.inr (.inr e))))))) id
 have no:∀b,b < w.heap.size→¬m.hot b→¬LdM.hot { m with va:=va',ax:=m.ax++[y] } b:=fun b hb hn hh=>(hot2 b hh).elim hn fun e=>by omega
 have nc:∀{v:Value} {base e size n:Nat} {xs:List Value},w.ownsRow base e size v n xs→e=57→∀b,v.ownBlock=some b→¬(b=m.ab∨b=m.Bb∨m.va.ownBlock=some b):=fun ho he b eb e=>by
  obtain⟨cs,hcs⟩:=F.yw ho eb
  subst he
  rcases e with rfl | rfl | e
  ·obtain⟨es,ck,h2⟩:=(map_lt h.asm.choose_spec.2).2
   rw[h2] at hcs
   cases hcs
  ·rw[h.bbox] at hcs
   cases hcs
  ·obtain⟨cs2,h2⟩:=F.yw h.asr e
   rw[h2] at hcs
   cases hcs
 have nm:∀b:Nat,(∃n,n≤k∧∃f,Y.jd w b n f)→b≠m.ab→¬(b=m.ab∨b=m.Bb∨m.va.ownBlock=some b):=fun b hb hne e=>by
  obtain⟨n,_,f,hb⟩:=hb
  obtain⟨_,es,ck,h2⟩:=map_lt hb
  rcases e with e | rfl | e
  ·exact hne e
  ·rw[h.bbox] at h2
   cases h2
  ·obtain⟨cs2,h3⟩:=F.yw h.asr e
   rw[h2] at h3
   cases h3
 have hcold:=h.cold.ch (m':=m) hC rfl rfl rfl rfl rfl fun _=>.inl
 have ny:∀b,qf2 y b→va'.ownBlock≠some b:=fun b hb e=>by
  rcases hb with e1 | e1 | e1 | e1 | e1 | e1
  ·exact F.uf hr hy.g (by decide) b e e1
  ·exact F.uf hr hy.n (by decide) b e e1
  ·exact F.uf hr hy.p (by decide) b e e1
  ·exact F.uf hr hy.a (by decide) b e e1
  ·exact F.uf hr hy.q (by decide) b e e1
  ·exact F.uf hr hy.f (by decide) b e e1
 refine⟨hC,{ m with va:=va',ax:=m.ax++[y] },?_,hot2⟩
 refine⟨⟨hcold.lbox,no lb (Array.getElem?_eq_some_iff.1 h.cold.lbox).1 h.cold.lh,fun z hz=>?_,fun x hx=>?_⟩,hx,(qab h.tab hc fun b hb e=>(h.qa b (hq b e)).1 hb).up hk,qaa h.stk hc (fun b hb e=>(h.qa b (hq b e)).2 hb),h.sca,q3e (q1f h.num hc (nm _ (h.num.imp fun n hn=>⟨hn.1,_,hn.2⟩) h.ne.2.1)) hk,S.M.qh h.hyr hc (fun b eb=>nc h.hyr rfl b eb),h.hya,q3e (q1f h.hym hc (nm _ (h.hym.imp fun n hn=>⟨hn.1,_,hn.2⟩) h.ne.2.2)) hk,?_,?_,hm,h.ta,fun b hb=>?_,h.ne,fun b hb=>?_,Nat.le_trans hN hc.size⟩
 ·obtain⟨h1,h2⟩:=h.cold.e z hz
  exact⟨S.M.qh h1 hC h2,fun b eb=>no b (S.M.jl h1 b eb) (h2 b eb)⟩
 ·rcases List.mem_append.1 hx with hx | hx
  ·obtain⟨h1,h2⟩:=h.cold.a x hx
   exact⟨h1.ch hC h2,fun b eb=>no b (h1.lt b eb) (h2 b eb)⟩
  ·rw[List.mem_singleton.1 hx]
   exact⟨hy,fun b eb hh=>(hot b hh).elim (hyb b eb) (ny b eb)⟩
 ·show W8.ownsRow N 123 15 va' (m.ax++[y]).length _
  rw[List.length_append]
  exact hr
 ·show (m.ax++[y]).map (·.a)=L.al++[y.a]
  rw[List.map_append,h.asa]
  rfl
 ·by_cases hq2:m.q b
  ·exact h.qa b hq2
  ·have hb2:va'.ownBlock=some b:=by
    rcases hb with hb | hb | hb | hb | hb | hb
    ·exact absurd (.inl hb) hq2
    ·exact absurd (.inr (.inl hb)) hq2
    ·exact absurd (.inr (.inr (.inl hb))) hq2
    ·exact absurd (.inr (.inr (.inr (.inl hb)))) hq2
    ·exact absurd (.inr (.inr (.inr (.inr (.inl hb))))) hq2
    ·exact hb
   have hge:=(hl b hb2).resolve_left fun e=>hq2 (.inr (.inr (.inr (.inr (.inr e)))))
   exact⟨fun hb3=>by have:=h.tab.low b hb3;omega,fun hb3=>by have:=h.stk.lt b hb3;omega⟩
 ·exact (hot2 b hb).elim (h.low b) fun h2=>by omega
theorem count_any (h:zq N w lb txt k L nf m):Calls Tryz.prog 15 #[.pointer (some ⟨m.Bb,0,none⟩)] w fun e w'=>e=.returned (.int .i64 L.al.length)∧w'=w:=by
 obtain⟨a,c,hv,_⟩:=S.M.zx h.asr
 have b5:w.cell? ⟨m.Bb,5,none⟩=some m.va:=S.M.qc h.bbox 5
 have hl:m.ax.length=L.al.length:=by rw[←h.asa,List.length_map]
 rw[hv,hl] at b5
 clear h hv
 go_enter Tryz.func15,Tryz.ntmps15
 go_wp2
 go_ret
 exact⟨rfl,rfl⟩
theorem infoAs:(Tryz.prog.info? 123).map (fun i=>(i.zero,i.size,i.bytes))=some (some (.agg #[.string ⟨#[]⟩,.int .i64 0,.int .i64 0,.int .i64 0,.bool false,.slice none 0 0,.slice none 0 0,.slice none 0 0,.slice none 0 0,.slice none 0 0,.slice none 0 0,.string ⟨#[]⟩,.int .i64 0,.int .i64 0,.int .i64 0]),15,232):=by kernel_rfl
theorem qit {N1:Nat}{W:World}{v:Value}{ts:List F.HyC}(h:F.jr N1 W v ts):∀y ∈ ts,∃a n c,y.ve=.slice a n c:=fun y hy=>by
 obtain⟨a,c,e,_⟩:=S.M.zx (h.e y hy)
 exact⟨a,_,c,e⟩
end
end B
end Go.Proofs.YtbancemhfjjmlaaGreatDoor
