/- Laid together. -/
import Derived.Test.YtbancemhfjjmlaaGreatDoorQB09
set_option maxRecDepth 100000
set_option maxHeartbeats 32000000
namespace Go.Proofs.YtbancemhfjjmlaaGreatDoor
namespace B
open Go.RowKit
open S (Tok Stm)
theorem qjc (l:List F.HyC)(y:F.HyC):F.uf (l++[y])=F.uf l++F.hyC y:=by unfold F.uf;rw[List.flatMap_append];simp
theorem qnd {hy:List F.Hy}{h:F.Hy}(hn:q1p hy h.lab=none):(fun t=>if t=h.lab then some hy.length else q1p hy t)=q1p (hy++[h]):=by
 funext t
 unfold q1p at hn ⊢;rw[List.findIdx?_append]
 by_cases e:t=h.lab
 ·subst e;rw[if_pos rfl,hn];simp[List.findIdx?_cons]
 ·rw[if_neg e];have e2:¬h.lab=t:=fun e'=>e e'.symm
  cases hc:hy.findIdx? (fun x=>decide (x.lab=t)) with
  | some i=>simp
  | none=>simp[List.findIdx?_cons,e2]
section
variable {N:Nat} {w W8:World} {lb:Nat} {txt:ByteArray} {k k':Nat} {L:Ld} {nf:ByteArray→Option Nat} {m:LdM}
theorem xg.kept {vh':Value} {y:F.HyC} (h:xg N w lb txt k L nf m) (hk:k≤k') (hm:∃n,n≤k'∧Y.jg W8 m.hb n (q1p (L.hy++[y.h]))) (hr:W8.ownsRow N 57 4 vh' (m.hs.length + 1) (F.uf (m.hs++[y])))
  (hx:W8.heap[m.Bb]?=some (.cells #[.string txt,.pointer (some ⟨m.tq,0,none⟩),.map (some m.nb),vh',.map (some m.hb),m.va,.map (some m.ab)] 121 (0,0)))
  (hc:S.M.Ch (fun b=>b=m.hb∨b=m.Bb∨m.vh.ownBlock=some b) w W8) (hl:∀b,vh'.ownBlock=some b→m.vh.ownBlock=some b∨w.heap.size≤b) (hy:w.ownsRow N 3 1 y.ve y.h.ex.length (F.xw y.h.ex)) (hyb:∀b,y.ve.ownBlock=some b→¬m.hot b):Goes N w lb txt m k' { L with hy:=L.hy++[y.h] } nf W8:=by
 have hN:=h.ge;have hq:∀b,(b=m.hb∨b=m.Bb∨m.vh.ownBlock=some b)→m.q b:=fun b hb=>by
  rcases hb with e | e | e
  ·exact .inr (.inr (.inl e))
  ·exact .inl e
  ·exact .inr (.inr (.inr (.inr (.inl e))))
 have hC:S.M.Ch m.hot w W8:=hc.mono fun b hb=>.inr (.inr (hq b hb))
 have hot:∀b,LdM.hot { m with vh:=vh',hs:=m.hs++[y] } b→m.hot b∨w.heap.size≤b:=fun b hb=>by
  rcases hb with hb | hb | hb | hb | hb | hb | hb | hb
  ·exact .inl (.inl hb)
  ·exact .inl (.inr (.inl hb))
  ·exact .inl (.inr (.inr (.inl hb)))
  ·exact .inl (.inr (.inr (.inr (.inl hb))))
  ·exact .inl (.inr (.inr (.inr (.inr (.inl hb)))))
  ·exact .inl (.inr (.inr (.inr (.inr (.inr (.inl hb))))))
  ·exact (hl b hb).imp (fun e=>.inr (.inr (.inr (.inr (.inr (.inr (.inl e))))))) id
  ·exact .inl (.inr (.inr (.inr (.inr (.inr (.inr (.inr hb)))))))
 have no:∀b,b < w.heap.size→¬m.hot b→¬LdM.hot { m with vh:=vh',hs:=m.hs++[y] } b:=fun b hb hn hh=>(hot b hh).elim hn fun e=>by omega
 obtain⟨es,ck,hmap⟩:=(map_lt hm.choose_spec.2).2;have nc:∀{v:Value} {base e size n:Nat} {xs:List Value},w.ownsRow base e size v n xs→e=123→∀b,v.ownBlock=some b→¬(b=m.hb∨b=m.Bb∨m.vh.ownBlock=some b):=fun ho he b eb e=>by
  obtain⟨cs,hcs⟩:=F.um ho eb;subst he;rcases e with rfl | rfl | e
  ·obtain⟨es,ck,h2⟩:=(map_lt h.hym.choose_spec.2).2;rw[h2] at hcs
   cases hcs
  ·rw[h.bbox] at hcs
   cases hcs
  ·obtain⟨cs2,h2⟩:=F.um h.hyr e;rw[h2] at hcs
   cases hcs
 have nm:∀(b x:Nat),(∃n,n≤k∧∃f,Y.jg w b n f)→b≠m.hb→¬(b=m.hb∨b=m.Bb∨m.vh.ownBlock=some b):=fun b _ hb hne e=>by
  obtain⟨n,_,f,hb⟩:=hb;obtain⟨_,es,ck,h2⟩:=map_lt hb;rcases e with e | rfl | e
  ·exact hne e
  ·rw[h.bbox] at h2
   cases h2
  ·obtain⟨cs2,h3⟩:=F.um h.hyr e;rw[h2] at h3
   cases h3
 have hcold:=h.cold.ch (m':=m) hC rfl rfl rfl rfl rfl fun _=>.inl
 refine⟨hC,{ m with vh:=vh',hs:=m.hs++[y] },?_,hot⟩;refine⟨⟨hcold.lbox,no lb (aIx h.cold.lbox) h.cold.lh,fun z hz=>?_,fun x hx=>?_⟩,hx,(qbp h.tab hc fun b hb e=>(h.qa b (hq b e)).1 hb).up hk,qbo h.stk hc (fun b hb e=>(h.qa b (hq b e)).2 hb),h.sca,q40 (q1q h.num hc (nm _ 0 (h.num.imp fun n hn=>⟨hn.1,_,hn.2⟩) h.ne.1)) hk,?_,?_,hm,S.M.qh h.asr hc (fun b eb=>nc h.asr rfl b eb),h.asa,q40 (q1q h.asm hc (nm _ 0 (h.asm.imp fun n hn=>⟨hn.1,_,hn.2⟩) (fun e=>h.ne.2.2 e.symm))) hk,h.ta,fun b hb=>?_,h.ne,fun b hb=>?_,nLt hN hc.size⟩
 ·rcases mAp.1 hz with hz | hz
  ·obtain⟨h1,h2⟩:=h.cold.e z hz;exact⟨S.M.qh h1 hC h2,fun b eb=>no b (S.M.jr h1 b eb) (h2 b eb)⟩
  ·rw[mSg.1 hz];exact⟨S.M.qh hy hC hyb,fun b eb=>no b (S.M.jr hy b eb) (hyb b eb)⟩
 ·obtain⟨h1,h2⟩:=h.cold.a x hx;exact⟨h1.ch hC h2,fun b eb=>no b (h1.lt b eb) (h2 b eb)⟩
 ·show W8.ownsRow N 57 4 vh' (m.hs++[y]).length _
  rw[lAp];exact hr
 ·show (m.hs++[y]).map (·.h)=L.hy++[y.h]
  rw[List.map_append,h.hya]
  rfl
 ·by_cases hq2:m.q b
  ·exact h.qa b hq2
  ·have hb2:vh'.ownBlock=some b:=by
    rcases hb with hb | hb | hb | hb | hb | hb
    ·exact absurd (.inl hb) hq2
    ·exact absurd (.inr (.inl hb)) hq2
    ·exact absurd (.inr (.inr (.inl hb))) hq2
    ·exact absurd (.inr (.inr (.inr (.inl hb)))) hq2
    ·exact hb
    ·exact absurd (.inr (.inr (.inr (.inr (.inr hb))))) hq2
   have hge:=(hl b hb2).resolve_left fun e=>hq2 (.inr (.inr (.inr (.inr (.inl e)))))
   exact⟨fun hb3=>by have:=h.tab.low b hb3;omega,fun hb3=>by have:=h.stk.lt b hb3;omega⟩
 ·exact (hot b hb).elim (h.low b) fun h2=>by omega
theorem keep_any (h:xg N w lb txt k L nf m)(hy:F.Hy)(a:Option Addr)(c:Nat)(hh:L.hy.length≤1048576)(hk:k < 17592186044414)(hl:hy.lab.size≤281474976710656)(hn:q1p L.hy hy.lab=none)(ho:w.ownsRow N 3 1 (.slice a hy.ex.length c) hy.ex.length (F.xw hy.ex))(hob:∀b,(Value.slice a hy.ex.length c).ownBlock=some b→¬m.hot b) :
  Calls Tryz.prog 170 #[.pointer (some ⟨lb,0,none⟩),.agg #[.string hy.lab,.bool hy.fl,.int .i64 hy.var,.slice a hy.ex.length c]] w fun e w'=>e=.returned (.tuple #[])∧Goes N w lb txt m (k + 1) { L with hy:=L.hy++[hy] } nf w':=by
 obtain⟨iH,hiH,iHz,iHs,iHb⟩:=info_parts F.qaw;obtain⟨w1,hw1⟩:=eXa (w.alloc (.cells #[.string hy.lab,.bool hy.fl,.int .i64 hy.var,.slice a hy.ex.length c] 57));have hb1:Below w.heap.size w w1:=by rw[hw1];exact S.qg _ _
 have hX1:w1.heap[w.heap.size]?=some (.cells #[.string hy.lab,.bool hy.fl,.int .i64 hy.var,.slice a hy.ex.length c] 57 (0,0)):=by rw[hw1];exact World.alloc_heap_new w _
 have h1:=h.below hb1;obtain⟨x0,_,_⟩:=h1.cells;obtain⟨av,cv,hva,_⟩:=S.M.xq h1.hyr;have hlen:m.hs.length=L.hy.length:=by rw[←h.hya,lMa]
 have b3:w1.cell? ⟨m.Bb,3,none⟩=some m.vh:=S.M.qc h1.bbox 3;have b4:w1.cell? ⟨m.Bb,4,none⟩=some (.map (some m.hb)):=S.M.qc h1.bbox 4;rw[hva] at b3;have z0:w1.cell? ⟨w.heap.size,0,none⟩=some (.string hy.lab):=S.M.qc hX1 0;obtain⟨n1,hn1,hm1⟩:=h1.hym;obtain⟨W2,hmu,hm2,hg2⟩:=(show Y.jg w1.drew m.hb n1 _ from hm1.kept rfl).put (by unfold maxLen;omega) hy.lab (by unfold maxLen;omega) L.hy.length (by omega);rw[qnd hn] at hm2;rw[←hlen] at hmu;have hbd:Below w.heap.size w w1.drew:=S.M.zi hb1 1;have hs1:w1.drew.heap.size=w1.heap.size:=rfl;have hnB:m.Bb≠m.hb:=fun e=>by
  obtain⟨_,es,ck,h2⟩:=map_lt hm1;rw[←e,h1.bbox] at h2
  cases h2
 have hnl:lb≠m.hb:=fun e=>h.cold.lh (e ▸ .inr (.inr (.inr (.inr (.inl rfl)))))
 have hlt:=h1.lt;have hXh:w.heap.size≠m.hb:=fun e=>by have:=h.lt m.hb (.inr (.inr (.inr (.inr (.inl rfl)))));omega
 have hX2:W2.heap[w.heap.size]?=some (.cells #[.string hy.lab,.bool hy.fl,.int .i64 hy.var,.slice a hy.ex.length c] 57 (0,0)):=(hg2.block _ (aIx hX1) (fun e=>hXh (Option.some.inj e))).trans hX1;have hB2:W2.heap[m.Bb]?=some (.cells #[.string txt,.pointer (some ⟨m.tq,0,none⟩),.map (some m.nb),m.vh,.map (some m.hb),m.va,.map (some m.ab)] 121 (0,0)):=(hg2.block _ (aIx h1.bbox) (fun e=>hnB (Option.some.inj e))).trans h1.bbox;have hL2:W2.heap[lb]?=some (.cells #[.pointer (some ⟨m.Bb,0,none⟩),.pointer (some ⟨m.tq,0,none⟩),.pointer (some ⟨m.P,0,none⟩)] 106 (0,0)):=(hg2.block _ (aIx h1.cold.lbox) (fun e=>hnl (Option.some.inj e))).trans h1.cold.lbox;have hR2:W2.ownsRow N 57 4 m.vh m.hs.length (F.uf m.hs):=S.M.zu h1.hyr fun g eg=>hg2.block g (S.M.jr h1.hyr g eg) fun e=>by
  obtain⟨cs,h2⟩:=F.um h1.hyr eg;obtain⟨_,es,ck,h3⟩:=map_lt hm1
  cases e;rw[h2] at h3
  cases h3
 have q0:W2.cell? ⟨lb,0,none⟩=some (.pointer (some ⟨m.Bb,0,none⟩)):=S.M.qc hL2 0;have q3:W2.cell? ⟨m.Bb,3,none⟩=some m.vh:=S.M.qc hB2 3;rw[hva] at q3;have r0:W2.cell? ⟨w.heap.size,0,none⟩=some (.string hy.lab):=S.M.qc hX2 0;have r1:W2.cell? ⟨w.heap.size,1,none⟩=some (.bool hy.fl):=S.M.qc hX2 1;have r2:W2.cell? ⟨w.heap.size,2,none⟩=some (.int .i64 hy.var):=S.M.qc hX2 2;have r3:W2.cell? ⟨w.heap.size,3,none⟩=some (.slice a hy.ex.length c):=S.M.qc hX2 3;obtain⟨n,hnn⟩:=eXb m.hs.length;have HNN:=hid hnn;rw[hnn] at hva hmu q3 hR2 b3 hlen;have hsz2:w.heap.size < W2.heap.size:=(aIx hX2);have HB2:Hid _:=hB2;have HL2:Hid _:=hL2;have HX2:Hid _:=hX2;have HR2:Hid (W2.ownsRow N 57 4 (.slice av n cv) n (F.uf m.hs)):=by rw[←hva];exact hR2
 have HS2:Hid (N≤W2.heap.size∧w.heap.size < W2.heap.size∧m.Bb < w.heap.size):=⟨by have:=h.ge;omega,hsz2,h.lt m.Bb (.inr (.inr (.inl rfl)))⟩
 have step:Hid (∀(gg cap':Nat) (w3:World),w3.ownsRow N 57 4 (.slice (some ⟨gg,0,none⟩) (n + 1) cap') (n + 1) (F.uf m.hs++[.string hy.lab,.bool hy.fl,.int .i64 hy.var,.slice a hy.ex.length c])→(W2.alloc (.cells #[.string hy.lab,.bool hy.fl,.int .i64 hy.var,.slice a hy.ex.length c] 57)).drew.grownBy w3 (Value.slice av n cv).ownBlock→((Value.slice av n cv).ownBlock=some gg∨gg=W2.heap.size + 1) →
   w3.cell? ⟨lb,0,none⟩=some (.pointer (some ⟨m.Bb,0,none⟩))∧w3.cell? ⟨m.Bb,3,none⟩=some (.slice av n cv)∧w3.frozen? ⟨m.Bb,3,none⟩=false∧Goes N w lb txt m (k + 1) { L with hy:=L.hy++[hy] } nf (w3.setCell ⟨m.Bb,3,none⟩ (.slice (some ⟨gg,0,none⟩) (n + 1) cap'))):=by
  intro gg cap' w3 hown hgrow hat;have hsA:(W2.alloc (.cells #[.string hy.lab,.bool hy.fl,.int .i64 hy.var,.slice a hy.ex.length c] 57)).drew.heap.size=W2.heap.size + 1:=by simp
  have hBlt:m.Bb < W2.heap.size:=(aIx hB2);have nB:∀b,m.vh.ownBlock=some b→b≠m.Bb:=fun b eb e=>by
   obtain⟨cs,h2⟩:=F.um h1.hyr eb;rw[e,h1.bbox] at h2
   cases h2
  have keep:∀i,i < W2.heap.size→m.vh.ownBlock≠some i→w3.heap[i]?=W2.heap[i]?:=fun i hi hne=>(hgrow.block i (by rw[hsA];omega) (fun e=>hne (by rw[hva];exact e.symm))).trans (Below.heap_alloc W2 _ i hi)
  have hB3:w3.heap[m.Bb]?=some (.cells #[.string txt,.pointer (some ⟨m.tq,0,none⟩),.map (some m.nb),m.vh,.map (some m.hb),m.va,.map (some m.ab)] 121 (0,0)):=(keep _ hBlt fun e=>nB _ e rfl).trans hB2;have c3:w3.cell? ⟨m.Bb,3,none⟩=some m.vh:=S.M.qc hB3 3;rw[hva] at c3;have hLlt:lb < W2.heap.size:=(aIx hL2);have hL3:=(keep _ hLlt fun e=>h.cold.lh (.inr (.inr (.inr (.inr (.inr (.inr (.inl e)))))))).trans hL2;refine⟨S.M.qc hL3 0,c3,by simp[World.frozen?,hB3],?_⟩;have hgB:gg≠m.Bb:=by
   rcases hat with e | e
   ·exact nB gg (by rw[hva];exact e)
   ·omega
  refine h.kept (vh':=.slice (some ⟨gg,0,none⟩) (n + 1) cap') (y:=⟨hy,.slice a hy.ex.length c⟩) (by omega) ⟨n1 + 1,by omega,hm2.kept ?_⟩ ?_ ?_ ?_ ?_ ho hob
  ·refine (Below.heap_setCell _ _ _ _ (fun e=>hnB e.symm)).trans (keep _ (map_lt hm2).1 fun e=>?_);obtain⟨cs,h2⟩:=F.um h1.hyr e;obtain⟨_,es,ck,h3⟩:=map_lt hm1;rw[h2] at h3
   cases h3
  ·rw[qjc,HNN.out];exact S.M.zu hown fun g e=>by cases e;exact Below.heap_setCell _ _ _ _ hgB
  ·exact S.M.qj hB3
  ·have hg2s:=hg2.size;have hsz:w1.drew.heap.size=w1.heap.size:=rfl;have hg3s:=hgrow.size;refine⟨?_,?_,?_,?_,fun g hg hne=>?_⟩
   ·exact (hgrow.os.trans hg2.os).trans hbd.os
   ·exact (hgrow.tape.trans hg2.tape).trans hbd.tape
   ·exact (hgrow.output.trans hg2.output).trans hbd.output
   ·simp only[World.setCell,Array.size_modify];rw[hsA] at hg3s;omega
   ·have n1':g≠m.hb:=fun e=>hne (.inl e)
    have n2':g≠m.Bb:=fun e=>hne (.inr (.inl e))
    have n3':m.vh.ownBlock≠some g:=fun e=>hne (.inr (.inr e))
    refine (Below.heap_setCell _ _ _ _ n2').trans ((keep g (by omega) n3').trans ((hg2.block g (by rw[hsz];have:=hb1.size;omega) fun e=>n1' (Option.some.inj e)).trans (hbd.block g hg)))
  ·intro b eb
   cases eb;rcases hat with e | e
   ·exact .inl (by rw[hva];exact e)
   ·exact .inr (by show w.heap.size≤gg;omega)
 have hn6:n≤1048576:=by omega
 clear hlen;clear h h1 hb1 hX1 hbd hs1 hlt hm1 hm2 hg2 hB2 hL2 hX2 hR2 hn ho hob hsz2 hnB hnl hXh hva hl hh;go_enter Tryz.func170,Tryz.ntmps170;go_upto_region 1 with fail;rw[←hw1];clear hw1
 go_region
 go_upto_region 2 with fail;have bA:Below W2.heap.size W2 (W2.alloc (.cells #[.string hy.lab,.bool hy.fl,.int .i64 hy.var,.slice a hy.ex.length c] 57)):=S.qg _ _;have e0:=ug q0 bA;have e3:=ug q3 bA;clear bA
 go_region_law (refine step_append_lies _ (by rfl) _ _ _ (by rfl) N 57 iH _ 4 56 Tryz.underlying44 hiH iHz iHs iHb rfl (by omega) _ n (F.uf m.hs) (by rfl) (by exact (S.M.zk HR2.out _)) ⟨W2.heap.size,0,none⟩ 1 1 [.string hy.lab,.bool hy.fl,.int .i64 hy.var,.slice a hy.ex.length c] (by rfl) (by rfl) (World.news_of_block (cs:=#[.string hy.lab,.bool hy.fl,.int .i64 hy.var,.slice a hy.ex.length c]) (t:=57) (fr:=(0,0)) (World.alloc_heap_new W2 _)) (by simp[Value.oneCell']) (by omega) (by unfold maxLen;omega) (by omega) (by have:=HS2.out.1;simp;omega) (W2.heap.size + 1) (by simp) ?_;intro gg cap' w3 hown3 hgrow hat hlt3;obtain⟨d0,d3,f3,hgo⟩:=step.out gg cap' w3 hown3 hgrow hat;have GO:Hid _:=hgo;clear hgo hgrow hat hown3 hlt3)
 all_goals go_wp2
 all_goals exact bodyPost_end (results_none rfl _ _ _) rfl ⟨rfl,GO.out⟩
end
theorem qdk {L:Ld}{t:Tok}{n:Int}(hT:L.T.syms.length≤4611686018427387904)(h:q08 L t=.ok n):F.wfN n:=by
 unfold q08 at h
 cases hs:q33 L t with
 | error f=>rw[hs] at h;cases h
 | ok j =>
  rw[hs] at h;simp only at h
  split at h
  ·cases h
  ·cases h;exact q8c hT hs
theorem qne {L:Ld}{t:Tok}{n:Int}(hT:L.T.syms.length≤4611686018427387904)(h:q1h L t=.ok n):F.wfN n:=by
 unfold q1h at h
 cases hs:q33 L t with
 | error f=>rw[hs] at h;cases h
 | ok j =>
  rw[hs] at h;simp only at h
  split at h
  ·cases h
  ·cases h;exact q8c hT hs
theorem q5q {L:Ld}(hT:L.T.syms.length≤4611686018427387904):∀(ts:List Tok) (acc e:List Int),q0c L acc ts=.ok e→(∀x ∈ acc,F.wfN x)→acc.length≤200→(∀x ∈ e,F.wfN x)∧e.length≤200∧e.length=acc.length + ts.length
 | [],acc,e,h,h1,h2=>by
  cases h;exact⟨h1,h2,rfl⟩
 | t :: ts,acc,e,h,h1,h2=>by
  unfold q0c at h
  by_cases h3:200≤acc.length
  ·rw[if_pos h3] at h;cases h
  ·rw[if_neg h3] at h
   cases hr:(if acc.length=0 then q08 L t else q1h L t) with
   | error f=>rw[hr] at h;cases h
   | ok n =>
    rw[hr] at h;have hn:F.wfN n:=by
     split at hr
     ·exact qdk hT hr
     ·exact qne hT hr
    obtain⟨i1,i2,i3⟩:=q5q hT ts (acc++[n]) e h (fun x hx=>(mAp.1 hx).elim (h1 x) fun hx=>by rw[mSg.1 hx];exact hn) (by simp;omega);exact⟨i1,i2,by rw[i3];simp;omega⟩
section
variable {N:Nat} {w W':World} {lb:Nat} {txt:ByteArray} {k k':Nat} {L L':Ld} {nf nf':ByteArray→Option Nat} {m m':LdM} {s:Stm} {vw vp:Value}
theorem xg.vars (h:xg N w lb txt k L nf m)(hT:L.T.syms.length≤4611686018427387904):F.q1r m.tq (zn L.T) w:=fun wx n hb=>h.isv hT wx hb n
theorem xg.decl {E:Int}{l:List F.Sa}{e:Ending}(h:xg N w lb txt k L nf m)(hd:F.Decl (tq:=m.tq) m.O w m.P E l e W'):e=.returned (.int .i64 E)∧Goes N w lb txt m k { L with sc:=l } nf W':=by
 obtain⟨he,vS',xs',h1,h2,h3⟩:=hd;subst h2;exact⟨he,h.stacked h1 h3⟩
theorem sc_hs {sx:List F.ScC}{x:F.ScC}(hx:x ∈ sx):x.hs.length≤(jl (sx.map F.jm)).length:=by
 induction sx with
 | nil=>cases hx
 | cons y r ih =>
  unfold jl;rw[List.map_cons,List.flatMap_cons,lAp];rcases List.mem_cons.1 hx with rfl | hx
  ·show _≤(x.hs.map (·.h)).length + _
   rw[lMa];omega
  ·have:=ih hx
   unfold jl at this;omega
theorem xg.qqf (h:xg N w lb txt k L nf m)(hO:L.Ok k'):∀x ∈ m.sx,x.hs.length≤1048576:=fun x hx=>by
 have h1:=sc_hs hx;rw[h.sca] at h1;have h2:=hO.sub.length_le;have h3:=hO.hy1;omega
theorem Ld.Ok.q3p (h:L.Ok k):L.T.syms.length≤4611686018427387904:=by have:=h.tab.syms;omega
theorem Ld.Ok.scN (h:L.Ok k):L.sc.length≤1048576:=by have:=h.sc2;omega
theorem qec (h:xg N w lb txt k L (Y.numOf L.T.syms) m)(hO:L.Ok k)(hk:k < 100000000000)(hs:q1a N m w s vw vp)(hn:q1p L.hy s.label.text=none):Calls Tryz.prog 113 #[.pointer (some ⟨lb,0,none⟩),q0o s vw vp] w (Does N w lb txt m (k + 1) (q7e L s)):=by
 obtain⟨aw,cw,rfl,hW⟩:=hs.words;obtain⟨ap,cp,rfl,_⟩:=S.wo hs.op;have b0:Below w.heap.size w (w.alloc (.cells (yc s (.slice aw s.words.length cw) (.slice ap s.proof.length cp)) 95)):=S.qg _ _;have hlw:=hs.lw;have HI:=hid h;have HO:Hid (L.Ok k):=hO;have EX:Hid (∀wx,Below w.heap.size w wx→Calls Tryz.prog 171 #[.pointer (some ⟨lb,0,none⟩),.slice aw s.words.length cw] wx (Lists wx.heap.size wx (q0c L [] s.words))):=fun wx hb=>q6v (h.below hb) hO.q3p hO.scN aw _ cw s.words rfl (by omega) (hW.1.under hb) fun t ht=>by have:=hs.zw t ht;unfold maxLen;omega
 have EN:Hid (∀wx,Calls Tryz.prog 165 #[q0o s (.slice aw s.words.length cw) (.slice ap s.proof.length cp)] wx fun e w'=>e=.returned (.bool (q0m s.fin))∧Below wx.heap.size wx w'):=fun wx=>q7a wx s aw _ cw ap _ cp
 have HR:Hid (q7e L s=match q0c L [] s.words with | .ok e=>if q0m s.fin=true then yj s.fin (F.uw (isV:=zn L.T) L.sc e) { L with sc:=F.q4x (isV:=zn L.T) L.sc s.label.text e,hy:=L.hy++[⟨s.label.text,false,-1,e⟩] } else .ok L | .error f=>.error f):=by unfold q7e;cases q0c L [] s.words <;> rfl
 have HE:Hid (∀e,q0c L [] s.words=.ok e→(∀x ∈ e,F.wfN x)∧e.length≤200):=fun e he=>by
  obtain⟨h1,h2,_⟩:=q5q hO.q3p s.words [] e he (fun x hx=>by cases hx) (by simp);exact⟨h1,h2⟩
 have C0:Hid (∀w',Below (w.alloc (.cells (yc s (.slice aw s.words.length cw) (.slice ap s.proof.length cp)) 95)).heap.size (w.alloc (.cells (yc s (.slice aw s.words.length cw) (.slice ap s.proof.length cp)) 95)) w'→∀i,w'.cell? ⟨w.heap.size,i,none⟩=(yc s (.slice aw s.words.length cw) (.slice ap s.proof.length cp))[i]?):=fun w' hb=>q5p hb
 have HZ:Hid (s.label.text.size≤281474976710656):=by have:=hs.zl;show _≤_;omega
 have HN:=hid hn;obtain⟨w1,hw1⟩:=eXa (w.alloc (.cells (yc s (.slice aw s.words.length cw) (.slice ap s.proof.length cp)) 95));have HS1:Hid (w.heap.size < w1.heap.size):=by rw[hw1];show _ < (w.heap.push _).size;simp
 have HX1:Hid (w1.heap[w.heap.size]?=some (.cells (yc s (.slice aw s.words.length cw) (.slice ap s.proof.length cp)) 95 (0,0))):=by show _=_;rw[hw1];exact World.alloc_heap_new w _
 generalize hnw:s.words.length=nw at *;generalize hnp:s.proof.length=np at *;rw[←hw1] at b0 C0;have B0:=hid b0;have z10:w1.cell? ⟨w.heap.size,10,none⟩=some (.slice aw nw cw):=C0.out w1 bRf 10;generalize hr:q0c L [] s.words=r at *;replace HR:=show Hid _ from HR.out;clear h hO hs hW b0 hn hnw hnp hr;unfold q0o at EN ⊢
 cases r with
 | error f =>
  clear EN HE;go_enter Tryz.func113,Tryz.ntmps113;go_upto_region 1 with fail;rw[←hw1];clear hw1;go_wp2_with fail;refine cMo (EX.out _ B0.out) ?_;rintro e w2 ⟨hb2,b,rfl,q2,q3⟩;have B1:=B0.out;exact⟨rfl,q0y HR.out (S.M.Ch.oB (B1.trans (hb2.mono B1.size))) ⟨b,rfl,q2,nLt B1.size q3⟩⟩
 | ok e =>
  have EX1:Hid _:=EX.out w1 B0.out;clear EX;go_enter Tryz.func113,Tryz.ntmps113;go_upto_region 1 with fail;rw[←hw1];clear hw1;go_wp2_with fail;refine cMo EX1.out ?_;rintro ee w2 ⟨hb2,v,rfl,hv⟩;have HV:=hid hv;have hB2:=hid hb2;have z:=C0.out w2 hb2;have z0:w2.cell? ⟨w.heap.size,0,none⟩=some (.int .i64 s.kind):=z 0;have z1:w2.cell? ⟨w.heap.size,1,none⟩=some (.string s.label.text):=z 1;have z2:w2.cell? ⟨w.heap.size,2,none⟩=some (.int .i64 s.label.off):=z 2;have z3:w2.cell? ⟨w.heap.size,3,none⟩=some (.int .i64 s.label.line):=z 3;have z4:w2.cell? ⟨w.heap.size,4,none⟩=some (.int .i64 s.label.col):=z 4;have z5:w2.cell? ⟨w.heap.size,5,none⟩=some (.string s.key.text):=z 5;have z6:w2.cell? ⟨w.heap.size,6,none⟩=some (.int .i64 s.key.off):=z 6;have z7:w2.cell? ⟨w.heap.size,7,none⟩=some (.int .i64 s.key.line):=z 7;have z8:w2.cell? ⟨w.heap.size,8,none⟩=some (.int .i64 s.key.col):=z 8;have z9:w2.cell? ⟨w.heap.size,9,none⟩=some (.bool s.proving):=z 9;have z10':w2.cell? ⟨w.heap.size,10,none⟩=some (.slice aw nw cw):=z 10;have z11:w2.cell? ⟨w.heap.size,11,none⟩=some (.slice ap np cp):=z 11;have z12:w2.cell? ⟨w.heap.size,12,none⟩=some (.string s.fin.text):=z 12;have z13:w2.cell? ⟨w.heap.size,13,none⟩=some (.int .i64 s.fin.off):=z 13;have z14:w2.cell? ⟨w.heap.size,14,none⟩=some (.int .i64 s.fin.line):=z 14;have z15:w2.cell? ⟨w.heap.size,15,none⟩=some (.int .i64 s.fin.col):=z 15;clear hb2 hv EX1 z10 z;have EN2:Hid _:=EN.out w2;unfold yc S.q4w at EN2;go_wp2_with fail;refine cMo EN2.out ?_;rintro ee w3 ⟨rfl,hb3⟩;clear z0 z1 z2 z3 z4 z5 z6 z7 z8 z9 z10' z11 z12 z13 z14 z15 EN EN2;have B3:=bTr hB2 hb3;have HV3:Hid (w3.ownsRow w1.heap.size 3 1 v e.length (F.xw e)):=S.M.qh HV.out (S.M.Ch.oB (X:=fun _=>False) hb3) fun _ _ e=>e
  clear hb3 HV hB2
  cases he:q0m s.fin with
  | false =>
   have R2:Hid (q7e L s=.ok L):=HR.out.trans (by rw[he];rfl)
   go_wp2
   have B4:Below w.heap.size w w3:=B0.out.trans (B3.out.mono B0.out.size);exact bodyPost_end (results_none rfl _ _ _) rfl (gq R2.out rfl ((Goes.same HI.out B4).up (by omega)))
  | true =>
   have R2:Hid (q7e L s=yj s.fin (F.uw (isV:=zn L.T) L.sc e) { L with sc:=F.q4x (isV:=zn L.T) L.sc s.label.text e,hy:=L.hy++[⟨s.label.text,false,-1,e⟩] }):=HR.out.trans (by rw[he];rfl);clear HR he;obtain⟨av,cv,rfl,hcv,_⟩:=S.M.xq HV3.out;have BD:Hid (Below w.heap.size w w3.drew):=S.M.zi (B0.out.trans (B3.out.mono B0.out.size)) 1;have BD1:Hid (Below w1.heap.size w1 w3.drew):=S.M.zi B3.out 1;have ID:Hid (xg N w3.drew lb txt k L (Y.numOf L.T.syms) m):=HI.out.below BD.out;have ES:Hid (Calls Tryz.prog 172 #[.pointer (some ⟨m.P,0,none⟩),.string s.label.text,.slice av e.length cv] w3.drew fun ee w'=>ee=.returned (.int .i64 (F.uw (isV:=zn L.T) L.sc e))∧Goes N w3.drew lb txt m k { L with sc:=F.q4x (isV:=zn L.T) L.sc s.label.text e } (Y.numOf L.T.syms) w'):=by
    have h1:=ID.out;obtain⟨e1,e2⟩:=HE.out e rfl;obtain⟨a',c',eq,_,hA⟩:=F.q3n HV3.out
    cases eq;have h2:=F.qpm (isV:=zn L.T) w3.drew m.O m.P m.vS m.sx s.label.text av e.length cv e h1.stk (h1.vars HO.out.q3p) (by rw[h1.q49];exact HO.out.sc1) (by rw[h1.q49];exact HO.out.scN) (h1.qqf HO.out) HZ.out rfl (by omega) (hA.under (S.M.zi bRf 1)) e1;rw[h1.sca] at h2;exact h2.mono fun ee w' hd=>h1.decl hd
   have x2:w3.drew.cell? ⟨lb,2,none⟩=some (.pointer (some ⟨m.P,0,none⟩)):=ID.out.cells.2.2;have z:=C0.out w3.drew BD1.out;have z1:w3.drew.cell? ⟨w.heap.size,1,none⟩=some (.string s.label.text):=z 1;have z12:w3.drew.cell? ⟨w.heap.size,12,none⟩=some (.string s.fin.text):=z 12;have z13:w3.drew.cell? ⟨w.heap.size,13,none⟩=some (.int .i64 s.fin.off):=z 13;have z14:w3.drew.cell? ⟨w.heap.size,14,none⟩=some (.int .i64 s.fin.line):=z 14;have z15:w3.drew.cell? ⟨w.heap.size,15,none⟩=some (.int .i64 s.fin.col):=z 15;have ZB:Hid (w3.drew.heap[w.heap.size]?=some (.cells (yc s (.slice aw nw cw) (.slice ap np cp)) 95 (0,0))∧¬m.hot w.heap.size):=⟨(BD1.out.block _ HS1.out).trans HX1.out,fun hh=>by have:=HI.out.lt _ hh;omega⟩;clear z;have CK:Hid (∀wx,Calls Tryz.prog 102 #[S.zo s.fin,.int .i64 (F.uw (isV:=zn L.T) L.sc e)] wx (Chk s.fin (F.uw (isV:=zn L.T) L.sc e) wx)):=fun wx=>check_any wx s.fin _
   have KP:Hid (∀w5,Goes N w3.drew lb txt m k { L with sc:=F.q4x (isV:=zn L.T) L.sc s.label.text e } (Y.numOf L.T.syms) w5→w5.cell? ⟨w.heap.size,1,none⟩=some (.string s.label.text)∧Calls Tryz.prog 170 #[.pointer (some ⟨lb,0,none⟩),.agg #[.string s.label.text,.bool false,.int .i64 (-1),.slice av e.length cv]] w5 fun ee w'=>ee=.returned (.tuple #[])∧Goes N w lb txt m (k + 1) { L with sc:=F.q4x (isV:=zn L.T) L.sc s.label.text e,hy:=L.hy++[⟨s.label.text,false,-1,e⟩] } (Y.numOf L.T.syms) w'):=fun w5 hg=>by
    obtain⟨c5,m5,i5,g5⟩:=hg;have hb0:=B0.out;have hlt0:∀b,m.hot b→b < w.heap.size:=HI.out.lt;have hge:∀b,(Value.slice av e.length cv).ownBlock=some b→w1.heap.size≤b∧b < w3.heap.size:=fun b eb=>⟨S.M.zf HV3.out b eb,S.M.jr HV3.out b eb⟩
    have hs1:=HS1.out;have hD:w3.drew.ownsRow w1.heap.size 3 1 (.slice av e.length cv) e.length (F.xw e):=S.M.qh HV3.out (S.M.Ch.oB (X:=fun _=>False) (S.M.zi bRf 1)) fun _ _ e=>e
    have ho:=S.M.qp (S.M.qh hD c5 fun b eb hh=>by have:=hlt0 b hh;have:=hge b eb;omega) (base':=N) (by have:=HI.out.ge;omega);refine⟨S.M.qc ((c5.block _ (aIx ZB.out.1) ZB.out.2).trans ZB.out.1) 1,?_⟩;refine (keep_any i5 ⟨s.label.text,false,-1,e⟩ av cv (by have:=HO.out.hy1;show L.hy.length≤_;omega) (by omega) HZ.out HN.out ho fun b eb hh=>?_).mono fun ee w' hk=>⟨hk.1,(q34 c5 g5 hk.2).q18 BD.out⟩
    have h3:=hge b eb;rcases g5 b hh with h4 | h4
    ·have:=hlt0 b h4;omega
    ·have h5:w3.drew.heap.size=w3.heap.size:=rfl;omega
   have ST:Hid (∀w4,Goes N w3.drew lb txt m k { L with sc:=F.q4x (isV:=zn L.T) L.sc s.label.text e } (Y.numOf L.T.syms) w4→w4.heap[w.heap.size]?=some (.cells (yc s (.slice aw nw cw) (.slice ap np cp)) 95 (0,0))):=fun w4 hg=>(hg.1.block _ (aIx ZB.out.1) ZB.out.2).trans ZB.out.1
   have DN:Hid (∀w4 w5,Goes N w3.drew lb txt m k { L with sc:=F.q4x (isV:=zn L.T) L.sc s.label.text e } (Y.numOf L.T.syms) w4→Below w4.heap.size w4 w5→S.M.Ch m.hot w w5∧w.heap.size≤w4.heap.size):=fun w4 w5 hg hb=>⟨(S.M.Ch.oB BD.out).trans (hg.1.trans (S.M.Ch.oB hb)),nLt BD.out.size hg.1.size⟩
   unfold S.zo at CK;generalize F.uw (isV:=zn L.T) L.sc e=J at *;clear ID HE HV3 B3
   by_cases hJ:J=0
   ·have HJ:Hid (J=0):=hJ;have R3:Hid (q7e L s=.ok { L with sc:=F.q4x (isV:=zn L.T) L.sc s.label.text e,hy:=L.hy++[⟨s.label.text,false,-1,e⟩] }):=R2.out.trans (if_pos hJ);clear hJ R2;go_upto_region 3 with fail
    go_region_law (first
     | (go_simp;go_at_call 172;refine cMo ES.out ?_;rintro ee w4 ⟨rfl,hg⟩;have GG:Hid (Goes N w3.drew lb txt m k { L with sc:=F.q4x (isV:=zn L.T) L.sc s.label.text e } (Y.numOf L.T.syms) w4):=hg;have hbx:=ST.out w4 hg;have u12:w4.cell? ⟨w.heap.size,12,none⟩=some (.string s.fin.text):=S.M.qc hbx 12;have u13:w4.cell? ⟨w.heap.size,13,none⟩=some (.int .i64 s.fin.off):=S.M.qc hbx 13;have u14:w4.cell? ⟨w.heap.size,14,none⟩=some (.int .i64 s.fin.line):=S.M.qc hbx 14;have u15:w4.cell? ⟨w.heap.size,15,none⟩=some (.int .i64 s.fin.col):=S.M.qc hbx 15;clear hg hbx)
     | (go_simp;go_at_call 102;refine cMo (CK.out _) ?_;rintro ee w5 ⟨hb5,he5⟩;rw[if_pos HJ.out] at he5;subst he5;have G5:Hid (Goes N w3.drew lb txt m k { L with sc:=F.q4x (isV:=zn L.T) L.sc s.label.text e } (Y.numOf L.T.syms) w5):=GG.out.jd hb5;clear hb5))
    all_goals obtain⟨k1,KP1⟩:=KP.out _ G5.out
    all_goals have KP2:Hid _:=KP1
    all_goals clear KP1
    all_goals go_wp2_with fail
    all_goals refine cMo KP2.out ?_
    all_goals rintro ee w6 ⟨rfl,hg6⟩
    all_goals have G6:=hid hg6
    all_goals clear hg6
    all_goals go_wp2
    all_goals exact bodyPost_end (results_none rfl _ _ _) rfl (gq R3.out rfl G6.out)
   ·have HJ:Hid (¬J=0):=hJ;have R3:Hid (q7e L s=.error (s.fin,J)):=R2.out.trans (if_neg hJ);clear hJ R2 KP;go_upto_region 3 with fail
    go_region_law (first
     | (go_simp;go_at_call 172;refine cMo ES.out ?_;rintro ee w4 ⟨rfl,hg⟩;have GG:Hid (Goes N w3.drew lb txt m k { L with sc:=F.q4x (isV:=zn L.T) L.sc s.label.text e } (Y.numOf L.T.syms) w4):=hg;have hbx:=ST.out w4 hg;have u12:w4.cell? ⟨w.heap.size,12,none⟩=some (.string s.fin.text):=S.M.qc hbx 12;have u13:w4.cell? ⟨w.heap.size,13,none⟩=some (.int .i64 s.fin.off):=S.M.qc hbx 13;have u14:w4.cell? ⟨w.heap.size,14,none⟩=some (.int .i64 s.fin.line):=S.M.qc hbx 14;have u15:w4.cell? ⟨w.heap.size,15,none⟩=some (.int .i64 s.fin.col):=S.M.qc hbx 15;clear hg hbx)
     | (go_simp;go_at_call 102;refine cMo (CK.out _) ?_;rintro ee w5 ⟨hb5,he5⟩;rw[if_neg HJ.out] at he5;obtain⟨b,rfl,q2,q3⟩:=he5;obtain⟨d1,d2⟩:=DN.out _ _ GG.out hb5;refine q14 (h:=⟨rfl,q0y R3.out d1 ⟨b,rfl,q2,nLt d2 q3⟩⟩) ?_))
    all_goals trivial
end
theorem qqg {sx:List F.ScC}{x:F.ScC}{y:F.HyC}(hx:x ∈ sx)(hy:y ∈ x.hs):y.h ∈ jl (sx.map F.jm):=by
 rw[←q6u];exact List.mem_map.2 ⟨y,List.mem_flatMap.2 ⟨x,hx,hy⟩,rfl⟩
theorem q8e {L:Ld}{k:Nat}(hO:L.Ok k):(jl L.sc).length≤1024:=by
 have h2:=hO.sub.length_le;have h3:=hO.hy1;omega
theorem ess_len {L:Ld}{k:Nat}(hO:L.Ok k):(q9e (jl L.sc)).length≤204800:=by
 have h1:=q8e hO;have h2:∀h ∈ jl L.sc,h.ex.length≤200:=fun h hh=>(hO.ex h (hO.sub.subset hh)).1
 revert h1 h2
 generalize jl L.sc=l;intro h1 h2;have h3:(q9e l).length≤l.length * 200:=by
  clear h1
  induction l with
  | nil=>simp[q9e]
  | cons a r ih =>
   have i:=ih fun h hh=>h2 h (List.mem_cons_of_mem _ hh)
   have ha:=h2 a (by simp);unfold q9e at i ⊢;rw[List.flatMap_cons,lAp,List.length_cons];have:(if a.fl=true then ([]:List Int) else a.ex).length≤200:=by split <;> simp[ha]
   omega
 omega
section
variable {N:Nat} {w W':World} {lb:Nat} {txt:ByteArray} {k k':Nat} {L L':Ld} {nf nf':ByteArray→Option Nat} {m m':LdM}
theorem xg.qqh (h:xg N w lb txt k L nf m)(hO:L.Ok k'):∀x ∈ m.sx,∀y ∈ x.hs,y.h.ex.length≤17592186044416:=fun x hx y hy=>by
 have h1:=qqg hx hy;rw[h.sca] at h1;have:=(hO.ex _ (hO.sub.subset h1)).1
 omega
theorem xg.qqi (h:xg N w lb txt k L nf m)(hO:L.Ok k'):(F.vk m.sx).length≤1024:=by
 have h1:=congrArg List.length (q6u m.sx);rw[lMa,h.sca] at h1;rw[h1];exact q8e hO
theorem xg.aps (h:xg N w lb txt k L nf m):F.q0v m.sx=F.uo L.sc:=by rw[F.qef,h.sca]
theorem xg.scope (h:xg N w lb txt k L nf m)(hO:L.Ok k')(wx:World)(hb:Below w.heap.size w wx):Calls Tryz.prog 161 #[.pointer (some ⟨m.P,0,none⟩)] wx fun e w'=>Below wx.heap.size wx w'∧∃vh vp ts,e=.returned (.agg #[vh,vp])∧F.jq wx.heap.size w' vh ts∧ts.map (·.h)=jl L.sc∧w'.ownsRow wx.heap.size 130 2 vp (q05 (F.uo L.sc)).length (F.jh (q05 (F.uo L.sc))):=by
 have hx:=h.below hb;have h1:=F.qn4 wx m.O m.P m.vS m.sx hx.stk (by rw[hx.q49];exact hO.scN) (by have:=hx.qqi hO;omega) (hx.qqh hO) (by rw[hx.aps];have:=hO.ps;omega) (by rw[hx.aps];exact hO.pw);refine h1.mono ?_;rintro e w' ⟨h2,vh,vp,ts,mm,rfl,hs⟩;have hm:=norm_eq hs.n;rw[hx.aps] at hm;subst hm;exact⟨h2,vh,vp,ts,rfl,hs.t,by rw[hs.h,q6u,hx.sca],hs.p⟩
structure Needs (N1:Nat)(W:World)(L:Ld)(goal:List Int)(vh vp vg:Value)(ts:List F.HyC):Prop where
 t:F.jq N1 W vh ts
 h:ts.map (·.h)=q4s L.T L.sc goal
 p:W.ownsRow N1 130 2 vp (q7p L.T L.sc goal).length (F.jh (q7p L.T L.sc goal))
theorem xg.frame (h:xg N w lb txt k L nf m)(hO:L.Ok k')(wx:World)(hb:Below w.heap.size w wx)(a:Option Addr)(n c:Nat)(goal:List Int)(hl:goal.length=n)(h2:n≤200)(hA:F.uj wx a goal)(hw:∀x ∈ goal,F.wfN x) :
  Calls Tryz.prog 173 #[.pointer (some ⟨m.P,0,none⟩),.slice a n c] wx fun e w'=>Below wx.heap.size wx w'∧∃vh vp vg,e=.returned (.tuple #[.agg #[vh,vp,vg],.int .i64 (F.uw (isV:=zn L.T) L.sc goal)])∧(∃a1 n1 c1 a2 n2 c2 a3 n3 c3,vh=.slice a1 n1 c1∧vp=.slice a2 n2 c2∧vg=.slice a3 n3 c3)∧(F.uw (isV:=zn L.T) L.sc goal=0→∃ts,Needs wx.heap.size w' L goal vh vp vg ts):=by
 have hx:=h.below hb;have hess:F.q03 (F.vk m.sx)=q9e (jl L.sc):=by rw[ess_abs,q6u,hx.sca]
 have h1:=F.qn5 (isV:=zn L.T) wx m.O m.P m.vS m.sx a n c goal hx.stk (hx.vars hO.q3p) (by rw[hx.q49];exact hO.scN) (by have:=hx.qqi hO;omega) (hx.qqh hO) (by rw[hx.aps];have:=hO.ps;omega) (by rw[hx.aps];exact hO.pw) hl hA hw (by rw[hess];have:=ess_len hO;omega);refine h1.mono ?_;rintro e w' ⟨h3,h4⟩;rw[hx.sca] at h4;rcases h4 with ⟨hne,rfl⟩ | ⟨he,vh,vp,vg,ts,mv,mm,rfl,hf⟩
 ·exact⟨h3,_,_,_,rfl,⟨_,_,_,_,_,_,_,_,_,rfl,rfl,rfl⟩,fun h0=>absurd h0 hne⟩
 ·have hv:∀x,mv.contains x=qgj L.T L.sc goal x:=fun x=>by
   rw[Bool.eq_iff_iff];unfold qgj;rw[List.contains_iff_mem,hf.v.mem,hess,Bool.and_eq_true,List.contains_iff_mem];exact And.comm
  have hm:=norm_eq hf.n;rw[hx.aps] at hm;have hm2:mm=q7p L.T L.sc goal:=by
   rw[hm];unfold F.q1u q7p
   congr 1
   exact List.filter_congr fun p _=>by rw[hv,hv]
  refine⟨h3,vh,vp,vg,by rw[he],?_,fun _=>⟨ts,hf.t,?_,by rw[←hm2];exact hf.p⟩⟩
  ·obtain⟨a1,c1,e1,_⟩:=S.M.xq hf.t.own;obtain⟨a2,c2,e2,_⟩:=S.M.xq hf.p;obtain⟨a3,c3,e3,_⟩:=S.M.xq hf.g;exact⟨_,_,_,_,_,_,_,_,_,e1,e2,e3⟩
  ·rw[hf.h];unfold F.q0g q4s;rw[q6u,hx.sca];exact List.filter_congr fun y _=>by dsimp only;rw[hv]
theorem xg.distC (h:xg N w lb txt k L nf m)(hO:L.Ok k')(a:Option Addr)(n c:Nat)(vs:List Int)(hl:vs.length=n)(h2:n≤1048576)(hA:F.uj w a vs) :
  Calls Tryz.prog 166 #[.pointer (some ⟨m.P,0,none⟩),.slice a n c] w fun e w'=>e=.returned (.int .i64 (F.q1w (isV:=zn L.T) L.sc vs))∧Goes N w lb txt m k { L with sc:=F.q1l (isV:=zn L.T) L.sc vs } nf w':=by
 have h1:=F.qn9 (isV:=zn L.T) w m.O m.P m.vS m.sx a n c vs h.stk (h.vars hO.q3p) (by rw[h.q49];exact hO.sc1) (by rw[h.q49];exact hO.scN) (by rw[h.aps];have:=hO.ps;omega) hl h2 hA;rw[h.sca] at h1;exact h1.mono fun ee w' hd=>h.decl hd
end
theorem qjd (l:List AsC)(y:AsC):q4t (l++[y])=q4t l++asC y:=by unfold q4t;rw[List.flatMap_append];simp
theorem qnf {al:List As}{a:As}(hn:q3a al a.label.text=none):(fun t=>if t=a.label.text then some al.length else q3a al t)=q3a (al++[a]):=by
 funext t
 unfold q3a at hn ⊢;rw[List.findIdx?_append]
 by_cases e:t=a.label.text
 ·subst e;rw[if_pos rfl,hn];simp[List.findIdx?_cons]
 ·rw[if_neg e];have e2:¬a.label.text=t:=fun e'=>e e'.symm
  cases hc:al.findIdx? (fun x=>decide (x.label.text=t)) with
  | some i=>simp
  | none=>simp[List.findIdx?_cons,e2]
section
variable {N:Nat} {w W8:World} {lb:Nat} {txt:ByteArray} {k k':Nat} {L:Ld} {nf:ByteArray→Option Nat} {m:LdM}
theorem xg.asserted {va':Value} {y:AsC} (h:xg N w lb txt k L nf m) (hk:k≤k') (hm:∃n,n≤k'∧Y.jg W8 m.ab n (q3a (L.al++[y.a]))) (hr:W8.ownsRow N 123 15 va' (m.ax.length + 1) (q4t (m.ax++[y])))
  (hx:W8.heap[m.Bb]?=some (.cells #[.string txt,.pointer (some ⟨m.tq,0,none⟩),.map (some m.nb),m.vh,.map (some m.hb),va',.map (some m.ab)] 121 (0,0)))
  (hc:S.M.Ch (fun b=>b=m.ab∨b=m.Bb∨m.va.ownBlock=some b) w W8) (hl:∀b,va'.ownBlock=some b→m.va.ownBlock=some b∨w.heap.size≤b) (hy:qa7 N W8 y) (hyb:∀b,qgl y b→¬m.hot b):Goes N w lb txt m k' { L with al:=L.al++[y.a] } nf W8:=by
 have hN:=h.ge;have hq:∀b,(b=m.ab∨b=m.Bb∨m.va.ownBlock=some b)→m.q b:=fun b hb=>by
  rcases hb with e | e | e
  ·exact .inr (.inr (.inr (.inl e)))
  ·exact .inl e
  ·exact .inr (.inr (.inr (.inr (.inr e))))
 have hC:S.M.Ch m.hot w W8:=hc.mono fun b hb=>.inr (.inr (hq b hb))
 have hot:∀b,LdM.hot { m with va:=va',ax:=m.ax++[y] } b→m.hot b∨va'.ownBlock=some b:=fun b hb=>by
  rcases hb with hb | hb | hb | hb | hb | hb | hb | hb
  ·exact .inl (.inl hb)
  ·exact .inl (.inr (.inl hb))
  ·exact .inl (.inr (.inr (.inl hb)))
  ·exact .inl (.inr (.inr (.inr (.inl hb))))
  ·exact .inl (.inr (.inr (.inr (.inr (.inl hb)))))
  ·exact .inl (.inr (.inr (.inr (.inr (.inr (.inl hb))))))
  ·exact .inl (.inr (.inr (.inr (.inr (.inr (.inr (.inl hb)))))))
  ·exact .inr hb
 have hot2:∀b,LdM.hot { m with va:=va',ax:=m.ax++[y] } b→m.hot b∨w.heap.size≤b:=fun b hb=>(hot b hb).elim .inl fun e=>(hl b e).imp (fun e=>.inr (.inr (.inr (.inr (.inr (.inr (.inr e))))))) id
 have no:∀b,b < w.heap.size→¬m.hot b→¬LdM.hot { m with va:=va',ax:=m.ax++[y] } b:=fun b hb hn hh=>(hot2 b hh).elim hn fun e=>by omega
 have nc:∀{v:Value} {base e size n:Nat} {xs:List Value},w.ownsRow base e size v n xs→e=57→∀b,v.ownBlock=some b→¬(b=m.ab∨b=m.Bb∨m.va.ownBlock=some b):=fun ho he b eb e=>by
  obtain⟨cs,hcs⟩:=F.um ho eb;subst he;rcases e with rfl | rfl | e
  ·obtain⟨es,ck,h2⟩:=(map_lt h.asm.choose_spec.2).2;rw[h2] at hcs
   cases hcs
  ·rw[h.bbox] at hcs
   cases hcs
  ·obtain⟨cs2,h2⟩:=F.um h.asr e;rw[h2] at hcs
   cases hcs
 have nm:∀b:Nat,(∃n,n≤k∧∃f,Y.jg w b n f)→b≠m.ab→¬(b=m.ab∨b=m.Bb∨m.va.ownBlock=some b):=fun b hb hne e=>by
  obtain⟨n,_,f,hb⟩:=hb;obtain⟨_,es,ck,h2⟩:=map_lt hb;rcases e with e | rfl | e
  ·exact hne e
  ·rw[h.bbox] at h2
   cases h2
  ·obtain⟨cs2,h3⟩:=F.um h.asr e;rw[h2] at h3
   cases h3
 have hcold:=h.cold.ch (m':=m) hC rfl rfl rfl rfl rfl fun _=>.inl
 have ny:∀b,qgl y b→va'.ownBlock≠some b:=fun b hb e=>by
  rcases hb with e1 | e1 | e1 | e1 | e1 | e1
  ·exact F.q00 hr hy.g (by decide) b e e1
  ·exact F.q00 hr hy.n (by decide) b e e1
  ·exact F.q00 hr hy.p (by decide) b e e1
  ·exact F.q00 hr hy.a (by decide) b e e1
  ·exact F.q00 hr hy.q (by decide) b e e1
  ·exact F.q00 hr hy.f (by decide) b e e1
 refine⟨hC,{ m with va:=va',ax:=m.ax++[y] },?_,hot2⟩;refine⟨⟨hcold.lbox,no lb (aIx h.cold.lbox) h.cold.lh,fun z hz=>?_,fun x hx=>?_⟩,hx,(qbp h.tab hc fun b hb e=>(h.qa b (hq b e)).1 hb).up hk,qbo h.stk hc (fun b hb e=>(h.qa b (hq b e)).2 hb),h.sca,q40 (q1q h.num hc (nm _ (h.num.imp fun n hn=>⟨hn.1,_,hn.2⟩) h.ne.2.1)) hk,S.M.qh h.hyr hc (fun b eb=>nc h.hyr rfl b eb),h.hya,q40 (q1q h.hym hc (nm _ (h.hym.imp fun n hn=>⟨hn.1,_,hn.2⟩) h.ne.2.2)) hk,?_,?_,hm,h.ta,fun b hb=>?_,h.ne,fun b hb=>?_,nLt hN hc.size⟩
 ·obtain⟨h1,h2⟩:=h.cold.e z hz;exact⟨S.M.qh h1 hC h2,fun b eb=>no b (S.M.jr h1 b eb) (h2 b eb)⟩
 ·rcases mAp.1 hx with hx | hx
  ·obtain⟨h1,h2⟩:=h.cold.a x hx;exact⟨h1.ch hC h2,fun b eb=>no b (h1.lt b eb) (h2 b eb)⟩
  ·rw[mSg.1 hx];exact⟨hy,fun b eb hh=>(hot b hh).elim (hyb b eb) (ny b eb)⟩
 ·show W8.ownsRow N 123 15 va' (m.ax++[y]).length _
  rw[lAp];exact hr
 ·show (m.ax++[y]).map (·.a)=L.al++[y.a]
  rw[List.map_append,h.asa]
  rfl
 ·by_cases hq2:m.q b
  ·exact h.qa b hq2
  ·have hb2:va'.ownBlock=some b:=by
    rcases hb with hb | hb | hb | hb | hb | hb
    ·exact absurd (.inl hb) hq2
    ·exact absurd (.inr (.inl hb)) hq2
    ·exact absurd (.inr (.inr (.inl hb))) hq2
    ·exact absurd (.inr (.inr (.inr (.inl hb)))) hq2
    ·exact absurd (.inr (.inr (.inr (.inr (.inl hb))))) hq2
    ·exact hb
   have hge:=(hl b hb2).resolve_left fun e=>hq2 (.inr (.inr (.inr (.inr (.inr e)))))
   exact⟨fun hb3=>by have:=h.tab.low b hb3;omega,fun hb3=>by have:=h.stk.lt b hb3;omega⟩
 ·exact (hot2 b hb).elim (h.low b) fun h2=>by omega
theorem count_any (h:xg N w lb txt k L nf m):Calls Tryz.prog 15 #[.pointer (some ⟨m.Bb,0,none⟩)] w fun e w'=>e=.returned (.int .i64 L.al.length)∧w'=w:=by
 obtain⟨a,c,hv,_⟩:=S.M.xq h.asr;have b5:w.cell? ⟨m.Bb,5,none⟩=some m.va:=S.M.qc h.bbox 5;have hl:m.ax.length=L.al.length:=by rw[←h.asa,lMa]
 rw[hv,hl] at b5;clear h hv;go_enter Tryz.func15,Tryz.ntmps15
 go_wp2
 go_ret
 exact⟨rfl,rfl⟩
theorem infoAs:(Tryz.prog.info? 123).map (fun i=>(i.zero,i.size,i.bytes))=some (some (.agg #[.string ⟨#[]⟩,.int .i64 0,.int .i64 0,.int .i64 0,.bool false,.slice none 0 0,.slice none 0 0,.slice none 0 0,.slice none 0 0,.slice none 0 0,.slice none 0 0,.string ⟨#[]⟩,.int .i64 0,.int .i64 0,.int .i64 0]),15,232):=by kernel_rfl
theorem ql4 {N1:Nat}{W:World}{v:Value}{ts:List F.HyC}(h:F.jq N1 W v ts):∀y ∈ ts,∃a n c,y.ve=.slice a n c:=fun y hy=>by
 obtain⟨a,c,e,_⟩:=S.M.xq (h.e y hy);exact⟨a,_,c,e⟩
end
end B
end Go.Proofs.YtbancemhfjjmlaaGreatDoor
