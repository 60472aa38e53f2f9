/- Laid together: FFrJ, FFrO, FFrP, FSet, FAdd. -/
import Derived.Test.YtbancemhfjjmlaaGreatDoorTk
import Derived.Test.YtbancemhfjjmlaaGreatDoorQA10
import Derived.Maps.OwnSet
import Derived.DeepKeys4
import Derived.WalkLawsBesides
set_option maxRecDepth 100000
set_option maxHeartbeats 32000000
namespace Go.Proofs.YtbancemhfjjmlaaGreatDoor
namespace F
open Go.RowKit
variable {tq:Nat} {isV:Int→Bool}
def yg (l:List Sa)(e:List Int):Int:=match e with
 | []=>72
 | x :: r=>if isV x=true then 72 else if ((x :: r).any fun v=>isV v && (tyA l v).isNone)=true then 70 else 0
theorem qgs {l:List Sa}{e m:List Int}(h:q39 (isV:=isV) e m):(e.any fun v=>isV v && (tyA l v).isNone)=m.any fun v=>(tyA l v).isNone:=by
 rw[Bool.eq_iff_iff,List.any_eq_true,List.any_eq_true]
 constructor
 ·rintro⟨v,hv,h1⟩
  rw[Bool.and_eq_true] at h1
  exact⟨v,(h.mem v).2 ⟨hv,h1.1⟩,h1.2⟩
 ·rintro⟨v,hv,h1⟩
  obtain⟨h2,h3⟩:=(h.mem v).1 hv
  exact⟨v,h2,by rw[h3,h1];rfl⟩
theorem qbu (w:World)(O:Nat→Prop)(P:Nat)(vS:Value)(xs:List ScC)(a:Option Addr)(n c:Nat)(e:List Int)(h:qw tq O w P vS xs)(hV:q2w tq isV w)(hx:xs.length≤1048576)(hl:e.length=n)(hn:n≤17592186043904)(hA:q1a w a e)(hw:∀x ∈ e,wfN x) :
  Calls Tryz.prog 231 #[.pointer (some ⟨P,0,none⟩),.slice a n c] w fun ee w'=>ee=.returned (.int .i64 (yg (isV:=isV) (xs.map jk) e))∧Below w.heap.size w w':=by
 obtain⟨x0,x1⟩:=h.cells
 unfold q17 at x0
 have HS:Hid (qw tq O w P vS xs):=h
 have VA:Hid (q2w tq isV w):=hV
 have EV:Hid (∀wx,Below w.heap.size w wx→Calls Tryz.prog 126 #[.slice a n c,.func (.func 70) #[.pointer (some ⟨tq,0,none⟩)] #[]] wx fun ee w'=>Below w.heap.size w w'∧∃a2 c2 m,ee=.returned (.slice a2 m.length c2)∧q1a w' a2 m∧m.length≤c2∧q39 (isV:=isV) e m):=fun wx hb=>by
  have h1:=q88 wx a n c e hl hn (hA.under hb) (fun wy v hy=>hV wy v (hb.trans (hy.mono hb.size)))
  refine h1.mono ?_
  rintro ee w' ⟨hb2,h2⟩
  exact⟨hb.trans (hb2.mono hb.size),h2⟩
 have HL:Hid (e.length=n∧xs.length≤1048576∧∀x ∈ e,wfN x):=⟨hl,hx,hw⟩
 cases e with
 | nil =>
  have hn0:n=0:=hl.symm
  subst hn0
  clear h hl hA EV hV
  go_enter Tryz.func231,Tryz.ntmps231
  go_wp2_with fail
  go_quiet (fail)
  go_wp2
  go_ret
  exact⟨rfl,zu (Below.refl _ _) _⟩
 | cons x r =>
  obtain⟨g,off,rfl,y0⟩:=hA 0 x rfl
  rw[Nat.add_zero] at y0
  have hn0:0 < n:=by rw[←hl];simp
  have n0:¬(n:Int)=0:=by omega
  have n00:((n:Int) == 0)=false:=by simp;omega
  have n1:(0:Int) < (n:Int):=by omega
  cases e1:isV x with
  | true =>
   have HE:Hid (yg (isV:=isV) (xs.map jk) (x :: r)=72):=by show _=_;unfold yg;dsimp only;rw[if_pos e1]
   have V1:Hid (∀wx,Below w.heap.size w wx→Calls Tryz.prog 70 #[.pointer (some ⟨tq,0,none⟩),.int .i64 x] wx fun e w'=>e=.returned (.bool true)∧w'.cell? ⟨P,0,none⟩=some (.func (.func 70) #[.pointer (some ⟨tq,0,none⟩)] #[])∧w'.cell? ⟨g,off,none⟩=some (.int .i64 x)∧Hid (Below w.heap.size w w')):=fun wx hb=>by
    have h:=VA.out wx x hb
    rw[e1] at h
    refine h.mono ?_
    rintro e w' ⟨he,hw⟩
    have hb2:=hb.trans (hw.mono hb.size)
    exact⟨he,(hb2.cell (p:=⟨P,0,none⟩) (World.block_lt_of_cell? _ _ x0)).trans x0,(hb2.cell (p:=⟨g,off,none⟩) (World.block_lt_of_cell? _ _ y0)).trans y0,hb2⟩
   clear h hl hA EV hV e1
   go_enter Tryz.func231,Tryz.ntmps231
   go_wp2_with fail
   go_region_held3 (fun w'=>w'.cell? ⟨P,0,none⟩=some (.func (.func 70) #[.pointer (some ⟨tq,0,none⟩)] #[])∧w'.cell? ⟨g,off,none⟩=some (.int .i64 x)∧Hid (Below w.heap.size w w')) (refine⟨?_,?_,?_⟩ <;> first | assumption | exact Below.drew (Below.refl _ w))
    (first | (refine (V1.out _ ?_).mono ?_;(first | assumption | exact (by assumption:_∧_∧Hid (Below w.heap.size w _)).2.2);rintro e w1 ⟨rfl,d1,d2,d3⟩))
   go_wp2
   go_ret
   exact⟨by rw[HE.out];rfl,d3.out⟩
  | false =>
   have V1:Hid (∀wx,Below w.heap.size w wx→Calls Tryz.prog 70 #[.pointer (some ⟨tq,0,none⟩),.int .i64 x] wx fun e w'=>e=.returned (.bool false)∧w'.cell? ⟨P,0,none⟩=some (.func (.func 70) #[.pointer (some ⟨tq,0,none⟩)] #[])∧w'.cell? ⟨g,off,none⟩=some (.int .i64 x)∧Hid (Below w.heap.size w w')):=fun wx hb=>by
    have h:=VA.out wx x hb
    rw[e1] at h
    refine h.mono ?_
    rintro e w' ⟨he,hw⟩
    have hb2:=hb.trans (hw.mono hb.size)
    exact⟨he,(hb2.cell (p:=⟨P,0,none⟩) (World.block_lt_of_cell? _ _ x0)).trans x0,(hb2.cell (p:=⟨g,off,none⟩) (World.block_lt_of_cell? _ _ y0)).trans y0,hb2⟩
   have HE:Hid (∀m,q39 (isV:=isV) (x :: r) m→yg (isV:=isV) (xs.map jk) (x :: r)=if (m.any fun v=>(tyA (xs.map jk) v).isNone)=true then 70 else 0):=fun m hm=>by
    unfold yg;dsimp only;rw[e1,if_neg (by simp),qgs hm]
   clear h hl hA e1 hV
   go_enter Tryz.func231,Tryz.ntmps231
   go_wp2_with fail
   go_region_held3 (fun w'=>w'.cell? ⟨P,0,none⟩=some (.func (.func 70) #[.pointer (some ⟨tq,0,none⟩)] #[])∧w'.cell? ⟨g,off,none⟩=some (.int .i64 x)∧Hid (Below w.heap.size w w')) (refine⟨?_,?_,?_⟩ <;> first | assumption | exact Below.drew (Below.refl _ w))
    (first | (refine (V1.out _ ?_).mono ?_;(first | assumption | exact (by assumption:_∧_∧Hid (Below w.heap.size w _)).2.2);rintro e w1 ⟨rfl,d1,d2,d3⟩))
   have E1:Hid _:=EV.out w1 d3.out
   clear EV VA V1 x0 x1 y0 d2
   go_wp2_with fail
   refine Calls.mono E1.out ?_
   rintro ee w2 ⟨hb2,a2,c2,m,rfl,hI,hc,hm⟩
   have B2:Hid (Below w.heap.size w w2):=hb2
   have HI:Hid (q1a w2 a2 m):=hI
   have HE2:=HE.out m hm
   have HE3:Hid (yg (isV:=isV) (xs.map jk) (x :: r)=if (m.any fun v=>(tyA (xs.map jk) v).isNone)=true then 70 else 0):=HE2
   have HWF:Hid (∀v ∈ m,wfN v):=fun v hv=>HL.out.2.2 v ((hm.mem v).1 hv).1
   have hmb:m.length≤n:=by have h1:=hm.le;rw[HL.out.1] at h1;exact h1
   obtain⟨nm,hnm⟩:∃nm,m.length=nm:=⟨_,rfl⟩
   have HM:Hid (m.length=nm):=hnm
   rw[hnm] at hmb
   rw[hnm]
   clear hb2 hI hm HE HE2 E1 hc hnm d1
   go_wp2_with fail
   go_loopw [29] (fun i wx=>∃j:Nat,j≤nm∧i=.int .i64 j∧Hid (((m.take j).any fun v=>(tyA (xs.map jk) v).isNone)=false)∧Hid (Below w2.heap.size w2 wx)) (fun i _=>nm - (intOf i).toNat)
   case atStart=>exact⟨0,Nat.zero_le _,rfl,rfl,Below.refl _ _⟩
   case round =>
    obtain⟨j,hj,rfl,hN,hB⟩:=hrel
    have B3:Hid (Below w.heap.size w wr):=B2.out.trans (hB.out.mono B2.out.size)
    by_cases hlt:j < nm
    ·have j1:(j:Int) < (nm:Int):=by omega
     obtain⟨v,hv⟩:∃v,m[j]?=some v:=⟨_,List.getElem?_eq_getElem (by rw[HM.out];exact hlt)⟩
     obtain⟨g2,o2,rfl,z0⟩:=(HI.out.under hB.out) j v hv
     have TY:Hid _:=q9p wr O P vS xs v (HS.out.below B3.out) HL.out.2.1 (HWF.out v (List.mem_of_getElem? hv))
     rw[q97] at TY
     have htk:m.take (j + 1)=m.take j++[v]:=by rw[List.take_add_one,hv];rfl
     cases ht:tyA (xs.map jk) v with
     | none =>
      rw[ht] at TY
      have HF:Hid (yg (isV:=isV) (xs.map jk) (x :: r)=70):=by
       show _=_
       rw[HE3.out,if_pos]
       rw[List.any_eq_true]
       exact⟨v,List.mem_of_getElem? hv,by rw[ht];rfl⟩
      clear ht htk hv
      go_wp2_with fail
      refine Calls.mono TY.out ?_
      rintro e w5 ⟨rfl,hb5⟩
      have B5:Hid (Below w.heap.size w w5):=B3.out.trans (hb5.mono B3.out.size)
      clear hb5 TY
      go_wp2
      go_ret
      exact⟨by rw[HF.out];rfl,B5.out⟩
     | some t =>
      rw[ht] at TY
      have HN2:Hid (((m.take (j + 1)).any fun v=>(tyA (xs.map jk) v).isNone)=false):=by
       show _=_
       rw[htk,List.any_append,hN.out]
       simp[ht]
      clear ht htk hv
      go_wp2_with fail
      refine Calls.mono TY.out ?_
      rintro e w5 ⟨rfl,hb5⟩
      have B5:Hid (Below w2.heap.size w2 w5):=hB.out.trans (hb5.mono hB.out.size)
      clear hb5 TY
      go_wp2
      exact⟨⟨j + 1,by omega,by go_num,HN2.out,B5.out⟩,by simp[intOf];omega⟩
    ·have j1:¬(j:Int) < (nm:Int):=by omega
     have HF:Hid (yg (isV:=isV) (xs.map jk) (x :: r)=0):=by
      show _=_
      have h:=hN.out
      rw[List.take_of_length_le (by rw[HM.out];omega)] at h
      rw[HE3.out,h,if_neg (by simp)]
     go_wp2
     go_ret
     exact⟨by rw[HF.out];rfl,B3.out⟩
def q4h (l:List Sa)(lab:ByteArray)(e:List Int):List Sa:=if yg (isV:=isV) l e=0 then q1w (fun a=>⟨a.hs++[⟨lab,false,-1,e⟩],a.ps⟩) l else l
theorem qmz (w:World)(O:Nat→Prop)(P:Nat)(vS:Value)(xs:List ScC)(lab:ByteArray)(a:Option Addr)(n c:Nat)(e:List Int)(h:qw tq O w P vS xs)(hV:q2w tq isV w)(h0:0 < xs.length)(hx:xs.length≤1048576)(hm:∀x ∈ xs,x.hs.length≤1048576)(hlab:lab.size≤281474976710656)(hl:e.length=n)(hn:n≤17592186043904)(hA:q1a w a e)(hw:∀x ∈ e,wfN x) :
  Calls Tryz.prog 172 #[.pointer (some ⟨P,0,none⟩),.string lab,.slice a n c] w (Decl (tq:=tq) O w P (yg (isV:=isV) (xs.map jk) e) (q4h (isV:=isV) (xs.map jk) lab e)):=by
 have HS:Hid (qw tq O w P vS xs):=h
 have JD:Hid _:=qbu w O P vS xs a n c e h hV hx hl hn hA hw
 have HM:Hid (0 < xs.length∧xs.length≤1048576∧(∀x ∈ xs,x.hs.length≤1048576)∧lab.size≤281474976710656∧e.length=n∧q1a w a e):=⟨h0,hx,hm,hlab,hl,hA⟩
 clear h h0 hx hm hlab hl hA hw hV
 obtain⟨E,hE⟩:∃E,yg (isV:=isV) (xs.map jk) e=E:=⟨_,rfl⟩
 rw[hE] at JD ⊢
 by_cases e0:E=0
 ·subst e0
  obtain⟨ys,x,hxs⟩:∃ys x,xs=ys++[x]:=⟨xs.dropLast,xs.getLast (List.ne_nil_of_length_pos HM.out.1),(List.dropLast_concat_getLast _).symm⟩
  have HE:Hid (q4h (isV:=isV) (xs.map jk) lab e=ys.map jk++[⟨x.hs.map (·.h)++[⟨lab,false,-1,e⟩],x.ps⟩]):=by
   show _=_
   unfold q4h;rw[hE,if_pos rfl,hxs,List.map_append];exact q4l _ _ _
  clear hE
  go_enter Tryz.func172,Tryz.ntmps172
  go_wp2_with fail
  refine Calls.mono JD.out ?_
  rintro ee w5 ⟨rfl,hb5⟩
  have S5:=HS.out.below hb5
  obtain⟨g,cc,cs,hvS,hcs,hcell⟩:=S5.shape HM.out.1
  subst hxs
  have hlen:(ys++[x]).length=ys.length + 1:=by rw[List.length_append];rfl
  rw[hlen] at hvS
  subst hvS
  have IN:Hid _:=q85 w5 O P g (ys.length + 1) cc (ys++[x]) hlen (by omega) (by have:=HM.out.2.1;omega) S5
  rw[show (ys.length + 1 - 1) * 3=ys.length * 3 by omega] at IN
  have hxat:(ys++[x])[ys.length]?=some x:=by simp
  have FL:Hid (∀q,Calls Tryz.prog 232 #[.pointer (some ⟨g,ys.length * 3,none⟩),.string lab,.slice a n c] (w5.drewN q) fun ee w'=>ee=.returned (.tuple #[])∧∃vl' ve,Put (w5.drewN q) w' g (ys.length * 3) cs x vl' ve ⟨lab,false,-1,e⟩ x.mn):=fun q =>
   qcx (w5.drewN q) O g (ys.length * 3) cs x lab a n c e hcs (hcell ys.length 0 x hxat (by omega)) ((S5.below (zu (Below.refl _ _) q)).each x (by simp)) (HM.out.2.2.1 x (by simp)) HM.out.2.2.2.1 HM.out.2.2.2.2.1 (by omega) (HM.out.2.2.2.2.2.under (zu hb5 q))
  have HS5:Hid (qw tq O w5 P (.slice (some ⟨g,0,none⟩) (ys.length + 1) cc) (ys++[x])∧w5.heap[g]?=some (.cells cs 225 (0,0))∧Below w.heap.size w w5):=⟨S5,hcs,hb5⟩
  obtain⟨ny,hny⟩:∃ny,ys.length=ny:=⟨_,rfl⟩
  rw[hny] at IN FL
  have HNY:Hid (ys.length=ny):=hny
  clear S5 hcs hcell hb5 JD hlen hxat hny
  go_wp2_with fail
  refine Calls.mono IN.out ?_
  rintro ee wz ⟨rfl,q,hwz⟩
  subst hwz
  go_wp2_with fail
  refine Calls.mono (FL.out q) ?_
  rintro ee w7 ⟨rfl,vl',ve,hp⟩
  have FI:Hid (Decl (tq:=tq) O w P 0 (ys.map jk++[⟨x.hs.map (·.h)++[⟨lab,false,-1,e⟩],x.ps⟩]) (.returned (.int .i64 0)) w7):=by
   have S6:=HS5.out.1.below (zu (Below.refl _ _) q)
   rw[←HNY.out] at hp
   obtain⟨k1,k2⟩:=S6.put (g:=g) HS5.out.2.1 hp (by have:=(S6.each x (by simp)).mc;omega)
   have bq:Below w.heap.size w (w5.drewN q):=zu HS5.out.2.2 q
   refine⟨rfl,_,_,k1.up (fun b hb=>?_) (fun b hb=>?_),?_,(S.M.Ch.of_below bq).trans k2⟩
   ·rcases hb with hb | hb
    ·exact .inl hb
    ·exact .inr ⟨Nat.le_trans bq.size hb.1,hb.2⟩
   ·rcases hb with hb | hb
    ·exact Nat.lt_of_lt_of_le (S6.lt b hb) k2.size
    ·exact hb.2
   ·simp[jk]
  clear hp IN FL
  go_wp2
  go_ret
  rw[HE.out]
  exact FI.out
 ·have z:(E == 0)=false:=by simp;exact e0
  have HE:Hid (q4h (isV:=isV) (xs.map jk) lab e=xs.map jk):=by show _=_;unfold q4h;rw[hE,if_neg e0]
  clear hE
  go_enter Tryz.func172,Tryz.ntmps172
  go_wp2_with fail
  refine Calls.mono JD.out ?_
  rintro ee w5 ⟨rfl,hb5⟩
  have B5:Hid (Below w.heap.size w w5):=hb5
  clear hb5 JD
  go_wp2
  go_ret
  rw[HE.out]
  exact Decl.same HS.out B5.out
end F
namespace F
open Go.Maps Go.RowKit Go.WideMaps
variable {tq:Nat} {isV:Int→Bool}
def newC (b:Nat):ScC:=⟨.slice none 0 0,[],b,0,.slice none 0 0,[]⟩
theorem qig {O:Nat→Prop}{W:World}{b:Nat}(h:q2b W b 0 (fun _=>none))(hb:O b):q5r O W (newC b):=⟨World.ownsRow_nil _ _ _ _,(fun g e=>by cases e),(fun y hy=>by cases hy),h,hb,Nat.le_refl _,World.ownsRow_nil _ _ _ _,(fun g e=>by cases e)⟩
theorem qw.q98 {O:Nat→Prop} {w wA W8:World} {P:Nat} {vS vS':Value} {xs ys:List ScC} (hS:qw tq O wA P vS xs) (hw:w.heap.size≤wA.heap.size) (hg:S.M.Ch (fun g=>vS.ownBlock=some g) wA W8) (ho:W8.ownsRow 0 225 3 vS' ys.length (uq ys)) (loc:∀g,vS'.ownBlock=some g→vS.ownBlock=some g∨wA.heap.size≤g)
  (hy:∀y ∈ ys,y ∈ xs∨∃b,y=newC b∧q2b wA b 0 (fun _=>none)∧w.heap.size≤b) (ap:ys.Pairwise ScAp) :
  qw tq (More O w (W8.setCell ⟨P,1,none⟩ vS')) (W8.setCell ⟨P,1,none⟩ vS') P vS' ys∧S.M.Ch O wA (W8.setCell ⟨P,1,none⟩ vS'):=by
 have cP:=S.M.xu W8 P 1 vS'
 have neP:vS.ownBlock≠some P:=own_ne hS.row hS.box (by decide)
 have box8:W8.heap[P]?=some (.cells #[(q17 tq),vS] 171 (0,0)):=(hg.block P (hS.lt P hS.bo) neP).trans hS.box
 have cA:S.M.Ch O wA (W8.setCell ⟨P,1,none⟩ vS'):=(hg.mono fun g e=>hS.ro g e).trans (cP.mono fun g e=>by rw[e];exact hS.bo)
 have two:S.M.Ch (fun g=>vS.ownBlock=some g∨g=P) wA (W8.setCell ⟨P,1,none⟩ vS'):=(hg.mono fun g e=>.inl e).trans (cP.mono fun g e=>.inr e)
 have up:∀b,O b→More O w (W8.setCell ⟨P,1,none⟩ vS') b:=fun b hb=>.inl hb
 have rows:∀{base e sz k:Nat} {v:Value} {zs:List Value},wA.ownsRow base e sz v k zs→e≠225→e≠171→∀b,v.ownBlock=some b→¬(vS.ownBlock=some b∨b=P):=fun ho h1 h2 b hb e=>by
  rcases e with e | rfl
  ·exact uf ho hS.row h1 b hb e
  ·exact own_ne ho hS.box h2 hb
 have maps:∀{b mn:Nat} {f:Int→Option Int},q2b wA b mn f→¬(vS.ownBlock=some b∨b=P):=fun hm e=>by
  rcases e with e | rfl
  ·exact q49 hS.row hm e
  ·exact q3x hS.box hm rfl
 refine⟨⟨S.M.qj box8,up _ hS.bo,S.M.qh ho cP fun g hg' e=>own_ne ho box8 (by decide) (by rw[hg',e]),fun g e=>?_,fun y hyy=>?_,ap,fun g hgg=>?_⟩,cA⟩
 ·rcases loc g e with h | h
  ·exact up g (hS.ro g h)
  ·exact .inr ⟨Nat.le_trans hw h,Nat.lt_of_lt_of_le (S.M.jl ho g e) cP.size⟩
 ·rcases hy y hyy with hx | ⟨b,rfl,hm,hb⟩
  ·have hok:=hS.each y hx
   exact (hok.ch two (rows hok.l (by decide) (by decide)) (fun z hz=>rows (hok.e z hz).1 (by decide) (by decide)) (maps hok.m) (rows hok.p (by decide) (by decide))).mono up
  ·obtain⟨es,ck,h3⟩:=hm.isM
   have hlt:=(Array.getElem?_eq_some_iff.1 h3).1
   exact qig (hm.kept (two.block b hlt (maps hm))) (.inr ⟨hb,Nat.lt_of_lt_of_le hlt cA.size⟩)
 ·rcases hgg with h | h
  ·exact Nat.lt_of_lt_of_le (hS.lt g h) cA.size
  ·exact h.2
def q1q (l:List Sa):Int:=if 17≤l.length then 23 else 0
def q1b (l:List Sa):List Sa:=if 17≤l.length then l else l++[⟨[],[]⟩]
theorem qkf (w:World)(O:Nat→Prop)(P:Nat)(vS:Value)(xs:List ScC)(h:qw tq O w P vS xs)(hn:xs.length≤1048576) :
  Calls Tryz.prog 105 #[.pointer (some ⟨P,0,none⟩)] w (Decl (tq:=tq) O w P (q1q (xs.map jk)) (q1b (xs.map jk))):=by
 obtain⟨iS,hiS,iSz,iSs,iSb⟩:=info_parts qmw
 have HS:Hid (qw tq O w P vS xs):=h
 have DP:Hid _:=q41 w O P vS xs h hn
 obtain⟨n,hl⟩:∃n,xs.length=n:=⟨_,rfl⟩
 rw[hl] at DP hn
 have HL:Hid (xs.length=n):=hl
 clear h hl
 by_cases h17:17≤n
 ·have z:((16:Int)≤(n:Int) - 1):=by omega
  have HE:Hid (q1q (xs.map jk)=23∧q1b (xs.map jk)=xs.map jk):=by
   have h1:17≤(xs.map jk).length:=by rw[List.length_map,HL.out];exact h17
   exact⟨by unfold q1q;rw[if_pos h1],by unfold q1b;rw[if_pos h1]⟩
  go_enter Tryz.func105,Tryz.ntmps105
  go_wp2_with fail
  refine Calls.mono DP.out ?_
  rintro e wz ⟨rfl,hwz⟩
  subst wz
  go_wp2
  go_ret
  rw[HE.out.1,HE.out.2]
  exact Decl.same HS.out (Below.refl _ _)
 ·have z:¬((16:Int)≤(n:Int) - 1):=by omega
  have HE:Hid (q1q (xs.map jk)=0∧q1b (xs.map jk)=xs.map jk++[⟨[],[]⟩]):=by
   have h1:¬17≤(xs.map jk).length:=by rw[List.length_map,HL.out];exact h17
   exact⟨by unfold q1q;rw[if_neg h1],by unfold q1b;rw[if_neg h1]⟩
  have S0:Hid (qw tq O w.drew P vS xs):=HS.out.below (zu (Below.refl _ _) 1)
  have NS:Hid _:=q77 w.drew
  go_enter Tryz.func105,Tryz.ntmps105
  go_wp2_with fail
  refine Calls.mono DP.out ?_
  rintro e wz ⟨rfl,hwz⟩
  subst wz
  go_upto_region 3 with fail
  refine wp_region_held_drew (S:=fun _=>True) (by kernel_rfl) ?_ (fun hHeld=>?_)
  ·trivial
  refine tk 0 ⟨some 6,.move (.tmp 0),104,"frame.go:26",#[],none⟩ ?_ hHeld ?_ ?_
  rotate_left
  ·(intro w hSw;(try dsimp only at hSw);go_simp;try with_reducible rfl)
  try simp only[Act.put,List.setIfInBounds_toArray,List.set_cons_zero,List.set_cons_succ]
  refine tk 1 ⟨some 7,.move (.tmp 0),104,"frame.go:26",#[],none⟩ ?_ hHeld ?_ ?_
  rotate_left
  ·(intro w hSw;(try dsimp only at hSw);go_simp;try with_reducible rfl)
  try simp only[Act.put,List.setIfInBounds_toArray,List.set_cons_zero,List.set_cons_succ]
  refine tk 2 ⟨some 8,.nilCheck (.tmp 7),0,"frame.go:26",#[⟨1,.data⟩],none⟩ ?_ hHeld ?_ ?_
  rotate_left
  ·(intro w hSw;(try dsimp only at hSw);go_simp;try with_reducible rfl)
  try simp only[Act.put,List.setIfInBounds_toArray,List.set_cons_zero,List.set_cons_succ]
  refine tk 3 ⟨some 9,.fieldAddr 171 (.tmp 8) 1,0,"frame.go:26",#[⟨2,.data⟩],none⟩ ?_ hHeld ?_ ?_
  rotate_left
  ·(intro w hSw;(try dsimp only at hSw);go_simp;try with_reducible rfl)
  try simp only[Act.put,List.setIfInBounds_toArray,List.set_cons_zero,List.set_cons_succ]
  refine wpAnyH_ready (rs:=[4,5]) (by kernel_rfl) (by simp) ?_
  refine AllReadyH.cons rfl (fun K hK=>?_) (AllReadyH.cons rfl (fun K hK=>?_) AllReadyH.nil)
  ·have qL:w.cell? ⟨P,1,none⟩=some vS:=HS.out.cells.2
   go_simp
   refine hK.out _ _ ?_ (fun hHeld_4=>?_)
   ·trivial
   clear hK K
   try simp only[Act.put,List.setIfInBounds_toArray,List.set_cons_zero,List.set_cons_succ]
   refine wpAnyH_ready (rs:=[5]) (by kernel_rfl) (by simp) ?_
   refine AllReadyH.cons rfl (fun K hK=>?_) AllReadyH.nil
   go_simp
   go_at_call 152
   refine Calls.mono NS.out ?_
   rintro e w5 ⟨mb,rfl,hm5,hmb5,hb5⟩
   have S5:Hid (qw tq O w5 P vS xs):=S0.out.below hb5
   have M5:Hid (q2b w5 mb 0 (fun _=>none)∧w.heap.size≤mb∧Below w.heap.size w w5):=⟨hm5,hmb5,(zu (Below.refl _ w) 1).trans hb5⟩
   clear hm5 hmb5 hb5
   try go_wp2_with fail
   refine hK.out _ _ ?_ (fun hHeld_5=>?_)
   ·trivial
   clear hK K
   try simp only[Act.put,List.setIfInBounds_toArray,List.set_cons_zero,List.set_cons_succ]
   refine wpAnyH_ready (rs:=[6]) (by kernel_rfl) (by simp) ?_
   refine AllReadyH.cons rfl (fun K hK=>?_) AllReadyH.nil
   have S6:Hid (qw tq O (w5.alloc (.cells #[.slice none 0 0,.map (some mb),.slice none 0 0] 225)) P vS xs):=S5.out.below (qo _ _)
   have M6:Hid (q2b (w5.alloc (.cells #[.slice none 0 0,.map (some mb),.slice none 0 0] 225)) mb 0 (fun _=>none)∧w.heap.size≤mb∧Below w.heap.size w (w5.alloc (.cells #[.slice none 0 0,.map (some mb),.slice none 0 0] 225))):=by
    obtain⟨es,ck,h3⟩:=M5.out.1.isM
    exact⟨M5.out.1.kept ((qo w5 _).block mb (Array.getElem?_eq_some_iff.1 h3).1),M5.out.2.1,M5.out.2.2.trans ((qo w5 _).mono M5.out.2.2.size)⟩
   go_simp
   refine hK.out _ _ ?_ (fun hHeld_6=>?_)
   ·trivial
   clear hK K
   try simp only[Act.put,List.setIfInBounds_toArray,List.set_cons_zero,List.set_cons_succ]
   refine wpAnyH_ready (rs:=[7]) (by kernel_rfl) (by simp) ?_
   refine AllReadyH.cons rfl (fun K hK=>?_) AllReadyH.nil
   refine step_append_lies (w5.alloc (.cells #[.slice none 0 0,.map (some mb),.slice none 0 0] 225)) rfl _ _ 169 rfl 0 225 iS _ 3 56 Tryz.underlying169 hiS iSz iSs iSb rfl (by omega) vS n (uq xs) (by rfl) (by have h:=S6.out.row;rw[HL.out] at h;exact h) ⟨w5.heap.size,0,none⟩ 1 1 [.slice none 0 0,.map (some mb),.slice none 0 0] (by rfl) (by rfl) (World.news_of_block (cs:=#[.slice none 0 0,.map (some mb),.slice none 0 0]) (t:=225) (fr:=(0,0)) (heap_alloc_new w5 _)) (by simp[Value.oneCell']) (by omega) (by unfold maxLen;omega) (by omega) (Nat.zero_le _) _ rfl ?_
   intro gg cap' w8 hown8 hgrow hat hlt8
   have FI:Hid (Decl (tq:=tq) O w P 0 (xs.map jk++[⟨[],[]⟩]) (.returned (.int .i64 0)) (w8.setCell ⟨P,1,none⟩ (.slice (some ⟨gg,0,none⟩) (n + 1) cap'))∧w8.heap[P]?=some (.cells #[(q17 tq),vS] 171 (0,0))):=by
    have hrow:w8.ownsRow 0 225 3 (.slice (some ⟨gg,0,none⟩) (n + 1) cap') (xs++[newC mb]).length (uq (xs++[newC mb])):=by rw[List.length_append,HL.out,q1k];exact hown8
    obtain⟨k1,k2⟩:=S6.out.q98 (w:=w) (ys:=xs++[newC mb]) M6.out.2.2.size (S.M.Ch.jm hgrow) hrow (fun g e=>by rcases S.M.q43 (c:=cap') (n:=n + 1) hat g e with h | h;exact .inl h;exact .inr h) (fun y hy=>by
     rcases List.mem_append.1 hy with hy | hy
     ·exact .inl hy
     ·rw[List.mem_singleton.1 hy];exact .inr ⟨mb,rfl,M6.out.1,M6.out.2.1⟩) (List.pairwise_append.2 ⟨S6.out.ap,by simp,fun y hy z hz=>by
      rw[List.mem_singleton.1 hz]
      refine⟨(fun b _ e=>by cases e),fun e=>?_,(fun b _ e=>by cases e)⟩
      have h1:=HS.out.lt _ (HS.out.each y hy).mo
      have h2:=M6.out.2.1
      have e':y.mb=mb:=e
      omega⟩)
    refine⟨⟨rfl,_,_,k1,?_,(S.M.Ch.of_below M6.out.2.2).trans k2⟩,?_⟩
    ·rw[List.map_append];rfl
    ·exact (hgrow.block P (S6.out.lt P S6.out.bo) (fun e=>own_ne S6.out.row S6.out.box (by decide) e.symm)).trans S6.out.box
   clear hgrow hat hown8 hlt8
   refine hK.out _ _ ?_ (fun hHeld_7=>?_)
   ·trivial
   clear hK K
   try simp only[Act.put,List.setIfInBounds_toArray]
   refine tk 8 ⟨some 14,.nilCheck (.tmp 6),0,"frame.go:26",#[⟨0,.data⟩,⟨0,.phase⟩,⟨1,.phase⟩,⟨2,.phase⟩,⟨3,.phase⟩,⟨4,.phase⟩,⟨5,.phase⟩,⟨6,.phase⟩,⟨7,.phase⟩],none⟩ ?_ hHeld_7 ?_ ?_
   rotate_left
   ·(intro w hSw;(try dsimp only at hSw);go_simp;try with_reducible rfl)
   try simp only[Act.put]
   refine tk 9 ⟨some 15,.fieldAddr 171 (.tmp 14) 1,0,"frame.go:26",#[⟨8,.data⟩,⟨0,.phase⟩,⟨1,.phase⟩,⟨2,.phase⟩,⟨3,.phase⟩,⟨4,.phase⟩,⟨5,.phase⟩,⟨6,.phase⟩,⟨7,.phase⟩],none⟩ ?_ hHeld_7 ?_ ?_
   rotate_left
   ·(intro w hSw;(try dsimp only at hSw);go_simp;try with_reducible rfl)
   try simp only[Act.put]
   refine wpAnyH_ready (rs:=[10]) (by kernel_rfl) (by simp) ?_
   refine AllReadyH.cons rfl (fun K hK=>?_) AllReadyH.nil
   have dL:w8.cell? ⟨P,1,none⟩=some vS:=S.M.qc FI.out.2 1
   have fL:w8.frozen? ⟨P,1,none⟩=false:=by simp[World.frozen?,FI.out.2]
   go_simp
   refine hK.out _ _ ?_ (fun hHeld_10=>?_)
   ·trivial
   clear hK K
   try simp only[Act.put,List.setIfInBounds_toArray,List.set_cons_zero,List.set_cons_succ]
   refine wpAnyH_done (by kernel_rfl) ?_ _
   go_wp2_with fail
   go_ret
   rw[HE.out.1,HE.out.2]
   exact FI.out.1
  ·go_simp
   go_at_call 152
   refine Calls.mono NS.out ?_
   rintro e w5 ⟨mb,rfl,hm5,hmb5,hb5⟩
   have S5:Hid (qw tq O w5 P vS xs):=S0.out.below hb5
   have M5:Hid (q2b w5 mb 0 (fun _=>none)∧w.heap.size≤mb∧Below w.heap.size w w5):=⟨hm5,hmb5,(zu (Below.refl _ w) 1).trans hb5⟩
   clear hm5 hmb5 hb5
   try go_wp2_with fail
   refine hK.out _ _ ?_ (fun hHeld_5=>?_)
   ·trivial
   clear hK K
   try simp only[Act.put,List.setIfInBounds_toArray,List.set_cons_zero,List.set_cons_succ]
   refine wpAnyH_ready (rs:=[4,6]) (by kernel_rfl) (by simp) ?_
   refine AllReadyH.cons rfl (fun K hK=>?_) (AllReadyH.cons rfl (fun K hK=>?_) AllReadyH.nil)
   ·have qL:w5.cell? ⟨P,1,none⟩=some vS:=S5.out.cells.2
    go_simp
    refine hK.out _ _ ?_ (fun hHeld_4=>?_)
    ·trivial
    clear hK K
    try simp only[Act.put,List.setIfInBounds_toArray,List.set_cons_zero,List.set_cons_succ]
    refine wpAnyH_ready (rs:=[6]) (by kernel_rfl) (by simp) ?_
    refine AllReadyH.cons rfl (fun K hK=>?_) AllReadyH.nil
    have S6:Hid (qw tq O (w5.alloc (.cells #[.slice none 0 0,.map (some mb),.slice none 0 0] 225)) P vS xs):=S5.out.below (qo _ _)
    have M6:Hid (q2b (w5.alloc (.cells #[.slice none 0 0,.map (some mb),.slice none 0 0] 225)) mb 0 (fun _=>none)∧w.heap.size≤mb∧Below w.heap.size w (w5.alloc (.cells #[.slice none 0 0,.map (some mb),.slice none 0 0] 225))):=by
     obtain⟨es,ck,h3⟩:=M5.out.1.isM
     exact⟨M5.out.1.kept ((qo w5 _).block mb (Array.getElem?_eq_some_iff.1 h3).1),M5.out.2.1,M5.out.2.2.trans ((qo w5 _).mono M5.out.2.2.size)⟩
    go_simp
    refine hK.out _ _ ?_ (fun hHeld_6=>?_)
    ·trivial
    clear hK K
    try simp only[Act.put,List.setIfInBounds_toArray,List.set_cons_zero,List.set_cons_succ]
    refine wpAnyH_ready (rs:=[7]) (by kernel_rfl) (by simp) ?_
    refine AllReadyH.cons rfl (fun K hK=>?_) AllReadyH.nil
    refine step_append_lies (w5.alloc (.cells #[.slice none 0 0,.map (some mb),.slice none 0 0] 225)) rfl _ _ 169 rfl 0 225 iS _ 3 56 Tryz.underlying169 hiS iSz iSs iSb rfl (by omega) vS n (uq xs) (by rfl) (by have h:=S6.out.row;rw[HL.out] at h;exact h) ⟨w5.heap.size,0,none⟩ 1 1 [.slice none 0 0,.map (some mb),.slice none 0 0] (by rfl) (by rfl) (World.news_of_block (cs:=#[.slice none 0 0,.map (some mb),.slice none 0 0]) (t:=225) (fr:=(0,0)) (heap_alloc_new w5 _)) (by simp[Value.oneCell']) (by omega) (by unfold maxLen;omega) (by omega) (Nat.zero_le _) _ rfl ?_
    intro gg cap' w8 hown8 hgrow hat hlt8
    have FI:Hid (Decl (tq:=tq) O w P 0 (xs.map jk++[⟨[],[]⟩]) (.returned (.int .i64 0)) (w8.setCell ⟨P,1,none⟩ (.slice (some ⟨gg,0,none⟩) (n + 1) cap'))∧w8.heap[P]?=some (.cells #[(q17 tq),vS] 171 (0,0))):=by
     have hrow:w8.ownsRow 0 225 3 (.slice (some ⟨gg,0,none⟩) (n + 1) cap') (xs++[newC mb]).length (uq (xs++[newC mb])):=by rw[List.length_append,HL.out,q1k];exact hown8
     obtain⟨k1,k2⟩:=S6.out.q98 (w:=w) (ys:=xs++[newC mb]) M6.out.2.2.size (S.M.Ch.jm hgrow) hrow (fun g e=>by rcases S.M.q43 (c:=cap') (n:=n + 1) hat g e with h | h;exact .inl h;exact .inr h) (fun y hy=>by
      rcases List.mem_append.1 hy with hy | hy
      ·exact .inl hy
      ·rw[List.mem_singleton.1 hy];exact .inr ⟨mb,rfl,M6.out.1,M6.out.2.1⟩) (List.pairwise_append.2 ⟨S6.out.ap,by simp,fun y hy z hz=>by
       rw[List.mem_singleton.1 hz]
       refine⟨(fun b _ e=>by cases e),fun e=>?_,(fun b _ e=>by cases e)⟩
       have h1:=HS.out.lt _ (HS.out.each y hy).mo
       have h2:=M6.out.2.1
       have e':y.mb=mb:=e
       omega⟩)
     refine⟨⟨rfl,_,_,k1,?_,(S.M.Ch.of_below M6.out.2.2).trans k2⟩,?_⟩
     ·rw[List.map_append];rfl
     ·exact (hgrow.block P (S6.out.lt P S6.out.bo) (fun e=>own_ne S6.out.row S6.out.box (by decide) e.symm)).trans S6.out.box
    clear hgrow hat hown8 hlt8
    refine hK.out _ _ ?_ (fun hHeld_7=>?_)
    ·trivial
    clear hK K
    try simp only[Act.put,List.setIfInBounds_toArray]
    refine tk 8 ⟨some 14,.nilCheck (.tmp 6),0,"frame.go:26",#[⟨0,.data⟩,⟨0,.phase⟩,⟨1,.phase⟩,⟨2,.phase⟩,⟨3,.phase⟩,⟨4,.phase⟩,⟨5,.phase⟩,⟨6,.phase⟩,⟨7,.phase⟩],none⟩ ?_ hHeld_7 ?_ ?_
    rotate_left
    ·(intro w hSw;(try dsimp only at hSw);go_simp;try with_reducible rfl)
    try simp only[Act.put]
    refine tk 9 ⟨some 15,.fieldAddr 171 (.tmp 14) 1,0,"frame.go:26",#[⟨8,.data⟩,⟨0,.phase⟩,⟨1,.phase⟩,⟨2,.phase⟩,⟨3,.phase⟩,⟨4,.phase⟩,⟨5,.phase⟩,⟨6,.phase⟩,⟨7,.phase⟩],none⟩ ?_ hHeld_7 ?_ ?_
    rotate_left
    ·(intro w hSw;(try dsimp only at hSw);go_simp;try with_reducible rfl)
    try simp only[Act.put]
    refine wpAnyH_ready (rs:=[10]) (by kernel_rfl) (by simp) ?_
    refine AllReadyH.cons rfl (fun K hK=>?_) AllReadyH.nil
    have dL:w8.cell? ⟨P,1,none⟩=some vS:=S.M.qc FI.out.2 1
    have fL:w8.frozen? ⟨P,1,none⟩=false:=by simp[World.frozen?,FI.out.2]
    go_simp
    refine hK.out _ _ ?_ (fun hHeld_10=>?_)
    ·trivial
    clear hK K
    try simp only[Act.put,List.setIfInBounds_toArray,List.set_cons_zero,List.set_cons_succ]
    refine wpAnyH_done (by kernel_rfl) ?_ _
    go_wp2_with fail
    go_ret
    rw[HE.out.1,HE.out.2]
    exact FI.out.1
   ·have S6:Hid (qw tq O (w5.alloc (.cells #[.slice none 0 0,.map (some mb),.slice none 0 0] 225)) P vS xs):=S5.out.below (qo _ _)
    have M6:Hid (q2b (w5.alloc (.cells #[.slice none 0 0,.map (some mb),.slice none 0 0] 225)) mb 0 (fun _=>none)∧w.heap.size≤mb∧Below w.heap.size w (w5.alloc (.cells #[.slice none 0 0,.map (some mb),.slice none 0 0] 225))):=by
     obtain⟨es,ck,h3⟩:=M5.out.1.isM
     exact⟨M5.out.1.kept ((qo w5 _).block mb (Array.getElem?_eq_some_iff.1 h3).1),M5.out.2.1,M5.out.2.2.trans ((qo w5 _).mono M5.out.2.2.size)⟩
    go_simp
    refine hK.out _ _ ?_ (fun hHeld_6=>?_)
    ·trivial
    clear hK K
    try simp only[Act.put,List.setIfInBounds_toArray,List.set_cons_zero,List.set_cons_succ]
    refine wpAnyH_ready (rs:=[4]) (by kernel_rfl) (by simp) ?_
    refine AllReadyH.cons rfl (fun K hK=>?_) AllReadyH.nil
    have qL:(w5.alloc (.cells #[.slice none 0 0,.map (some mb),.slice none 0 0] 225)).cell? ⟨P,1,none⟩=some vS:=S6.out.cells.2
    go_simp
    refine hK.out _ _ ?_ (fun hHeld_4=>?_)
    ·trivial
    clear hK K
    try simp only[Act.put,List.setIfInBounds_toArray,List.set_cons_zero,List.set_cons_succ]
    refine wpAnyH_ready (rs:=[7]) (by kernel_rfl) (by simp) ?_
    refine AllReadyH.cons rfl (fun K hK=>?_) AllReadyH.nil
    refine step_append_lies (w5.alloc (.cells #[.slice none 0 0,.map (some mb),.slice none 0 0] 225)) rfl _ _ 169 rfl 0 225 iS _ 3 56 Tryz.underlying169 hiS iSz iSs iSb rfl (by omega) vS n (uq xs) (by rfl) (by have h:=S6.out.row;rw[HL.out] at h;exact h) ⟨w5.heap.size,0,none⟩ 1 1 [.slice none 0 0,.map (some mb),.slice none 0 0] (by rfl) (by rfl) (World.news_of_block (cs:=#[.slice none 0 0,.map (some mb),.slice none 0 0]) (t:=225) (fr:=(0,0)) (heap_alloc_new w5 _)) (by simp[Value.oneCell']) (by omega) (by unfold maxLen;omega) (by omega) (Nat.zero_le _) _ rfl ?_
    intro gg cap' w8 hown8 hgrow hat hlt8
    have FI:Hid (Decl (tq:=tq) O w P 0 (xs.map jk++[⟨[],[]⟩]) (.returned (.int .i64 0)) (w8.setCell ⟨P,1,none⟩ (.slice (some ⟨gg,0,none⟩) (n + 1) cap'))∧w8.heap[P]?=some (.cells #[(q17 tq),vS] 171 (0,0))):=by
     have hrow:w8.ownsRow 0 225 3 (.slice (some ⟨gg,0,none⟩) (n + 1) cap') (xs++[newC mb]).length (uq (xs++[newC mb])):=by rw[List.length_append,HL.out,q1k];exact hown8
     obtain⟨k1,k2⟩:=S6.out.q98 (w:=w) (ys:=xs++[newC mb]) M6.out.2.2.size (S.M.Ch.jm hgrow) hrow (fun g e=>by rcases S.M.q43 (c:=cap') (n:=n + 1) hat g e with h | h;exact .inl h;exact .inr h) (fun y hy=>by
      rcases List.mem_append.1 hy with hy | hy
      ·exact .inl hy
      ·rw[List.mem_singleton.1 hy];exact .inr ⟨mb,rfl,M6.out.1,M6.out.2.1⟩) (List.pairwise_append.2 ⟨S6.out.ap,by simp,fun y hy z hz=>by
       rw[List.mem_singleton.1 hz]
       refine⟨(fun b _ e=>by cases e),fun e=>?_,(fun b _ e=>by cases e)⟩
       have h1:=HS.out.lt _ (HS.out.each y hy).mo
       have h2:=M6.out.2.1
       have e':y.mb=mb:=e
       omega⟩)
     refine⟨⟨rfl,_,_,k1,?_,(S.M.Ch.of_below M6.out.2.2).trans k2⟩,?_⟩
     ·rw[List.map_append];rfl
     ·exact (hgrow.block P (S6.out.lt P S6.out.bo) (fun e=>own_ne S6.out.row S6.out.box (by decide) e.symm)).trans S6.out.box
    clear hgrow hat hown8 hlt8
    refine hK.out _ _ ?_ (fun hHeld_7=>?_)
    ·trivial
    clear hK K
    try simp only[Act.put,List.setIfInBounds_toArray]
    refine tk 8 ⟨some 14,.nilCheck (.tmp 6),0,"frame.go:26",#[⟨0,.data⟩,⟨0,.phase⟩,⟨1,.phase⟩,⟨2,.phase⟩,⟨3,.phase⟩,⟨4,.phase⟩,⟨5,.phase⟩,⟨6,.phase⟩,⟨7,.phase⟩],none⟩ ?_ hHeld_7 ?_ ?_
    rotate_left
    ·(intro w hSw;(try dsimp only at hSw);go_simp;try with_reducible rfl)
    try simp only[Act.put]
    refine tk 9 ⟨some 15,.fieldAddr 171 (.tmp 14) 1,0,"frame.go:26",#[⟨8,.data⟩,⟨0,.phase⟩,⟨1,.phase⟩,⟨2,.phase⟩,⟨3,.phase⟩,⟨4,.phase⟩,⟨5,.phase⟩,⟨6,.phase⟩,⟨7,.phase⟩],none⟩ ?_ hHeld_7 ?_ ?_
    rotate_left
    ·(intro w hSw;(try dsimp only at hSw);go_simp;try with_reducible rfl)
    try simp only[Act.put]
    refine wpAnyH_ready (rs:=[10]) (by kernel_rfl) (by simp) ?_
    refine AllReadyH.cons rfl (fun K hK=>?_) AllReadyH.nil
    have dL:w8.cell? ⟨P,1,none⟩=some vS:=S.M.qc FI.out.2 1
    have fL:w8.frozen? ⟨P,1,none⟩=false:=by simp[World.frozen?,FI.out.2]
    go_simp
    refine hK.out _ _ ?_ (fun hHeld_10=>?_)
    ·trivial
    clear hK K
    try simp only[Act.put,List.setIfInBounds_toArray,List.set_cons_zero,List.set_cons_succ]
    refine wpAnyH_done (by kernel_rfl) ?_ _
    go_wp2_with fail
    go_ret
    rw[HE.out.1,HE.out.2]
    exact FI.out.1
end F
namespace F
open S (qm jg)
open Go.Maps Go.RowKit Go.WideMaps
variable {tq:Nat} {isV:Int→Bool}
def q0j (xs:List ScC):List Pp:=xs.flatMap (·.ps)
def uo (l:List Sa):List Pp:=l.flatMap (·.ps)
theorem qcz (xs:List ScC):q0j xs=uo (xs.map jk):=by unfold q0j uo;rw[List.flatMap_map];rfl
theorem q5v (l m:List Pp):je (l++m)=je l++je m:=by unfold je;rw[List.flatMap_append]
theorem q9t (l:List Pp):(je l).length=l.length * 2:=by
 induction l with
 | nil=>rfl
 | cons x l ih =>
  have e:je (x :: l)=[.int .i64 x.1,.int .i64 x.2]++je l:=rfl
  rw[e,List.length_append,ih,List.length_cons];simp;omega
theorem q9u (l:List Pp):∀u ∈ je l,u.oneCell'=true:=fun u hu=>by
 unfold je at hu
 obtain⟨p,_,hp⟩:=List.mem_flatMap.1 hu
 simp at hp
 rcases hp with rfl | rfl <;> rfl
theorem q1u {W:World}{base e size n:Nat}{a:Option Addr}{c:Nat}{xs:List Value}(h:W.ownsRow base e size (.slice a n c) n xs):∀(j:Nat) (u:Value),xs[j]?=some u→∃ad,a=some ad∧W.cell? (ad.add j)=some u:=fun j u hu=>by
 obtain⟨a',c',e',_,hcell⟩:=S.M.zx h
 cases e'
 obtain⟨g,rfl,h0⟩:=hcell j u hu
 exact⟨_,rfl,by rw[Addr.add_lit,Nat.zero_add];exact h0⟩
theorem aps_le (xs:List ScC)(j:Nat):(q0j (xs.take j)).length≤(q0j xs).length:=by
 unfold q0j
 conv=>rhs;rw[←List.take_append_drop j xs,List.flatMap_append,List.length_append]
 omega
theorem q3p (w:World)(O:Nat→Prop)(P:Nat)(vS:Value)(xs:List ScC)(h:qw tq O w P vS xs)(hn:xs.length≤1048576)(hp:(q0j xs).length≤1048576) :
  Calls Tryz.prog 217 #[.pointer (some ⟨P,0,none⟩)] w fun e w'=>Below w.heap.size w w'∧∃v,e=.returned v∧w'.ownsRow w.heap.size 130 2 v (q0j xs).length (je (q0j xs)):=by
 obtain⟨iQ,hiQ,iQz,iQs,iQb⟩:=info_parts qcw
 obtain⟨a,c,rfl,_⟩:=qm h.row
 have x1:=h.cells.2
 obtain⟨n,hl⟩:∃n,xs.length=n:=⟨_,rfl⟩
 rw[hl] at x1 hn
 have HL:Hid (xs.length=n):=hl
 have HS:Hid (qw tq O w P (.slice a n c) xs):=by have h':=h;rw[hl] at h';exact h'
 have HP:Hid ((q0j xs).length≤1048576):=hp
 obtain⟨N,hN⟩:∃N,w.heap.size=N:=⟨_,rfl⟩
 have HN:Hid (w.heap.size=N):=hN
 rw[hN]
 clear h hl hp hN
 go_enter Tryz.func217,Tryz.ntmps217
 go_wp2_with fail
 go_loopw [3,11] (fun v3 v11 wx=>∃j k:Nat,j≤n∧k≤1048576∧v11=.int .i64 j∧Hid ((q0j (xs.take j)).length=k)∧Hid (wx.ownsRow N 130 2 v3 k (je (q0j (xs.take j))))∧Hid (Below N w wx)) (fun _ v11 _=>n - (intOf v11).toNat)
 case atStart=>exact⟨0,0,Nat.zero_le _,Nat.zero_le _,rfl,rfl,World.ownsRow_nil _ _ _ _,Below.refl _ _⟩
 case round =>
  obtain⟨j,k,hj,hk,rfl,hK,hO,hB⟩:=hrel
  have B0:Hid (Below w.heap.size w wr):=by show Below _ _ _;rw[HN.out];exact hB.out
  by_cases hlt:j < n
  ·have n1:(j:Int) < (n:Int):=by omega
   obtain⟨x,hx⟩:∃x,xs[j]?=some x:=⟨_,List.getElem?_eq_getElem (by rw[HL.out];exact hlt)⟩
   have hS:=HS.out.below B0.out
   have hrow:=hS.row
   rw[HL.out] at hrow
   obtain⟨g,c',e,_,_,_⟩:=S.M.q0f hrow (by omega)
   cases e
   obtain⟨y0,y1,y2⟩:=q82 hrow j x hx
   have hok:=hS.each x (List.mem_of_getElem? hx)
   obtain⟨al,cl,el,_⟩:=qm hok.l
   obtain⟨ap,cp,ep,_⟩:=qm hok.p
   rw[el] at y0
   rw[ep] at y2
   have hpo:=hok.p
   rw[ep] at hpo
   have htk:q0j (xs.take (j + 1))=q0j (xs.take j)++x.ps:=by unfold q0j;rw[List.take_add_one,hx,List.flatMap_append];simp
   have hle:=aps_le xs (j + 1)
   have hpb:=HP.out
   obtain⟨nh,hnh⟩:∃nh,x.hs.length=nh:=⟨_,rfl⟩
   obtain⟨np,hnp⟩:∃np,x.ps.length=np:=⟨_,rfl⟩
   obtain⟨mb,hmb⟩:∃mb,x.mb=mb:=⟨_,rfl⟩
   rw[hnh] at y0
   rw[hmb] at y1
   rw[hnp] at y2 hpo
   rw[htk,List.length_append,hK.out,hnp] at hle
   have hkn:k + np≤1048576:=by omega
   have K2:Hid ((q0j (xs.take (j + 1))).length=k + np):=by show _=_;rw[htk,List.length_append,hK.out,hnp]
   have HF:Hid (je (q0j (xs.take (j + 1)))=je (q0j (xs.take j))++je x.ps):=by show _=_;rw[htk,q5v]
   obtain⟨wa,hwa⟩:∃wa,wa=wr.alloc (.cells #[.slice al nh cl,.map (some mb),.slice ap np cp] 225):=⟨_,rfl⟩
   have HWA:Hid (wa=wr.alloc (.cells #[.slice al nh cl,.map (some mb),.slice ap np cp] 225)):=hwa
   have ba:Below wr.heap.size wr wa:=by rw[hwa];exact qo _ _
   have ka:wa.heap[wr.heap.size]?=some (.cells #[.slice al nh cl,.map (some mb),.slice ap np cp] 225 (0,0)):=by rw[hwa];exact heap_alloc_new wr _
   have z2:wa.cell? ⟨wr.heap.size,2,none⟩=some (.slice ap np cp):=S.M.qc ka 2
   have PA:Hid (wa.ownsRow 0 130 2 (.slice ap np cp) np (je x.ps)):=S.M.qh hpo (S.M.Ch.of_below (X:=fun _=>False) ba) fun _ _ e=>e
   have OA:Hid (wa.ownsRow N 130 2 u3 k (je (q0j (xs.take j)))):=S.M.qh hO.out (S.M.Ch.of_below (X:=fun _=>False) ba) fun _ _ e=>e
   have BA:Hid (Below N w wa∧N≤wa.heap.size):=by
    have h1:Below N w wa:=hB.out.trans (ba.mono (by have h1:=hB.out.size;have h2:=HN.out;omega))
    exact⟨h1,by have h1:=h1.size;have h2:=HN.out;omega⟩
   have HNP:Hid (x.ps.length=np):=hnp
   obtain⟨Bx,hBx⟩:∃Bx,wr.heap.size=Bx:=⟨_,rfl⟩
   rw[hBx] at z2
   have HBX:Hid (wr.heap.size=Bx):=hBx
   clear hS hrow hok hx ba ka hwa el ep hpo htk hle hO hK hnh hnp hmb hpb hB hBx
   go_upto_region 5 with fail
   rw[←HWA.out,HBX.out]
   clear HWA y0 y1 y2
   go_wp2_with (at_builtin;refine jg (w:=wa) rfl _ _ 45 rfl N 130 iQ _ 2 16 Tryz.underlying45 hiQ iQz iQs iQb rfl (by decide) _ k (je (q0j (xs.take j))) (by rfl) OA.out ap np cp (je x.ps) (by rfl) (by rw[q9t,HNP.out]) (q1u PA.out) (q9u _) (by unfold maxLen;omega) (by omega) BA.out.2 ?_;intro a8 c8 w8 ho8 hb8;have O8:Hid (w8.ownsRow N 130 2 (.slice a8 (k + np) c8) (k + np) (je (q0j (xs.take (j + 1))))):=(by show World.ownsRow _ _ _ _ _ _ _;rw[HF.out];exact ho8);have B8:Hid (Below N w w8):=BA.out.1.trans hb8;clear ho8 hb8)
   exact⟨⟨j + 1,k + np,by omega,by omega,by go_num,K2.out,O8.out,B8.out⟩,by simp[intOf];omega⟩
  ·have n1:¬(j:Int) < (n:Int):=by omega
   have hall:xs.take j=xs:=List.take_of_length_le (by rw[HL.out];omega)
   have HF:Hid (wr.ownsRow N 130 2 u3 (q0j xs).length (je (q0j xs))):=by
    have h:=hO.out
    rw[←hK.out,hall] at h
    exact h
   clear hO hK hall
   go_wp2
   go_ret
   exact⟨hB.out,_,rfl,HF.out⟩
end F
namespace F
open Go.Maps Go.RowKit Go.WideMaps
variable {tq:Nat} {isV:Int→Bool}
theorem laidOut:laidOutB Tryz.prog=true:=by kernel_rfl
def wfI (x:Int):Prop:=(Lit.int .i64 x).wf=true
instance (x:Int):Decidable (wfI x):=by unfold wfI;infer_instance
def wfP (p:Pr):Prop:=wfI p.1∧wfI p.2
def q2c (p:Pr):Value:=.agg #[.int .i64 p.1,.int .i64 p.2]
def q4x (p:Pr):Lit:=.string (keyBytes [.int .i64 p.1,.int .i64 p.2])
theorem rowP24:(130:TypeId) < Tryz.prog.types.size:=of_decide_eq_true (by kernel_rfl)
theorem qn0:(match Tryz.prog.underlying 130 with | some (.array _ _) | some (.struct _)=>true | _=>false)=true:=by kernel_rfl
theorem law24:KeyLaw Tryz.prog 130:=deep_law_laid laidOut (m:=2) (by omega) rowP24 (by kernel_rfl) qn0
theorem K24:Keyed Tryz.prog 130:=Keyed.of_law law24
theorem key24:Tryz.prog.keyType 130=true:=by kernel_rfl
theorem cells24:Tryz.prog.cellsOf 130=2:=by kernel_rfl
theorem cells3:Tryz.prog.cellsOf 3=1:=by kernel_rfl
theorem q9v:∃d,Tryz.prog.types.size + 1=d + 2:=⟨354,by kernel_rfl⟩
theorem two_of:∀{xs:List Value},xs.length=2→∃a b,xs=[a,b]
 | [a,b],_=>⟨a,b,rfl⟩
theorem qih (d:Nat)(c:Value)(L:List Lit):Tryz.prog.keyLits (d + 1) 3 [c]=some L↔∃n,c=.int .i64 n∧wfI n∧L=[.int .i64 n]:=by
 unfold Program.keyLits
 simp only[Tryz.underlying3]
 cases c with
 | int q n =>
  show (if q=.i64∧wfI n then some [Lit.int .i64 n] else none)=some L↔_
  by_cases h:q=.i64∧wfI n
  ·rw[if_pos h]
   obtain⟨rfl,h2⟩:=h
   constructor
   ·intro e;exact⟨n,rfl,h2,(Option.some.inj e).symm⟩
   ·rintro⟨m,e,_,rfl⟩;cases e;rfl
  ·rw[if_neg h]
   constructor
   ·intro e;cases e
   ·rintro⟨m,e,h2,_⟩
    cases e
    exact absurd ⟨rfl,h2⟩ h
 | _ =>
  constructor
  ·intro e;cases e
  ·rintro⟨m,e,_⟩;cases e
theorem qn1 (d:Nat)(xs:List Value)(L:List Lit):Tryz.prog.keyLits (d + 2) 130 xs=some L↔∃p:Pr,xs=[.int .i64 p.1,.int .i64 p.2]∧wfP p∧L=[.int .i64 p.1,.int .i64 p.2]:=by
 unfold Program.keyLits
 simp only[Tryz.underlying130,cells24]
 constructor
 ·intro h
  split at h
  ·rename_i hc
   obtain⟨hl,_⟩:=hc
   obtain⟨c0,c1,rfl⟩:=two_of hl
   ·simp only[List.mapM_cons,List.mapM_nil,Option.bind_eq_bind,Option.map_eq_some_iff,Option.bind_eq_some_iff,Option.pure_def,Option.some.injEq,cells3,List.drop_zero,List.take_succ_cons,List.take_zero,List.drop_succ_cons] at h
    obtain⟨qs,⟨x,hx,y,⟨z,hz,u,hu,rfl⟩,rfl⟩,rfl⟩:=h
    obtain⟨n,rfl,hn,rfl⟩:=(qih d _ _).1 hx
    obtain⟨m,rfl,hm,rfl⟩:=(qih d _ _).1 hz
    subst hu
    exact⟨(n,m),rfl,⟨hn,hm⟩,rfl⟩
  ·cases h
 ·rintro⟨⟨n,m⟩,rfl,⟨hn,hm⟩,rfl⟩
  rw[if_pos ⟨rfl,by kernel_rfl⟩]
  have h1:=(qih d (.int .i64 n) _).2 ⟨n,rfl,hn,rfl⟩
  have h2:=(qih d (.int .i64 m) _).2 ⟨m,rfl,hm,rfl⟩
  simp only[List.mapM_cons,List.mapM_nil,Option.bind_eq_bind,cells3,List.drop_zero,List.take_succ_cons,List.take_zero,List.drop_succ_cons,h1,h2,Option.bind_some,Option.pure_def,Option.map_some]
  rfl
theorem q9w {p:Pr}(h:wfP p):keyOf Tryz.prog 130 (q2c p)=some (q4x p):=by
 obtain⟨d,hd⟩:=q9v
 have h1:=(qn1 d [.int .i64 p.1,.int .i64 p.2] _).2 ⟨p,rfl,h,rfl⟩
 unfold keyOf q2c
 simp only[Tryz.underlying130,key24,Value.formed,cells24,hd]
 show (if (true && _)=true then (Tryz.prog.keyLits (d + 2) 130 [.int .i64 p.1,.int .i64 p.2]).map _ else none)=_
 rw[if_pos (by rfl),h1]
 rfl
theorem qbw {v:Value}{l:Lit}(h:keyOf Tryz.prog 130 v=some l):∃p,v=q2c p∧wfP p∧l=q4x p:=by
 obtain⟨xs,L,rfl,hk,rfl⟩:=keyOf_top qn0 h
 obtain⟨d,hd⟩:=q9v
 rw[hd] at hk
 obtain⟨p,hx,hw,rfl⟩:=(qn1 d _ _).1 hk
 obtain⟨xs⟩:=xs
 exact⟨p,by unfold q2c;rw[show xs=[.int .i64 p.1,.int .i64 p.2] from hx],hw,rfl⟩
theorem qeg {p q:Pr}(h:q2c p=q2c q):p=q:=by
 unfold q2c at h
 simp at h
 exact Prod.ext h.1 h.2
theorem qeh {p q:Pr}(hp:wfP p)(hq:wfP q)(h:q4x p=q4x q):p=q:=by
 have h1:=q9w hp
 rw[h] at h1
 exact qeg (K24.inj h1 (q9w hq))
theorem qei (p:Pr):WideAt.IsKeyLit (q4x p):=by unfold q4x;simp[WideAt.IsKeyLit]
def qb7 (W:World)(b n:Nat)(f:Pr→Bool):Prop:=∃D:DataW Unit,W.ownsMap Tryz.prog 130 unitElem b n D∧∀p,wfP p→has D (q4x p)=f p
theorem qb7.made (w:World):qb7 (w.alloc (.map #[] 0)) w.heap.size 0 (fun _=>false):=⟨.map [],World.ownsMap_made _ _ _ _,fun _ _=>rfl⟩
theorem qb7.kept {W W':World}{b n:Nat}{f:Pr→Bool}(h:qb7 W b n f)(hb:W'.heap[b]?=W.heap[b]?):qb7 W' b n f:=by
 obtain⟨D,⟨es,clock,hh,hr⟩,hf⟩:=h
 exact⟨D,⟨es,clock,hb.trans hh,hr⟩,hf⟩
theorem qb7.put {W:World}{b n:Nat}{f:Pr→Bool}(h:qb7 W b n f)(hn:n < maxLen)(p:Pr)(hp:wfP p) :
  ∃W',(Instr.mapUpdate 293 (.map (some b)) (q2c p) (.agg #[])).run Tryz.prog W=.ok () W'∧qb7 W' b (n + 1) (fun q=>if q=p then true else f q)∧W.grownBy W' (some b):=by
 obtain⟨D,hown,hf⟩:=h
 obtain⟨W',hrun,hown',hg⟩:=hown.update K24 Tryz.underlying293 hn (q9w hp) (unitElem_mk (H:=Unit))
 refine⟨W',hrun,⟨_,hown',fun q hq=>?_⟩,hg⟩
 have hM:IsMap D:=hown.isMap
 dsimp only
 by_cases e:q=p
 ·subst e
  rw[if_pos rfl,has_put_same hM (qei q)]
 ·have hne:q4x q≠q4x p:=fun h=>e (qeh hq hp h)
  rw[if_neg e,has_put_other hne]
  exact hf q hq
end F
namespace F
open Go.Maps Go.RowKit
variable {tq:Nat} {isV:Int→Bool}
def rowP (l:List Pr):List Value:=l.flatMap fun p=>[.int .i64 p.1,.int .i64 p.2]
def q1c (w:World)(a:Option Addr)(l:List Pr):Prop:=∀(i:Nat) (p:Pr),l[i]?=some p→∃b off,a=some ⟨b,off,none⟩∧w.cell? ⟨b,off + i * 2,none⟩=some (.int .i64 p.1)∧w.cell? ⟨b,off + i * 2 + 1,none⟩=some (.int .i64 p.2)
theorem qej (l:List Pr):(rowP l).length=l.length * 2:=by
 induction l with
 | nil=>rfl
 | cons a l ih=>simp only[rowP,List.flatMap_cons,List.length_append] at *;simp[ih];omega
theorem qd0:∀(l:List Pr) (i:Nat) (p:Pr),l[i]?=some p→(rowP l)[i * 2]?=some (.int .i64 p.1)∧(rowP l)[i * 2 + 1]?=some (.int .i64 p.2)
 | [],i,p,h=>by simp at h
 | q :: l,0,p,h=>by simp at h;subst h;exact⟨rfl,rfl⟩
 | q :: l,i + 1,p,h=>by
  have h':l[i]?=some p:=by simpa using h
  have:=qd0 l i p h'
  rw[show (i + 1) * 2=i * 2 + 1 + 1 by omega]
  exact this
theorem q67 (l:List Pr)(p:Pr):rowP (l++[p])=rowP l++[.int .i64 p.1,.int .i64 p.2]:=by simp[rowP]
theorem qkg {w:World}{a:Option Addr}{l:List Pr}(h:q5t w a (rowP l)):q1c w a l:=fun i p hi=>by
 obtain⟨h1,h2⟩:=qd0 l i p hi
 obtain⟨b,off,rfl,hc⟩:=h _ _ h1
 obtain⟨b',off',e,hc'⟩:=h _ _ h2
 cases e
 exact⟨b,off,rfl,hc,hc'⟩
theorem q1c.under {w w':World}{a:Option Addr}{l:List Pr}(h:q1c w a l)(hb:Below w.heap.size w w'):q1c w' a l:=fun i p hi=>by
 obtain⟨b,off,e,h0,h1⟩:=h i p hi
 have hlt:=World.block_lt_of_cell? _ _ h0
 exact⟨b,off,e,(hb.cell (p:=⟨b,off + i * 2,none⟩) hlt).trans h0,(hb.cell (p:=⟨b,off + i * 2 + 1,none⟩) hlt).trans h1⟩
theorem qii {p:Pr}(h:wfP p):wfP (jy p):=by
 obtain⟨h1,h2⟩:=h
 unfold jy wfP
 refine⟨?_,?_⟩
 ·show wfI (min p.1 p.2)
  rcases Int.le_total p.1 p.2 with h | h
  ·rwa [Int.min_eq_left h]
  ·rwa [Int.min_eq_right h]
 ·show wfI (max p.1 p.2)
  rcases Int.le_total p.1 p.2 with h | h
  ·rwa [Int.max_eq_right h]
  ·rwa [Int.max_eq_left h]
theorem q6l (p:Pr)(w:World):Calls Tryz.prog 251 #[q2c p] w fun e w'=>e=.returned (q2c (jy p))∧Below w.heap.size w w':=by
 obtain⟨x,y⟩:=p
 unfold q2c jy
 dsimp only
 go_enter Tryz.func251,Tryz.ntmps251
 go_wp2
 refine bodyPost_ret (v:=.agg #[.int .i64 (min x y),.int .i64 (max x y)]) (by simp[results,Tryz.results251,go_sem]) rfl ⟨rfl,?_⟩
 exact ((Below.refl _ _).alloc (Nat.le_refl _) _).alloc (by simp) _
structure Turn (b:Nat)(W W':World):Prop where
 os:W'.os=W.os
 tape:W'.tape=W.tape
 output:W'.output=W.output
 size:W.heap.size≤W'.heap.size
 block:∀i,i < W.heap.size→i≠b→W'.heap[i]?=W.heap[i]?
theorem Turn.of_below {b:Nat}{W W':World}(h:Below W.heap.size W W'):Turn b W W':=⟨h.os,h.tape,h.output,h.size,fun i hi _=>h.block i hi⟩
theorem Turn.jm {b:Nat}{W W':World}(h:W.grownBy W' (some b)):Turn b W W':=⟨h.os,h.tape,h.output,h.size,fun i hi hne=>h.block i hi (fun e=>hne (by cases e;rfl))⟩
theorem Turn.trans {b:Nat}{W W' W'':World}(h:Turn b W W')(g:Turn b W' W''):Turn b W W'':=⟨g.os.trans h.os,g.tape.trans h.tape,g.output.trans h.output,Nat.le_trans h.size g.size,fun i hi hne=>(g.block i (Nat.lt_of_lt_of_le hi h.size) hne).trans (h.block i hi hne)⟩
theorem Turn.refl (b:Nat)(W:World):Turn b W W:=⟨rfl,rfl,rfl,Nat.le_refl _,fun _ _ _=>rfl⟩
theorem Turn.below {b N:Nat}{W W':World}(h:Turn b W W')(hN:N≤W.heap.size)(hb:N≤b):Below N W W':=⟨h.os,h.tape,h.output,h.size,fun i hi=>h.block i (by omega) (by omega)⟩
def PS (W:World)(b n:Nat)(S:Pr→Prop):Prop:=∃f,qb7 W b n f∧∀p,wfP p→(f p=true↔S p)
theorem PS.kept {W W':World}{b n:Nat}{S:Pr→Prop}(h:PS W b n S)(hb:W'.heap[b]?=W.heap[b]?):PS W' b n S:=by
 obtain⟨f,h1,h2⟩:=h
 exact⟨f,h1.kept hb,h2⟩
theorem PS.low {W:World}{b n:Nat}{S:Pr→Prop}(h:PS W b n S):b < W.heap.size:=by
 obtain⟨f,⟨D,ho,_⟩,_⟩:=h
 exact ho.lt
theorem PS.same {W:World}{b n:Nat}{S S':Pr→Prop}(h:PS W b n S)(he:∀p,S p↔S' p):PS W b n S':=by
 obtain⟨f,h1,h2⟩:=h
 exact⟨f,h1,fun p hp=>(h2 p hp).trans (he p)⟩
theorem PS.up {W:World}{b n n':Nat}{S:Pr→Prop}(h:PS W b n S)(hn:n≤n'):PS W b n' S:=by
 obtain⟨f,⟨D,ho,hf⟩,h2⟩:=h
 exact⟨f,⟨D,ho.mono hn,hf⟩,h2⟩
theorem PS.put {W:World}{b n:Nat}{S:Pr→Prop}(h:PS W b n S)(hn:n < maxLen)(p:Pr)(hp:wfP p) :
  ∃W',(Instr.mapUpdate 293 (.map (some b)) (q2c p) (.agg #[])).run Tryz.prog W=.ok () W'∧PS W' b (n + 1) (fun q=>q=p∨S q)∧Turn b W W':=by
 obtain⟨f,h1,h2⟩:=h
 obtain⟨W',hr,hs,hg⟩:=h1.put hn p hp
 refine⟨W',hr,⟨_,hs,fun q hq=>?_⟩,Turn.jm hg⟩
 by_cases e:q=p
 ·simp[e]
 ·simp[e,h2 q hq]
theorem put_any (w:World)(b n:Nat)(S:Pr→Prop)(p:Pr)(hn:n < 4611686018427387904)(hp:wfP p)(h:PS w b n S) :
  Calls Tryz.prog 286 #[.map (some b),q2c p] w fun e w'=>e=.returned (.tuple #[])∧PS w' b (n + 1) (fun q=>q=jy p∨S q)∧Turn b w w':=by
 obtain⟨w1,hw1⟩:∃w1,w1=w.alloc (.cells #[.int .i64 p.1,.int .i64 p.2] 130):=⟨_,rfl⟩
 have hb1:Below w.heap.size w w1:=by rw[hw1];exact (Below.refl _ _).alloc (Nat.le_refl _) _
 have C:Hid _:=q6l p w1
 have NEXT:Hid (∀w2,Below w1.heap.size w1 w2→∃W',(Instr.mapUpdate 293 (.map (some b)) (q2c (jy p)) (.agg #[])).run Tryz.prog w2=.ok () W'∧PS W' b (n + 1) (fun q=>q=jy p∨S q)∧Turn b w W'):=fun w2 hb2=>by
  have hb:Below w.heap.size w w2:=hb1.trans (hb2.mono hb1.size)
  obtain⟨W',h1,h2,h3⟩:=(h.kept (hb.block b h.low)).put (by unfold maxLen;omega) (jy p) (qii hp)
  exact⟨W',h1,h2,(Turn.of_below hb).trans h3⟩
 rw[hw1] at C NEXT
 clear hb1 h hp hw1 w1
 obtain⟨q,hq⟩:∃q,jy p=q:=⟨_,rfl⟩
 rw[hq] at C NEXT ⊢
 obtain⟨x,y⟩:=p
 obtain⟨qx,qy⟩:=q
 clear hq
 unfold q2c at *
 dsimp only at *
 go_enter Tryz.func286,Tryz.ntmps286
 go_wp2_with fail
 refine Calls.mono C.out ?_
 rintro e w2 ⟨rfl,hb2⟩
 obtain⟨W',hrun,hS,hT⟩:=NEXT.out w2 hb2
 have HS:Hid (PS W' b (n + 1) (fun q=>q=(qx,qy)∨S q)∧Turn b w W'):=⟨hS,hT⟩
 clear C NEXT hb2 hS hT
 go_wp2
 go_end0
 exact⟨rfl,HS.out⟩
theorem qn2 {l:List Pr}{p q:Pr}:inN (l++[p]) q↔inN l q∨(q.1 < q.2∧jy p=q):=by
 unfold inN
 constructor
 ·rintro⟨h,r,hr,e⟩
  rcases List.mem_append.1 hr with hr | hr
  ·exact .inl ⟨h,r,hr,e⟩
  ·simp at hr;subst hr;exact .inr ⟨h,e⟩
 ·rintro (⟨h,r,hr,e⟩ | ⟨h,e⟩)
  ·exact⟨h,r,by simp[hr],e⟩
  ·exact⟨h,p,by simp,e⟩
theorem turn_lt {p:Pr}:(jy p).1 < (jy p).2↔p.1≠p.2:=by unfold jy;simp;omega
theorem add_any (w:World)(b n:Nat)(S:Pr→Prop)(a:Option Addr)(c:Nat)(l:List Pr)(m:Nat)(hl:l.length=m)(hm:m≤1048576)(hn:n≤4194304)(hw:∀p ∈ l,wfP p)(hA:q1c w a l)(h:PS w b n S) :
  Calls Tryz.prog 269 #[.map (some b),.slice a m c] w fun e w'=>e=.returned (.tuple #[])∧PS w' b (n + m) (fun q=>inN l q∨S q)∧Turn b w w':=by
 have HL:Hid (l.length=m):=hl
 have HW:Hid (∀p ∈ l,wfP p):=hw
 have HA:Hid (q1c w a l):=hA
 have HB:Hid (∀(i:Nat) (p:Pr),l[i]?=some p→∀b' off,a=some ⟨b',off,none⟩→b'≠b):=fun i p hi b' off e e2=>by
  obtain⟨b2,off2,e3,h0,_⟩:=hA i p hi
  rw[e] at e3
  cases e3
  subst e2
  obtain⟨f,⟨D,⟨es,clock,hh,_⟩,_⟩,_⟩:=h
  simp[World.cell?,hh] at h0
 have H0:Hid (PS w b n S):=h
 clear hl hw hA h
 go_enter Tryz.func269,Tryz.ntmps269
 go_wp2_with fail
 go_loopw [8] (fun i wx=>∃j:Nat,j≤m∧i=.int .i64 j∧Hid (PS wx b (n + j) (fun q=>inN (l.take j) q∨S q))∧Hid (Turn b w wx)) (fun i _=>m - (intOf i).toNat)
 case atStart=>exact⟨0,Nat.zero_le _,rfl,H0.out.same fun p=>by simp[inN],Turn.refl _ _⟩
 case round =>
  clear H0
  obtain⟨j,hj,rfl,HS,HT⟩:=hrel
  by_cases hlt:j < m
  ·have n1:(j:Int) < (m:Int):=by omega
   obtain⟨p,hp⟩:∃p,l[j]?=some p:=⟨l[j]'(by rw[HL.out];exact hlt),List.getElem?_eq_getElem _⟩
   obtain⟨b1,o1,rfl,c0,c1⟩:=HA.out j p hp
   have hne:=HB.out j p hp b1 o1 rfl
   have hlt1:=World.block_lt_of_cell? _ _ c0
   have hblk:wr.heap[b1]?=w.heap[b1]?:=HT.out.block b1 hlt1 hne
   have d0:=(World.cell?_of_block (a:=⟨b1,o1 + j * 2,none⟩) hblk).trans c0
   have d1:=(World.cell?_of_block (a:=⟨b1,o1 + j * 2 + 1,none⟩) hblk).trans c1
   have hwp:=HW.out p (List.mem_of_getElem? hp)
   have HTK:Hid (∀q,(inN (l.take (j + 1)) q∨S q)↔((q.1 < q.2∧jy p=q)∨(inN (l.take j) q∨S q))):=fun q=>by
    rw[List.take_add_one,hp]
    show (inN (l.take j++[p]) q∨S q)↔_
    rw[qn2]
    constructor
    ·rintro ((h | h) | h)
     ·exact .inr (.inl h)
     ·exact .inl h
     ·exact .inr (.inr h)
    ·rintro (h | h | h)
     ·exact .inl (.inr h)
     ·exact .inl (.inl h)
     ·exact .inr h
   have HP:Hid (∀w2,Below wr.heap.size wr w2→Calls Tryz.prog 286 #[.map (some b),q2c p] w2 fun e w'=>e=.returned (.tuple #[])∧PS w' b (n + j + 1) (fun q=>q=jy p∨(inN (l.take j) q∨S q))∧Turn b w2 w'):=fun w2 hb2 =>
    put_any w2 b (n + j) _ p (by omega) hwp (HS.out.kept (hb2.block b HS.out.low))
   have hlow:b < wr.heap.size:=HS.out.low
   have HTL:Hid ((jy p).1 < (jy p).2↔p.1≠p.2):=turn_lt
   clear hp hblk c0 c1 hwp
   obtain⟨x,y⟩:=p
   obtain⟨w2,hw2⟩:∃w2,w2=wr.alloc (.cells #[.int .i64 x,.int .i64 y] 130):=⟨_,rfl⟩
   have hb2:Below wr.heap.size wr w2:=by rw[hw2];exact (Below.refl _ _).alloc (Nat.le_refl _) _
   by_cases hxy:x=y
   ·have HF:Hid (PS w2 b (n + (j + 1)) (fun q=>inN (l.take (j + 1)) q∨S q)∧Turn b w w2):=by
     refine⟨((HS.out.kept (hb2.block b hlow)).up (by omega)).same fun q=>?_,HT.out.trans (Turn.of_below hb2)⟩
     rw[HTK.out q]
     constructor
     ·exact .inr
     ·rintro (⟨h1,h2⟩ | h)
      ·rw[←h2] at h1
       exact absurd hxy (HTL.out.1 h1)
      ·exact h
    have f1:(x == y)=true:=by rw[beq_iff_eq];exact hxy
    rw[hw2] at HF
    clear HTK HP HTL hw2 hb2 w2 hxy HS HT
    go_wp2
    exact⟨⟨j + 1,by omega,by go_num,HF.out.1,HF.out.2⟩,by simp[intOf];omega⟩
   ·have f1:(x == y)=false:=by rw[beq_eq_false_iff_ne];exact hxy
    have CALL:Hid _:=HP.out w2 hb2
    have HF:Hid (∀w',PS w' b (n + j + 1) (fun q=>q=jy (x,y)∨(inN (l.take j) q∨S q))→Turn b w2 w'→PS w' b (n + (j + 1)) (fun q=>inN (l.take (j + 1)) q∨S q)∧Turn b w w'):=fun w' h1 h2=>by
     refine⟨h1.same fun q=>?_,(HT.out.trans (Turn.of_below hb2)).trans h2⟩
     rw[HTK.out q]
     constructor
     ·rintro (h | h)
      ·exact .inl ⟨by rw[h];exact HTL.out.2 hxy,h.symm⟩
      ·exact .inr h
     ·rintro (⟨_,h⟩ | h)
      ·exact .inl h.symm
      ·exact .inr h
    rw[hw2] at CALL HF
    unfold q2c at CALL
    clear HTK HP HTL hw2 hb2 w2 hxy HS HT
    go_wp2_with fail
    refine Calls.mono CALL.out ?_
    rintro e w3 ⟨rfl,hS3,hT3⟩
    have HF3:Hid _:=HF.out w3 hS3 hT3
    clear CALL HF hS3 hT3
    go_wp2
    exact⟨⟨j + 1,by omega,by go_num,HF3.out.1,HF3.out.2⟩,by simp[intOf];omega⟩
  ·have n1:¬(j:Int) < (m:Int):=by omega
   have hjm:j=m:=by omega
   have HF:Hid (PS wr b (n + m) (fun q=>inN l q∨S q)∧Turn b w wr):=by
    have h1:=HS.out
    rw[List.take_of_length_le (by rw[HL.out];omega),hjm] at h1
    exact⟨h1,HT.out⟩
   clear hjm HS HT
   go_wp2
   go_end0
   exact⟨rfl,HF.out⟩
end F
end Go.Proofs.YtbancemhfjjmlaaGreatDoor
