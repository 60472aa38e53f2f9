/- Laid together. -/
import Derived.Test.YtbancemhfjjmlaaGreatDoorQB04
import Derived.DeepKeys4
import Derived.RangeFuncNested
import Derived.RangeFuncKeeps
import Derived.Sort.MapsRangeIn
import Derived.Sort.KeysCollected
import Derived.RegionIn
import Derived.Shelf.SlSortCmp.WholeK
import Derived.Shelf.SlSortCmp.NoneTotal
import Derived.Ground.SlsfProg
set_option maxRecDepth 100000
set_option maxHeartbeats 32000000
namespace Go.Proofs.YtbancemhfjjmlaaGreatDoor
namespace F
open Go.Maps Go.RowKit Go.WideMaps
variable {tq:Nat} {isV:Int→Bool}
def newC (b:Nat):ScC:=⟨.slice none 0 0,[],b,0,.slice none 0 0,[]⟩
theorem qkn {O:Nat→Prop}{W:World}{b:Nat}(h:q2l W b 0 (fun _=>none))(hb:O b):q6l O W (newC b):=⟨World.ownsRow_nil _ _ _ _,(fun g e=>by cases e),(fun y hy=>by cases hy),h,hb,Nat.le_refl _,World.ownsRow_nil _ _ _ _,(fun g e=>by cases e)⟩
theorem qw.qab {O:Nat→Prop} {w wA W8:World} {P:Nat} {vS vS':Value} {xs ys:List ScC} (hS:qw tq O wA P vS xs) (hw:w.heap.size≤wA.heap.size) (hg:S.M.Ch (fun g=>vS.ownBlock=some g) wA W8) (ho:W8.ownsRow 0 225 3 vS' ys.length (q0a ys)) (loc:∀g,vS'.ownBlock=some g→vS.ownBlock=some g∨wA.heap.size≤g)
  (hy:∀y ∈ ys,y ∈ xs∨∃b,y=newC b∧q2l wA b 0 (fun _=>none)∧w.heap.size≤b) (ap:ys.Pairwise ScAp) :
  qw tq (More O w (W8.setCell ⟨P,1,none⟩ vS')) (W8.setCell ⟨P,1,none⟩ vS') P vS' ys∧S.M.Ch O wA (W8.setCell ⟨P,1,none⟩ vS'):=by
 have cP:=S.M.jc W8 P 1 vS';have neP:vS.ownBlock≠some P:=own_ne hS.row hS.box (by decide);have box8:W8.heap[P]?=some (.cells #[(q0r tq),vS] 171 (0,0)):=(hg.block P (hS.lt P hS.bo) neP).trans hS.box;have cA:S.M.Ch O wA (W8.setCell ⟨P,1,none⟩ vS'):=(hg.mono fun g e=>hS.ro g e).trans (cP.mono fun g e=>by rw[e];exact hS.bo);have two:S.M.Ch (fun g=>vS.ownBlock=some g∨g=P) wA (W8.setCell ⟨P,1,none⟩ vS'):=(hg.mono fun g e=>.inl e).trans (cP.mono fun g e=>.inr e);have up:∀b,O b→More O w (W8.setCell ⟨P,1,none⟩ vS') b:=fun b hb=>.inl hb
 have rows:∀{base e sz k:Nat} {v:Value} {zs:List Value},wA.ownsRow base e sz v k zs→e≠225→e≠171→∀b,v.ownBlock=some b→¬(vS.ownBlock=some b∨b=P):=fun ho h1 h2 b hb e=>by
  rcases e with e | rfl
  ·exact q00 ho hS.row h1 b hb e
  ·exact own_ne ho hS.box h2 hb
 have maps:∀{b mn:Nat} {f:Int→Option Int},q2l wA b mn f→¬(vS.ownBlock=some b∨b=P):=fun hm e=>by
  rcases e with e | rfl
  ·exact q4o hS.row hm e
  ·exact q4d hS.box hm rfl
 refine⟨⟨S.M.qj box8,up _ hS.bo,S.M.qh ho cP fun g hg' e=>own_ne ho box8 (by decide) (by rw[hg',e]),fun g e=>?_,fun y hyy=>?_,ap,fun g hgg=>?_⟩,cA⟩
 ·rcases loc g e with h | h
  ·exact up g (hS.ro g h)
  ·exact .inr ⟨nLt hw h,Nat.lt_of_lt_of_le (S.M.jr ho g e) cP.size⟩
 ·rcases hy y hyy with hx | ⟨b,rfl,hm,hb⟩
  ·have hok:=hS.each y hx;exact (hok.ch two (rows hok.l (by decide) (by decide)) (fun z hz=>rows (hok.e z hz).1 (by decide) (by decide)) (maps hok.m) (rows hok.p (by decide) (by decide))).mono up
  ·obtain⟨es,ck,h3⟩:=hm.isM;have hlt:=(aIx h3);exact qkn (hm.kept (two.block b hlt (maps hm))) (.inr ⟨hb,Nat.lt_of_lt_of_le hlt cA.size⟩)
 ·rcases hgg with h | h
  ·exact Nat.lt_of_lt_of_le (hS.lt g h) cA.size
  ·exact h.2
def q1t (l:List Sa):Int:=if 17≤l.length then 23 else 0
def q0t (l:List Sa):List Sa:=if 17≤l.length then l else l++[⟨[],[]⟩]
theorem qmi (w:World)(O:Nat→Prop)(P:Nat)(vS:Value)(xs:List ScC)(h:qw tq O w P vS xs)(hn:xs.length≤1048576) :
  Calls Tryz.prog 105 #[.pointer (some ⟨P,0,none⟩)] w (Decl (tq:=tq) O w P (q1t (xs.map jm)) (q0t (xs.map jm))):=by
 obtain⟨iS,hiS,iSz,iSs,iSb⟩:=info_parts qpj;have HS:=hid h;have DP:Hid _:=q4i w O P vS xs h hn;obtain⟨n,hl⟩:=eXb xs.length;rw[hl] at DP hn;have HL:=hid hl;clear h hl
 by_cases h17:17≤n
 ·have z:((16:Int)≤(n:Int) - 1):=by omega
  have HE:Hid (q1t (xs.map jm)=23∧q0t (xs.map jm)=xs.map jm):=by
   have h1:17≤(xs.map jm).length:=by rw[lMa,HL.out];exact h17
   exact⟨by unfold q1t;rw[if_pos h1],by unfold q0t;rw[if_pos h1]⟩
  go_enter Tryz.func105,Tryz.ntmps105;go_wp2_with fail;refine cMo DP.out ?_;rintro e wz ⟨rfl,hwz⟩;subst wz
  go_wp2
  go_ret
  rw[HE.out.1,HE.out.2];exact Decl.same HS.out bRf
 ·have z:¬((16:Int)≤(n:Int) - 1):=by omega
  have HE:Hid (q1t (xs.map jm)=0∧q0t (xs.map jm)=xs.map jm++[⟨[],[]⟩]):=by
   have h1:¬17≤(xs.map jm).length:=by rw[lMa,HL.out];exact h17
   exact⟨by unfold q1t;rw[if_neg h1],by unfold q0t;rw[if_neg h1]⟩
  have S0:Hid (qw tq O w.drew P vS xs):=HS.out.below (xu bRf 1);have NS:Hid _:=q7z w.drew;go_enter Tryz.func105,Tryz.ntmps105;go_wp2_with fail;refine cMo DP.out ?_;rintro e wz ⟨rfl,hwz⟩;subst wz;go_upto_region 3 with fail;refine wp_region_held_drew (S:=fun _=>True) (by kernel_rfl) ?_ (fun hZ=>?_)
  ·trivial
  refine tkq 0 hZ ?_;refine tkq 1 hZ ?_;refine tkq 2 hZ ?_;refine tkq 3 hZ ?_;refine wpAnyH_ready (rs:=[4,5]) (by kernel_rfl) (by simp) ?_;refine AllReadyH.cons rfl (fun K hK=>?_) (AllReadyH.cons rfl (fun K hK=>?_) AllReadyH.nil)
  ·have qL:w.cell? ⟨P,1,none⟩=some vS:=HS.out.cells.2;go_simp;refine aQq hK ?_ fun hZ_4=>?_
   ·trivial
   clear hK K;refine rkq 5 fun K hK=>?_
   go_simp;go_at_call 152;refine cMo NS.out ?_;rintro e w5 ⟨mb,rfl,hm5,hmb5,hb5⟩;have S5:Hid (qw tq O w5 P vS xs):=S0.out.below hb5;have M5:Hid (q2l w5 mb 0 (fun _=>none)∧w.heap.size≤mb∧Below w.heap.size w w5):=⟨hm5,hmb5,(xu (Below.refl _ w) 1).trans hb5⟩;clear hm5 hmb5 hb5
   try go_wp2_with fail
   refine aQq hK ?_ fun hZ_5=>?_
   ·trivial
   clear hK K;refine rkq 6 fun K hK=>?_
   have S6:Hid (qw tq O (w5.alloc (.cells #[.slice none 0 0,.map (some mb),.slice none 0 0] 225)) P vS xs):=S5.out.below (qo _ _);have M6:Hid (q2l (w5.alloc (.cells #[.slice none 0 0,.map (some mb),.slice none 0 0] 225)) mb 0 (fun _=>none)∧w.heap.size≤mb∧Below w.heap.size w (w5.alloc (.cells #[.slice none 0 0,.map (some mb),.slice none 0 0] 225))):=by
    obtain⟨es,ck,h3⟩:=M5.out.1.isM;exact⟨M5.out.1.kept ((qo w5 _).block mb (aIx h3)),M5.out.2.1,M5.out.2.2.trans ((qo w5 _).mono M5.out.2.2.size)⟩
   go_simp;refine aQq hK ?_ fun hZ_6=>?_
   ·trivial
   clear hK K;refine rkq 7 fun K hK=>?_
   refine step_append_lies (w5.alloc (.cells #[.slice none 0 0,.map (some mb),.slice none 0 0] 225)) rfl _ _ 169 rfl 0 225 iS _ 3 56 Tryz.underlying169 hiS iSz iSs iSb rfl (by omega) vS n (q0a xs) (by rfl) (by have h:=S6.out.row;rw[HL.out] at h;exact h) ⟨w5.heap.size,0,none⟩ 1 1 [.slice none 0 0,.map (some mb),.slice none 0 0] (by rfl) (by rfl) (World.news_of_block (cs:=#[.slice none 0 0,.map (some mb),.slice none 0 0]) (t:=225) (fr:=(0,0)) (heap_alloc_new w5 _)) (by simp[Value.oneCell']) (by omega) (by unfold maxLen;omega) (by omega) (Nat.zero_le _) _ rfl ?_;intro gg cap' w8 hown8 hgrow hat hlt8;have FI:Hid (Decl (tq:=tq) O w P 0 (xs.map jm++[⟨[],[]⟩]) (.returned (.int .i64 0)) (w8.setCell ⟨P,1,none⟩ (.slice (some ⟨gg,0,none⟩) (n + 1) cap'))∧w8.heap[P]?=some (.cells #[(q0r tq),vS] 171 (0,0))):=by
    have hrow:w8.ownsRow 0 225 3 (.slice (some ⟨gg,0,none⟩) (n + 1) cap') (xs++[newC mb]).length (q0a (xs++[newC mb])):=by rw[lAp,HL.out,q1y];exact hown8
    obtain⟨k1,k2⟩:=S6.out.qab (w:=w) (ys:=xs++[newC mb]) M6.out.2.2.size (S.M.Ch.jw hgrow) hrow (fun g e=>by rcases S.M.q4k (c:=cap') (n:=n + 1) hat g e with h | h;exact .inl h;exact .inr h) (fun y hy=>by
     rcases mAp.1 hy with hy | hy
     ·exact .inl hy
     ·rw[mSg.1 hy];exact .inr ⟨mb,rfl,M6.out.1,M6.out.2.1⟩) (List.pairwise_append.2 ⟨S6.out.ap,by simp,fun y hy z hz=>by
      rw[mSg.1 hz]
      refine⟨(fun b _ e=>by cases e),fun e=>?_,(fun b _ e=>by cases e)⟩
      have h1:=HS.out.lt _ (HS.out.each y hy).mo
      have h2:=M6.out.2.1
      have e':y.mb=mb:=e
      omega⟩)
    refine⟨⟨rfl,_,_,k1,?_,(S.M.Ch.oB M6.out.2.2).trans k2⟩,?_⟩
    ·rw[List.map_append];rfl
    ·exact (hgrow.block P (S6.out.lt P S6.out.bo) (fun e=>own_ne S6.out.row S6.out.box (by decide) e.symm)).trans S6.out.box
   clear hgrow hat hown8 hlt8;refine aQq hK ?_ fun hZ_7=>?_
   ·trivial
   clear hK K;refine tkq 8 hZ_7 ?_;refine tkq 9 hZ_7 ?_;refine rkq 10 fun K hK=>?_
   have dL:w8.cell? ⟨P,1,none⟩=some vS:=S.M.qc FI.out.2 1;have fL:w8.frozen? ⟨P,1,none⟩=false:=by simp[World.frozen?,FI.out.2]
   go_simp;refine aQq hK ?_ fun hZ_10=>?_
   ·trivial
   clear hK K;refine wpAnyH_done (by kernel_rfl) ?_ _;go_wp2_with fail
   go_ret
   rw[HE.out.1,HE.out.2];exact FI.out.1
  ·go_simp;go_at_call 152;refine cMo NS.out ?_;rintro e w5 ⟨mb,rfl,hm5,hmb5,hb5⟩;have S5:Hid (qw tq O w5 P vS xs):=S0.out.below hb5;have M5:Hid (q2l w5 mb 0 (fun _=>none)∧w.heap.size≤mb∧Below w.heap.size w w5):=⟨hm5,hmb5,(xu (Below.refl _ w) 1).trans hb5⟩;clear hm5 hmb5 hb5
   try go_wp2_with fail
   refine aQq hK ?_ fun hZ_5=>?_
   ·trivial
   clear hK K;refine wpAnyH_ready (rs:=[4,6]) (by kernel_rfl) (by simp) ?_;refine AllReadyH.cons rfl (fun K hK=>?_) (AllReadyH.cons rfl (fun K hK=>?_) AllReadyH.nil)
   ·have qL:w5.cell? ⟨P,1,none⟩=some vS:=S5.out.cells.2;go_simp;refine aQq hK ?_ fun hZ_4=>?_
    ·trivial
    clear hK K;refine rkq 6 fun K hK=>?_
    have S6:Hid (qw tq O (w5.alloc (.cells #[.slice none 0 0,.map (some mb),.slice none 0 0] 225)) P vS xs):=S5.out.below (qo _ _);have M6:Hid (q2l (w5.alloc (.cells #[.slice none 0 0,.map (some mb),.slice none 0 0] 225)) mb 0 (fun _=>none)∧w.heap.size≤mb∧Below w.heap.size w (w5.alloc (.cells #[.slice none 0 0,.map (some mb),.slice none 0 0] 225))):=by
     obtain⟨es,ck,h3⟩:=M5.out.1.isM;exact⟨M5.out.1.kept ((qo w5 _).block mb (aIx h3)),M5.out.2.1,M5.out.2.2.trans ((qo w5 _).mono M5.out.2.2.size)⟩
    go_simp;refine aQq hK ?_ fun hZ_6=>?_
    ·trivial
    clear hK K;refine rkq 7 fun K hK=>?_
    refine step_append_lies (w5.alloc (.cells #[.slice none 0 0,.map (some mb),.slice none 0 0] 225)) rfl _ _ 169 rfl 0 225 iS _ 3 56 Tryz.underlying169 hiS iSz iSs iSb rfl (by omega) vS n (q0a xs) (by rfl) (by have h:=S6.out.row;rw[HL.out] at h;exact h) ⟨w5.heap.size,0,none⟩ 1 1 [.slice none 0 0,.map (some mb),.slice none 0 0] (by rfl) (by rfl) (World.news_of_block (cs:=#[.slice none 0 0,.map (some mb),.slice none 0 0]) (t:=225) (fr:=(0,0)) (heap_alloc_new w5 _)) (by simp[Value.oneCell']) (by omega) (by unfold maxLen;omega) (by omega) (Nat.zero_le _) _ rfl ?_;intro gg cap' w8 hown8 hgrow hat hlt8;have FI:Hid (Decl (tq:=tq) O w P 0 (xs.map jm++[⟨[],[]⟩]) (.returned (.int .i64 0)) (w8.setCell ⟨P,1,none⟩ (.slice (some ⟨gg,0,none⟩) (n + 1) cap'))∧w8.heap[P]?=some (.cells #[(q0r tq),vS] 171 (0,0))):=by
     have hrow:w8.ownsRow 0 225 3 (.slice (some ⟨gg,0,none⟩) (n + 1) cap') (xs++[newC mb]).length (q0a (xs++[newC mb])):=by rw[lAp,HL.out,q1y];exact hown8
     obtain⟨k1,k2⟩:=S6.out.qab (w:=w) (ys:=xs++[newC mb]) M6.out.2.2.size (S.M.Ch.jw hgrow) hrow (fun g e=>by rcases S.M.q4k (c:=cap') (n:=n + 1) hat g e with h | h;exact .inl h;exact .inr h) (fun y hy=>by
      rcases mAp.1 hy with hy | hy
      ·exact .inl hy
      ·rw[mSg.1 hy];exact .inr ⟨mb,rfl,M6.out.1,M6.out.2.1⟩) (List.pairwise_append.2 ⟨S6.out.ap,by simp,fun y hy z hz=>by
       rw[mSg.1 hz]
       refine⟨(fun b _ e=>by cases e),fun e=>?_,(fun b _ e=>by cases e)⟩
       have h1:=HS.out.lt _ (HS.out.each y hy).mo
       have h2:=M6.out.2.1
       have e':y.mb=mb:=e
       omega⟩)
     refine⟨⟨rfl,_,_,k1,?_,(S.M.Ch.oB M6.out.2.2).trans k2⟩,?_⟩
     ·rw[List.map_append];rfl
     ·exact (hgrow.block P (S6.out.lt P S6.out.bo) (fun e=>own_ne S6.out.row S6.out.box (by decide) e.symm)).trans S6.out.box
    clear hgrow hat hown8 hlt8;refine aQq hK ?_ fun hZ_7=>?_
    ·trivial
    clear hK K;refine tkq 8 hZ_7 ?_;refine tkq 9 hZ_7 ?_;refine rkq 10 fun K hK=>?_
    have dL:w8.cell? ⟨P,1,none⟩=some vS:=S.M.qc FI.out.2 1;have fL:w8.frozen? ⟨P,1,none⟩=false:=by simp[World.frozen?,FI.out.2]
    go_simp;refine aQq hK ?_ fun hZ_10=>?_
    ·trivial
    clear hK K;refine wpAnyH_done (by kernel_rfl) ?_ _;go_wp2_with fail
    go_ret
    rw[HE.out.1,HE.out.2];exact FI.out.1
   ·have S6:Hid (qw tq O (w5.alloc (.cells #[.slice none 0 0,.map (some mb),.slice none 0 0] 225)) P vS xs):=S5.out.below (qo _ _);have M6:Hid (q2l (w5.alloc (.cells #[.slice none 0 0,.map (some mb),.slice none 0 0] 225)) mb 0 (fun _=>none)∧w.heap.size≤mb∧Below w.heap.size w (w5.alloc (.cells #[.slice none 0 0,.map (some mb),.slice none 0 0] 225))):=by
     obtain⟨es,ck,h3⟩:=M5.out.1.isM;exact⟨M5.out.1.kept ((qo w5 _).block mb (aIx h3)),M5.out.2.1,M5.out.2.2.trans ((qo w5 _).mono M5.out.2.2.size)⟩
    go_simp;refine aQq hK ?_ fun hZ_6=>?_
    ·trivial
    clear hK K;refine rkq 4 fun K hK=>?_
    have qL:(w5.alloc (.cells #[.slice none 0 0,.map (some mb),.slice none 0 0] 225)).cell? ⟨P,1,none⟩=some vS:=S6.out.cells.2;go_simp;refine aQq hK ?_ fun hZ_4=>?_
    ·trivial
    clear hK K;refine rkq 7 fun K hK=>?_
    refine step_append_lies (w5.alloc (.cells #[.slice none 0 0,.map (some mb),.slice none 0 0] 225)) rfl _ _ 169 rfl 0 225 iS _ 3 56 Tryz.underlying169 hiS iSz iSs iSb rfl (by omega) vS n (q0a xs) (by rfl) (by have h:=S6.out.row;rw[HL.out] at h;exact h) ⟨w5.heap.size,0,none⟩ 1 1 [.slice none 0 0,.map (some mb),.slice none 0 0] (by rfl) (by rfl) (World.news_of_block (cs:=#[.slice none 0 0,.map (some mb),.slice none 0 0]) (t:=225) (fr:=(0,0)) (heap_alloc_new w5 _)) (by simp[Value.oneCell']) (by omega) (by unfold maxLen;omega) (by omega) (Nat.zero_le _) _ rfl ?_;intro gg cap' w8 hown8 hgrow hat hlt8;have FI:Hid (Decl (tq:=tq) O w P 0 (xs.map jm++[⟨[],[]⟩]) (.returned (.int .i64 0)) (w8.setCell ⟨P,1,none⟩ (.slice (some ⟨gg,0,none⟩) (n + 1) cap'))∧w8.heap[P]?=some (.cells #[(q0r tq),vS] 171 (0,0))):=by
     have hrow:w8.ownsRow 0 225 3 (.slice (some ⟨gg,0,none⟩) (n + 1) cap') (xs++[newC mb]).length (q0a (xs++[newC mb])):=by rw[lAp,HL.out,q1y];exact hown8
     obtain⟨k1,k2⟩:=S6.out.qab (w:=w) (ys:=xs++[newC mb]) M6.out.2.2.size (S.M.Ch.jw hgrow) hrow (fun g e=>by rcases S.M.q4k (c:=cap') (n:=n + 1) hat g e with h | h;exact .inl h;exact .inr h) (fun y hy=>by
      rcases mAp.1 hy with hy | hy
      ·exact .inl hy
      ·rw[mSg.1 hy];exact .inr ⟨mb,rfl,M6.out.1,M6.out.2.1⟩) (List.pairwise_append.2 ⟨S6.out.ap,by simp,fun y hy z hz=>by
       rw[mSg.1 hz]
       refine⟨(fun b _ e=>by cases e),fun e=>?_,(fun b _ e=>by cases e)⟩
       have h1:=HS.out.lt _ (HS.out.each y hy).mo
       have h2:=M6.out.2.1
       have e':y.mb=mb:=e
       omega⟩)
     refine⟨⟨rfl,_,_,k1,?_,(S.M.Ch.oB M6.out.2.2).trans k2⟩,?_⟩
     ·rw[List.map_append];rfl
     ·exact (hgrow.block P (S6.out.lt P S6.out.bo) (fun e=>own_ne S6.out.row S6.out.box (by decide) e.symm)).trans S6.out.box
    clear hgrow hat hown8 hlt8;refine aQq hK ?_ fun hZ_7=>?_
    ·trivial
    clear hK K;refine tkq 8 hZ_7 ?_;refine tkq 9 hZ_7 ?_;refine rkq 10 fun K hK=>?_
    have dL:w8.cell? ⟨P,1,none⟩=some vS:=S.M.qc FI.out.2 1;have fL:w8.frozen? ⟨P,1,none⟩=false:=by simp[World.frozen?,FI.out.2]
    go_simp;refine aQq hK ?_ fun hZ_10=>?_
    ·trivial
    clear hK K;refine wpAnyH_done (by kernel_rfl) ?_ _;go_wp2_with fail
    go_ret
    rw[HE.out.1,HE.out.2];exact FI.out.1
open S (ql jk)
def q0v (xs:List ScC):List Pp:=xs.flatMap (·.ps)
def uo (l:List Sa):List Pp:=l.flatMap (·.ps)
theorem qef (xs:List ScC):q0v xs=uo (xs.map jm):=by unfold q0v uo;rw[List.flatMap_map];rfl
theorem q6p (l m:List Pp):jh (l++m)=jh l++jh m:=by unfold jh;rw[List.flatMap_append]
theorem qaz (l:List Pp):(jh l).length=l.length * 2:=by
 induction l with
 | nil=>rfl
 | cons x l ih =>
  have e:jh (x :: l)=[.int .i64 x.1,.int .i64 x.2]++jh l:=rfl;rw[e,lAp,ih,List.length_cons];simp;omega
theorem qb3 (l:List Pp):∀u ∈ jh l,u.oneCell'=true:=fun u hu=>by
 unfold jh at hu;obtain⟨p,_,hp⟩:=List.mem_flatMap.1 hu;simp at hp;rcases hp with rfl | rfl <;> rfl
theorem q29 {W:World}{base e size n:Nat}{a:Option Addr}{c:Nat}{xs:List Value}(h:W.ownsRow base e size (.slice a n c) n xs):∀(j:Nat) (u:Value),xs[j]?=some u→∃ad,a=some ad∧W.cell? (ad.add j)=some u:=fun j u hu=>by
 obtain⟨a',c',e',_,hcell⟩:=S.M.xq h
 cases e';obtain⟨g,rfl,h0⟩:=hcell j u hu;exact⟨_,rfl,by rw[Addr.add_lit,Nat.zero_add];exact h0⟩
theorem aps_le (xs:List ScC)(j:Nat):(q0v (xs.take j)).length≤(q0v xs).length:=by
 unfold q0v
 conv=>rhs;rw[←List.take_append_drop j xs,List.flatMap_append,lAp]
 omega
theorem q48 (w:World)(O:Nat→Prop)(P:Nat)(vS:Value)(xs:List ScC)(h:qw tq O w P vS xs)(hn:xs.length≤1048576)(hp:(q0v xs).length≤1048576) :
  Calls Tryz.prog 217 #[.pointer (some ⟨P,0,none⟩)] w fun e w'=>Below w.heap.size w w'∧∃v,e=.returned v∧w'.ownsRow w.heap.size 130 2 v (q0v xs).length (jh (q0v xs)):=by
 obtain⟨iQ,hiQ,iQz,iQs,iQb⟩:=info_parts qeb;obtain⟨a,c,rfl,_⟩:=ql h.row;have x1:=h.cells.2;obtain⟨n,hl⟩:=eXb xs.length;rw[hl] at x1 hn;have HL:=hid hl;have HS:Hid (qw tq O w P (.slice a n c) xs):=by have h':=h;rw[hl] at h';exact h'
 have HP:=hid hp;obtain⟨N,hN⟩:=eXb w.heap.size;have HN:=hid hN;rw[hN];clear h hl hp hN;go_enter Tryz.func217,Tryz.ntmps217;go_wp2_with fail
 go_loopw [3,11] (fun v3 v11 wx=>∃j k:Nat,j≤n∧k≤1048576∧v11=.int .i64 j∧Hid ((q0v (xs.take j)).length=k)∧Hid (wx.ownsRow N 130 2 v3 k (jh (q0v (xs.take j))))∧Hid (Below N w wx)) (fun _ v11 _=>n - (intOf v11).toNat)
 case atStart=>exact⟨0,0,Nat.zero_le _,Nat.zero_le _,rfl,rfl,World.ownsRow_nil _ _ _ _,bRf⟩
 case round =>
  obtain⟨j,k,hj,hk,rfl,hK,hO,hB⟩:=hrel;have B0:Hid (Below w.heap.size w wr):=by show Below _ _ _;rw[HN.out];exact hB.out
  by_cases hlt:j < n
  ·have n1:(j:Int) < (n:Int):=by omega
   obtain⟨x,hx⟩:∃x,xs[j]?=some x:=⟨_,gEq (by rw[HL.out];exact hlt)⟩;have hS:=HS.out.below B0.out;have hrow:=hS.row;rw[HL.out] at hrow;obtain⟨g,c',e,_,_,_⟩:=S.M.q0h hrow (by omega)
   cases e;obtain⟨y0,y1,y2⟩:=q8z hrow j x hx;have hok:=hS.each x (mGe hx);obtain⟨al,cl,el,_⟩:=ql hok.l;obtain⟨ap,cp,ep,_⟩:=ql hok.p;rw[el] at y0;rw[ep] at y2;have hpo:=hok.p;rw[ep] at hpo;have htk:q0v (xs.take (j + 1))=q0v (xs.take j)++x.ps:=by unfold q0v;rw[List.take_add_one,hx,List.flatMap_append];simp
   have hle:=aps_le xs (j + 1);have hpb:=HP.out;obtain⟨nh,hnh⟩:=eXb x.hs.length;obtain⟨np,hnp⟩:=eXb x.ps.length;obtain⟨mb,hmb⟩:=eXb x.mb;rw[hnh] at y0;rw[hmb] at y1;rw[hnp] at y2 hpo;rw[htk,lAp,hK.out,hnp] at hle;have hkn:k + np≤1048576:=by omega
   have K2:Hid ((q0v (xs.take (j + 1))).length=k + np):=by show _=_;rw[htk,lAp,hK.out,hnp]
   have HF:Hid (jh (q0v (xs.take (j + 1)))=jh (q0v (xs.take j))++jh x.ps):=by show _=_;rw[htk,q6p]
   obtain⟨wa,hwa⟩:=eXa (wr.alloc (.cells #[.slice al nh cl,.map (some mb),.slice ap np cp] 225));have HWA:=hid hwa;have ba:Below wr.heap.size wr wa:=by rw[hwa];exact qo _ _
   have ka:wa.heap[wr.heap.size]?=some (.cells #[.slice al nh cl,.map (some mb),.slice ap np cp] 225 (0,0)):=by rw[hwa];exact heap_alloc_new wr _
   have z2:wa.cell? ⟨wr.heap.size,2,none⟩=some (.slice ap np cp):=S.M.qc ka 2;have PA:Hid (wa.ownsRow 0 130 2 (.slice ap np cp) np (jh x.ps)):=S.M.qh hpo (S.M.Ch.oB (X:=fun _=>False) ba) fun _ _ e=>e
   have OA:Hid (wa.ownsRow N 130 2 u3 k (jh (q0v (xs.take j)))):=S.M.qh hO.out (S.M.Ch.oB (X:=fun _=>False) ba) fun _ _ e=>e
   have BA:Hid (Below N w wa∧N≤wa.heap.size):=by
    have h1:Below N w wa:=hB.out.trans (ba.mono (by have h1:=hB.out.size;have h2:=HN.out;omega));exact⟨h1,by have h1:=h1.size;have h2:=HN.out;omega⟩
   have HNP:=hid hnp;obtain⟨Bx,hBx⟩:=eXb wr.heap.size;rw[hBx] at z2;have HBX:=hid hBx;clear hS hrow hok hx ba ka hwa el ep hpo htk hle hO hK hnh hnp hmb hpb hB hBx;go_upto_region 5 with fail;rw[←HWA.out,HBX.out];clear HWA y0 y1 y2
   go_wp2_with (at_builtin;refine jk (w:=wa) rfl _ _ 45 rfl N 130 iQ _ 2 16 Tryz.underlying45 hiQ iQz iQs iQb rfl (by decide) _ k (jh (q0v (xs.take j))) (by rfl) OA.out ap np cp (jh x.ps) (by rfl) (by rw[qaz,HNP.out]) (q29 PA.out) (qb3 _) (by unfold maxLen;omega) (by omega) BA.out.2 ?_;intro a8 c8 w8 ho8 hb8;have O8:Hid (w8.ownsRow N 130 2 (.slice a8 (k + np) c8) (k + np) (jh (q0v (xs.take (j + 1))))):=(by show World.ownsRow _ _ _ _ _ _ _;rw[HF.out];exact ho8);have B8:Hid (Below N w w8):=BA.out.1.trans hb8;clear ho8 hb8)
   exact⟨⟨j + 1,k + np,by omega,by omega,by go_num,K2.out,O8.out,B8.out⟩,by simp[intOf];omega⟩
  ·have n1:¬(j:Int) < (n:Int):=by omega
   have hall:xs.take j=xs:=List.take_of_length_le (by rw[HL.out];omega);have HF:Hid (wr.ownsRow N 130 2 u3 (q0v xs).length (jh (q0v xs))):=by
    have h:=hO.out;rw[←hK.out,hall] at h;exact h
   clear hO hK hall
   go_wp2
   go_ret
   exact⟨hB.out,_,rfl,HF.out⟩
theorem laidOut:laidOutB Tryz.prog=true:=by kernel_rfl
def wfI (x:Int):Prop:=(Lit.int .i64 x).wf=true
instance (x:Int):Decidable (wfI x):=by unfold wfI;infer_instance
def wfP (p:Pr):Prop:=wfI p.1∧wfI p.2
def q2n (p:Pr):Value:=.agg #[.int .i64 p.1,.int .i64 p.2]
def q5k (p:Pr):Lit:=.string (keyBytes [.int .i64 p.1,.int .i64 p.2])
theorem rowP24:(130:TypeId) < Tryz.prog.types.size:=of_decide_eq_true (by kernel_rfl)
theorem qpn:(match Tryz.prog.underlying 130 with | some (.array _ _) | some (.struct _)=>true | _=>false)=true:=by kernel_rfl
theorem law24:KeyLaw Tryz.prog 130:=deep_law_laid laidOut (m:=2) (by omega) rowP24 (by kernel_rfl) qpn
theorem K24:Keyed Tryz.prog 130:=Keyed.of_law law24
theorem key24:Tryz.prog.keyType 130=true:=by kernel_rfl
theorem cells24:Tryz.prog.cellsOf 130=2:=by kernel_rfl
theorem cells3:Tryz.prog.cellsOf 3=1:=by kernel_rfl
theorem qb4:∃d,Tryz.prog.types.size + 1=d + 2:=⟨354,by kernel_rfl⟩
theorem two_of:∀{xs:List Value},xs.length=2→∃a b,xs=[a,b]
 | [a,b],_=>⟨a,b,rfl⟩
theorem qko (d:Nat)(c:Value)(L:List Lit):Tryz.prog.keyLits (d + 1) 3 [c]=some L↔∃n,c=.int .i64 n∧wfI n∧L=[.int .i64 n]:=by
 unfold Program.keyLits;simp only[Tryz.underlying3]
 cases c with
 | int q n =>
  show (if q=.i64∧wfI n then some [Lit.int .i64 n] else none)=some L↔_
  by_cases h:q=.i64∧wfI n
  ·rw[if_pos h];obtain⟨rfl,h2⟩:=h;constructor
   ·intro e;exact⟨n,rfl,h2,(Option.some.inj e).symm⟩
   ·rintro⟨m,e,_,rfl⟩;cases e;rfl
  ·rw[if_neg h];constructor
   ·intro e;cases e
   ·rintro⟨m,e,h2,_⟩
    cases e;exact absurd ⟨rfl,h2⟩ h
 | _ =>
  constructor
  ·intro e;cases e
  ·rintro⟨m,e,_⟩;cases e
theorem qpo (d:Nat)(xs:List Value)(L:List Lit):Tryz.prog.keyLits (d + 2) 130 xs=some L↔∃p:Pr,xs=[.int .i64 p.1,.int .i64 p.2]∧wfP p∧L=[.int .i64 p.1,.int .i64 p.2]:=by
 unfold Program.keyLits;simp only[Tryz.underlying130,cells24];constructor
 ·intro h
  split at h
  ·rename_i hc
   obtain⟨hl,_⟩:=hc;obtain⟨c0,c1,rfl⟩:=two_of hl
   ·simp only[List.mapM_cons,List.mapM_nil,Option.bind_eq_bind,Option.map_eq_some_iff,Option.bind_eq_some_iff,Option.pure_def,Option.some.injEq,cells3,List.drop_zero,List.take_succ_cons,List.take_zero,List.drop_succ_cons] at h;obtain⟨qs,⟨x,hx,y,⟨z,hz,u,hu,rfl⟩,rfl⟩,rfl⟩:=h;obtain⟨n,rfl,hn,rfl⟩:=(qko d _ _).1 hx;obtain⟨m,rfl,hm,rfl⟩:=(qko d _ _).1 hz;subst hu;exact⟨(n,m),rfl,⟨hn,hm⟩,rfl⟩
  ·cases h
 ·rintro⟨⟨n,m⟩,rfl,⟨hn,hm⟩,rfl⟩;rw[if_pos ⟨rfl,by kernel_rfl⟩];have h1:=(qko d (.int .i64 n) _).2 ⟨n,rfl,hn,rfl⟩;have h2:=(qko d (.int .i64 m) _).2 ⟨m,rfl,hm,rfl⟩;simp only[List.mapM_cons,List.mapM_nil,Option.bind_eq_bind,cells3,List.drop_zero,List.take_succ_cons,List.take_zero,List.drop_succ_cons,h1,h2,Option.bind_some,Option.pure_def,Option.map_some]
  rfl
theorem qb5 {p:Pr}(h:wfP p):keyOf Tryz.prog 130 (q2n p)=some (q5k p):=by
 obtain⟨d,hd⟩:=qb4;have h1:=(qpo d [.int .i64 p.1,.int .i64 p.2] _).2 ⟨p,rfl,h,rfl⟩;unfold keyOf q2n;simp only[Tryz.underlying130,key24,Value.formed,cells24,hd]
 show (if (true && _)=true then (Tryz.prog.keyLits (d + 2) 130 [.int .i64 p.1,.int .i64 p.2]).map _ else none)=_
 rw[if_pos (by rfl),h1]
 rfl
theorem qde {v:Value}{l:Lit}(h:keyOf Tryz.prog 130 v=some l):∃p,v=q2n p∧wfP p∧l=q5k p:=by
 obtain⟨xs,L,rfl,hk,rfl⟩:=keyOf_top qpn h;obtain⟨d,hd⟩:=qb4;rw[hd] at hk;obtain⟨p,hx,hw,rfl⟩:=(qpo d _ _).1 hk;obtain⟨xs⟩:=xs;exact⟨p,by unfold q2n;rw[show xs=[.int .i64 p.1,.int .i64 p.2] from hx],hw,rfl⟩
theorem qfq {p q:Pr}(h:q2n p=q2n q):p=q:=by
 unfold q2n at h;simp at h;exact Prod.ext h.1 h.2
theorem qfr {p q:Pr}(hp:wfP p)(hq:wfP q)(h:q5k p=q5k q):p=q:=by
 have h1:=qb5 hp;rw[h] at h1;exact qfq (K24.inj h1 (qb5 hq))
theorem qfs (p:Pr):WideAt.IsKeyLit (q5k p):=by unfold q5k;simp[WideAt.IsKeyLit]
def qcr (W:World)(b n:Nat)(f:Pr→Bool):Prop:=∃D:DataW Unit,W.ownsMap Tryz.prog 130 unitElem b n D∧∀p,wfP p→has D (q5k p)=f p
theorem qcr.made (w:World):qcr (w.alloc (.map #[] 0)) w.heap.size 0 (fun _=>false):=⟨.map [],World.ownsMap_made _ _ _ _,fun _ _=>rfl⟩
theorem qcr.kept {W W':World}{b n:Nat}{f:Pr→Bool}(h:qcr W b n f)(hb:W'.heap[b]?=W.heap[b]?):qcr W' b n f:=by
 obtain⟨D,⟨es,clock,hh,hr⟩,hf⟩:=h;exact⟨D,⟨es,clock,hb.trans hh,hr⟩,hf⟩
theorem qcr.put {W:World}{b n:Nat}{f:Pr→Bool}(h:qcr W b n f)(hn:n < maxLen)(p:Pr)(hp:wfP p) :
  ∃W',(Instr.mapUpdate 293 (.map (some b)) (q2n p) (.agg #[])).run Tryz.prog W=.ok () W'∧qcr W' b (n + 1) (fun q=>if q=p then true else f q)∧W.grownBy W' (some b):=by
 obtain⟨D,hown,hf⟩:=h;obtain⟨W',hrun,hown',hg⟩:=hown.update K24 Tryz.underlying293 hn (qb5 hp) (unitElem_mk (H:=Unit));refine⟨W',hrun,⟨_,hown',fun q hq=>?_⟩,hg⟩;have hM:IsMap D:=hown.isMap;dsimp only
 by_cases e:q=p
 ·subst e;rw[if_pos rfl,has_put_same hM (qfs q)]
 ·have hne:q5k q≠q5k p:=fun h=>e (qfr hq hp h)
  rw[if_neg e,has_put_other hne];exact hf q hq
open Go.Maps Go.RowKit
def rowP (l:List Pr):List Value:=l.flatMap fun p=>[.int .i64 p.1,.int .i64 p.2]
def yw (w:World)(a:Option Addr)(l:List Pr):Prop:=∀(i:Nat) (p:Pr),l[i]?=some p→∃b off,a=some ⟨b,off,none⟩∧w.cell? ⟨b,off + i * 2,none⟩=some (.int .i64 p.1)∧w.cell? ⟨b,off + i * 2 + 1,none⟩=some (.int .i64 p.2)
theorem qft (l:List Pr):(rowP l).length=l.length * 2:=by
 induction l with
 | nil=>rfl
 | cons a l ih=>simp only[rowP,List.flatMap_cons,lAp] at *;simp[ih];omega
theorem qeg:∀(l:List Pr) (i:Nat) (p:Pr),l[i]?=some p→(rowP l)[i * 2]?=some (.int .i64 p.1)∧(rowP l)[i * 2 + 1]?=some (.int .i64 p.2)
 | [],i,p,h=>by simp at h
 | q :: l,0,p,h=>by simp at h;subst h;exact⟨rfl,rfl⟩
 | q :: l,i + 1,p,h=>by
  have h':l[i]?=some p:=by simpa using h
  have:=qeg l i p h'
  rw[show (i + 1) * 2=i * 2 + 1 + 1 by omega];exact this
theorem q75 (l:List Pr)(p:Pr):rowP (l++[p])=rowP l++[.int .i64 p.1,.int .i64 p.2]:=by simp[rowP]
theorem qmj {w:World}{a:Option Addr}{l:List Pr}(h:q6n w a (rowP l)):yw w a l:=fun i p hi=>by
 obtain⟨h1,h2⟩:=qeg l i p hi;obtain⟨b,off,rfl,hc⟩:=h _ _ h1;obtain⟨b',off',e,hc'⟩:=h _ _ h2
 cases e;exact⟨b,off,rfl,hc,hc'⟩
theorem yw.under {w w':World}{a:Option Addr}{l:List Pr}(h:yw w a l)(hb:Below w.heap.size w w'):yw w' a l:=fun i p hi=>by
 obtain⟨b,off,e,h0,h1⟩:=h i p hi;have hlt:=bLt h0;exact⟨b,off,e,(hb.cell (p:=⟨b,off + i * 2,none⟩) hlt).trans h0,(hb.cell (p:=⟨b,off + i * 2 + 1,none⟩) hlt).trans h1⟩
theorem qkp {p:Pr}(h:wfP p):wfP (jo p):=by
 obtain⟨h1,h2⟩:=h;unfold jo wfP;refine⟨?_,?_⟩
 ·show wfI (min p.1 p.2)
  rcases Int.le_total p.1 p.2 with h | h
  ·rwa [Int.min_eq_left h]
  ·rwa [Int.min_eq_right h]
 ·show wfI (max p.1 p.2)
  rcases Int.le_total p.1 p.2 with h | h
  ·rwa [Int.max_eq_right h]
  ·rwa [Int.max_eq_left h]
theorem q7n (p:Pr)(w:World):Calls Tryz.prog 251 #[q2n p] w fun e w'=>e=.returned (q2n (jo p))∧Below w.heap.size w w':=by
 obtain⟨x,y⟩:=p;unfold q2n jo;dsimp only;go_enter Tryz.func251,Tryz.ntmps251
 go_wp2
 refine bodyPost_ret (v:=.agg #[.int .i64 (min x y),.int .i64 (max x y)]) (by simp[results,Tryz.results251,go_sem]) rfl ⟨rfl,?_⟩;exact (bRf.alloc (Nat.le_refl _) _).alloc (by simp) _
structure Turn (b:Nat)(W W':World):Prop where
 os:W'.os=W.os
 tape:W'.tape=W.tape
 output:W'.output=W.output
 size:W.heap.size≤W'.heap.size
 block:∀i,i < W.heap.size→i≠b→W'.heap[i]?=W.heap[i]?
theorem Turn.of_below {b:Nat}{W W':World}(h:Below W.heap.size W W'):Turn b W W':=⟨h.os,h.tape,h.output,h.size,fun i hi _=>h.block i hi⟩
theorem Turn.jw {b:Nat}{W W':World}(h:W.grownBy W' (some b)):Turn b W W':=⟨h.os,h.tape,h.output,h.size,fun i hi hne=>h.block i hi (fun e=>hne (by cases e;rfl))⟩
theorem Turn.trans {b:Nat}{W W' W'':World}(h:Turn b W W')(g:Turn b W' W''):Turn b W W'':=⟨g.os.trans h.os,g.tape.trans h.tape,g.output.trans h.output,nLt h.size g.size,fun i hi hne=>(g.block i (Nat.lt_of_lt_of_le hi h.size) hne).trans (h.block i hi hne)⟩
theorem Turn.refl (b:Nat)(W:World):Turn b W W:=⟨rfl,rfl,rfl,Nat.le_refl _,fun _ _ _=>rfl⟩
theorem Turn.below {b N:Nat}{W W':World}(h:Turn b W W')(hN:N≤W.heap.size)(hb:N≤b):Below N W W':=⟨h.os,h.tape,h.output,h.size,fun i hi=>h.block i (by omega) (by omega)⟩
def PS (W:World)(b n:Nat)(S:Pr→Prop):Prop:=∃f,qcr W b n f∧∀p,wfP p→(f p=true↔S p)
theorem PS.kept {W W':World}{b n:Nat}{S:Pr→Prop}(h:PS W b n S)(hb:W'.heap[b]?=W.heap[b]?):PS W' b n S:=by
 obtain⟨f,h1,h2⟩:=h;exact⟨f,h1.kept hb,h2⟩
theorem PS.low {W:World}{b n:Nat}{S:Pr→Prop}(h:PS W b n S):b < W.heap.size:=by
 obtain⟨f,⟨D,ho,_⟩,_⟩:=h;exact ho.lt
theorem PS.same {W:World}{b n:Nat}{S S':Pr→Prop}(h:PS W b n S)(he:∀p,S p↔S' p):PS W b n S':=by
 obtain⟨f,h1,h2⟩:=h;exact⟨f,h1,fun p hp=>(h2 p hp).trans (he p)⟩
theorem PS.up {W:World}{b n n':Nat}{S:Pr→Prop}(h:PS W b n S)(hn:n≤n'):PS W b n' S:=by
 obtain⟨f,⟨D,ho,hf⟩,h2⟩:=h;exact⟨f,⟨D,ho.mono hn,hf⟩,h2⟩
theorem PS.put {W:World}{b n:Nat}{S:Pr→Prop}(h:PS W b n S)(hn:n < maxLen)(p:Pr)(hp:wfP p) :
  ∃W',(Instr.mapUpdate 293 (.map (some b)) (q2n p) (.agg #[])).run Tryz.prog W=.ok () W'∧PS W' b (n + 1) (fun q=>q=p∨S q)∧Turn b W W':=by
 obtain⟨f,h1,h2⟩:=h;obtain⟨W',hr,hs,hg⟩:=h1.put hn p hp;refine⟨W',hr,⟨_,hs,fun q hq=>?_⟩,Turn.jw hg⟩
 by_cases e:q=p
 ·simp[e]
 ·simp[e,h2 q hq]
theorem put_any (w:World)(b n:Nat)(S:Pr→Prop)(p:Pr)(hn:n < 4611686018427387904)(hp:wfP p)(h:PS w b n S) :
  Calls Tryz.prog 286 #[.map (some b),q2n p] w fun e w'=>e=.returned (.tuple #[])∧PS w' b (n + 1) (fun q=>q=jo p∨S q)∧Turn b w w':=by
 obtain⟨w1,hw1⟩:=eXa (w.alloc (.cells #[.int .i64 p.1,.int .i64 p.2] 130));have hb1:Below w.heap.size w w1:=by rw[hw1];exact bRf.alloc (Nat.le_refl _) _
 have C:Hid _:=q7n p w1;have NEXT:Hid (∀w2,Below w1.heap.size w1 w2→∃W',(Instr.mapUpdate 293 (.map (some b)) (q2n (jo p)) (.agg #[])).run Tryz.prog w2=.ok () W'∧PS W' b (n + 1) (fun q=>q=jo p∨S q)∧Turn b w W'):=fun w2 hb2=>by
  have hb:Below w.heap.size w w2:=hb1.trans (hb2.mono hb1.size);obtain⟨W',h1,h2,h3⟩:=(h.kept (hb.block b h.low)).put (by unfold maxLen;omega) (jo p) (qkp hp);exact⟨W',h1,h2,(Turn.of_below hb).trans h3⟩
 rw[hw1] at C NEXT;clear hb1 h hp hw1 w1;obtain⟨q,hq⟩:=eXb (jo p);rw[hq] at C NEXT ⊢;obtain⟨x,y⟩:=p;obtain⟨qx,qy⟩:=q;clear hq;unfold q2n at *;dsimp only at *;go_enter Tryz.func286,Tryz.ntmps286;go_wp2_with fail;refine cMo C.out ?_;rintro e w2 ⟨rfl,hb2⟩;obtain⟨W',hrun,hS,hT⟩:=NEXT.out w2 hb2;have HS:Hid (PS W' b (n + 1) (fun q=>q=(qx,qy)∨S q)∧Turn b w W'):=⟨hS,hT⟩;clear C NEXT hb2 hS hT
 go_wp2
 go_end0
 exact⟨rfl,HS.out⟩
theorem qpp {l:List Pr}{p q:Pr}:inN (l++[p]) q↔inN l q∨(q.1 < q.2∧jo p=q):=by
 unfold inN;constructor
 ·rintro⟨h,r,hr,e⟩;rcases mAp.1 hr with hr | hr
  ·exact .inl ⟨h,r,hr,e⟩
  ·simp at hr;subst hr;exact .inr ⟨h,e⟩
 ·rintro (⟨h,r,hr,e⟩ | ⟨h,e⟩)
  ·exact⟨h,r,by simp[hr],e⟩
  ·exact⟨h,p,by simp,e⟩
theorem turn_lt {p:Pr}:(jo p).1 < (jo p).2↔p.1≠p.2:=by unfold jo;simp;omega
theorem add_any (w:World)(b n:Nat)(S:Pr→Prop)(a:Option Addr)(c:Nat)(l:List Pr)(m:Nat)(hl:l.length=m)(hm:m≤1048576)(hn:n≤4194304)(hw:∀p ∈ l,wfP p)(hA:yw w a l)(h:PS w b n S) :
  Calls Tryz.prog 269 #[.map (some b),.slice a m c] w fun e w'=>e=.returned (.tuple #[])∧PS w' b (n + m) (fun q=>inN l q∨S q)∧Turn b w w':=by
 have HL:=hid hl;have HW:=hid hw;have HA:=hid hA;have HB:Hid (∀(i:Nat) (p:Pr),l[i]?=some p→∀b' off,a=some ⟨b',off,none⟩→b'≠b):=fun i p hi b' off e e2=>by
  obtain⟨b2,off2,e3,h0,_⟩:=hA i p hi;rw[e] at e3
  cases e3;subst e2;obtain⟨f,⟨D,⟨es,clock,hh,_⟩,_⟩,_⟩:=h;simp[World.cell?,hh] at h0
 have H0:=hid h;clear hl hw hA h;go_enter Tryz.func269,Tryz.ntmps269;go_wp2_with fail
 go_loopw [8] (fun i wx=>∃j:Nat,j≤m∧i=.int .i64 j∧Hid (PS wx b (n + j) (fun q=>inN (l.take j) q∨S q))∧Hid (Turn b w wx)) (fun i _=>m - (intOf i).toNat)
 case atStart=>exact⟨0,Nat.zero_le _,rfl,H0.out.same fun p=>by simp[inN],Turn.refl _ _⟩
 case round =>
  clear H0;obtain⟨j,hj,rfl,HS,HT⟩:=hrel
  by_cases hlt:j < m
  ·have n1:(j:Int) < (m:Int):=by omega
   obtain⟨p,hp⟩:∃p,l[j]?=some p:=⟨l[j]'(by rw[HL.out];exact hlt),gEq _⟩;obtain⟨b1,o1,rfl,c0,c1⟩:=HA.out j p hp;have hne:=HB.out j p hp b1 o1 rfl;have hlt1:=bLt c0;have hblk:wr.heap[b1]?=w.heap[b1]?:=HT.out.block b1 hlt1 hne;have d0:=(World.cell?_of_block (a:=⟨b1,o1 + j * 2,none⟩) hblk).trans c0;have d1:=(World.cell?_of_block (a:=⟨b1,o1 + j * 2 + 1,none⟩) hblk).trans c1;have hwp:=HW.out p (mGe hp);have HTK:Hid (∀q,(inN (l.take (j + 1)) q∨S q)↔((q.1 < q.2∧jo p=q)∨(inN (l.take j) q∨S q))):=fun q=>by
    rw[List.take_add_one,hp]
    show (inN (l.take j++[p]) q∨S q)↔_
    rw[qpp];constructor
    ·rintro ((h | h) | h)
     ·exact .inr (.inl h)
     ·exact .inl h
     ·exact .inr (.inr h)
    ·rintro (h | h | h)
     ·exact .inl (.inr h)
     ·exact .inl (.inl h)
     ·exact .inr h
   have HP:Hid (∀w2,Below wr.heap.size wr w2→Calls Tryz.prog 286 #[.map (some b),q2n p] w2 fun e w'=>e=.returned (.tuple #[])∧PS w' b (n + j + 1) (fun q=>q=jo p∨(inN (l.take j) q∨S q))∧Turn b w2 w'):=fun w2 hb2 =>
    put_any w2 b (n + j) _ p (by omega) hwp (HS.out.kept (hb2.block b HS.out.low))
   have hlow:b < wr.heap.size:=HS.out.low;have HTL:Hid ((jo p).1 < (jo p).2↔p.1≠p.2):=turn_lt;clear hp hblk c0 c1 hwp;obtain⟨x,y⟩:=p;obtain⟨w2,hw2⟩:=eXa (wr.alloc (.cells #[.int .i64 x,.int .i64 y] 130));have hb2:Below wr.heap.size wr w2:=by rw[hw2];exact bRf.alloc (Nat.le_refl _) _
   by_cases hxy:x=y
   ·have HF:Hid (PS w2 b (n + (j + 1)) (fun q=>inN (l.take (j + 1)) q∨S q)∧Turn b w w2):=by
     refine⟨((HS.out.kept (hb2.block b hlow)).up (by omega)).same fun q=>?_,HT.out.trans (Turn.of_below hb2)⟩;rw[HTK.out q];constructor
     ·exact .inr
     ·rintro (⟨h1,h2⟩ | h)
      ·rw[←h2] at h1;exact absurd hxy (HTL.out.1 h1)
      ·exact h
    have f1:(x == y)=true:=by rw[beq_iff_eq];exact hxy
    rw[hw2] at HF;clear HTK HP HTL hw2 hb2 w2 hxy HS HT
    go_wp2
    exact⟨⟨j + 1,by omega,by go_num,HF.out.1,HF.out.2⟩,by simp[intOf];omega⟩
   ·have f1:(x == y)=false:=by rw[beq_eq_false_iff_ne];exact hxy
    have CALL:Hid _:=HP.out w2 hb2;have HF:Hid (∀w',PS w' b (n + j + 1) (fun q=>q=jo (x,y)∨(inN (l.take j) q∨S q))→Turn b w2 w'→PS w' b (n + (j + 1)) (fun q=>inN (l.take (j + 1)) q∨S q)∧Turn b w w'):=fun w' h1 h2=>by
     refine⟨h1.same fun q=>?_,(HT.out.trans (Turn.of_below hb2)).trans h2⟩;rw[HTK.out q];constructor
     ·rintro (h | h)
      ·exact .inl ⟨by rw[h];exact HTL.out.2 hxy,h.symm⟩
      ·exact .inr h
     ·rintro (⟨_,h⟩ | h)
      ·exact .inl h.symm
      ·exact .inr h
    rw[hw2] at CALL HF;unfold q2n at CALL;clear HTK HP HTL hw2 hb2 w2 hxy HS HT;go_wp2_with fail;refine cMo CALL.out ?_;rintro e w3 ⟨rfl,hS3,hT3⟩;have HF3:Hid _:=HF.out w3 hS3 hT3;clear CALL HF hS3 hT3
    go_wp2
    exact⟨⟨j + 1,by omega,by go_num,HF3.out.1,HF3.out.2⟩,by simp[intOf];omega⟩
  ·have n1:¬(j:Int) < (m:Int):=by omega
   have hjm:j=m:=by omega
   have HF:Hid (PS wr b (n + m) (fun q=>inN l q∨S q)∧Turn b w wr):=by
    have h1:=HS.out;rw[List.take_of_length_le (by rw[HL.out];omega),hjm] at h1;exact⟨h1,HT.out⟩
   clear hjm HS HT
   go_wp2
   go_end0
   exact⟨rfl,HF.out⟩
open Go.RowKit Go.Shelf Go.Maps Go.Sort
attribute [local go_sem] Oper.semAt_some
structure Col (D:DataW Unit)(left:Lit→Bool)(ss:List Pr):Prop where
 nodup:ss.Nodup
 wf:∀p ∈ ss,wfP p
 mem:∀p,wfP p→(p ∈ ss↔has D (q5k p)=true∧left (q5k p)=false)
theorem Col.start (D:DataW Unit):Col D (has D) []:=⟨List.nodup_nil,by simp,fun p _=>by cases has D (q5k p) <;> simp⟩
theorem Col.step {D:DataW Unit}{left:Lit→Bool}{ss:List Pr}(h:Col D left ss){x:Pr}(hx:wfP x){y:DataW Unit}(hlk:left (q5k x)=true)(hat:∀zd,D.atKey (q5k x) zd=y):Col D (fun z=>left z && !z.sameKey (q5k x)) (ss++[x]):=by
 have hhas:has D (q5k x)=true:=has_true_of_atKey hat;have hnew:x ∉ ss:=fun hm=>by have:=((h.mem x hx).1 hm).2;rw[hlk] at this;cases this
 refine⟨List.nodup_append.2 ⟨h.nodup,by simp,fun a ha b hb=>by simp at hb;subst hb;exact fun e=>hnew (e ▸ ha)⟩,fun p hp=>?_,fun p hp=>?_⟩
 ·rcases mAp.1 hp with hp | hp
  ·exact h.wf p hp
  ·simp at hp;subst hp;exact hx
 ·by_cases e:p=x
  ·subst e;simp[hhas,WideAt.sameKey_self (qfs p)]
  ·have hs:(q5k p).sameKey (q5k x)=false:=by
    cases hk:(q5k p).sameKey (q5k x) with
    | false=>rfl
    | true=>exact absurd (qfr hp hx (WideAt.sameKey_eq hk)) e
   simp[h.mem p hp,e,hs]
theorem qpq (v:Value)(y:DataW Unit × List MemPlace)(h:unitElem (H:=Unit) v=some y):∃c:Unit,v=(fun _=>Value.agg #[]) c:=⟨(),(unitElem_inv h).1⟩
theorem keys1_in (F:Fence) (n:Nat) (h41:F.fn 301) (hro:F.round=none) (hn:1≤n) (l Bm b nn:Nat) (D0:DataW Unit) (J Jx:List Pr→World→Prop)
  (hY:∀pre x W,J pre W→pre.length < Maps.size D0→YieldAt F (n - 1) Tryz.prog l #[q2n x] W fun e W' =>
    (e=.returned (.bool true)∧J (pre++[x]) W'∧KeepsWalks W W')∨(e=.returned (.bool false)∧Jx (pre++[x]) W'))
  (W:World) (hJ:AbidesFrom W.heap.size J) (hm:W.cell? ⟨Bm,0,none⟩=some (.map (some b))) (hown:W.ownsMap Tryz.prog 130 unitElem b nn D0) (h0:J [] W) :
  CallsIn F n Tryz.prog  301 #[.func (.yield l) #[] #[],.pointer (some ⟨Bm,0,none⟩)] W fun e W'=>(∃v,e=.returned v) ∧
   ((∃ss,(Col D0 (fun _=>false) ss∧ss.length≤Maps.size D0)∧J ss W')∨(∃pre,True∧Jx pre W')):=by
 refine callsIn_of_wp Tryz.func301 rfl h41 ?_ hro;simp only[Tryz.ntmps301,List.size_toArray,List.length_cons,List.length_nil,Nat.reduceAdd,Nat.reduceSub,Array.replicate_succ,Array.replicate_zero,List.push_toArray,List.append_toArray,List.nil_append,List.cons_append]
 gi_wp2_with (first
  | (gi_at_range;refine wpListIn_range_own _ rfl _ 293 rfl 130 317 K24 Tryz.underlying293 _ b nn _ rfl hown ?_;intro w0 hrg0 hg0 hs0)
  | gi_in)
 go_frame
 gi_loopw [3] (fun _ wr=>∃(left:Lit→Bool) (cnt:Nat) (ss:List Pr),wr.ranges Tryz.prog 130 unitElem b W.heap.size nn D0 left cnt∧ss.length + cnt≤Maps.size D0∧Col D0 left ss∧J ss wr)
  (fun _ wr=>wr.rangeLeft b W.heap.size)
 case atStart =>
  exact⟨_,_,[],hrg0,by simp,Col.start D0,hJ [] W w0 none h0 hg0 (fun r e=>by cases e)⟩
 case round =>
  obtain⟨left,cnt,ss,hrg,hcs,hC,hJs⟩:=hrel
  gi_wp2_with (first
   | (gi_at_next;refine wpListIn_next_ranges _ rfl _ rfl 130 K24 unitElem q2n (fun _:Unit=>Value.agg #[]) (fun key kl hk=>by obtain⟨x,hx,_⟩:=qde hk;exact⟨x,hx⟩) (fun v y hv=>qpq v y hv) b W.heap.size nn _ _ _ rfl hrg ?_ ?_)
   | gi_in)
  ·intro hc0 hl0
   gi_wp2
   go_end0
   refine⟨⟨_,rfl⟩,.inl ⟨ss,⟨⟨hC.nodup,hC.wf,fun p hp=>?_⟩,by omega⟩,hJs⟩⟩;rw[hC.mem p hp,hl0]
  ·intro x0 x1 kl yd yp w2 cnt2 hkey hlk hv hat hrg2 hlt hg2 hs2 hen;obtain⟨x',ex,hwx,rfl⟩:=qde hkey;obtain rfl:(x0,x1)=x':=qfq ex;have hJ2:J ss w2:=hJ ss wr w2 (some W.heap.size) hJs hg2 (fun r e=>by cases e;exact⟨Nat.le_refl _,hrg.iter_walk⟩);have hJ3:J ss (w2.alloc (.cells #[.int .i64 x0,.int .i64 x1] 130)):=hJ ss w2 _ none hJ2 (World.grownBy_alloc w2 _ none) (fun r e=>by cases e);obtain⟨fn,tmps,assign,body,hy,hR⟩:=hY ss (x0,x1) (w2.alloc (.cells #[.int .i64 x0,.int .i64 x1] 130)) hJ3 (by omega);have hrg3:=hrg2.alloc (.cells #[.int .i64 x0,.int .i64 x1] 130);clear hs2;unfold q2n at hy hen ⊢;dsimp only at hy hen ⊢
   gi_wp2
   refine hR.mono ?_;rintro e W3 (⟨rfl,hJ4,hk4⟩ | ⟨rfl,hJx4⟩)
   ·have hrg4:=hrg3.of_walks hk4
    gi_wp2
    go_roundw
    case rel=>exact⟨_,cnt2,ss++[(x0,x1)],hrg4,by simp;omega,hC.step hwx hlk hat,hJ4⟩
    case measure=>rw[hrg4.left_eq,hrg.left_eq];exact hlt
   ·gi_wp2
    refine bodyPost_ret (results_none rfl _ _ _) rfl ?_;exact⟨⟨_,rfl⟩,.inr ⟨_,trivial,hJx4⟩⟩
theorem keys_in (F:Fence)(n:Nat)(h31:F.fn 288)(hro:F.round=none)(mb:Option Nat)(w:World) :
  CallsIn F n Tryz.prog  288 #[.map mb] w fun e w'=>e=.returned (.func (.func 301) #[] #[.pointer (some ⟨w.heap.size,0,none⟩)])∧w'=w.alloc (.cells #[.map mb] 293):=by
 refine callsIn_of_wp Tryz.func288 rfl h31 ?_ hro;simp only[Tryz.ntmps288,List.size_toArray,List.length_cons,List.length_nil,Nat.reduceAdd,Nat.reduceSub,Array.replicate_succ,Array.replicate_zero,List.push_toArray,List.append_toArray,List.nil_append,List.cons_append]
 gi_wp2
 go_ret
 exact⟨rfl,rfl⟩
theorem keys_stops (F:Fence) (n:Nat) (h41:F.fn 301) (hro:F.round=none) (hn:1≤n) (Bm b nn:Nat) (D0:DataW Unit) (w:World) (hBm:Bm < w.heap.size)
  (hm:w.cell? ⟨Bm,0,none⟩=some (.map (some b))) (hown:w.ownsMap Tryz.prog 130 unitElem b nn D0) :
  SeqStopsK F n Tryz.prog  301 #[.pointer (some ⟨Bm,0,none⟩)] (fun x:Pr=>#[q2n x]) KeepsWalks (fun ss=>Col D0 (fun _=>false) ss∧ss.length≤Maps.size D0) (fun _=>True) (Maps.size D0) w:=fun l J Jx W hW hJ _ hY h0=>by
 have hown':W.ownsMap Tryz.prog 130 unitElem b nn D0:=by
  have hbl:=hown.lt;obtain⟨es,clock,hb,Ft,hs,hD⟩:=hown;exact⟨es,clock,(hW.block b hbl).trans hb,Ft,hs,hD⟩
 exact keys1_in F n h41 hro hn l Bm b nn D0 J Jx hY W hJ ((hW.cell (p:=⟨Bm,0,none⟩) hBm).trans hm) hown' h0
theorem info24:(Tryz.prog.info? 130).map (fun i=>(i.zero,i.size,i.bytes))=some (some (.agg #[.int .i64 0,.int .i64 0]),2,16):=by kernel_rfl
theorem qfu (F:Fence) (n:Nat) (h48:F.fn 304) (hro:F.round=none) (hn:2≤n) (g:Nat) (lb:Array Value) (hFg:F.fn g) (eg:∀args w,(callFunc g args).run Tryz.prog w=.ok (.enter g args) w) (S:List Pr→Prop) (N:Nat) (hN:N≤8388608) (w:World)
  (hseq:SeqStopsK F (n - 1) Tryz.prog g lb (fun x:Pr=>#[q2n x]) KeepsWalks S (fun _=>True) N (w.alloc (.cells #[.slice none 0 0] 45))) :
  CallsIn F n Tryz.prog  304 #[.slice none 0 0,.func (.func g) #[] lb] w fun e W'=>∃v ss,e=.returned v∧S ss∧W'.ownsRow w.heap.size 130 2 v ss.length (rowP ss)∧Below w.heap.size w W':=by
 have h1:1≤n:=by omega
 obtain⟨i0,hi,hz0,hz1,hz2⟩:=info_parts info24;refine callsIn_of_wp_marks Tryz.func304 rfl h48 ?_ hro;simp only[Tryz.ntmps304,List.size_toArray,List.length_cons,List.length_nil,Nat.reduceAdd,Nat.reduceSub,Array.replicate_succ,Array.replicate_zero,List.push_toArray,List.append_toArray,List.nil_append,List.cons_append]
 gi_wp2
 have bO:=Boxed.new w 45 (.slice none 0 0);have hB0:Below w.heap.size w (w.alloc (.cells #[.slice none 0 0] 45)):=(Below.refl _ w).alloc (Nat.le_refl _) _;refine wpIn_rangeFunc_ownH hro h1 (gf:=g) (lb:=lb) rfl hFg eg hseq walksK_t (fun W l o o' hl h hc hw=>walksK_b (w:=w.alloc (.cells #[.slice none 0 0] 45)) W l o o' hl h hc hw) bRf (fun _=>rfl)
  (fun pre W=>(∃v,Boxed W w.heap.size 45 v∧W.ownsRow w.heap.size 130 2 v pre.length (rowP pre)∧True)∧Below w.heap.size w W)
  (fun _ _ _=>False)
  (OwnFrom.and (Own.from (holdsRow_own w.heap.size w.heap.size 45 130 2 (fun pre:List Pr=>pre.length) (fun pre=>rowP pre) (fun _ _=>True)) _) (ownFrom_below (Nat.le_refl _) (by simp)))
  (fun _ _ _ _ _ hs _ _=>hs)
  ⟨⟨_,bO,World.ownsRow_nil _ _ _ _,trivial⟩,hB0⟩
  (fun x a' W=>∃Bx,W.heap[Bx]?=some (.cells #[.int .i64 x.1,.int .i64 x.2] 130 (0,0))∧a'={ tmps:=#[.slice none 0 0,.func (.func g) #[] lb,.pointer (some ⟨w.heap.size,0,none⟩),undef,.slice none 0 0,.pointer (some ⟨Bx,0,none⟩),.func (.func g) #[] lb,q2n x,undef,undef,undef,undef,undef],defers:=[] })
  (fun x a' _ X Y row hs hg hr=>by
    obtain⟨Bx,h1,h2⟩:=hs
    refine⟨Bx,(hg.block Bx (aIx h1) (fun e'=>?_)).trans h1,h2⟩
    obtain⟨o,ho,hc⟩:=(hr Bx e'.symm).2
    rw[h1] at ho
    cases ho
    cases hc)
  ?assign ?body ?done ?stop
 case assign =>
  rintro l pre x W K ⟨⟨v,hv,hrow,_⟩,hB⟩ hK;obtain⟨x0,x1⟩:=x;unfold q2n at hK ⊢
  gi_wp2
  exact hK _ _ ((KeepsOthers.alloc _ _).from _) (KeepsWalks.alloc _ _) ⟨⟨v,hv.alloc _,hrow.alloc _,trivial⟩,hB.alloc hB.size _⟩ ⟨W.heap.size,World.alloc_heap_new W _,rfl⟩
 case body =>
  rintro l pre x a' W hl ⟨r,hr⟩ ⟨⟨v,hv,hrow,_⟩,hB⟩ ⟨Bx,hBx,rfl⟩ hlt;obtain⟨x0,x1⟩:=x;have hc:=hv.cell;have d0:W.cell? ⟨Bx,0,none⟩=some (.int .i64 x0):=by simp[World.cell?,hBx]
  have d1:W.cell? ⟨Bx,1,none⟩=some (.int .i64 x1):=by simp[World.cell?,hBx]
  clear hBx
  gi_wp2_with (gi_at_builtin;refine wpListIn_append_own _ rfl _ _ 45 rfl w.heap.size 130 i0 (.agg #[.int .i64 0,.int .i64 0]) 2 16 Tryz.underlying45 hi hz0 hz1 hz2 rfl (by decide) _ _ _ rfl (hrow.alloc _) ⟨W.heap.size,0,none⟩ 1 1 [.int .i64 x0,.int .i64 x1] rfl rfl (World.news_of_block (cs:=#[.int .i64 x0,.int .i64 x1]) (t:=130) (fr:=(0,0)) (World.alloc_heap_new W _)) (by simp[Value.oneCell']) (by unfold maxLen;omega) (by omega) (by have:=hB.size;simp;omega) ?_;intro v' w1 hown' hgrow _;obtain⟨g',cap',rfl⟩:=ownsRow_succ hown';obtain⟨hv1,hv2,hr2,hk2,hb2⟩:=hv.appended (by decide) hrow hB.size (Nat.le_refl _) hown' hgrow;have hc1:=hv1.cell;have hf1:=hv1.frozen)
  exact⟨hk2.from _,hk2.walks,⟨_,hv2,by rw[q75,lAp];exact hr2,trivial⟩,hB.trans hb2⟩
 case done =>
  rintro D ys W hD hS ⟨⟨v,hv,hrow,_⟩,hB⟩ hK;have hc:=hv.cell
  gi_wp2
  refine⟨by simp,.inl ⟨_,_,rfl,run_takeDeferred hK,?_⟩⟩;exact⟨_,results_tmp rfl _ _ _,v,ys,rfl,hS,ownsRow_putObj hrow _ hK rfl,hB.trans (belowK_b (w:=w) (Nat.le_refl _) W D _ _ (by simp at hD;omega) hK rfl rfl)⟩
 case stop =>
  rintro D c pre W _ _ h _;exact h.elim
theorem qfv (F:Fence) (n:Nat) (h39:F.fn 299) (h48:F.fn 304) (hro:F.round=none) (hn:3≤n) (g:Nat) (lb:Array Value) (hFg:F.fn g) (eg:∀args w,(callFunc g args).run Tryz.prog w=.ok (.enter g args) w) (S:List Pr→Prop) (N:Nat) (hN:N≤8388608) (w:World)
  (hseq:SeqStopsK F (n - 1 - 1) Tryz.prog g lb (fun x:Pr=>#[q2n x]) KeepsWalks S (fun _=>True) N (w.alloc (.cells #[.slice none 0 0] 45))) :
  CallsIn F n Tryz.prog  299 #[.func (.func g) #[] lb] w fun e W'=>∃v ss,e=.returned v∧S ss∧W'.ownsRow w.heap.size 130 2 v ss.length (rowP ss)∧Below w.heap.size w W':=by
 refine callsIn_of_wp Tryz.func299 rfl h39 ?_ hro;simp only[Tryz.ntmps299,List.size_toArray,List.length_cons,List.length_nil,Nat.reduceAdd,Nat.reduceSub,Array.replicate_succ,Array.replicate_zero,List.push_toArray,List.append_toArray,List.nil_append,List.cons_append];have h1:1≤n:=by omega
 gi_wp2_with (gi_at_call 304;refine (qfu F (n - 1) h48 hro (by omega) g lb hFg eg S N hN _ hseq).mono ?_;rintro e w' ⟨v,ss,rfl,hS,hrow,hb⟩)
 go_ret
 exact⟨v,ss,rfl,hS,hrow,hb⟩
theorem qij (b:Nat)(w:World):Calls Tryz.prog 288 #[.map (some b)] w fun e w'=>e=.returned (.func (.func 301) #[] #[.pointer (some ⟨w.heap.size,0,none⟩)])∧w'=w.alloc (.cells #[.map (some b)] 293) :=
 (callsIn_wide (n:=9)).1 (keys_in Fence.wide 9 trivial rfl (some b) w)
structure Lists (S:Pr→Prop)(ss:List Pr):Prop where
 nodup:ss.Nodup
 wf:∀p ∈ ss,wfP p
 mem:∀p,wfP p→(p ∈ ss↔S p)
theorem qb6 (w0:World)(b n:Nat)(S:Pr→Prop)(h:PS w0 b n S)(hn:n≤8388608)(w:World)(hw:w=w0.alloc (.cells #[.map (some b)] 293)) :
  Calls Tryz.prog 299 #[.func (.func 301) #[] #[.pointer (some ⟨w0.heap.size,0,none⟩)]] w fun e W'=>∃v ss,e=.returned v∧Lists S ss∧ss.length≤n∧W'.ownsRow w.heap.size 130 2 v ss.length (rowP ss)∧Below w.heap.size w W':=by
 obtain⟨f,⟨D,ho,hf⟩,h2⟩:=h;have hs:w.heap.size=w0.heap.size + 1:=by rw[hw];simp
 have hbl:b < w0.heap.size:=ho.lt;have hw':(w.alloc (.cells #[.slice none 0 0] 45)).ownsMap Tryz.prog 130 unitElem b n D:=by rw[hw];exact (ho.alloc _).alloc _
 refine ((callsIn_wide (n:=9)).1 (qfv Fence.wide 9 trivial trivial rfl (by omega) 301 _ trivial (enters_of Tryz.func301 (by kernel_rfl) rfl) (fun ss=>Col D (fun _=>false) ss∧ss.length≤Maps.size D) (Maps.size D) (nLt ho.size_le hn) w (keys_stops Fence.wide _ trivial rfl (by omega) w0.heap.size b n D _ (by simp;omega) ?_ hw'))).mono ?_
 ·rw[World.cell?_of_block (w:=w) (a:=⟨w0.heap.size,0,none⟩) (Below.heap_alloc w _ w0.heap.size (by omega)),hw];exact World.cell?_alloc_new w0 _ _ 0
 ·rintro e W' ⟨v,ss,rfl,⟨hC,hcl⟩,hr,hb⟩;exact⟨v,ss,rfl,⟨hC.nodup,hC.wf,fun p hp=>by rw[hC.mem p hp,hf p hp,h2 p hp];simp⟩,nLt hcl ho.size_le,hr,hb⟩
open Go.Shelf
def Tryz.qmk:Go.Shelf.Ren:=⟨fun | 6=>300 | 15=>267 | 14=>305 | 28=>284 | 29=>285 | 20=>306 | 21=>307 | 22=>308 | 23=>309 | 24=>310 | 25=>311 | 26=>312 | 27=>313 | 46=>314 | 47=>295 | 48=>296 | 49=>315 | 50=>316 | 57=>317 | n=>n,fun | 22=>45 | 24=>130 | 25=>320 | 3=>3 | 39=>116 | 0=>0 | 53=>299 | 55=>311 | 4=>4 | 46=>304 | 45=>303 | 50=>54 | 5=>5 | 9=>9 | 66=>321 | 70=>325 | 76=>330 | 77=>331 | n=>n,fun | n=>n⟩
theorem Tryz.sortB:Go.Proofs.SlLaysF0.n6 Tryz.prog Tryz.qmk:={
 mixed:=by kernel_rfl
 f6:=⟨Tryz.f300.name,by decide,Tryz.func300.trans (congrArg some (by kernel_rfl))⟩
 f14:=⟨Tryz.f305.name,by decide,Tryz.func305.trans (congrArg some (by kernel_rfl))⟩
 f15:=Tryz.func267.trans (congrArg some (by kernel_rfl))
 f20:=⟨Tryz.f306.name,by decide,Tryz.func306.trans (congrArg some (by kernel_rfl))⟩
 f21:=⟨Tryz.f307.name,by decide,Tryz.func307.trans (congrArg some (by kernel_rfl))⟩
 f22:=⟨Tryz.f308.name,by decide,Tryz.func308.trans (congrArg some (by kernel_rfl))⟩
 f23:=⟨Tryz.f309.name,by decide,Tryz.func309.trans (congrArg some (by kernel_rfl))⟩
 f24:=⟨Tryz.f310.name,by decide,Tryz.func310.trans (congrArg some (by kernel_rfl))⟩
 f25:=⟨Tryz.f311.name,by decide,Tryz.func311.trans (congrArg some (by kernel_rfl))⟩
 f26:=⟨Tryz.f312.name,by decide,Tryz.func312.trans (congrArg some (by kernel_rfl))⟩
 f27:=⟨Tryz.f313.name,by decide,Tryz.func313.trans (congrArg some (by kernel_rfl))⟩
 f28:=Tryz.func284.trans (congrArg some (by kernel_rfl))
 f29:=Tryz.func285.trans (congrArg some (by kernel_rfl))
 f46:=⟨Tryz.f314.name,by decide,Tryz.func314.trans (congrArg some (by kernel_rfl))⟩
 f47:=Tryz.func295.trans (congrArg some (by kernel_rfl))
 f48:=Tryz.func296.trans (congrArg some (by kernel_rfl))
 f49:=⟨Tryz.f315.name,by decide,Tryz.func315.trans (congrArg some (by kernel_rfl))⟩
 f50:=⟨Tryz.f316.name,by decide,Tryz.func316.trans (congrArg some (by kernel_rfl))⟩
 f57:=⟨Tryz.f317.name,by decide,Tryz.func317.trans (congrArg some (by kernel_rfl))⟩
 t0:=Tryz.underlying0
 a0:=Tryz.isAgg0
 z0:=Tryz.sizeOf0
 v0:=Tryz.zeroValue0
 t3:=Tryz.underlying3
 a3:=Tryz.isAgg3
 z3:=Tryz.sizeOf3
 v3:=Tryz.zeroValue3
 t4:=Tryz.underlying4
 a4:=Tryz.isAgg4
 z4:=Tryz.sizeOf4
 v4:=Tryz.zeroValue4
 t5:=Tryz.underlying5
 a5:=Tryz.isAgg5
 z5:=Tryz.sizeOf5
 v5:=Tryz.zeroValue5
 t9:=Tryz.underlying9
 a9:=Tryz.isAgg9
 z9:=Tryz.sizeOf9
 v9:=Tryz.zeroValue9
 t22:=Tryz.underlying45
 a22:=Tryz.isAgg45
 z22:=Tryz.sizeOf45
 v22:=Tryz.zeroValue45
 t25:=Tryz.underlying320
 a25:=Tryz.isAgg320
 z25:=Tryz.sizeOf320
 v25:=Tryz.zeroValue320
 t39:=Tryz.underlying116
 a39:=Tryz.isAgg116
 z39:=Tryz.sizeOf116
 v39:=Tryz.zeroValue116
 t45:=Tryz.underlying303
 a45:=Tryz.isAgg303
 z45:=Tryz.sizeOf303
 v45:=Tryz.zeroValue303
 t46:=Tryz.underlying304
 a46:=Tryz.isAgg304
 z46:=Tryz.sizeOf304
 v46:=Tryz.zeroValue304
 t50:=Tryz.underlying54
 a50:=Tryz.isAgg54
 z50:=Tryz.sizeOf54
 v50:=Tryz.zeroValue54
 t53:=Tryz.underlying299
 a53:=Tryz.isAgg299
 z53:=Tryz.sizeOf299
 v53:=Tryz.zeroValue299
 t55:=Tryz.underlying311
 a55:=Tryz.isAgg311
 z55:=Tryz.sizeOf311
 v55:=Tryz.zeroValue311
 t66:=Tryz.underlying321
 a66:=Tryz.isAgg321
 z66:=Tryz.sizeOf321
 v66:=Tryz.zeroValue321
 t70:=Tryz.underlying325
 a70:=Tryz.isAgg325
 z70:=Tryz.sizeOf325
 v70:=Tryz.zeroValue325
 t76:=Tryz.underlying330
 a76:=Tryz.isAgg330
 z76:=Tryz.sizeOf330
 v76:=Tryz.zeroValue330
 t77:=Tryz.underlying331
 a77:=Tryz.isAgg331
 z77:=Tryz.sizeOf331
 v77:=Tryz.zeroValue331 }
open Go.RowKit
def qa3 (x y:Int):Int:=if x < y then -1 else if y < x then 1 else 0
theorem qdf (x:Int)(w:World):Calls Tryz.prog 239 #[.int .i64 x] w fun e w'=>e=.returned (.bool false)∧w'=w:=by
 go_enter Tryz.func239,Tryz.ntmps239
 go_wp2
 go_ret
 exact⟨rfl,rfl⟩
theorem qkq (x y:Int)(w:World):Calls Tryz.prog 291 #[.int .i64 x,.int .i64 y] w fun e w'=>e=.returned (.int .i64 (qa3 x y))∧w'=w:=by
 have A:Hid _:=qdf x w;have B:Hid _:=qdf y w;rcases Int.lt_trichotomy x y with h | h | h
 ·have HE:Hid (qa3 x y=-1):=by show _=_;unfold qa3;rw[if_pos h]
  go_enter Tryz.func291,Tryz.ntmps291;go_wp2_with fail;refine cMo A.out ?_;rintro e w' ⟨rfl,hw⟩;subst w';go_wp2_with fail;refine cMo B.out ?_;rintro e w' ⟨rfl,hw⟩;subst w'
  go_wp2
  go_ret
  exact⟨by rw[HE.out];rfl,rfl⟩
 ·have HE:Hid (qa3 x y=0):=by show _=_;unfold qa3;rw[if_neg (by omega),if_neg (by omega)]
  have h1:¬x < y:=by omega
  have h2:¬y < x:=by omega
  clear h;go_enter Tryz.func291,Tryz.ntmps291;go_wp2_with fail;refine cMo A.out ?_;rintro e w' ⟨rfl,hw⟩;subst w';go_wp2_with fail;refine cMo B.out ?_;rintro e w' ⟨rfl,hw⟩;subst w'
  go_wp2
  go_ret
  exact⟨by rw[HE.out];rfl,rfl⟩
 ·have HE:Hid (qa3 x y=1):=by show _=_;unfold qa3;rw[if_neg (by omega),if_pos h]
  have h1:¬x < y:=by omega
  go_enter Tryz.func291,Tryz.ntmps291;go_wp2_with fail;refine cMo A.out ?_;rintro e w' ⟨rfl,hw⟩;subst w';go_wp2_with fail;refine cMo B.out ?_;rintro e w' ⟨rfl,hw⟩;subst w'
  go_wp2
  go_ret
  exact⟨by rw[HE.out];rfl,rfl⟩
def orI (a b:Int):Int:=if a=0 then b else a
theorem or_any (a b:Int)(g c:Nat)(w:World)(h0:w.cell? ⟨g,0,none⟩=some (.int .i64 a))(h1:w.cell? ⟨g,1,none⟩=some (.int .i64 b)) :
  Calls Tryz.prog 290 #[.slice (some ⟨g,0,none⟩) 2 c] w fun e w'=>e=.returned (.int .i64 (orI a b))∧w'=w:=by
 go_enter Tryz.func290,Tryz.ntmps290;go_wp2_with fail
 go_loop [8] (fun i=>∃j:Nat,j≤2∧i=.int .i64 j∧Hid (1≤j→a=0)∧Hid (j=2→b=0)) (fun i=>2 - (intOf i).toNat)
 case atStart=>exact⟨0,by omega,rfl,fun h=>by omega,fun h=>by omega⟩
 case round =>
  obtain⟨j,hj,rfl,HA,HB⟩:=hrel
  match j,hj with
  | 0,_ =>
   by_cases ha:a=0
   ·have f1:(a == 0)=true:=by rw[beq_iff_eq];exact ha
    have HA2:Hid (1≤0 + 1→a=0):=fun _=>ha
    clear ha HA HB
    go_wp2
    go_round
    case rel=>exact⟨1,by omega,rfl,HA2.out,fun h=>by omega⟩
    case measure=>simp[intOf]
   ·have f1:(a == 0)=false:=by rw[beq_eq_false_iff_ne];exact ha
    have HE:Hid (orI a b=a):=by show _=_;unfold orI;rw[if_neg ha]
    clear ha HA HB
    go_wp2
    go_ret
    exact⟨by rw[HE.out];rfl,rfl⟩
  | 1,_ =>
   have ha:=HA.out (by omega);have HE:Hid (orI a b=b):=by show _=_;unfold orI;rw[if_pos ha]
   by_cases hb:b=0
   ·have f1:(b == 0)=true:=by rw[beq_iff_eq];exact hb
    have HB2:Hid (1 + 1=2→b=0):=fun _=>hb
    clear ha hb HB
    go_wp2
    go_round
    case rel=>exact⟨2,by omega,rfl,fun _=>HA.out (by omega),HB2.out⟩
    case measure=>simp[intOf]
   ·have f1:(b == 0)=false:=by rw[beq_eq_false_iff_ne];exact hb
    clear ha hb HA HB
    go_wp2
    go_ret
    exact⟨by rw[HE.out];rfl,rfl⟩
  | 2,_ =>
   have HE:Hid (orI a b=0):=by show _=_;unfold orI;rw[if_pos (HA.out (by omega))];exact HB.out rfl
   go_wp2
   go_ret
   exact⟨by rw[HE.out];rfl,rfl⟩
def cfP (p q:Pr):Int:=orI (qa3 p.1 q.1) (qa3 p.2 q.2)
theorem qpr (x y:Pr)(w:World):Calls Tryz.prog 289 #[q2n x,q2n y] w fun e w'=>e=.returned (.int .i64 (cfP x y))∧∃q os',w'=Sort.grow (w.drewN q) os':=by
 obtain⟨x0,x1⟩:=x;obtain⟨y0,y1⟩:=y;obtain⟨wA,hwA⟩:=eXa ((w.alloc (.cells #[.int .i64 x0,.int .i64 x1] 130)).alloc (.cells #[.int .i64 y0,.int .i64 y1] 130));have C1:Hid _:=qkq x0 y0 wA.drew;have C2:Hid _:=qkq x1 y1 wA.drew;unfold cfP q2n;dsimp only;generalize qa3 x0 y0=c0 at *;generalize qa3 x1 y1=c1 at *;have q0:wA.drew.cell? ⟨w.heap.size,0,none⟩=some (.int .i64 x0):=by rw[hwA];exact (World.cell?_of_block (w:=w.alloc (.cells #[.int .i64 x0,.int .i64 x1] 130)) (a:=⟨w.heap.size,0,none⟩) (Below.heap_alloc _ _ w.heap.size (by simp))).trans (World.cell?_alloc_new w _ _ 0)
 have q1:wA.drew.cell? ⟨w.heap.size,1,none⟩=some (.int .i64 x1):=by rw[hwA];exact (World.cell?_of_block (w:=w.alloc (.cells #[.int .i64 x0,.int .i64 x1] 130)) (a:=⟨w.heap.size,1,none⟩) (Below.heap_alloc _ _ w.heap.size (by simp))).trans (World.cell?_alloc_new w _ _ 1)
 have r0:wA.drew.cell? ⟨w.heap.size + 1,0,none⟩=some (.int .i64 y0):=by rw[hwA];have h:=World.cell?_alloc_new (w.alloc (.cells #[.int .i64 x0,.int .i64 x1] 130)) #[.int .i64 y0,.int .i64 y1] 130 0;rw[World.size_alloc] at h;exact h
 have r1:wA.drew.cell? ⟨w.heap.size + 1,1,none⟩=some (.int .i64 y1):=by rw[hwA];have h:=World.cell?_alloc_new (w.alloc (.cells #[.int .i64 x0,.int .i64 x1] 130)) #[.int .i64 y0,.int .i64 y1] 130 1;rw[World.size_alloc] at h;exact h
 have hsB:wA.drew.heap.size=w.heap.size + 2:=by rw[hwA];simp[World.drew]
 have C3:Hid _:=or_any c0 c1 wA.drew.heap.size 2 (wA.drew.alloc (.cells #[.int .i64 c0,.int .i64 c1] 3)) (World.cell?_alloc_new wA.drew _ _ 0) (World.cell?_alloc_new wA.drew _ _ 1);have s0:(wA.drew.alloc (.cells #[.int .i64 c0,.int .i64 c1] 3)).cell? ⟨w.heap.size,0,none⟩=some (.int .i64 x0):=(World.cell?_of_block (w:=wA.drew) (a:=⟨w.heap.size,0,none⟩) (Below.heap_alloc _ _ w.heap.size (by omega))).trans q0;have s1:(wA.drew.alloc (.cells #[.int .i64 c0,.int .i64 c1] 3)).cell? ⟨w.heap.size,1,none⟩=some (.int .i64 x1):=(World.cell?_of_block (w:=wA.drew) (a:=⟨w.heap.size,1,none⟩) (Below.heap_alloc _ _ w.heap.size (by omega))).trans q1;have t0:(wA.drew.alloc (.cells #[.int .i64 c0,.int .i64 c1] 3)).cell? ⟨w.heap.size + 1,0,none⟩=some (.int .i64 y0):=(World.cell?_of_block (w:=wA.drew) (a:=⟨w.heap.size + 1,0,none⟩) (Below.heap_alloc _ _ (w.heap.size + 1) (by omega))).trans r0;have t1:(wA.drew.alloc (.cells #[.int .i64 c0,.int .i64 c1] 3)).cell? ⟨w.heap.size + 1,1,none⟩=some (.int .i64 y1):=(World.cell?_of_block (w:=wA.drew) (a:=⟨w.heap.size + 1,1,none⟩) (Below.heap_alloc _ _ (w.heap.size + 1) (by omega))).trans r1;have HG:Hid (∃os,wA.drew.alloc (.cells #[.int .i64 c0,.int .i64 c1] 3)=Sort.grow (w.drewN 1) os):=by
  rw[hwA,Sort.alloc_eq_grow w,Sort.alloc_eq_grow (Sort.grow w _),Sort.grow_grow,Sort.drew_grow,Sort.alloc_eq_grow,Sort.grow_grow];exact⟨_,rfl⟩
 generalize orI c0 c1=rr at *;go_enter Tryz.func289,Tryz.ntmps289;go_wp2_with fail;rw[←hwA];clear hwA hsB;refine wp_region_held_drew (S:=fun w'=>w'.cell? ⟨w.heap.size,0,none⟩=some (.int .i64 x0)∧w'.cell? ⟨w.heap.size,1,none⟩=some (.int .i64 x1)∧w'.cell? ⟨w.heap.size + 1,0,none⟩=some (.int .i64 y0)∧w'.cell? ⟨w.heap.size + 1,1,none⟩=some (.int .i64 y1)) (by kernel_rfl) ?_ (fun hZ=>?_)
 ·exact⟨q0,q1,r0,r1⟩
 refine tkq 0 hZ ?_;refine tkq 1 hZ ?_;refine tkq 2 hZ ?_;refine tkq 3 hZ ?_;refine tkq 5 hZ ?_;refine tkq 6 hZ ?_;refine tkq 7 hZ ?_;refine tkq 8 hZ ?_;refine rkq 4 fun K hK=>?_
 go_simp;go_at_call 291;refine cMo C1.out ?_;rintro e w2 ⟨rfl,hw2⟩;subst w2;clear C1
 try go_wp2_with fail
 refine aQq hK ?_ fun hZ_4=>?_
 ·exact⟨q0,q1,r0,r1⟩
 clear hK K;refine rkq 9 fun K hK=>?_
 go_simp;go_at_call 291;refine cMo C2.out ?_;rintro e w3 ⟨rfl,hw3⟩;subst w3;clear C2
 try go_wp2_with fail
 refine aQq hK ?_ fun hZ_9=>?_
 ·exact⟨q0,q1,r0,r1⟩
 clear hK K;refine rkq 10 fun K hK=>?_
 go_simp;refine aQq hK ?_ fun hZ_10=>?_
 ·exact⟨s0,s1,t0,t1⟩
 clear hK K;refine rkq 11 fun K hK=>?_
 go_simp;go_at_call 290;refine cMo C3.out ?_;rintro e w5 ⟨rfl,hw5⟩;subst w5
 try go_wp2_with fail
 refine aQq hK ?_ fun hZ_11=>?_
 ·exact⟨s0,s1,t0,t1⟩
 clear hK K;refine tkq 12 hZ_11 ?_;refine wpAnyH_done (by kernel_rfl) ?_ _
 go_wp2
 go_ret
 obtain⟨os,hos⟩:=HG.out;exact⟨rfl,1,os,hos⟩
def encS (p:Pr):List Value:=[.int .i64 p.1,.int .i64 p.2]
theorem ltS (x y:Pr):ltOf cfP x y=decide (ltP x y):=by
 unfold ltOf cfP orI qa3 ltP
 by_cases h1:x.1 < y.1
 ·simp[h1]
 ·by_cases h2:y.1 < x.1
  ·have h3:¬x.1=y.1:=by omega
   simp[h1,h2,h3]
  ·have h3:x.1=y.1:=by omega
   by_cases h4:x.2 < y.2
   ·simp[h3,h4]
   ·by_cases h5:y.2 < x.2 <;> simp[h3,h4,h5]
theorem swoP:Sort.SWO (ltOf cfP) where
 irrefl x:=by rw[ltS];simp[q60]
 trans x y z h1 h2:=by rw[ltS] at *;simp at *;exact qdb h1 h2
 ntrans x y z h1 h2:=by rw[ltS] at *;simp at *;unfold ltP at *;omega
theorem qps (blk off size:Nat)(w:World):CmpLays Tryz.prog  289 #[] encS 2 cfP blk off size w:=fun _ _ _ _ x y=>qpr x y _
theorem qdg (ds:List Pr)(t:Nat)(ht:t < ds.length * 2):(rowP ds)[t]?=some ((encS ds.toArray[t / 2]!)[t % 2]!):=by
 have hlt:t / 2 < ds.length:=by omega
 have hg:ds.toArray[t / 2]! = ds[t / 2]:=by
  rw[getElem!_pos ds.toArray (t / 2) (by simpa using hlt)];simp
 have h:=qeg ds (t / 2) ds[t / 2] (gEq hlt);rw[hg];rcases Nat.mod_two_eq_zero_or_one t with h2 | h2
 ·rw[h2];have e:t=t / 2 * 2:=by omega
  have h3:=h.1;rw[←e] at h3;exact h3
 ·rw[h2];have e:t=t / 2 * 2 + 1:=by omega
  have h3:=h.2;rw[←e] at h3;exact h3
theorem qik {w:World}{g m:Nat}{d':Array Pr}{os:Array Obj}:w.grownBy (sortWorldK encS 2 w g 0 m d' os) (some g):=by
 refine⟨rfl,rfl,rfl,?_,fun k hk hne=>?_⟩
 ·unfold sortWorldK Sort.putRowK Sort.putRow Sort.mapBlock Sort.grow Sort.ahead;simp
 ·have hkg:k≠g:=fun e=>hne (by rw[e])
  unfold sortWorldK Sort.putRowK Sort.putRow Sort.mapBlock Sort.grow Sort.ahead;simp only[Array.getElem?_append,Array.size_modify,hk,if_true];rw[Array.getElem?_modify,if_neg (fun e=>hkg e.symm)]
theorem qil {w:World}{g m:Nat}{d':Array Pr}{os:Array Obj}{cur:Array Value}(h:w.heap[g]?=some (.cells cur 130 (0,0))):∃cur',(sortWorldK encS 2 w g 0 m d' os).heap[g]?=some (.cells cur' 130 (0,0))∧cur'.size=cur.size:=by
 have hk:g < w.heap.size:=(aIx h);unfold sortWorldK Sort.putRowK Sort.putRow Sort.mapBlock Sort.grow Sort.ahead;simp only[Array.getElem?_append,Array.size_modify,hk,if_true];rw[Array.getElem?_modify,if_pos rfl,h];exact⟨_,rfl,by simp[Sort.putCells]⟩
theorem qim {W:World}{base g n cap:Nat}{cur:Array Value}{xs:List Value}(hg:base≤g)(hh:W.heap[g]?=some (.cells cur 130 (0,0)))(hn:n≤cap)(hc:cap≤maxLen)(hs:cur.size=cap * 2)(hl:xs.length=n * 2)(hr:q6n W (some ⟨g,0,none⟩) xs):W.ownsRow base 130 2 (.slice (some ⟨g,0,none⟩) n cap) n xs:=by
 refine⟨hl,.inr ⟨g,cap,cur,rfl,hg,hh,hn,hc,hs,?_⟩⟩;refine List.ext_getElem? fun i=>?_
 rw[List.getElem?_take]
 by_cases hi:i < n * 2
 ·rw[if_pos hi];have hi':i < xs.length:=by omega
  obtain⟨b,off,e,hc'⟩:=hr i xs[i] (gEq hi')
  cases e;rw[Nat.zero_add] at hc';rw[gEq hi',←hc'];simp[World.cell?,hh]
 ·rw[if_neg hi,List.getElem?_eq_none (by omega)]
theorem qml (w:World)(base n:Nat)(v:Value)(ds:List Pr)(hl:ds.length=n)(hn:n≤4398046511000)(h:w.ownsRow base 130 2 v n (rowP ds)) :
  Calls Tryz.prog 300 #[v,.func (.func 289) #[] #[]] w fun e w'=>e=.returned (.tuple #[])∧Below base w w'∧∃ds':List Pr,ds'.Perm ds∧ds'.Pairwise (fun p q=>¬ltP q p)∧w'.ownsRow base 130 2 v n (rowP ds'):=by
 rcases h.2 with ⟨rfl,h0⟩ | ⟨g,cap,cur,rfl,hbg,hh,hnc,hcm,hsz,htk⟩
 ·subst h0;obtain rfl:=List.eq_nil_of_length_eq_zero hl;have hcon:=AnyF.slices_SortFunc_none Tryz.sortB none 0 (.func (.func 289) #[] #[]) w
  change Calls Tryz.prog 300 _ _ _ at hcon
  refine hcon.mono fun e w' ⟨he,hw⟩=>?_
  subst hw;exact⟨he,bRf,[],List.Perm.refl _,List.Pairwise.nil,h⟩
 ·have eg:∀args w,(callFunc 289 args).run Tryz.prog w=.ok (.enter 289 args) w:=enters_of Tryz.func289 (by kernel_rfl) rfl;have hblk:g < w.heap.size:=jy h g rfl;obtain⟨a0,c0,hv0,_,hrow,_⟩:=q80 h;simp only[Value.slice.injEq] at hv0;obtain⟨rfl,_,rfl⟩:=hv0;have hfz:∀j,w.frozen? ⟨g,j,none⟩=false:=fun j=>by simp[World.frozen?,hh]
  have hH:Sort.HoldsK encS 2 w g 0 ds.toArray:=fun j hj=>by
   rw[Sort.size_flatK] at hj;refine⟨?_,by rw[Nat.zero_add];exact hfz j⟩;rw[Sort.get_flatK _ _ _ j hj];obtain⟨b,off,e,hc⟩:=hrow j _ (qdg ds j (by simpa using hj))
   cases e;exact hc
  have hcon:=AnyQ.slices_SortFunc Tryz.sortB 2 Tryz.isAgg130 Tryz.sizeOf130 encS (fun _=>rfl) (fun x v hv=>by simp[encS] at hv;rcases hv with rfl | rfl <;> rfl) cfP swoP 289 #[] g 0 cap ds.toArray w eg (qps g 0 _ w) hH hblk (by simp;omega);rw[show ds.toArray.size=n by simpa using hl] at hcon
  change Calls Tryz.prog 300 _ _ _ at hcon
  refine hcon.mono ?_;rintro e w2 ⟨rfl,d',m,os,hp,hs,rfl⟩;have hsz':d'.size=n:=by have:=hp.1;simpa [hl] using this
  obtain⟨cur',hb',hs'⟩:=qil (m:=m) (d':=d') (os:=os) hh;refine⟨rfl,(Below.refl base w).grown qik (Nat.le_of_lt (Nat.lt_of_le_of_lt hbg hblk)) (fun g' e'=>by cases e';exact hbg),d'.toList,?_,?_,?_⟩
  ·have:=hp.2.2
   rw[show (ds.toArray).extract 0 n=ds.toArray by rw[←hl];simp,show d'.extract 0 n=d' by rw[←hsz'];simp] at this
   simpa using this
  ·rw[List.pairwise_iff_getElem];intro i j hi hj hij;have h1:=hs i j (Nat.zero_le _) hij (by rw[←hsz'];simpa using hj);rw[ltS,getElem!_pos d' j (by simpa using hj),getElem!_pos d' i (by simpa using hi)] at h1
   simpa using h1
  ·refine qim hbg hb' hnc hcm (hs'.trans hsz) (by rw[qft];simp[hsz']) ?_;intro t u ht;have hlt:t < d'.size * 2:=by
    have:=(List.getElem?_eq_some_iff.1 ht).1
    rw[qft] at this
    simpa using this
   have h2:=holdsK_sortWorldK_c encS 2 w g 0 ds.toArray d' m os hH hblk (by simp[hsz',hl]) t (by rw[Sort.size_flatK];exact hlt);rw[Sort.get_flatK _ _ _ t hlt] at h2;rw[qdg d'.toList t (by simpa using hlt)] at ht;simp at ht;refine⟨g,0,rfl,?_⟩;rw[h2.1,←ht];simp
structure Told (S:Pr→Prop)(m:List Pr):Prop where
 up:Up m
 wf:∀p ∈ m,wfP p
 mem:∀p,wfP p→(p ∈ m↔S p)
theorem told_of {S:Pr→Prop}{ss ds:List Pr}(h:Lists S ss)(hp:ds.Perm ss)(hs:ds.Pairwise (fun p q=>¬ltP q p)):Told S ds:=by
 refine⟨?_,fun p hq=>h.wf p (hp.mem_iff.1 hq),fun p hq=>by rw[hp.mem_iff];exact h.mem p hq⟩;have hn:ds.Nodup:=hp.nodup_iff.2 h.nodup;exact (hs.and hn).imp fun {a b} ⟨h1,h2⟩=>(qdc h2).resolve_right h1
theorem qfw (w0:World)(b n:Nat)(S:Pr→Prop)(h:PS w0 b n S)(hn:n≤8388608)(w:World)(hw:w=w0.alloc (.cells #[.map (some b)] 293)) :
  Calls Tryz.prog 287 #[.func (.func 301) #[] #[.pointer (some ⟨w0.heap.size,0,none⟩)],.func (.func 289) #[] #[]] w fun e w'=>∃v m,e=.returned v∧Told S m∧m.length≤n∧w'.ownsRow w.heap.size 130 2 v m.length (rowP m)∧Below w.heap.size w w':=by
 have C:Hid _:=qb6 w0 b n S h hn w hw;have HN:=hid hn;clear h hw hn;go_enter Tryz.func287,Tryz.ntmps287;go_wp2_with fail;refine cMo C.out ?_;rintro e w1 ⟨v,ss,rfl,hL,hlen,hr,hb⟩;have D:Hid _:=qml w1 w.heap.size ss.length v ss rfl (by have:=HN.out;omega) hr;have HL:=hid hL;have HLen:=hid hlen;have HB:=hid hb;clear C hL hlen hr hb;go_wp2_with fail;refine cMo D.out ?_;rintro e w2 ⟨rfl,hb2,ds,hp,hs,hr2⟩;have HE:Hid (∃m,Told S m∧m.length≤n∧w2.ownsRow w.heap.size 130 2 v m.length (rowP m)∧Below w.heap.size w w2) :=
  ⟨ds,told_of HL.out hp hs,by rw[hp.length_eq];exact HLen.out,by rw[hp.length_eq];exact hr2,HB.out.trans hb2⟩
 clear D HL HLen HB hb2 hp hs hr2
 go_wp2
 go_ret
 obtain⟨m,h1,h2,h3,h4⟩:=HE.out;exact⟨v,m,rfl,h1,h2,h3,h4⟩
theorem qfx (w:World)(b n:Nat)(S:Pr→Prop)(h:PS w b n S)(hn:n≤8388608) :
  Calls Tryz.prog 270 #[.map (some b)] w fun e w'=>∃v m,e=.returned v∧Told S m∧m.length≤n∧w'.ownsRow w.heap.size 130 2 v m.length (rowP m)∧Below w.heap.size w w':=by
 have C:Hid _:=qij b w;have D:Hid _:=qfw w b n S h hn _ rfl;have HS:Hid (Below w.heap.size w (w.alloc (.cells #[.map (some b)] 293))):=(Below.refl _ w).alloc (Nat.le_refl _) _;clear h hn;go_enter Tryz.func270,Tryz.ntmps270;go_wp2_with fail;refine cMo C.out ?_;rintro e w1 ⟨rfl,hw1⟩;subst w1;clear C;go_wp2_with fail;refine cMo D.out ?_;rintro e w2 ⟨v,m,rfl,h1,h2,h3,h4⟩;have HE:Hid (∃m,Told S m∧m.length≤n∧w2.ownsRow w.heap.size 130 2 v m.length (rowP m)∧Below w.heap.size w w2) :=
  ⟨m,h1,h2,h3.mono (by simp),HS.out.trans (h4.mono (by simp))⟩
 clear D HS h1 h2 h3 h4
 go_wp2
 go_ret
 obtain⟨m,h1,h2,h3,h4⟩:=HE.out;exact⟨v,m,rfl,h1,h2,h3,h4⟩
theorem qpt {l m:List Pr}(h:q3t l m):m.length≤l.length:=by
 have:=q81 (l:=m) (m:=l.map jo) (qpl h.up) fun p hp=>by
  obtain⟨_,q,hq,e⟩:=(h.mem p).1 hp;exact List.mem_map.2 ⟨q,hq,e⟩
 simpa using this
theorem qin {l l':List Pr}{p:Pr}:inN (l++l') p↔inN l p∨inN l' p:=by
 unfold inN;constructor
 ·rintro⟨h,q,hq,e⟩;rcases mAp.1 hq with hq | hq
  ·exact .inl ⟨h,q,hq,e⟩
  ·exact .inr ⟨h,q,hq,e⟩
 ·rintro (⟨h,q,hq,e⟩ | ⟨h,q,hq,e⟩)
  ·exact⟨h,q,by simp[hq],e⟩
  ·exact⟨h,q,by simp[hq],e⟩
theorem qpu {l:List Pr}(hw:∀p ∈ l,wfP p){p:Pr}(h:inN l p):wfP p:=by
 obtain⟨_,q,hq,e⟩:=h;rw[←e];exact qkp (hw q hq)
theorem qmm {l m:List Pr}{S:Pr→Prop}(h:Told S m)(hw:∀p ∈ l,wfP p)(hS:∀p,wfP p→(S p↔inN l p)):q3t l m :=
 ⟨h.up,fun p=>⟨fun hp=>(hS p (h.wf p hp)).1 ((h.mem p (h.wf p hp)).1 hp),fun hp=>(h.mem p (qpu hw hp)).2 ((hS p (qpu hw hp)).2 hp)⟩⟩
def q7o (w w':World)(e:Ending)(l:List Pr):Prop:=∃v m,e=.returned v∧q3t l m∧w'.ownsRow w.heap.size 130 2 v m.length (rowP m)∧Below w.heap.size w w'
theorem qmn (w:World)(a a':Option Addr)(c c':Nat)(l l':List Pr)(n n':Nat)(hl:l.length=n)(hl':l'.length=n')(hn:n≤1048576)(hn':n'≤1048576)(hw:∀p ∈ l,wfP p)(hw':∀p ∈ l',wfP p)(hA:yw w a l)(hA':yw w a' l') :
  Calls Tryz.prog 249 #[.slice a n c,.slice a' n' c'] w fun e w'=>q7o w w' e (l++l'):=by
 have HW:Hid (∀p ∈ l++l',wfP p):=fun p hp=>by
  rcases mAp.1 hp with hp | hp
  ·exact hw p hp
  ·exact hw' p hp
 obtain⟨w1,hw1⟩:=eXa (w.alloc (.map #[] 0));have hb1:Below w.heap.size w w1:=by rw[hw1];exact bRf.alloc (Nat.le_refl _) _
 have hP1:PS w1 w.heap.size 0 (fun _=>False):=by rw[hw1];exact⟨_,qcr.made w,fun p _=>by simp⟩
 have C1:Hid _:=add_any w1 w.heap.size 0 _ a c l n hl hn (by omega) hw (hA.under hb1) hP1;have C2:Hid (∀w2,PS w2 w.heap.size (0 + n) (fun q=>inN l q∨False)→Turn w.heap.size w1 w2→Calls Tryz.prog 269 #[.map (some w.heap.size),.slice a' n' c'] w2 fun e w'=>e=.returned (.tuple #[])∧PS w' w.heap.size (0 + n + n') (fun q=>inN l' q∨(inN l q∨False))∧Turn w.heap.size w2 w'):=fun w2 h1 h2 =>
  add_any w2 w.heap.size (0 + n) _ a' c' l' n' hl' hn' (by omega) hw' (hA'.under (hb1.trans (h2.below hb1.size (Nat.le_refl _)))) h1
 have C3:Hid (∀w3,PS w3 w.heap.size (0 + n + n') (fun q=>inN l' q∨(inN l q∨False))→Below w.heap.size w w3→Calls Tryz.prog 270 #[.map (some w.heap.size)] w3 fun e w'=>q7o w w' e (l++l')):=fun w3 h1 h2=>by
  refine (qfx w3 w.heap.size _ _ h1 (by omega)).mono ?_;rintro e w' ⟨v,m,he,ht,_,hr,hb⟩;exact⟨v,m,he,qmm ht HW.out fun p _=>by rw[qin];constructor <;> (rintro (h | h) <;> simp_all),hr.mono h2.size,h2.trans (hb.mono h2.size)⟩
 have HB1:=hid hb1;have HB2:Hid (∀w2,Turn w.heap.size w1 w2→Below w.heap.size w w2∧w.heap.size≤w2.heap.size):=fun w2 h=>⟨HB1.out.trans (h.below HB1.out.size (Nat.le_refl _)),nLt HB1.out.size h.size⟩
 clear hw hw' hA hA' hP1 hb1 hl hl' hn hn' HW HB1;have hmm:=@run_makeMap Tryz.prog;go_enter Tryz.func249,Tryz.ntmps249;go_wp2_with fail;rw[←hw1];clear hw1 hmm;refine cMo C1.out ?_;rintro e w2 ⟨rfl,hP2,hT2⟩;have D:Hid _:=C2.out w2 hP2 hT2;have HB:Hid _:=HB2.out w2 hT2;clear C1 C2 hP2 hT2;go_wp2_with fail;refine cMo D.out ?_;rintro e w3 ⟨rfl,hP3,hT3⟩;have E:Hid _:=C3.out w3 hP3 (HB.out.1.trans (hT3.below HB.out.2 (Nat.le_refl _)));clear D C3 hP3 hT3 HB;go_wp2_with fail;refine cMo E.out ?_;rintro e w4 ⟨v,m,rfl,h1,h2,h3⟩;have HE:Hid (∃m,q3t (l++l') m∧w4.ownsRow w.heap.size 130 2 v m.length (rowP m)∧Below w.heap.size w w4):=⟨m,h1,h2,h3⟩;clear E h1 h2 h3
 go_wp2
 go_ret
 obtain⟨m,h1,h2,h3⟩:=HE.out;exact⟨v,m,rfl,h1,h2,h3⟩
theorem qfy (w:World)(a:Option Addr)(c:Nat)(l:List Pr)(n:Nat)(hl:l.length=n)(hn:n≤1048576)(hw:∀p ∈ l,wfP p)(hA:yw w a l) :
  Calls Tryz.prog 216 #[.slice a n c] w fun e w'=>q7o w w' e l:=by
 have C:Hid _:=qmn w a none c 0 l [] n 0 hl rfl hn (by omega) hw (by simp) hA (fun i p hi=>by simp at hi);rw[List.append_nil] at C;clear hl hn hw hA;go_enter Tryz.func216,Tryz.ntmps216;go_wp2_with fail;refine cMo C.out ?_;rintro e w4 ⟨v,m,rfl,h1,h2,h3⟩;have HE:Hid (∃m,q3t l m∧w4.ownsRow w.heap.size 130 2 v m.length (rowP m)∧Below w.heap.size w w4):=⟨m,h1,h2,h3⟩;clear C h1 h2 h3
 go_wp2
 go_ret
 obtain⟨m,h1,h2,h3⟩:=HE.out;exact⟨v,m,rfl,h1,h2,h3⟩
open S (jk)
theorem q9t (w:World)(a:Option Addr)(n c:Nat)(l:List Int)(x:Int)(hl:l.length=n)(hn:n≤17592186043904)(hs:l.Pairwise (·≤·))(h:q2b w a l) :
  Calls Tryz.prog 127 #[.slice a n c,.int .i64 x] w fun e w'=>(∃i:Int,e=.returned (.tuple #[.int .i64 i,.bool (l.contains x)]))∧∃q,w'=w.drewN q:=by
 rcases Nat.eq_zero_or_pos n with h0 | h0
 ·subst h0;obtain rfl:=List.eq_nil_of_length_eq_zero hl;refine (Tryz.slices_BinarySearch_int_empty a c x w).mono fun e w' ⟨he,hw⟩=>⟨⟨0,he⟩,0,?_⟩
  rw[hw];rfl
 ·obtain⟨b,off,rfl,_⟩:=h 0 l[0] (gEq (by omega));have hc:∀j,j < l.length→w.cell? ⟨b,off + j,none⟩=some (.int .i64 (l.getD j 0)):=fun j hj=>by
   obtain⟨b',off',e,hc⟩:=h j l[j] (gEq hj)
   cases e;rw[hc,List.getD,gEq hj];rfl
  have htk:l.take n=l:=List.take_of_length_le (by omega);have:=Tryz.slices_BinarySearch_int b off n c l x w (by omega) (by omega) hc (by rw[htk];exact hs)
  rw[htk] at this;exact this.mono fun e w' ⟨he,hw⟩=>⟨⟨_,he⟩,hw⟩
theorem q5l (w:World)(a:Option Addr)(n c:Nat)(l:List Int)(x:Int)(r:Bool)(hr:l.contains x=r)(hl:l.length=n)(hn:n≤17592186043904)(hs:l.Pairwise (·≤·))(h:q2b w a l) :
  Calls Tryz.prog 261 #[.slice a n c,.int .i64 x] w fun e w'=>e=.returned (.bool r)∧∃q,w'=w.drewN q:=by
 have C:Hid _:=q9t w a n c l x hl hn hs h;rw[hr] at C;clear hr hl hn hs h;go_enter Tryz.func261,Tryz.ntmps261;go_wp2_with fail;refine cMo C.out ?_;rintro e w1 ⟨⟨i,rfl⟩,q,hq⟩;have HQ:Hid (∃q,w1=w.drewN q):=⟨q,hq⟩;clear C hq
 go_wp2
 go_ret
 exact⟨rfl,HQ.out⟩
def q1u (l:List Pr)(vl:List Int):List Pr:=l.filter fun p=>vl.contains p.1 && vl.contains p.2
theorem qio {l:List Pr}{vl:List Int}{j:Nat}{p:Pr}(hp:l[j]?=some p):q1u (l.take (j + 1)) vl=q1u (l.take j) vl++(if vl.contains p.1 && vl.contains p.2 then [p] else []):=by
 unfold q1u;rw[List.take_add_one,hp,Option.toList_some,List.filter_append]
 cases h:(vl.contains p.1 && vl.contains p.2) with
 | true=>simp only[List.filter_cons,List.filter_nil,h,if_true]
 | false=>simp only[List.filter_cons,List.filter_nil,h,Bool.false_eq_true,if_false]
theorem qg (w:World)(o:Obj):Below w.heap.size w (w.alloc o):=(Below.refl _ w).alloc (Nat.le_refl _) _
theorem below_drewN (w:World)(q:Nat):Below w.heap.size w (w.drewN q):=⟨rfl,rfl,rfl,Nat.le_refl _,fun _ _=>rfl⟩
theorem q3u {W W':World}{base:Nat}{e:TypeId}{size:Nat}{v:Value}{n:Nat}{xs:List Value}(h:W.ownsRow base e size v n xs)(hb:Below W.heap.size W W'):W'.ownsRow base e size v n xs:=by
 refine⟨h.1,?_⟩;rcases h.2 with h0 | ⟨g,cap,cur,h1,h2,h3,h4⟩
 ·exact .inl h0
 ·exact .inr ⟨g,cap,cur,h1,h2,(hb.block g (aIx h3)).trans h3,h4⟩
theorem q7o.back {w w1 w':World}{e:Ending}{l:List Pr}(h:q7o w1 w' e l)(hb:Below w.heap.size w w1):q7o w w' e l:=by
 obtain⟨v,m,h1,h2,h3,h4⟩:=h;exact⟨v,m,h1,h2,h3.mono hb.size,hb.trans (h4.mono hb.size)⟩
theorem q3v {W:World}{base n c:Nat}{a:Option Addr}{l:List Pr}(h:W.ownsRow base 130 2 (.slice a n c) n (rowP l)):yw W a l:=by
 obtain⟨a',c',e,_,hr,_⟩:=q80 h
 cases e;exact qmj hr
theorem qpv (w:World)(a a2:Option Addr)(c c2:Nat)(l:List Pr)(vl:List Int)(n n2:Nat)(hl:l.length=n)(hl2:vl.length=n2)(hn:n≤1048576)(hn2:n2≤17592186043904)(hw:∀p ∈ l,wfP p)(hA:yw w a l)(hA2:q2b w a2 vl) :
  Calls Tryz.prog 235 #[.slice a n c,.slice a2 n2 c2] w fun e w'=>q7o w w' e (q1u l vl):=by
 have HA:=hid hA;have HL:=hid hl;have HW:Hid (∀p ∈ q1u l vl,wfP p):=fun p hp=>hw p (List.mem_filter.1 hp).1
 have HL2:=hid hl2;have C0:Hid _:=qfp w a2 c2 vl n2 hl2 hn2 hA2;obtain⟨i0,hi0,hz0,hz1,hz3⟩:=info_parts info24;clear hw hA hA2 hl hl2;go_enter Tryz.func235,Tryz.ntmps235;go_wp2_with fail;refine cMo C0.out ?_;rintro e w1 ⟨hb1,a3,c3,m,rfl,hI,hmc,hO⟩;have HB1:=hid hb1;have HI:=hid hI;have HS:Hid (m.Pairwise (·≤·)):=hO.up.imp fun {x y} h=>by omega
 have HC:Hid (∀x,m.contains x=vl.contains x):=fun x=>by rw[Bool.eq_iff_iff,List.contains_iff_mem,List.contains_iff_mem];exact hO.mem x
 obtain⟨nm,hnm⟩:=eXb m.length;have HNM:=hid hnm;have hnl:nm≤17592186043904:=by rw[←hnm];have:=hO.len;rw[HL2.out] at this;omega
 rw[hnm];clear C0 hb1 hI hmc hO hnm HL2;go_wp2_with fail
 go_loopw [6,13] (fun v i wx=>∃(j q:Nat) (av:Option Addr) (cap:Nat),j≤n∧q≤j∧i=.int .i64 j∧v=.slice av q cap∧Hid ((q1u (l.take j) vl).length=q)∧Hid (wx.ownsRow w1.heap.size 130 2 (.slice av q cap) q (rowP (q1u (l.take j) vl)))∧Hid (Below w1.heap.size w1 wx)) (fun _ i _=>n - (intOf i).toNat)
 case atStart=>exact⟨0,0,none,0,Nat.zero_le _,Nat.le_refl _,rfl,rfl,rfl,World.ownsRow_nil _ _ _ _,bRf⟩
 case round =>
  obtain⟨j,q,av,cap,hj,hqj,rfl,rfl,hml,HO,hb⟩:=hrel;have HbA:Hid (Below w.heap.size w wr):=HB1.out.trans (hb.out.mono HB1.out.size)
  by_cases hlt:j < n
  ·have n1:(j:Int) < (n:Int):=by omega
   obtain⟨⟨x,y⟩,hp⟩:∃p,l[j]?=some p:=⟨l[j]'(by rw[HL.out];exact hlt),gEq _⟩;obtain⟨b2,o2,rfl,r1,r2⟩:=HA.out j _ hp;have HTk:Hid _:=qio (vl:=vl) hp;have hbw:b2 < w.heap.size:=bLt r1;have d1:wr.cell? ⟨b2,o2 + j * 2,none⟩=some (.int .i64 x):=(HbA.out.cell (p:=⟨b2,o2 + j * 2,none⟩) hbw).trans r1;have d2:wr.cell? ⟨b2,o2 + j * 2 + 1,none⟩=some (.int .i64 y):=(HbA.out.cell (p:=⟨b2,o2 + j * 2 + 1,none⟩) hbw).trans r2;clear r1 r2 hp hbw;obtain⟨wx,hwx⟩:=eXa (wr.alloc (.cells #[.int .i64 x,.int .i64 y] 130));have hbx:Below wr.heap.size wr wx:=by rw[hwx];exact qg _ _
   have Hb1x:=bTr hb hbx;have ky:wx.cell? ⟨wr.heap.size,0,none⟩=some (.int .i64 x):=by rw[hwx];exact World.cell?_alloc_new wr _ _ 0
   have ky1:wx.cell? ⟨wr.heap.size,1,none⟩=some (.int .i64 y):=by rw[hwx];exact World.cell?_alloc_new wr _ _ 1
   have HOx:Hid (wx.ownsRow w1.heap.size 130 2 (.slice av q cap) q (rowP (q1u (l.take j) vl))):=q3u HO.out hbx;rcases hr1:vl.contains x
   ·have SE:Hid _:=q5l wx a3 nm c3 m x false ((HC.out x).trans hr1) HNM.out hnl HS.out (HI.out.under Hb1x.out);have HTk2:Hid (q1u (l.take (j + 1)) vl=q1u (l.take j) vl):=by show _=_;rw[HTk.out,hr1,Bool.false_and,if_neg (by simp),List.append_nil]
    clear HTk hr1 hbx HO hb;go_wp2_with fail;rw[←hwx];clear hwx;generalize wr.heap.size=By at *;refine cMo SE.out ?_;rintro e wz ⟨rfl,dq,hwz⟩;subst wz;have HOz:Hid ((wx.drewN dq).ownsRow w1.heap.size 130 2 (.slice av q cap) q (rowP (q1u (l.take j) vl))):=q3u HOx.out (below_drewN _ _);have HBz:Hid (Below w1.heap.size w1 (wx.drewN dq)):=Hb1x.out.trans ((below_drewN _ _).mono Hb1x.out.size);clear SE ky ky1 HOx Hb1x;generalize wx.drewN dq=wy at *
    go_wp2
    exact⟨⟨j + 1,q,av,cap,by omega,by omega,by go_num,rfl,by show _=_;rw[HTk2.out];exact hml.out,by rw[HTk2.out];exact HOz.out,HBz.out⟩,by simp[intOf];omega⟩
   ·rcases hr2:vl.contains y
    ·have SE:Hid _:=q5l wx a3 nm c3 m x true ((HC.out x).trans hr1) HNM.out hnl HS.out (HI.out.under Hb1x.out);have SE2:Hid (∀dq,Calls Tryz.prog 261 #[.slice a3 nm c3,.int .i64 y] (wx.drewN dq) fun e w'=>e=.returned (.bool false)∧∃q,w'=(wx.drewN dq).drewN q):=fun dq=>q5l (wx.drewN dq) a3 nm c3 m y false ((HC.out y).trans hr2) HNM.out hnl HS.out (HI.out.under (Hb1x.out.trans ((below_drewN _ _).mono Hb1x.out.size)))
     have HTk2:Hid (q1u (l.take (j + 1)) vl=q1u (l.take j) vl):=by show _=_;rw[HTk.out,hr2,Bool.and_false,if_neg (by simp),List.append_nil]
     clear HTk hr1 hr2 hbx HO hb;go_wp2_with fail;rw[←hwx];clear hwx;generalize wr.heap.size=By at *;refine cMo SE.out ?_;rintro e wz ⟨rfl,dq,hwz⟩;subst wz;have kz1:(wx.drewN dq).cell? ⟨By,1,none⟩=some (.int .i64 y):=ky1;have SE3:Hid _:=SE2.out dq;have HOz:Hid (∀dr,((wx.drewN dq).drewN dr).ownsRow w1.heap.size 130 2 (.slice av q cap) q (rowP (q1u (l.take j) vl))):=fun dr=>q3u (q3u HOx.out (below_drewN _ _)) (below_drewN _ _)
     have HBz:Hid (∀dr,Below w1.heap.size w1 ((wx.drewN dq).drewN dr)):=fun dr=>Hb1x.out.trans (((below_drewN wx dq).trans (below_drewN (wx.drewN dq) dr)).mono Hb1x.out.size)
     clear SE SE2 ky ky1 HOx Hb1x;go_wp2_with fail;refine cMo SE3.out ?_;rintro e wz ⟨rfl,dr,hwz⟩;subst wz;have HOy:Hid (((wx.drewN dq).drewN dr).ownsRow w1.heap.size 130 2 (.slice av q cap) q (rowP (q1u (l.take j) vl))):=HOz.out dr;have HBy:Hid (Below w1.heap.size w1 ((wx.drewN dq).drewN dr)):=HBz.out dr;clear SE3 HOz HBz kz1;generalize (wx.drewN dq).drewN dr=wy at *
     go_wp2
     exact⟨⟨j + 1,q,av,cap,by omega,by omega,by go_num,rfl,by show _=_;rw[HTk2.out];exact hml.out,by rw[HTk2.out];exact HOy.out,HBy.out⟩,by simp[intOf];omega⟩
    ·have SE:Hid _:=q5l wx a3 nm c3 m x true ((HC.out x).trans hr1) HNM.out hnl HS.out (HI.out.under Hb1x.out);have SE2:Hid (∀dq,Calls Tryz.prog 261 #[.slice a3 nm c3,.int .i64 y] (wx.drewN dq) fun e w'=>e=.returned (.bool true)∧∃q,w'=(wx.drewN dq).drewN q):=fun dq=>q5l (wx.drewN dq) a3 nm c3 m y true ((HC.out y).trans hr2) HNM.out hnl HS.out (HI.out.under (Hb1x.out.trans ((below_drewN _ _).mono Hb1x.out.size)))
     have HTk2:Hid (q1u (l.take (j + 1)) vl=q1u (l.take j) vl++[(x,y)]):=by show _=_;rw[HTk.out,hr1,hr2,Bool.and_true,if_pos rfl]
     clear HTk hr1 hr2 hbx HO hb;go_wp2_with fail;rw[←hwx];clear hwx;generalize wr.heap.size=By at *;refine cMo SE.out ?_;rintro e wz ⟨rfl,dq,hwz⟩;subst wz;have kz1:(wx.drewN dq).cell? ⟨By,1,none⟩=some (.int .i64 y):=ky1;have SE3:Hid _:=SE2.out dq;have HOz:Hid (∀dr,((wx.drewN dq).drewN dr).ownsRow w1.heap.size 130 2 (.slice av q cap) q (rowP (q1u (l.take j) vl))):=fun dr=>q3u (q3u HOx.out (below_drewN _ _)) (below_drewN _ _)
     have HBz:Hid (∀dr,Below w1.heap.size w1 ((wx.drewN dq).drewN dr)):=fun dr=>Hb1x.out.trans (((below_drewN wx dq).trans (below_drewN (wx.drewN dq) dr)).mono Hb1x.out.size)
     clear SE SE2 HOx Hb1x;go_wp2_with fail;refine cMo SE3.out ?_;rintro e wz ⟨rfl,dr,hwz⟩;subst wz;have HOy:Hid (((wx.drewN dq).drewN dr).ownsRow w1.heap.size 130 2 (.slice av q cap) q (rowP (q1u (l.take j) vl))):=HOz.out dr;have HBy:Hid (Below w1.heap.size w1 ((wx.drewN dq).drewN dr)):=HBz.out dr;have kx0:((wx.drewN dq).drewN dr).cell? ⟨By,0,none⟩=some (.int .i64 x):=ky;have kx1:((wx.drewN dq).drewN dr).cell? ⟨By,1,none⟩=some (.int .i64 y):=ky1;clear SE3 HOz HBz kz1 ky ky1;generalize (wx.drewN dq).drewN dr=wy at *
     go_wp2_with (at_builtin;refine jk (w:=wy.alloc (.cells #[.int .i64 x,.int .i64 y] 130)) rfl _ _ _ rfl w1.heap.size 130 i0 _ 2 16 Tryz.underlying45 hi0 hz0 hz1 hz3 rfl (by omega) _ q (rowP (q1u (l.take j) vl)) (by rfl) (by exact HOy.out.alloc _) (some ⟨wy.heap.size,0,none⟩) 1 1 [.int .i64 x,.int .i64 y] (by rfl) (by rfl) (fun j' u hu=>⟨_,rfl,World.news_of_block (cs:=#[.int .i64 x,.int .i64 y]) (t:=130) (fr:=(0,0)) (World.alloc_heap_new wy _) j' u hu⟩) (by simp[Value.oneCell']) (by unfold maxLen;omega) (by omega) (by exact nLt HBy.out.size (qg _ _).size) ?_;intro a4 c4 w4 ho4 hb4;have HO4:Hid (w4.ownsRow w1.heap.size 130 2 (.slice a4 (q + 1) c4) (q + 1) (rowP (q1u (l.take j) vl++[(x,y)]))):=(by rw[q75];exact ho4);have HB4:Hid (Below w1.heap.size w1 w4):=(HBy.out.alloc HBy.out.size _).trans hb4;clear ho4 hb4)
     go_wp2
     exact⟨⟨j + 1,q + 1,_,_,by omega,by omega,by go_num,rfl,by show _=_;rw[HTk2.out,lAp,hml.out];rfl,by rw[HTk2.out];exact HO4.out,HB4.out⟩,by simp[intOf];omega⟩
  ·have n1:¬(j:Int) < (n:Int):=by omega
   have htk:l.take j=l:=List.take_of_length_le (by rw[HL.out];omega);rw[htk] at hml HO;have CO:Hid _:=qfy wr av cap (q1u l vl) q hml.out (by omega) HW.out (q3v HO.out);clear htk HO hb;go_wp2_with fail;refine cMo CO.out ?_;intro e w5 h5;obtain⟨v5,m5,rfl,h5b,h5c,h5d⟩:=h5.back HbA.out;have HE:Hid (∃m,q3t (q1u l vl) m∧w5.ownsRow w.heap.size 130 2 v5 m.length (rowP m)∧Below w.heap.size w w5):=⟨m5,h5b,h5c,h5d⟩;clear CO h5 h5b h5c h5d
   go_wp2
   go_ret
   obtain⟨m,h1,h2,h3⟩:=HE.out;exact⟨v5,m,rfl,h1,h2,h3⟩
def q3w (l:List Pr)(p:Pr):Bool:=l.any fun q=>(jo q).1 == (jo p).1 && (jo q).2 == (jo p).2
theorem qmo {l:List Pr}{j:Nat}{q p:Pr}(h:l[j]?=some q):q3w (l.take (j + 1)) p=(q3w (l.take j) p || ((jo q).1 == (jo p).1 && (jo q).2 == (jo p).2)):=by
 unfold q3w;rw[List.take_add_one,h,Option.toList_some,List.any_append];simp
theorem hasP_at {l:List Pr}{j:Nat}{q p:Pr}(h:l[j]?=some q)(hf:((jo q).1 == (jo p).1 && (jo q).2 == (jo p).2)=true):q3w l p=true:=List.any_eq_true.2 ⟨q,mGe h,hf⟩
theorem qkr (w:World)(a:Option Addr)(c n:Nat)(l:List Pr)(p:Pr)(hl:l.length=n)(_hn:n≤4611686018427387904)(hA:yw w a l) :
  Calls Tryz.prog 220 #[.slice a n c,q2n p] w fun e w'=>e=.returned (.bool (q3w l p))∧Below w.heap.size w w':=by
 have HA:=hid hA;have HL:=hid hl;obtain⟨w1,hw1⟩:=eXa (w.alloc (.cells #[.int .i64 p.1,.int .i64 p.2] 130));have HB1:Hid (Below w.heap.size w w1):=by rw[hw1];exact bRf.alloc (Nat.le_refl _) _
 have C0:Hid _:=q7n p w1;have HTK:Hid (∀(j:Nat) (x y:Int),l[j]?=some (x,y)→q3w (l.take (j + 1)) p=(q3w (l.take j) p || ((jo (x,y)).1 == (jo p).1 && (jo (x,y)).2 == (jo p).2))):=fun j x y h=>qmo h
 have HAT:Hid (∀(j:Nat) (x y:Int),l[j]?=some (x,y)→((jo (x,y)).1 == (jo p).1 && (jo (x,y)).2 == (jo p).2)=true→q3w l p=true):=fun j x y h=>hasP_at h
 have HEN:Hid (∀j,n≤j→q3w (l.take j) p=q3w l p):=fun j h=>by rw[List.take_of_length_le (by rw[HL.out];exact h)]
 have HZ:Hid (q3w (l.take 0) p=false):=rfl;generalize q3w l p=r at *;generalize hf:(fun j=>q3w (l.take j) p)=f;have HTK2:Hid (∀(j:Nat) (x y:Int),l[j]?=some (x,y)→f (j + 1)=(f j || ((jo (x,y)).1 == (jo p).1 && (jo (x,y)).2 == (jo p).2))):=by subst hf;exact HTK
 have HEN2:Hid (∀j,n≤j→f j=r):=by subst hf;exact HEN
 have HZ2:Hid (f 0=false):=by subst hf;exact HZ
 clear hA hl HTK HEN HZ hf;generalize jo p=tp at *;obtain⟨p0,p1⟩:=p;obtain⟨t0,t1⟩:=tp;unfold q2n at *;dsimp only at *;go_enter Tryz.func220,Tryz.ntmps220;go_wp2_with fail;rw[←hw1];clear hw1;refine cMo C0.out ?_;rintro e w2 ⟨rfl,hb2⟩;obtain⟨w3,hw3⟩:=eXa (w2.alloc (.cells #[.int .i64 t0,.int .i64 t1] 130));have HB3:Hid (Below w.heap.size w w3):=by rw[hw3];exact (HB1.out.trans (hb2.mono HB1.out.size)).alloc (nLt HB1.out.size hb2.size) _
 have K0:Hid (w3.cell? ⟨w2.heap.size,0,none⟩=some (.int .i64 t0)):=by rw[hw3];exact World.cell?_alloc_new w2 _ _ 0
 have K1:Hid (w3.cell? ⟨w2.heap.size,1,none⟩=some (.int .i64 t1)):=by rw[hw3];exact World.cell?_alloc_new w2 _ _ 1
 have HS3:Hid (w2.heap.size < w3.heap.size):=by rw[hw3];show _ < _;simp
 clear C0 hb2 HB1;go_wp2_with fail;rw[←hw3];clear hw3;generalize w2.heap.size=B5 at *
 go_loopw [12] (fun i wx=>∃j:Nat,j≤n∧i=.int .i64 j∧Hid (Below w3.heap.size w3 wx)∧Hid (f j=false)) (fun i _=>n - (intOf i).toNat)
 case atStart=>exact⟨0,Nat.zero_le _,rfl,bRf,HZ2.out⟩
 case round =>
  obtain⟨j,hj,rfl,HB,HN⟩:=hrel;have HBw:Hid (Below w.heap.size w wr):=HB3.out.trans (HB.out.mono HB3.out.size)
  by_cases hlt:j < n
  ·have n1:(j:Int) < (n:Int):=by omega
   obtain⟨⟨x,y⟩,hx⟩:∃x,l[j]?=some x:=⟨l[j]'(by rw[HL.out];exact hlt),gEq _⟩;obtain⟨b1,o1,rfl,c1,d1⟩:=HA.out j _ hx;have hlt1:=bLt c1;have c2:wr.cell? ⟨b1,o1 + j * 2,none⟩=some (.int .i64 x):=(HBw.out.cell (p:=⟨b1,o1 + j * 2,none⟩) hlt1).trans c1;have d2:wr.cell? ⟨b1,o1 + j * 2 + 1,none⟩=some (.int .i64 y):=(HBw.out.cell (p:=⟨b1,o1 + j * 2 + 1,none⟩) hlt1).trans d1;obtain⟨wA,hwA⟩:=eXa (wr.alloc (.cells #[.int .i64 x,.int .i64 y] 130));have hbA:Below wr.heap.size wr wA:=by rw[hwA];exact bRf.alloc (Nat.le_refl _) _
   have hsA:wr.heap.size < wA.heap.size:=by rw[hwA];simp
   have S2:Hid (wA.drew.cell? ⟨wr.heap.size,0,none⟩=some (.int .i64 x)∧wA.drew.cell? ⟨wr.heap.size,1,none⟩=some (.int .i64 y)∧wA.drew.cell? ⟨B5,0,none⟩=some (.int .i64 t0)∧wA.drew.cell? ⟨B5,1,none⟩=some (.int .i64 t1)):=by
    have hb:Below w3.heap.size w3 wA:=HB.out.trans (hbA.mono HB.out.size);refine⟨?_,?_,(hb.cell (p:=⟨B5,0,none⟩) HS3.out).trans K0.out,(hb.cell (p:=⟨B5,1,none⟩) HS3.out).trans K1.out⟩
    ·rw[hwA];exact World.cell?_alloc_new wr _ _ 0
    ·rw[hwA];exact World.cell?_alloc_new wr _ _ 1
   have hBB:B5 < wA.drew.heap.size:=Nat.lt_of_lt_of_le HS3.out (nLt HB.out.size hbA.size);have hsD:wr.heap.size < wA.drew.heap.size:=hsA;have SH:Hid (∀w4,Below wA.drew.heap.size wA.drew w4→w4.cell? ⟨wr.heap.size,0,none⟩=some (.int .i64 x)∧w4.cell? ⟨wr.heap.size,1,none⟩=some (.int .i64 y)∧w4.cell? ⟨B5,0,none⟩=some (.int .i64 t0)∧w4.cell? ⟨B5,1,none⟩=some (.int .i64 t1)):=fun w4 h4 =>
    ⟨(h4.cell (p:=⟨wr.heap.size,0,none⟩) hsD).trans S2.out.1,(h4.cell (p:=⟨wr.heap.size,1,none⟩) hsD).trans S2.out.2.1,(h4.cell (p:=⟨B5,0,none⟩) hBB).trans S2.out.2.2.1,(h4.cell (p:=⟨B5,1,none⟩) hBB).trans S2.out.2.2.2⟩
   have hbD:Below w3.heap.size w3 wA.drew:=by
    have h:=HB.out.trans (hbA.mono HB.out.size);exact⟨h.os,h.tape,h.output,h.size,h.block⟩
   have HBX:Hid (∀w4,Below wA.drew.heap.size wA.drew w4→Below w3.heap.size w3 w4∧Below w.heap.size w w4):=fun w4 h4=>by
    have h5:Below w3.heap.size w3 w4:=hbD.trans (h4.mono hbD.size);exact⟨h5,HB3.out.trans (h5.mono HB3.out.size)⟩
   have C1:Hid _:=q7n (x,y) wA.drew;have HT:Hid _:=HTK2.out j x y hx;have HF:Hid _:=HAT.out j x y hx;rw[HN.out,Bool.false_or] at HT;clear hx c1 d1 hlt1 HN hbA hsA hsD hbD hBB;generalize jo (x,y)=tq at *;obtain⟨u0,u1⟩:=tq;unfold q2n at C1;dsimp only at *;rcases h1:(u0 == t0) <;> rcases h2:(u1 == t1) <;> rw[h1,h2] at HT HF
   all_goals (
    go_wp2_with fail
    rw[←hwA]
    clear hwA
    refine wp_region_held_drew (S:=fun w'=>w'.cell? ⟨wr.heap.size,0,none⟩=some (.int .i64 x)∧w'.cell? ⟨wr.heap.size,1,none⟩=some (.int .i64 y)∧w'.cell? ⟨B5,0,none⟩=some (.int .i64 t0)∧w'.cell? ⟨B5,1,none⟩=some (.int .i64 t1)) (by kernel_rfl) ?_ (fun hZ=>?_)
    ·exact S2.out
    refine tkq 0 hZ ?_
    refine tkq 2 hZ ?_
    refine rkq 1 fun K hK=>?_
    go_simp
    go_at_call 251
    refine cMo C1.out ?_
    rintro e w3 ⟨rfl,hb3⟩
    have S3:Hid _:=SH.out w3 hb3
    have HB3:Hid _:=HBX.out w3 hb3
    clear C1 hb3 SH HBX
    try go_wp2_with fail
    refine aQq hK ?_ fun hZ_1=>?_
    ·exact S3.out
    clear hK K
    refine tkq 3 hZ_1 ?_
    refine wpAnyH_done (by kernel_rfl) ?_ _
    go_wp2
    first
     | (go_ret;exact⟨by rw[HF.out rfl];rfl,HB3.out.2⟩)
     | (go_roundw
        case rel=>exact⟨j + 1,by omega,by go_num,HB3.out.1,HT.out⟩
        case measure=>simp[intOf];omega))
  ·have n1:¬(j:Int) < (n:Int):=by omega
   have HE:Hid (r=false):=by show _=_;rw[←HEN2.out j (by omega)];exact HN.out
   go_wp2
   go_ret
   exact⟨by rw[HE.out];rfl,HBw.out⟩
def q0k (m:List Int)(i:Nat):List Pr:=(List.range i).flatMap fun k=>(m.drop (k + 1)).map fun b=>(m.getD k 0,b)
theorem q6q (m:List Int)(i:Nat):q0k m (i + 1)=q0k m i++(m.drop (i + 1)).map fun b=>(m.getD i 0,b):=by
 unfold q0k;rw[List.range_succ,List.flatMap_append];simp
def q6r (m:List Int):List Pr:=q0k m m.length
theorem qpw:∀{l:List Int},¬l.Nodup→∃x,x ∈ l∧x ∈ l.erase x
 | [],h=>absurd List.nodup_nil h
 | a :: t,h=>by
  by_cases ha:a ∈ t
  ·exact⟨a,by simp,by simpa using ha⟩
  ·have ht:¬t.Nodup:=fun h'=>h (List.nodup_cons.2 ⟨ha,h'⟩)
   obtain⟨x,hx,he⟩:=qpw ht;have hne:¬(a == x)=true:=by rw[beq_iff_eq];rintro rfl;exact ha hx
   exact⟨x,by simp[hx],by rw[List.erase_cons,if_neg hne];simp[he]⟩
theorem qb7 {l m:List Int}(h:q92 l m):m.length < l.length↔¬l.Nodup:=by
 have hm:m.Nodup:=h.up.imp fun {a b} hab e=>by omega
 constructor
 ·intro hlt hn;have:=q81 (l:=l) (m:=m) hn fun x hx=>(h.mem x).2 hx
  omega
 ·intro hn;obtain⟨x,hx,he⟩:=qpw hn;have:=q81 (l:=m) (m:=l.erase x) hm fun y hy=>by
   by_cases e:y=x
   ·rw[e];exact he
   ·exact (List.mem_erase_of_ne e).2 ((h.mem y).1 hy)
  rw[List.length_erase_of_mem hx] at this;have hpos:=List.length_pos_of_mem hx;omega
def qks (w w':World)(e:Ending)(vl:List Int):Prop:=Below w.heap.size w w' ∧
 ((512 < vl.length∧e=.returned (.tuple #[.slice none 0 0,.int .i64 22])) ∨
  (vl.length≤512∧¬vl.Nodup∧e=.returned (.tuple #[.slice none 0 0,.int .i64 50])) ∨
  (vl.length≤512∧vl.Nodup∧∃v m,q92 vl m∧e=.returned (.tuple #[v,.int .i64 0])∧w'.ownsRow w.heap.size 130 2 v (q6r m).length (rowP (q6r m))))
def AllRel (m:List Int)(nm:Nat)(w1:World)(v i:Value)(wx:World):Prop:=∃(j q:Nat) (av:Option Addr) (cap:Nat),j≤nm∧q≤j * 512∧i=.int .i64 j∧v=.slice av q cap∧Hid ((q0k m j).length=q)∧Hid (wx.ownsRow w1.heap.size 130 2 (.slice av q cap) q (rowP (q0k m j)))∧Hid (Below w1.heap.size w1 wx)
theorem all_any (w:World)(a:Option Addr)(c:Nat)(vl:List Int)(n:Nat)(hl:vl.length=n)(hn:n≤4611686018427387904)(hA:q2b w a vl) :
  Calls Tryz.prog 223 #[.slice a n c] w fun e w'=>qks w w' e vl:=by
 have HL:=hid hl
 by_cases hbig:512 < n
 ·have f1:decide ((n:Int) > 512)=true:=by rw[decide_eq_true_eq];omega
  have HF:Hid (qks w w (.returned (.tuple #[.slice none 0 0,.int .i64 22])) vl):=⟨bRf,.inl ⟨by omega,rfl⟩⟩;clear hA hl;go_enter Tryz.func223,Tryz.ntmps223
  go_wp2
  refine bodyPost_ret (by simp[results,Tryz.results223,go_sem];try rfl) rfl ?_;exact HF.out
 ·have f1:decide ((n:Int) > 512)=false:=by rw[decide_eq_false_iff_not];omega
  have hn5:n≤512:=by omega
  have C0:Hid _:=qfp w a c vl n hl (by omega) hA;obtain⟨i0,hi0,hz0,hz1,hz3⟩:=info_parts info24;clear hA hl hbig;go_enter Tryz.func223,Tryz.ntmps223;go_wp2_with fail;refine cMo C0.out ?_;rintro e w1 ⟨hb1,a3,c3,m,rfl,hI,hmc,hO⟩;obtain⟨nm,hnm⟩:=eXb m.length;have HNM:=hid hnm;have HB1:=hid hb1;have HI:=hid hI;have HO:=hid hO;rw[hnm];have hmc':nm≤c3:=by rw[←hnm];exact hmc
  have hmn:nm≤n:=by rw[←hnm,←HL.out];exact hO.len
  clear C0 hb1 hI hO hnm hmc
  by_cases hd:nm < n
  ·have f2:(nm:Int) < (n:Int):=by omega
   have HF:Hid (qks w w1 (.returned (.tuple #[.slice none 0 0,.int .i64 50])) vl):=⟨HB1.out,.inr (.inl ⟨by rw[HL.out];exact hn5,(qb7 HO.out).1 (by rw[HL.out,HNM.out];exact hd),rfl⟩)⟩
   go_wp2
   refine bodyPost_ret (by simp[results,Tryz.results223,go_sem];try rfl) rfl ?_;exact HF.out
  ·have f2:¬(nm:Int) < (n:Int):=by omega
   have HND:Hid (vl.Nodup):=by
    show vl.Nodup
    refine Decidable.not_not.1 fun h=>?_
    have:=(qb7 HO.out).2 h
    rw[HL.out,HNM.out] at this;exact hd this
   clear hd;go_wp2_with fail
   go_loopw [5,22] (fun v i wx=>AllRel m nm w1 v i wx) (fun _ i _=>nm - (intOf i).toNat)
   case atStart=>exact⟨0,0,none,0,Nat.zero_le _,Nat.le_refl _,rfl,rfl,rfl,World.ownsRow_nil _ _ _ _,bRf⟩
   case round =>
    obtain⟨j,q,av,cap,hj,hqj,rfl,rfl,hml,HR,hb⟩:=hrel
    by_cases hlt:j < nm
    ·have n1:(j:Int) < (nm:Int):=by omega
     obtain⟨x,hx⟩:∃x,m[j]?=some x:=⟨m[j]'(by rw[HNM.out];exact hlt),gEq _⟩;obtain⟨b1,o1,rfl,r1⟩:=HI.out j x hx;have r2:wr.cell? ⟨b1,o1 + j,none⟩=some (.int .i64 x):=(hb.out.cell (p:=⟨b1,o1 + j,none⟩) (bLt r1)).trans r1;have g1:IntKind.i64.wrap ((j:Int) + 1)=((j + 1:Nat):Int):=by rw[IntWalk.i64_in _ (by omega)];omega
     clear r1;go_wp2_with fail
     case inl h =>
      have HX:Hid (∀(k:Nat) (y:Int),(m.drop (j + 1))[k]?=some y→w1.cell? ⟨b1,o1 + k,none⟩=some (.int .i64 y)):=fun k y hy=>by
       have h1:=(List.getElem?_eq_some_iff.1 hy).1;rw[List.length_drop,HNM.out] at h1;omega
      have HD:Hid ((m.drop (j + 1)).length=nm - (j + 1)):=by show _=_;rw[List.length_drop,HNM.out]
      have HFS:Hid (q0k m (j + 1)=q0k m j++(m.drop (j + 1)).map fun b=>(x,b)):=by show _=_;rw[q6q,List.getD,hx];rfl
      obtain⟨nr,hnr⟩:=eXb (nm - (j + 1));rw[hnr] at HD;rw[hnr];have hnr2:nr + (j + 1)=nm:=by omega
      have H3:=hid h.symm;clear hnr hx h r2
      go_loopw [5,32] (fun v i wx=>∃(k q2:Nat) (av2:Option Addr) (cap2:Nat),k≤nr∧q2≤q + k∧i=.int .i64 k∧v=.slice av2 q2 cap2∧Hid ((q0k m j++((m.drop (j + 1)).take k).map fun b=>(x,b)).length=q2)∧Hid (wx.ownsRow w1.heap.size 130 2 (.slice av2 q2 cap2) q2 (rowP (q0k m j++((m.drop (j + 1)).take k).map fun b=>(x,b))))∧Hid (Below w1.heap.size w1 wx)) (fun _ i _=>nr - (intOf i).toNat)
      case atStart=>exact⟨0,q,av,cap,Nat.zero_le _,Nat.le_refl _,rfl,rfl,by rw[List.take_zero,List.map_nil,List.append_nil];exact hml.out,by rw[List.take_zero,List.map_nil,List.append_nil];exact HR.out,hb.out⟩
      case round =>
       clear hb HR hml;obtain⟨k,q2,av2,cap2,hk,hq2,rfl,rfl,hml,HR,hb⟩:=hrel
       by_cases hlt2:k < nr
       ·have n2:(k:Int) < (nr:Int):=by omega
        obtain⟨y,hy⟩:∃y,(m.drop (j + 1))[k]?=some y:=⟨(m.drop (j + 1))[k]'(by rw[HD.out];exact hlt2),gEq _⟩;have ry:=HX.out k y hy;have ry2:wr.cell? ⟨b1,o1 + k,none⟩=some (.int .i64 y):=(hb.out.cell (p:=⟨b1,o1 + k,none⟩) (bLt ry)).trans ry;have HTK:Hid ((q0k m j++((m.drop (j + 1)).take (k + 1)).map fun b=>(x,b))=(q0k m j++((m.drop (j + 1)).take k).map fun b=>(x,b))++[(x,y)]):=by show _=_;rw[List.take_add_one,hy,Option.toList_some,List.map_append,List.append_assoc];rfl
        clear ry hy;generalize (q0k m j++((m.drop (j + 1)).take k).map fun b=>(x,b))=row at *
        go_wp2_with (at_builtin;refine jk (w:=wr.alloc (.cells #[.int .i64 x,.int .i64 y] 130)) rfl _ _ _ rfl w1.heap.size 130 i0 _ 2 16 Tryz.underlying45 hi0 hz0 hz1 hz3 rfl (by omega) _ q2 (rowP row) (by rfl) (by exact HR.out.alloc _) (some ⟨wr.heap.size,0,none⟩) 1 1 [.int .i64 x,.int .i64 y] (by rfl) (by rfl) (fun j' u hu=>⟨_,rfl,World.news_of_block (cs:=#[.int .i64 x,.int .i64 y]) (t:=130) (fr:=(0,0)) (World.alloc_heap_new wr _) j' u hu⟩) (by simp[Value.oneCell']) (by unfold maxLen;omega) (by omega) (by exact nLt hb.out.size (qg _ _).size) ?_;intro a4 c4 w4 ho4 hb4;have HO4:Hid (w4.ownsRow w1.heap.size 130 2 (.slice a4 (q2 + 1) c4) (q2 + 1) (rowP (row++[(x,y)]))):=(by rw[q75];exact ho4);have HB4:Hid (Below w1.heap.size w1 w4):=(hb.out.alloc hb.out.size _).trans hb4;clear ho4 hb4)
        go_wp2
        exact⟨⟨k + 1,q2 + 1,_,_,by omega,by omega,by go_num,rfl,by show _=_;rw[HTK.out,lAp,hml.out];rfl,by rw[HTK.out];exact HO4.out,HB4.out⟩,by simp[intOf];omega⟩
       ·have n2:¬(k:Int) < (nr:Int):=by omega
        have HK:Hid ((q0k m j++((m.drop (j + 1)).take k).map fun b=>(x,b))=q0k m (j + 1)):=by show _=_;rw[HFS.out,List.take_of_length_le (by rw[HD.out];omega)]
        rw[HK.out] at hml HR;clear HK
        go_wp2
        go_roundw
        case rel =>
         (repeat apply Exists.intro)
         exact⟨⟨j + 1,q2,av2,cap2,by omega,by omega,by go_num,rfl,hml.out,HR.out,hb.out⟩,H3.out,rfl,rfl,rfl,rfl,H3.out,rfl⟩
        case measure=>simp[intOf];omega
     case inr h =>
      have HX:Hid (∀(k:Nat) (y:Int),(m.drop (j + 1))[k]?=some y→w1.cell? ⟨b1,(o1 + (j + 1)) + k,none⟩=some (.int .i64 y)):=fun k y hy=>by
       rw[List.getElem?_drop] at hy;obtain⟨b9,o9,e9,c9⟩:=HI.out _ y hy
       cases e9;rw[Nat.add_assoc];exact c9
      have HD:Hid ((m.drop (j + 1)).length=nm - (j + 1)):=by show _=_;rw[List.length_drop,HNM.out]
      have HFS:Hid (q0k m (j + 1)=q0k m j++(m.drop (j + 1)).map fun b=>(x,b)):=by show _=_;rw[q6q,List.getD,hx];rfl
      obtain⟨nr,hnr⟩:=eXb (nm - (j + 1));rw[hnr] at HD;rw[hnr];have hnr2:nr + (j + 1)=nm:=by omega
      clear hnr hx h r2
      go_loopw [5,32] (fun v i wx=>∃(k q2:Nat) (av2:Option Addr) (cap2:Nat),k≤nr∧q2≤q + k∧i=.int .i64 k∧v=.slice av2 q2 cap2∧Hid ((q0k m j++((m.drop (j + 1)).take k).map fun b=>(x,b)).length=q2)∧Hid (wx.ownsRow w1.heap.size 130 2 (.slice av2 q2 cap2) q2 (rowP (q0k m j++((m.drop (j + 1)).take k).map fun b=>(x,b))))∧Hid (Below w1.heap.size w1 wx)) (fun _ i _=>nr - (intOf i).toNat)
      case atStart=>exact⟨0,q,av,cap,Nat.zero_le _,Nat.le_refl _,rfl,rfl,by rw[List.take_zero,List.map_nil,List.append_nil];exact hml.out,by rw[List.take_zero,List.map_nil,List.append_nil];exact HR.out,hb.out⟩
      case round =>
       clear hb HR hml;obtain⟨k,q2,av2,cap2,hk,hq2,rfl,rfl,hml,HR,hb⟩:=hrel
       by_cases hlt2:k < nr
       ·have n2:(k:Int) < (nr:Int):=by omega
        obtain⟨y,hy⟩:∃y,(m.drop (j + 1))[k]?=some y:=⟨(m.drop (j + 1))[k]'(by rw[HD.out];exact hlt2),gEq _⟩;have ry:=HX.out k y hy;have ry2:wr.cell? ⟨b1,(o1 + (j + 1)) + k,none⟩=some (.int .i64 y):=(hb.out.cell (p:=⟨b1,(o1 + (j + 1)) + k,none⟩) (bLt ry)).trans ry;have HTK:Hid ((q0k m j++((m.drop (j + 1)).take (k + 1)).map fun b=>(x,b))=(q0k m j++((m.drop (j + 1)).take k).map fun b=>(x,b))++[(x,y)]):=by show _=_;rw[List.take_add_one,hy,Option.toList_some,List.map_append,List.append_assoc];rfl
        clear ry hy;generalize (q0k m j++((m.drop (j + 1)).take k).map fun b=>(x,b))=row at *
        go_wp2_with (at_builtin;refine jk (w:=wr.alloc (.cells #[.int .i64 x,.int .i64 y] 130)) rfl _ _ _ rfl w1.heap.size 130 i0 _ 2 16 Tryz.underlying45 hi0 hz0 hz1 hz3 rfl (by omega) _ q2 (rowP row) (by rfl) (by exact HR.out.alloc _) (some ⟨wr.heap.size,0,none⟩) 1 1 [.int .i64 x,.int .i64 y] (by rfl) (by rfl) (fun j' u hu=>⟨_,rfl,World.news_of_block (cs:=#[.int .i64 x,.int .i64 y]) (t:=130) (fr:=(0,0)) (World.alloc_heap_new wr _) j' u hu⟩) (by simp[Value.oneCell']) (by unfold maxLen;omega) (by omega) (by exact nLt hb.out.size (qg _ _).size) ?_;intro a4 c4 w4 ho4 hb4;have HO4:Hid (w4.ownsRow w1.heap.size 130 2 (.slice a4 (q2 + 1) c4) (q2 + 1) (rowP (row++[(x,y)]))):=(by rw[q75];exact ho4);have HB4:Hid (Below w1.heap.size w1 w4):=(hb.out.alloc hb.out.size _).trans hb4;clear ho4 hb4)
        go_wp2
        exact⟨⟨k + 1,q2 + 1,_,_,by omega,by omega,by go_num,rfl,by show _=_;rw[HTK.out,lAp,hml.out];rfl,by rw[HTK.out];exact HO4.out,HB4.out⟩,by simp[intOf];omega⟩
       ·have n2:¬(k:Int) < (nr:Int):=by omega
        have HK:Hid ((q0k m j++((m.drop (j + 1)).take k).map fun b=>(x,b))=q0k m (j + 1)):=by show _=_;rw[HFS.out,List.take_of_length_le (by rw[HD.out];omega)]
        rw[HK.out] at hml HR;clear HK
        go_wp2
        go_roundw
        case rel =>
         (repeat apply Exists.intro)
         exact⟨⟨j + 1,q2,av2,cap2,by omega,by omega,by go_num,rfl,hml.out,HR.out,hb.out⟩,rfl,rfl,rfl,rfl,rfl⟩
        case measure=>simp[intOf];omega
    ·have n1:¬(j:Int) < (nm:Int):=by omega
     have hjn:j=nm:=by omega
     have HF:Hid (∀w9,w9=wr→qks w w9 (.returned (.tuple #[.slice av q cap,.int .i64 0])) vl):=fun w9 e9=>by
      subst e9;refine⟨HB1.out.trans (hb.out.mono HB1.out.size),.inr (.inr ⟨by rw[HL.out];exact hn5,HND.out,_,m,HO.out,rfl,?_⟩)⟩;have h1:=HR.out;have h2:q0k m j=q6r m:=by unfold q6r;rw[hjn,HNM.out]
      rw[h2] at h1;have h3:(q6r m).length=q:=by rw[←h2];exact hml.out
      rw[h3];exact h1.mono HB1.out.size
     clear hjn HR hb
     go_wp2
     refine bodyPost_ret (by simp[results,Tryz.results223,go_sem];try rfl) rfl ?_;exact HF.out _ rfl
open S (ql)
theorem q4q {N:Nat}{A B:World}(h:Below N A B):S.M.Ch (fun g=>N≤g) A B:=⟨h.os,h.tape,h.output,h.size,fun g _ hx=>h.block g (by omega)⟩
theorem qb8:∀(l:List HyC) (i j:Nat) (x:HyC),l[i]?=some x→j < 4→(uf l)[i * 4 + j]?=(hyC x)[j]?
 | [],i,j,x,h,_=>by simp at h
 | y :: r,0,j,x,h,hj=>by
  simp at h;subst h
  show (hyC y++uf r)[0 * 4 + j]?=_
  rw[Nat.zero_mul,Nat.zero_add,List.getElem?_append_left (by simp[hyC];omega)]
 | y :: r,i + 1,j,x,h,hj=>by
  show (hyC y++uf r)[(i + 1) * 4 + j]?=_
  rw[List.getElem?_append_right (by simp[hyC];omega)];have e:(i + 1) * 4 + j - (hyC y).length=i * 4 + j:=by simp[hyC];omega
  rw[e];exact qb8 r i j x (by simpa using h) hj
theorem qb9 {W:World}{base g n cap:Nat}{l:List HyC}(h:W.ownsRow base 57 4 (.slice (some ⟨g,0,none⟩) n cap) n (uf l))(i:Nat)(x:HyC)(hi:l[i]?=some x):W.cell? ⟨g,i * 4,none⟩=some (.string x.h.lab)∧W.cell? ⟨g,i * 4 + 1,none⟩=some (.bool x.h.fl)∧W.cell? ⟨g,i * 4 + 2,none⟩=some (.int .i64 x.h.var)∧W.cell? ⟨g,i * 4 + 3,none⟩=some x.ve:=by
 have key:∀j u,(hyC x)[j]?=some u→j < 4→W.cell? ⟨g,i * 4 + j,none⟩=some u:=fun j u hu hj=>by
  obtain⟨ad,e,h1⟩:=q29 h (i * 4 + j) u ((qb8 l i j x hi hj).trans hu)
  cases e;rw[Addr.add_lit,Nat.zero_add] at h1;exact h1
 exact⟨key 0 _ rfl (by decide),key 1 _ rfl (by decide),key 2 _ rfl (by decide),key 3 _ rfl (by decide)⟩
structure jq (N:Nat)(W:World)(v:Value)(ts:List HyC):Prop where
 own:W.ownsRow N 57 4 v ts.length (uf ts)
 e:∀y ∈ ts,W.ownsRow N 3 1 y.ve y.h.ex.length (xw y.h.ex)
 ap:ts.Pairwise fun x y=>∀g,x.ve.ownBlock=some g→y.ve.ownBlock≠some g
theorem jq.nil (N:Nat)(W:World):jq N W (.slice none 0 0) []:=⟨World.ownsRow_nil _ _ _ _,(fun y hy=>by cases hy),List.Pairwise.nil⟩
theorem jq.below {N:Nat}{W W':World}{v:Value}{ts:List HyC}(h:jq N W v ts)(hb:Below W.heap.size W W'):jq N W' v ts :=
 ⟨S.M.qh h.own (S.M.Ch.oB (X:=fun _=>False) hb) fun _ _ e=>e,fun y hy=>S.M.qh (h.e y hy) (S.M.Ch.oB (X:=fun _=>False) hb) fun _ _ e=>e,h.ap⟩
def q0g (F:Bool→Int→Bool)(l:List HyC):List Hy:=(l.map (·.h)).filter fun h=>F h.fl h.var
theorem qba {F:Bool→Int→Bool}{l:List HyC}{j:Nat}{y:HyC}(h:l[j]?=some y):q0g F (l.take (j + 1))=q0g F (l.take j)++if F y.h.fl y.h.var=true then [y.h] else []:=by
 unfold q0g;rw[List.take_add_one,h,List.map_append,List.filter_append]
 cases e:F y.h.fl y.h.var <;> simp[e]
theorem qip (w:World)(lab:ByteArray)(fl:Bool)(var:Int)(a:Option Addr)(n c:Nat):Calls Tryz.prog 214 #[.agg #[.string lab,.bool fl,.int .i64 var,.slice a n c]] w fun e w'=>e=.returned (.bool true)∧Below w.heap.size w w':=by
 go_enter Tryz.func214,Tryz.ntmps214
 go_wp2
 go_ret
 exact⟨rfl,qo _ _⟩
theorem qiq (w:World) (F:Bool→Int→Bool) (O:Nat→Prop) (T N:Nat) (x:ScC) (v:Value) (ts:List HyC) (hx:q6l O w x) (hc:w.cell? ⟨T,0,none⟩=some x.vl) (hN:N≤w.heap.size) (hO:∀g,O g→g < N) (ht:jq N w v ts) (hn:ts.length + x.hs.length≤1048576) (hlen:∀y ∈ x.hs,y.h.ex.length≤17592186044416)
  (hF:∀W,Below N w W→∀(lab:ByteArray) (fl:Bool) (var:Int) (a:Option Addr) (n c:Nat),Calls Tryz.prog 214 #[.agg #[.string lab,.bool fl,.int .i64 var,.slice a n c]] W fun e W'=>e=.returned (.bool (F fl var))∧Below W.heap.size W W') :
  Calls Tryz.prog 248 #[.pointer (some ⟨T,0,none⟩),v,.func (.func 214) #[] #[]] w fun e w'=>Below N w w'∧∃v' ts',e=.returned v'∧jq N w' v' ts'∧ts'.map (·.h)=ts.map (·.h)++q0g F x.hs:=by
 obtain⟨iH,hiH,iHz,iHs,iHb⟩:=info_parts qaw;have hl:=hx.l;obtain⟨al,cl,el,_⟩:=ql hl;rw[el] at hc hl;obtain⟨nh,hnh⟩:=eXb x.hs.length;rw[hnh] at hc hl hn;have HL:Hid (w.ownsRow 0 57 4 (.slice al nh cl) nh (uf x.hs)∧∀g,(Value.slice al nh cl).ownBlock=some g→g < N):=⟨hl,fun g e=>hO g (hx.lo g (by rw[el,hnh];exact e))⟩;have HE:Hid (∀y ∈ x.hs,w.ownsRow 0 3 1 y.ve y.h.ex.length (xw y.h.ex)∧y.h.ex.length≤17592186044416∧∀g,y.ve.ownBlock=some g→g < N):=fun y hy=>⟨(hx.e y hy).1,hlen y hy,fun g e=>hO g ((hx.e y hy).2 g e)⟩
 have HH:=hid hnh;have HF:Hid _:=hF;have HT:=hid ht;have HN:=hid hN;have HM:=hid hn;have hnb:nh≤1048576:=nLt (Nat.le_add_left _ _) hn;clear hl hnh hF ht hN hx hO hlen el hn;go_enter Tryz.func248,Tryz.ntmps248;go_wp2_with fail
 go_loopw [1,14] (fun v1 v14 wx=>∃(j:Nat) (us:List HyC),j≤nh∧v14=.int .i64 j∧Hid (jq N wx v1 us)∧Hid (us.map (·.h)=ts.map (·.h)++q0g F (x.hs.take j)∧us.length≤ts.length + j)∧Hid (Below N w wx)) (fun _ v14 _=>nh - (intOf v14).toNat)
 case atStart=>exact⟨0,ts,Nat.zero_le _,rfl,HT.out,⟨by simp[q0g],Nat.le_refl _⟩,bRf⟩
 case round =>
  obtain⟨j,us,hj,rfl,hU,hS,hB⟩:=hrel
  by_cases hlt:j < nh
  ·have n1:(j:Int) < (nh:Int):=by omega
   obtain⟨y,hy⟩:∃y,x.hs[j]?=some y:=⟨_,gEq (by rw[HH.out];exact hlt)⟩;have hrow:wr.ownsRow 0 57 4 (.slice al nh cl) nh (uf x.hs):=S.M.qh HL.out.1 (q4q hB.out) fun g e h=>by have:=HL.out.2 g e;omega
   obtain⟨g,c',e,_,_,_⟩:=S.M.q0h hrow (by omega)
   cases e;obtain⟨y0,y1,y2,y3⟩:=qb9 hrow j y hy;obtain⟨he1,he2,he3⟩:=HE.out y (mGe hy);have her:wr.ownsRow 0 3 1 y.ve y.h.ex.length (xw y.h.ex):=S.M.qh he1 (q4q hB.out) fun g e h=>by have:=he3 g e;omega
   obtain⟨ae,ce,ee,_,hns⟩:=q3n her;obtain⟨ne,hne⟩:=eXb y.h.ex.length;rw[ee,hne] at y3;have WT:=qba (F:=F) hy;obtain⟨⟨lab,fl,var,ex⟩,ve⟩:=y;dsimp only at *;obtain⟨wa,hwa⟩:=eXa (wr.alloc (.cells #[.string lab,.bool fl,.int .i64 var,.slice ae ne ce] 57));have HWA:=hid hwa;have ba:Below wr.heap.size wr wa:=by rw[hwa];exact qo _ _
   have hNr:N≤wr.heap.size:=nLt HN.out hB.out.size;obtain⟨Bx,hBx⟩:=eXb wr.heap.size;have ka:wa.heap[Bx]?=some (.cells #[.string lab,.bool fl,.int .i64 var,.slice ae ne ce] 57 (0,0)):=by rw[hwa,←hBx];exact heap_alloc_new wr _
   have z0:wa.cell? ⟨Bx,0,none⟩=some (.string lab):=S.M.qc ka 0;have z1:wa.cell? ⟨Bx,1,none⟩=some (.bool fl):=S.M.qc ka 1;have z2:wa.cell? ⟨Bx,2,none⟩=some (.int .i64 var):=S.M.qc ka 2;have z3:wa.cell? ⟨Bx,3,none⟩=some (.slice ae ne ce):=S.M.qc ka 3;have BA:Hid (Below N w wa):=hB.out.trans (ba.mono hNr);have CF:Hid _:=HF.out wa BA.out lab fl var ae ne ce;have KA:Hid (wa.heap[Bx]?=some (.cells #[.string lab,.bool fl,.int .i64 var,.slice ae ne ce] 57 (0,0))∧Bx < wa.heap.size):=⟨ka,(aIx ka)⟩;have HB:=hid hBx;have BR:Hid (Below Bx wr wa):=by rw[←hBx];exact ba
   have HNS:Hid (uj wa ae ex∧ex.length=ne∧ne≤17592186044416):=⟨hns.under ba,hne,by rw[←hne];exact he2⟩;have HWT:=hid WT;have HNr:Hid (N≤Bx):=by rw[←hBx];exact hNr
   clear hrow her hns ee hne WT hwa ba hNr ka he1 he2 he3 hy hBx;go_upto_region 4 with fail;rw[←HWA.out,HB.out];clear HWA y0 y1 y2 y3
   cases hFv:F fl var with
   | false =>
    rw[hFv] at CF HWT;go_wp2_with fail;refine cMo CF.out ?_;rintro e w2 ⟨rfl,hb2⟩;have U2:Hid (jq N w2 u1 us):=(hU.out.below (by rw[HB.out];exact BR.out)).below hb2;have B2:Hid (Below N w w2):=BA.out.trans (hb2.mono (nLt HNr.out (Nat.le_of_lt KA.out.2)));have S2:Hid (us.map (·.h)=ts.map (·.h)++q0g F (x.hs.take (j + 1))∧us.length≤ts.length + (j + 1)):=⟨by rw[hS.out.1,HWT.out];simp,by have:=hS.out.2;omega⟩;clear hb2 hU hS hFv HWT
    go_wp2
    exact⟨⟨j + 1,us,by omega,by go_num,U2.out,S2.out,B2.out⟩,by simp[intOf];omega⟩
   | true =>
    rw[hFv] at CF HWT;go_wp2_with fail;refine cMo CF.out ?_;rintro e w2 ⟨rfl,hb2⟩;have k2:w2.heap[Bx]?=some (.cells #[.string lab,.bool fl,.int .i64 var,.slice ae ne ce] 57 (0,0)):=(hb2.block Bx KA.out.2).trans KA.out.1;have q3:w2.cell? ⟨Bx,3,none⟩=some (.slice ae ne ce):=S.M.qc k2 3;have B2:Hid (Below Bx wr w2):=BR.out.trans (hb2.mono (Nat.le_of_lt KA.out.2));have CL:Hid _:=clone_any w2 ae ne ce ex HNS.out.2.1 HNS.out.2.2 (HNS.out.1.under hb2);have K2:Hid (w2.heap[Bx]?=some (.cells #[.string lab,.bool fl,.int .i64 var,.slice ae ne ce] 57 (0,0))∧Bx < w2.heap.size):=⟨k2,(aIx k2)⟩;clear hb2 k2 z0 z1 z2 z3 CF KA BR;go_wp2_with fail;refine cMo CL.out ?_;rintro e w3 ⟨v',rfl,hv',hb3⟩;obtain⟨a3,c3,rfl,_⟩:=ql hv';have k3:w3.heap[Bx]?=some (.cells #[.string lab,.bool fl,.int .i64 var,.slice ae ne ce] 57 (0,0)):=(hb3.block Bx K2.out.2).trans K2.out.1;have p3:w3.cell? ⟨Bx,3,none⟩=some (.slice ae ne ce):=S.M.qc k3 3;have f3:w3.frozen? ⟨Bx,3,none⟩=false:=by simp[World.frozen?,k3]
    obtain⟨w4,hw4⟩:=eXa (w3.setCell ⟨Bx,3,none⟩ (.slice a3 ne c3));have HW4:=hid hw4;have ch4:S.M.Ch (fun b=>b=Bx) w3 w4:=by rw[hw4];exact S.M.jc w3 Bx 3 _
    have K4:Hid (w4.heap[Bx]?=some (.cells #[.string lab,.bool fl,.int .i64 var,.slice a3 ne c3] 57 (0,0))):=by show _=_;rw[hw4];exact S.M.qj k3
    have hB3:Below Bx wr w3:=B2.out.trans (hb3.mono (Nat.le_of_lt K2.out.2));have B4:Hid (Below Bx wr w4):=hB3.trans (ch4.below (by have h1:=hB3.size;have h2:=HB.out;omega) fun b e=>by omega);have V4:Hid (w4.ownsRow Bx 3 1 (.slice a3 ne c3) ne (xw ex)):=S.M.qp (S.M.qh hv' ch4 fun b hb e=>own_ne hv' k3 (by decide) (by rw[hb,e])) (Nat.le_of_lt K2.out.2);clear hv' hb3 k3 hw4 ch4 hB3 CL q3 B2;go_upto_region 6 with fail;rw[←HW4.out];clear HW4 p3 f3;have q0:w4.cell? ⟨Bx,0,none⟩=some (.string lab):=S.M.qc K4.out 0;have q1:w4.cell? ⟨Bx,1,none⟩=some (.bool fl):=S.M.qc K4.out 1;have q2:w4.cell? ⟨Bx,2,none⟩=some (.int .i64 var):=S.M.qc K4.out 2;have q3:w4.cell? ⟨Bx,3,none⟩=some (.slice a3 ne c3):=S.M.qc K4.out 3;have hul:us.length≤1048575:=by have h1:=hS.out.2;have h2:=HM.out;omega
    obtain⟨ku,hku⟩:=eXb us.length;rw[hku] at hul;have HKU:=hid hku;have U4:Hid (jq N w4 u1 us):=hU.out.below (by rw[HB.out];exact B4.out);have O4:Hid (w4.ownsRow N 57 4 u1 ku (uf us)):=by have h:=U4.out.own;rw[HKU.out] at h;exact h
    have HN4:Hid (N≤w4.heap.size):=nLt HNr.out (Nat.le_of_lt (aIx K4.out));clear hku
    go_wp2_with (at_builtin;refine wpList_append_lies (w:=w4.alloc (.cells #[.string lab,.bool fl,.int .i64 var,.slice a3 ne c3] 57)) rfl _ _ 44 rfl N 57 iH _ 4 56 Tryz.underlying44 hiH iHz iHs iHb rfl (by decide) _ ku (uf us) (by rfl) (S.M.zk O4.out _) ⟨w4.heap.size,0,none⟩ 1 1 [.string lab,.bool fl,.int .i64 var,.slice a3 ne c3] (by rfl) (by rfl) (World.news_of_block (cs:=#[.string lab,.bool fl,.int .i64 var,.slice a3 ne c3]) (t:=57) (fr:=(0,0)) (heap_alloc_new w4 _)) (by simp[Value.oneCell']) (by omega) (by unfold maxLen;omega) (by omega) (nLt HN4.out (qo w4 _).size) _ rfl ?_;intro gg cap' w8 hown8 hgrow hat hlt8;have O8:=hid hown8;have C8:Hid (S.M.Ch (fun b=>Value.ownBlock u1=some b) w4 w8):=((S.M.Ch.oB (qo w4 _)).trans (S.M.Ch.jw hgrow));clear hown8 hgrow hat hlt8)
    have hT8:Hid (jq N w8 (.slice (some ⟨gg,0,none⟩) (ku + 1) cap') (us++[⟨⟨lab,fl,var,ex⟩,.slice a3 ne c3⟩])):=by
     show jq _ _ _ _
     refine⟨?_,fun z hz=>?_,List.pairwise_append.2 ⟨hU.out.ap,by simp,fun z hz z' hz'=>?_⟩⟩
     ·rw[lAp,HKU.out,q3m];exact O8.out
     ·rcases mAp.1 hz with hz | hz
      ·have h1:=U4.out.e z hz;exact S.M.qh h1 C8.out fun b hb e=>q00 h1 U4.out.own (by decide) b hb e
      ·rw[mSg.1 hz]
       show w8.ownsRow N 3 1 (.slice a3 ne c3) ex.length (xw ex)
       rw[HNS.out.2.1];exact S.M.qp (S.M.qh V4.out C8.out fun b hb e=>q00 V4.out U4.out.own (by decide) b hb e) HNr.out
     ·rw[mSg.1 hz'];intro b hb e;have h1:=S.M.jr (hU.out.e z hz) b hb;have h2:=S.M.zf V4.out b e;have h3:=HB.out;omega
    have hB8:Below N w w8:=hB.out.trans ((B4.out.mono HNr.out).trans (C8.out.below HN4.out fun b e=>S.M.zf U4.out.own b e));exact⟨⟨j + 1,us++[HyC.mk (Hy.mk lab fl var ex) (Value.slice a3 ne c3)],by omega,by go_num,hT8.out,⟨by rw[List.map_append,hS.out.1,HWT.out];simp,by rw[lAp];have:=hS.out.2;simp;omega⟩,hB8⟩,by simp[intOf];omega⟩
  ·have n1:¬(j:Int) < (nh:Int):=by omega
   have hall:x.hs.take j=x.hs:=List.take_of_length_le (by rw[HH.out];omega);have HS2:Hid (us.map (·.h)=ts.map (·.h)++q0g F x.hs):=by have h:=hS.out.1;rw[hall] at h;exact h
   clear hall hS
   go_wp2
   go_ret
   exact⟨hB.out,_,rfl,us,hU.out,HS2.out⟩
end F
end Go.Proofs.YtbancemhfjjmlaaGreatDoor
