/- Laid together: FFrH, FIter, FShelf, FBase, FPure, FOnce, FFrV. -/
import Derived.Test.YtbancemhfjjmlaaGreatDoorQA09
import Derived.RangeFuncBox
import Derived.RangeFuncLeaves
import Derived.Shelf.Abstract
import Derived.WalkKit
import Derived.OwnWalkIn
import Derived.TacticsInMore
import Derived.LoopNIn
import Derived.LoopIn
import Derived.Maps.AppendAt
import Derived.Test.YtbancemhfjjmlaaGreatDoorProg
import Derived.Shelf.Small.Bits
import Derived.Shelf.Strconv.Itoa0
import Derived.Shelf.Sort.Plain
import Derived.Ground.Names2Prog
import Derived.Shelf.Slices.CompactI
import Derived.Shelf.Slices.SearchI
import Derived.Shelf.Slices.Cells
import Derived.Shelf.Slices.In.SortNone
import Derived.Shelf.Slices.Empties
import Derived.Test.YtbancemhfjjmlaaGreatDoorQA00
import Derived.BigQuiet
import Derived.Deep.QuietTactic
set_option maxRecDepth 100000
set_option maxHeartbeats 32000000
namespace Go.Proofs.YtbancemhfjjmlaaGreatDoor
namespace F
open Go.Maps Go.RowKit Go.WideMaps
variable {tq:Nat} {isV:Int→Bool}
structure Sa where
 hs:List Hy
 ps:List Pp
def jk (x:ScC):Sa:=⟨x.hs.map (·.h),x.ps⟩
def tyA (l:List Sa)(v:Int):Option Int:=l.findSome? fun a=>q5b a.hs v
theorem q97 (xs:List ScC)(v:Int):tyS xs v=tyA (xs.map jk) v:=by
 unfold tyS tyA
 rw[List.findSome?_map]
 rfl
def q1w (f:Sa→Sa)(l:List Sa):List Sa:=match l.getLast? with | some a=>l.dropLast++[f a] | none=>[]
theorem q4l (f:Sa→Sa)(l:List Sa)(a:Sa):q1w f (l++[a])=l++[f a]:=by unfold q1w;rw[List.getLast?_concat,List.dropLast_concat]
def Decl (O:Nat→Prop)(w:World)(P:Nat)(E:Int)(l:List Sa)(e:Ending)(w':World):Prop:=e=.returned (.int .i64 E)∧∃vS xs,qw tq (More O w w') w' P vS xs∧xs.map jk=l∧S.M.Ch O w w'
theorem qw.up {O O':Nat→Prop}{W:World}{P:Nat}{vS:Value}{xs:List ScC}(h:qw tq O W P vS xs)(ho:∀g,O g→O' g)(hl:∀g,O' g→g < W.heap.size):qw tq O' W P vS xs:=⟨h.box,ho _ h.bo,h.row,fun g e=>ho g (h.ro g e),fun x hx=>(h.each x hx).mono ho,h.ap,hl⟩
theorem Decl.same {O:Nat→Prop}{w w':World}{P:Nat}{vS:Value}{xs:List ScC}{E:Int}(h:qw tq O w P vS xs)(hb:Below w.heap.size w w'):Decl (tq:=tq) O w P E (xs.map jk) (.returned (.int .i64 E)) w' :=
 ⟨rfl,vS,xs,(h.below hb).up (fun _ hg=>.inl hg) (fun g hg=>by
  rcases hg with hg | hg
  ·exact Nat.lt_of_lt_of_le (h.lt g hg) hb.size
  ·exact hg.2),rfl,S.M.Ch.of_below hb⟩
def q0h (l:List Sa)(typ v:Int):Int:=if isV v=false then 71 else if isV typ=true then 72 else if (tyA l v).isSome=true then 70 else 0
def q07 (l:List Sa)(lab:ByteArray)(typ v:Int):List Sa:=if q0h (isV:=isV) l typ v=0 then q1w (fun a=>⟨a.hs++[⟨lab,true,v,[typ,v]⟩],a.ps⟩) l else l
theorem qw.shape {O:Nat→Prop}{W:World}{P:Nat}{vS:Value}{xs:List ScC}(h:qw tq O W P vS xs)(hn:0 < xs.length):∃g c cs,vS=.slice (some ⟨g,0,none⟩) xs.length c∧W.heap[g]?=some (.cells cs 225 (0,0))∧∀(i j:Nat) (x:ScC),xs[i]?=some x→j < 3→cs[i * 3 + j]?=(scC x)[j]?:=by
 obtain⟨g,c,rfl,_,_,_⟩:=S.M.q0f h.row hn
 obtain⟨cs,hcs⟩:=yw h.row (g:=g) rfl
 refine⟨g,c,cs,rfl,hcs,fun i j x hx hj=>?_⟩
 have h1:=q5s xs i j x hx hj
 have hlt:j < (scC x).length:=hj
 rw[List.getElem?_eq_getElem hlt] at h1 ⊢
 have h2:=S.M.q34 h.row _ _ h1
 rw[S.M.qc hcs] at h2
 exact h2
theorem qgo (w:World)(O:Nat→Prop)(P:Nat)(vS:Value)(xs:List ScC)(lab:ByteArray)(typ v:Int)(h:qw tq O w P vS xs)(hV:q2w tq isV w)(h0:0 < xs.length)(hn:xs.length≤1048576)(hm:∀x ∈ xs,x.hs.length≤1048576)(hlab:lab.size≤281474976710656)(ht:wfN typ)(hv:wfN v) :
  Calls Tryz.prog 169 #[.pointer (some ⟨P,0,none⟩),.string lab,.int .i64 typ,.int .i64 v] w (Decl (tq:=tq) O w P (q0h (isV:=isV) (xs.map jk) typ v) (q07 (isV:=isV) (xs.map jk) lab typ v)):=by
 obtain⟨x0,x1⟩:=h.cells
 have HS:Hid (qw tq O w P vS xs):=h
 have VA:Hid (q2w tq isV w):=hV
 have TY:Hid (∀wx,Below w.heap.size w wx→_):=fun wx hb=>q9p wx O P vS xs v (HS.out.below hb) hn hv
 have HM:Hid (0 < xs.length∧xs.length≤1048576∧(∀x ∈ xs,x.hs.length≤1048576)∧lab.size≤281474976710656∧wfN typ∧wfN v):=⟨h0,hn,hm,hlab,ht,hv⟩
 clear h h0 hn hm hlab ht hv hV
 unfold q17 at x0
 cases e1:isV v with
 | false =>
  have HE:Hid (q0h (isV:=isV) (xs.map jk) typ v=71∧q07 (isV:=isV) (xs.map jk) lab typ v=xs.map jk):=by
   have h1:q0h (isV:=isV) (xs.map jk) typ v=71:=by unfold q0h;rw[if_pos e1]
   exact⟨h1,by unfold q07;rw[h1];rfl⟩
  have V1:Hid _:=VA.out w v (Below.refl _ _)
  rw[e1] at V1
  clear e1
  go_enter Tryz.func169,Tryz.ntmps169
  go_wp2_with fail
  refine Calls.mono V1.out ?_
  rintro e w1 ⟨rfl,hb1⟩
  have B1:Hid (Below w.heap.size w w1):=hb1
  obtain⟨y0,y1⟩:=(HS.out.below hb1).cells
  unfold q17 at y0
  clear hb1 V1 x0 x1
  go_wp2
  go_ret
  rw[HE.out.1,HE.out.2]
  exact Decl.same HS.out B1.out
 | true =>
  have V1:Hid _:=VA.out w v (Below.refl _ _)
  rw[e1] at V1
  cases e2:isV typ with
  | true =>
   have HE:Hid (q0h (isV:=isV) (xs.map jk) typ v=72∧q07 (isV:=isV) (xs.map jk) lab typ v=xs.map jk):=by
    have h1:q0h (isV:=isV) (xs.map jk) typ v=72:=by unfold q0h;rw[e1,if_neg (by simp),if_pos e2]
    exact⟨h1,by unfold q07;rw[h1];rfl⟩
   have V2:Hid (∀wx,Below w.heap.size w wx→Calls Tryz.prog 70 #[.pointer (some ⟨tq,0,none⟩),.int .i64 typ] wx fun e w'=>e=.returned (.bool (isV typ))∧Below wx.heap.size wx w'):=fun wx hb=>VA.out wx typ hb
   rw[e2] at V2
   clear e1 e2
   go_enter Tryz.func169,Tryz.ntmps169
   go_wp2_with fail
   refine Calls.mono V1.out ?_
   rintro e w1 ⟨rfl,hb1⟩
   have B1:Hid (Below w.heap.size w w1):=hb1
   obtain⟨y0,y1⟩:=(HS.out.below hb1).cells
   unfold q17 at y0
   clear hb1 V1 x0 x1
   go_wp2_with fail
   refine Calls.mono (V2.out w1 B1.out) ?_
   rintro e w2 ⟨rfl,hb2⟩
   have B2:Hid (Below w.heap.size w w2):=B1.out.trans (hb2.mono B1.out.size)
   clear hb2 V2 y0 y1 VA
   go_wp2
   go_ret
   rw[HE.out.1,HE.out.2]
   exact Decl.same HS.out B2.out
  | false =>
   have V2:Hid (∀wx,Below w.heap.size w wx→Calls Tryz.prog 70 #[.pointer (some ⟨tq,0,none⟩),.int .i64 typ] wx fun e w'=>e=.returned (.bool (isV typ))∧Below wx.heap.size wx w'):=fun wx hb=>VA.out wx typ hb
   rw[e2] at V2
   cases e3:tyS xs v with
   | some t =>
    have HE:Hid (q0h (isV:=isV) (xs.map jk) typ v=70∧q07 (isV:=isV) (xs.map jk) lab typ v=xs.map jk):=by
     have h1:q0h (isV:=isV) (xs.map jk) typ v=70:=by unfold q0h;rw[e1,if_neg (by simp),e2,if_neg (by simp),←q97,e3];rfl
     exact⟨h1,by unfold q07;rw[h1];rfl⟩
    rw[e3] at TY
    clear e1 e2 e3
    go_enter Tryz.func169,Tryz.ntmps169
    go_wp2_with fail
    refine Calls.mono V1.out ?_
    rintro e w1 ⟨rfl,hb1⟩
    have B1:Hid (Below w.heap.size w w1):=hb1
    obtain⟨y0,y1⟩:=(HS.out.below hb1).cells
    unfold q17 at y0
    clear hb1 V1 x0 x1
    go_wp2_with fail
    refine Calls.mono (V2.out w1 B1.out) ?_
    rintro e w2 ⟨rfl,hb2⟩
    have B2:Hid (Below w.heap.size w w2):=B1.out.trans (hb2.mono B1.out.size)
    clear hb2 V2 y0 y1 VA
    go_wp2_with fail
    refine Calls.mono (TY.out w2 B2.out) ?_
    rintro e w5 ⟨rfl,hb5x⟩
    have hb5:Below w.heap.size w w5:=B2.out.trans (hb5x.mono B2.out.size)
    clear hb5x
    have B5:Hid (Below w.heap.size w w5):=hb5
    clear hb5 TY
    go_wp2
    go_ret
    rw[HE.out.1,HE.out.2]
    exact Decl.same HS.out B5.out
   | none =>
    obtain⟨ys,x,hxs⟩:∃ys x,xs=ys++[x]:=⟨xs.dropLast,xs.getLast (List.ne_nil_of_length_pos HM.out.1),(List.dropLast_concat_getLast _).symm⟩
    have hE:q0h (isV:=isV) (xs.map jk) typ v=0:=by unfold q0h;rw[e1,if_neg (by simp),e2,if_neg (by simp),←q97,e3];rfl
    have HE:Hid (q0h (isV:=isV) (xs.map jk) typ v=0∧q07 (isV:=isV) (xs.map jk) lab typ v=ys.map jk++[⟨x.hs.map (·.h)++[⟨lab,true,v,[typ,v]⟩],x.ps⟩]):=⟨hE,by unfold q07;rw[hE,if_pos rfl,hxs,List.map_append];exact q4l _ _ _⟩
    have hty:q5b (x.hs.map (·.h)) v=none:=by
     rw[hxs] at e3
     unfold tyS at e3
     rw[List.findSome?_eq_none_iff] at e3
     exact e3 x (by simp)
    rw[e3] at TY
    have HTY:Hid (q5b (x.hs.map (·.h)) v=none):=hty
    clear e1 e2 e3 hE hty
    go_enter Tryz.func169,Tryz.ntmps169
    go_wp2_with fail
    refine Calls.mono V1.out ?_
    rintro e w1 ⟨rfl,hb1⟩
    have B1:Hid (Below w.heap.size w w1):=hb1
    obtain⟨y0,y1⟩:=(HS.out.below hb1).cells
    unfold q17 at y0
    clear hb1 V1 x0 x1
    go_wp2_with fail
    refine Calls.mono (V2.out w1 B1.out) ?_
    rintro e w2 ⟨rfl,hb2⟩
    have B2:Hid (Below w.heap.size w w2):=B1.out.trans (hb2.mono B1.out.size)
    clear hb2 V2 y0 y1 VA
    go_wp2_with fail
    refine Calls.mono (TY.out w2 B2.out) ?_
    rintro e w5 ⟨rfl,hb5x⟩
    have hb5:Below w.heap.size w w5:=B2.out.trans (hb5x.mono B2.out.size)
    clear hb5x
    have S5:=HS.out.below hb5
    obtain⟨g,c,cs,hvS,hcs,hcell⟩:=S5.shape HM.out.1
    subst hxs
    have hlen:(ys++[x]).length=ys.length + 1:=by rw[List.length_append];rfl
    rw[hlen] at hvS
    subst hvS
    have IN:Hid _:=q85 w5 O P g (ys.length + 1) c (ys++[x]) hlen (by omega) (by have:=HM.out.2.1;omega) S5
    rw[show (ys.length + 1 - 1) * 3=ys.length * 3 by omega] at IN
    have hxat:(ys++[x])[ys.length]?=some x:=by simp
    have FL:Hid (∀q,Calls Tryz.prog 229 #[.pointer (some ⟨g,ys.length * 3,none⟩),.string lab,.int .i64 typ,.int .i64 v] (w5.drewN q) fun e w'=>e=.returned (.tuple #[])∧∃vl' ve,Put (w5.drewN q) w' g (ys.length * 3) cs x vl' ve ⟨lab,true,v,[typ,v]⟩ (x.mn + 1)):=fun q =>
     q84 (w5.drewN q) O g (ys.length * 3) cs x lab typ v hcs (hcell ys.length 0 x hxat (by omega)) (hcell ys.length 1 x hxat (by omega)) ((S5.below (zu (Below.refl _ _) q)).each x (by simp)) (HM.out.2.2.1 x (by simp)) HM.out.2.2.2.1 HM.out.2.2.2.2.1 HM.out.2.2.2.2.2 HTY.out
    have HS5:Hid (qw tq O w5 P (.slice (some ⟨g,0,none⟩) (ys.length + 1) c) (ys++[x])∧w5.heap[g]?=some (.cells cs 225 (0,0))∧Below w.heap.size w w5):=⟨S5,hcs,hb5⟩
    obtain⟨ny,hny⟩:∃ny,ys.length=ny:=⟨_,rfl⟩
    rw[hny] at IN FL
    have HNY:Hid (ys.length=ny):=hny
    clear S5 hcs hcell hb5 TY hlen hxat hny
    go_wp2_with fail
    refine Calls.mono IN.out ?_
    rintro e wz ⟨rfl,q,hwz⟩
    subst hwz
    go_wp2_with fail
    refine Calls.mono (FL.out q) ?_
    rintro e w7 ⟨rfl,vl',ve,hp⟩
    have FI:Hid (Decl (tq:=tq) O w P 0 (ys.map jk++[⟨x.hs.map (·.h)++[⟨lab,true,v,[typ,v]⟩],x.ps⟩]) (.returned (.int .i64 0)) w7):=by
     have S6:=HS5.out.1.below (zu (Below.refl _ _) q)
     rw[←HNY.out] at hp
     obtain⟨k1,k2⟩:=S6.put (g:=g) HS5.out.2.1 hp (by have:=(S6.each x (by simp)).mc;omega)
     have bq:Below w.heap.size w (w5.drewN q):=zu HS5.out.2.2 q
     refine⟨rfl,_,_,k1.up (fun b hb=>?_) (fun b hb=>?_),?_,(S.M.Ch.of_below bq).trans k2⟩
     ·rcases hb with hb | hb
      ·exact .inl hb
      ·exact .inr ⟨Nat.le_trans bq.size hb.1,hb.2⟩
     ·rcases hb with hb | hb
      ·exact Nat.lt_of_lt_of_le (S6.lt b hb) k2.size
      ·exact hb.2
     ·simp[jk]
    clear hp IN FL
    go_wp2
    go_ret
    rw[HE.out.1,HE.out.2]
    exact FI.out
end F
namespace F
open Go.RowKit Go.Shelf
variable {tq:Nat} {isV:Int→Bool}
attribute [local go_sem] Oper.semAt_some
def upto {α:Type}(f:Nat→α)(k:Nat):List α:=(List.range k).map f
theorem upto_succ {α:Type}(f:Nat→α)(k:Nat):upto f (k + 1)=upto f k++[f k]:=by simp[upto,List.range_succ]
theorem upto_length {α:Type}(f:Nat→α)(k:Nat):(upto f k).length=k:=by simp[upto]
theorem upto_all (zs:List Int):upto (fun j=>zs[j]?.getD 0) zs.length=zs:=by
 apply List.ext_getElem
 ·simp[upto]
 ·intro i h1 h2
  simp[upto,h2]
theorem upto_take (zs:List Int){k:Nat}(hk:k≤zs.length):upto (fun j=>zs[j]?.getD 0) k=zs.take k:=by
 apply List.ext_getElem
 ·simp[upto,hk]
 ·intro i h1 h2
  have:i < zs.length:=by simp[upto] at h1;omega
  simp[upto,this]
theorem values1_in (F:Fence) (n:Nat) (h7:F.fn 293) (hro:F.round=none) (hn:1≤n) (l Bs n₀:Nat) (a:Option Addr) (len cap:Nat) (zs:List Int) (hreach:len≤4611686018427387904) (J Jx:List Int→World→Prop)
  (hY:∀pre x W,J pre W→pre.length < len→YieldAt F (n - 1) Tryz.prog l #[.int .i64 x] W fun e W' =>
    (e=.returned (.bool true)∧J (pre++[x]) W'∧Below n₀ W W')∨(e=.returned (.bool false)∧Jx (pre++[x]) W'))
  (W:World) (hBs:W.cell? ⟨Bs,0,none⟩=some (.slice a len cap)) (hc:∀j,j < len→∃b off,a=some ⟨b,off,none⟩∧b < n₀∧W.cell? ⟨b,off + j,none⟩=some (.int .i64 (zs[j]?.getD 0))) (h0:J [] W) :
  CallsIn F n Tryz.prog  293 #[.func (.yield l) #[] #[],.pointer (some ⟨Bs,0,none⟩)] W fun e W'=>(∃v,e=.returned v) ∧
   ((∃ys,ys=upto (fun j=>zs[j]?.getD 0) len∧J ys W')∨(∃pre,(∃k,k≤len∧pre=upto (fun j=>zs[j]?.getD 0) k)∧Jx pre W')):=by
 refine callsIn_of_wp Tryz.func293 rfl h7 ?_ hro
 simp only[Tryz.ntmps293,List.size_toArray,List.length_cons,List.length_nil,Nat.reduceAdd,Nat.reduceSub,Array.replicate_succ,Array.replicate_zero,List.push_toArray,List.append_toArray,List.nil_append,List.cons_append]
 gi_wp2
 gi_loopw [7] (fun i wr=>∃k:Nat,k≤len∧i=.int .i64 k∧J (upto (fun j=>zs[j]?.getD 0) k) wr∧Below n₀ W wr)
  (fun i _=>len - (intOf i).toNat)
 case atStart=>exact⟨0,Nat.zero_le _,rfl,h0,Below.refl _ _⟩
 case round =>
  obtain⟨k,hk,rfl,hJs,hnx⟩:=hrel
  by_cases hlt:k < len
  ·obtain⟨b,off,rfl,hb,hck⟩:=hc k hlt
   have hcx:wr.cell? ⟨b,off + k,none⟩=some (.int .i64 (zs[k]?.getD 0)):=(hnx.cell (p:=⟨b,off + k,none⟩) hb).trans hck
   obtain⟨fn,tmps,assign,body,hy,hR⟩:=hY _ (zs[k]?.getD 0) wr hJs (by rw[upto_length];exact hlt)
   clear hck hc
   gi_wp2
   refine hR.mono ?_
   rintro e W3 (⟨rfl,hJ3,hk3⟩ | ⟨rfl,hJx3⟩)
   ·gi_wp2
    go_roundw
    case rel=>exact⟨k + 1,by omega,by simp,by rw[upto_succ];exact hJ3,hnx.trans hk3⟩
    case measure=>simp[intOf];omega
   ·gi_wp2
    refine bodyPost_ret (results_none rfl _ _ _) rfl ?_
    exact⟨⟨_,rfl⟩,.inr ⟨_,⟨k + 1,by omega,(upto_succ _ _).symm⟩,hJx3⟩⟩
  ·obtain rfl:k=len:=by omega
   clear hc
   gi_wp2
   go_end0
   exact⟨⟨_,rfl⟩,.inl ⟨_,rfl,hJs⟩⟩
def qkb (n₀:Nat)(w:World)(a:Option Addr)(l:List Int):Prop:=∀(i:Nat) (x:Int),l[i]?=some x→∃b off,a=some ⟨b,off,none⟩∧b < n₀∧w.cell? ⟨b,off + i,none⟩=some (.int .i64 x)
theorem values_in (F:Fence)(n:Nat)(h5:F.fn 272)(hro:F.round=none)(a:Option Addr)(len cap:Nat)(w:World) :
  CallsIn F n Tryz.prog  272 #[.slice a len cap] w fun e w'=>e=.returned (.func (.func 293) #[] #[.pointer (some ⟨w.heap.size,0,none⟩)])∧w'=w.alloc (.cells #[.slice a len cap] 38):=by
 refine callsIn_of_wp Tryz.func272 rfl h5 ?_ hro
 simp only[Tryz.ntmps272,List.size_toArray,List.length_cons,List.length_nil,Nat.reduceAdd,Nat.reduceSub,Array.replicate_succ,Array.replicate_zero,List.push_toArray,List.append_toArray,List.nil_append,List.cons_append]
 gi_wp2
 go_ret
 exact⟨rfl,rfl⟩
theorem values_stops (F:Fence) (n:Nat) (h7:F.fn 293) (hro:F.round=none) (hn:1≤n) (Bs n₀:Nat) (a:Option Addr) (cap:Nat) (zs:List Int) (hreach:zs.length≤4611686018427387904) (w:World) (hBs:Bs < w.heap.size) (hn₀:n₀≤w.heap.size)
  (hc:w.cell? ⟨Bs,0,none⟩=some (.slice a zs.length cap)) (hI:qkb n₀ w a zs) :
  SeqStopsK F n Tryz.prog  293 #[.pointer (some ⟨Bs,0,none⟩)] (fun x:Int=>#[Value.int .i64 x]) (Below n₀) (fun ys=>ys=zs) (fun pre=>pre <+: zs) zs.length w:=fun l J Jx W hW _ _ hY h0=>by
 have hc':=(hW.cell (p:=⟨Bs,0,none⟩) hBs).trans hc
 refine (values1_in F n h7 hro hn l Bs n₀ a zs.length cap zs hreach J Jx hY W hc' (fun j hj=>?_) h0).mono ?_
 ·obtain⟨b,off,e,hb,h⟩:=hI j (zs[j]?.getD 0) (by rw[List.getElem?_eq_getElem hj];rfl)
  exact⟨b,off,e,hb,((hW.mono hn₀).cell (p:=⟨b,off + j,none⟩) hb).trans h⟩
 ·rintro e W' ⟨he,⟨ys,rfl,hj⟩ | ⟨pre,⟨k,hk,rfl⟩,hj⟩⟩
  ·exact⟨he,.inl ⟨_,upto_all zs,hj⟩⟩
  ·exact⟨he,.inr ⟨_,by rw[upto_take zs hk];exact List.take_prefix _ _,hj⟩⟩
theorem info3:(Tryz.prog.info? 3).map (fun i=>(i.zero,i.size,i.bytes))=some (some (.int .i64 0),1,8):=by kernel_rfl
theorem qgp (F:Fence) (n:Nat) (h51:F.fn 302) (hro:F.round=none) (hn:2≤n) (g:Nat) (lb:Array Value) (hFg:F.fn g) (eg:∀args w,(callFunc g args).run Tryz.prog w=.ok (.enter g args) w) (zs:List Int) (hlen:zs.length≤17592186043904) (w:World)
  (hseq:SeqStopsK F (n - 1) Tryz.prog g lb (fun x:Int=>#[Value.int .i64 x]) (Below w.heap.size) (fun ys=>ys=zs) (fun pre=>pre <+: zs) zs.length (w.alloc (.cells #[.slice none 0 0] 38))) :
  CallsIn F n Tryz.prog  302 #[.slice none 0 0,.func (.func g) #[] lb] w fun e W'=>∃v,e=.returned v∧W'.ownsRow w.heap.size 3 1 v zs.length (zs.map (Value.int .i64))∧Below w.heap.size w W':=by
 have h1:1≤n:=by omega
 obtain⟨i0,hi,hz0,hz1,hz2⟩:=info_parts info3
 refine callsIn_of_wp_marks Tryz.func302 rfl h51 ?_ hro
 simp only[Tryz.ntmps302,List.size_toArray,List.length_cons,List.length_nil,Nat.reduceAdd,Nat.reduceSub,Array.replicate_succ,Array.replicate_zero,List.push_toArray,List.append_toArray,List.nil_append,List.cons_append]
 gi_wp2
 have bO:=Boxed.new w 38 (.slice none 0 0)
 have hB0:Below w.heap.size w (w.alloc (.cells #[.slice none 0 0] 38)):=(Below.refl _ w).alloc (Nat.le_refl _) _
 refine wpIn_rangeFunc_ownG hro h1 (gf:=g) (lb:=lb) rfl hFg eg hseq belowK_t (belowK_b (by simp)) (Below.refl _ _) (fun _=>rfl)
  (fun pre W=>(∃v,Boxed W w.heap.size 38 v∧W.ownsRow w.heap.size 3 1 v pre.length (pre.map (Value.int .i64))∧(v=.slice none 0 0↔pre=[]))∧Below w.heap.size w W)
  (fun _ _ _=>False)
  (OwnFrom.and (Own.from (holdsRow_own w.heap.size w.heap.size 38 3 1 (fun pre=>pre.length) (fun pre=>pre.map (Value.int .i64)) (fun pre v=>v=.slice none 0 0↔pre=[])) _) (ownFrom_below (Nat.le_refl _) (by simp)))
  (fun _ _ _ _ _ hs _ _=>hs)
  ⟨⟨_,bO,World.ownsRow_nil _ _ _ _,by simp⟩,hB0⟩
  (fun x=>{ tmps:=#[.slice none 0 0,.func (.func g) #[] lb,.pointer (some ⟨w.heap.size,0,none⟩),undef,.slice none 0 0,.int .i64 x,.func (.func g) #[] lb,.int .i64 x,undef,undef,undef,undef,undef],defers:=[] }) ?assign ?body ?done ?stop
 case assign =>
  intro l x W K hK
  gi_wp2
  exact hK
 case body =>
  rintro l pre x W ⟨⟨v,hv,hrow,hnil⟩,hB⟩ hlt
  have hc:=hv.cell
  gi_wp2_with (gi_at_builtin;refine wpListIn_append_own _ rfl _ _ 38 rfl w.heap.size 3 i0 (.int .i64 0) 1 8 Tryz.underlying38 hi hz0 hz1 hz2 rfl (by decide) _ _ _ rfl (hrow.alloc _) ⟨W.heap.size,0,none⟩ 1 1 [.int .i64 x] rfl rfl (cell_one_new _ _ _) (by simp[Value.oneCell']) (by unfold maxLen;omega) (by omega) (by have:=hB.size;simp;omega) ?_;intro v' w1 hown' hgrow _;obtain⟨g',cap',rfl⟩:=ownsRow_succ hown';obtain⟨hv1,hv2,hr2,hk2,hb2⟩:=hv.appended (by decide) hrow hB.size (Nat.le_refl _) hown' hgrow;have hc1:=hv1.cell;have hf1:=hv1.frozen)
  exact⟨hk2.from _,hb2,⟨_,hv2,by simpa using hr2,by simp⟩,hB.trans hb2⟩
 case done =>
  rintro D ys W hD rfl ⟨⟨v,hv,hrow,hnil⟩,hB⟩ hK
  have hc:=hv.cell
  gi_wp2
  refine⟨by simp,.inl ⟨_,_,rfl,run_takeDeferred hK,?_⟩⟩
  exact⟨_,results_tmp rfl _ _ _,v,rfl,ownsRow_putObj hrow _ hK rfl,hB.trans (belowK_b (w:=w) (Nat.le_refl _) W D _ _ (by simp at hD;omega) hK rfl rfl)⟩
 case stop =>
  rintro D c pre W _ _ h _
  exact h.elim
end F
namespace F
open Go.Shelf
variable {tq:Nat} {isV:Int→Bool}
def Tryz.qee:Go.Shelf.Ren:=⟨fun | 189=>237 | 125=>267 | 257=>266 | 128=>284 | 129=>285 | 294=>276 | 295=>277 | 296=>278 | 297=>279 | 298=>280 | 299=>281 | 216=>181 | 300=>282 | 301=>283 | 328=>294 | 329=>295 | 330=>296 | 331=>297 | 332=>298 | 215=>239 | 343=>303 | n=>n,fun | 28=>38 | 3=>3 | 46=>116 | 0=>0 | 51=>299 | 53=>311 | 4=>4 | 183=>304 | 182=>303 | 131=>54 | 5=>5 | 9=>9 | 218=>321 | 222=>325 | 228=>330 | 229=>331 | n=>n,fun | n=>n⟩
theorem Tryz.lays189:Go.Proofs.Lays.n189 Tryz.prog Tryz.qee:={
 mixed:=by kernel_rfl
 f125:=Tryz.func267.trans (congrArg some (by kernel_rfl))
 f128:=Tryz.func284.trans (congrArg some (by kernel_rfl))
 f129:=Tryz.func285.trans (congrArg some (by kernel_rfl))
 f189:=Tryz.func237.trans (congrArg some (by kernel_rfl))
 f215:=Tryz.func239.trans (congrArg some (by kernel_rfl))
 f216:=Tryz.func181.trans (congrArg some (by kernel_rfl))
 f257:=Tryz.func266.trans (congrArg some (by kernel_rfl))
 f294:=Tryz.func276.trans (congrArg some (by kernel_rfl))
 f295:=Tryz.func277.trans (congrArg some (by kernel_rfl))
 f296:=Tryz.func278.trans (congrArg some (by kernel_rfl))
 f297:=Tryz.func279.trans (congrArg some (by kernel_rfl))
 f298:=Tryz.func280.trans (congrArg some (by kernel_rfl))
 f299:=Tryz.func281.trans (congrArg some (by kernel_rfl))
 f300:=Tryz.func282.trans (congrArg some (by kernel_rfl))
 f301:=Tryz.func283.trans (congrArg some (by kernel_rfl))
 f328:=Tryz.func294.trans (congrArg some (by kernel_rfl))
 f329:=Tryz.func295.trans (congrArg some (by kernel_rfl))
 f330:=Tryz.func296.trans (congrArg some (by kernel_rfl))
 f331:=Tryz.func297.trans (congrArg some (by kernel_rfl))
 f332:=Tryz.func298.trans (congrArg some (by kernel_rfl))
 f343:=Tryz.func303.trans (congrArg some (by kernel_rfl))
 t0:=Tryz.underlying0
 a0:=Tryz.isAgg0
 z0:=Tryz.sizeOf0
 v0:=Tryz.zeroValue0
 t3:=Tryz.underlying3
 a3:=Tryz.isAgg3
 z3:=Tryz.sizeOf3
 v3:=Tryz.zeroValue3
 t4:=Tryz.underlying4
 a4:=Tryz.isAgg4
 z4:=Tryz.sizeOf4
 v4:=Tryz.zeroValue4
 t5:=Tryz.underlying5
 a5:=Tryz.isAgg5
 z5:=Tryz.sizeOf5
 v5:=Tryz.zeroValue5
 t9:=Tryz.underlying9
 a9:=Tryz.isAgg9
 z9:=Tryz.sizeOf9
 v9:=Tryz.zeroValue9
 t28:=Tryz.underlying38
 a28:=Tryz.isAgg38
 z28:=Tryz.sizeOf38
 v28:=Tryz.zeroValue38
 t46:=Tryz.underlying116
 a46:=Tryz.isAgg116
 z46:=Tryz.sizeOf116
 v46:=Tryz.zeroValue116
 t51:=Tryz.underlying299
 a51:=Tryz.isAgg299
 z51:=Tryz.sizeOf299
 v51:=Tryz.zeroValue299
 t53:=Tryz.underlying311
 a53:=Tryz.isAgg311
 z53:=Tryz.sizeOf311
 v53:=Tryz.zeroValue311
 t131:=Tryz.underlying54
 a131:=Tryz.isAgg54
 z131:=Tryz.sizeOf54
 v131:=Tryz.zeroValue54
 t182:=Tryz.underlying303
 a182:=Tryz.isAgg303
 z182:=Tryz.sizeOf303
 v182:=Tryz.zeroValue303
 t183:=Tryz.underlying304
 a183:=Tryz.isAgg304
 z183:=Tryz.sizeOf304
 v183:=Tryz.zeroValue304
 t218:=Tryz.underlying321
 a218:=Tryz.isAgg321
 z218:=Tryz.sizeOf321
 v218:=Tryz.zeroValue321
 t222:=Tryz.underlying325
 a222:=Tryz.isAgg325
 z222:=Tryz.sizeOf325
 v222:=Tryz.zeroValue325
 t228:=Tryz.underlying330
 a228:=Tryz.isAgg330
 z228:=Tryz.sizeOf330
 v228:=Tryz.zeroValue330
 t229:=Tryz.underlying331
 a229:=Tryz.isAgg331
 z229:=Tryz.sizeOf331
 v229:=Tryz.zeroValue331 }
open Go.Sort Go.RowKit in
theorem Tryz.slices_Sort_int (blk off cap:Nat)(zs:List Int)(w:World)(hH:Holds (Value.int .i64) w blk off zs.toArray)(hblk:blk < w.heap.size)(hsz:zs.length < 4611686018427387904) :
  Calls Tryz.prog 237 #[.slice (some ⟨blk,off,none⟩) zs.length cap] w fun e w' =>
   e=.returned (.tuple #[])∧∃n os,w'=grow (putRow (Value.int .i64) (Sort.ahead w n) blk off (zs.mergeSort fun x y=>decide (x≤y)).toArray) os:=Any.slices_Sort_int Tryz.lays189 blk off cap zs w hH hblk hsz
def Tryz.qb4:Go.Shelf.Ren:=⟨fun | 20=>238 | n=>n,fun | 22=>38 | 3=>3 | 4=>4 | 0=>0 | n=>n,fun | n=>n⟩
theorem Tryz.qbq:Go.Proofs.Lays2.n20 Tryz.prog Tryz.qb4:={
 mixed:=by kernel_rfl
 f20:=Tryz.func238.trans (congrArg some (by kernel_rfl))
 t0:=Tryz.underlying0
 a0:=Tryz.isAgg0
 z0:=Tryz.sizeOf0
 v0:=Tryz.zeroValue0
 t3:=Tryz.underlying3
 a3:=Tryz.isAgg3
 z3:=Tryz.sizeOf3
 v3:=Tryz.zeroValue3
 t4:=Tryz.underlying4
 a4:=Tryz.isAgg4
 z4:=Tryz.sizeOf4
 v4:=Tryz.zeroValue4
 t22:=Tryz.underlying38
 a22:=Tryz.isAgg38
 z22:=Tryz.sizeOf38
 v22:=Tryz.zeroValue38
 i3:=by kernel_rfl }
open Go.RowKit Go.Lib Go.Sort in
theorem Tryz.slices_Compact_int (blk off cap:Nat)(zs:List Int)(w:World)(hH:Holds (Value.int .i64) w blk off zs.toArray)(hsz:zs.length≤9223372036854775807)(hcap:zs.length≤cap) :
  Calls Tryz.prog 238 #[.slice (some ⟨blk,off,none⟩) zs.length cap] w fun e w'=>e=.returned (.slice (some ⟨blk,off,none⟩) (Lib.compact zs).length cap)∧∃q,w'=putRow (Value.int .i64) (Sort.ahead w q) blk off (Lib.compact zs++List.replicate (zs.length - (Lib.compact zs).length) 0).toArray:=Any.slices_Compact_int Tryz.qbq blk off cap zs w hH hsz hcap
open Go.RowKit Go.Lib Go.Sort in
theorem Tryz.slices_Compact_int_empty (a:Option Addr)(cap:Nat)(w:World) :
  Calls Tryz.prog 238 #[.slice a 0 cap] w fun e w'=>e=.returned (.slice a 0 cap)∧w'=w:=Any.slices_Compact_int_empty Tryz.qbq a cap w
def Tryz.qb5:Go.Shelf.Ren:=⟨fun | 25=>127 | 31=>181 | 32=>182 | 37=>239 | n=>n,fun | 22=>38 | 3=>3 | 4=>4 | 40=>116 | 0=>0 | n=>n,fun | n=>n⟩
theorem Tryz.qbr:Go.Proofs.Lays2.n25 Tryz.prog Tryz.qb5:={
 mixed:=by kernel_rfl
 f25:=Tryz.func127.trans (congrArg some (by kernel_rfl))
 f31:=Tryz.func181.trans (congrArg some (by kernel_rfl))
 f32:=Tryz.func182.trans (congrArg some (by kernel_rfl))
 f37:=Tryz.func239.trans (congrArg some (by kernel_rfl))
 t0:=Tryz.underlying0
 a0:=Tryz.isAgg0
 z0:=Tryz.sizeOf0
 v0:=Tryz.zeroValue0
 t3:=Tryz.underlying3
 a3:=Tryz.isAgg3
 z3:=Tryz.sizeOf3
 v3:=Tryz.zeroValue3
 t4:=Tryz.underlying4
 a4:=Tryz.isAgg4
 z4:=Tryz.sizeOf4
 v4:=Tryz.zeroValue4
 t22:=Tryz.underlying38
 a22:=Tryz.isAgg38
 z22:=Tryz.sizeOf38
 v22:=Tryz.zeroValue38
 t40:=Tryz.underlying116
 a40:=Tryz.isAgg116
 z40:=Tryz.sizeOf116
 v40:=Tryz.zeroValue116 }
open Go.RowKit Go.Lib in
theorem Tryz.slices_BinarySearch_int (b off n c:Nat)(zs:List Int)(x:Int)(w:World)(hz:n≤zs.length)(hbig:n < 4611686018427387904)(hc:∀j,j < zs.length→w.cell? ⟨b,off + j,none⟩=some (.int .i64 (zs.getD j 0)))(hs:(zs.take n).Pairwise (·≤·)) :
  Calls Tryz.prog 127 #[.slice (some ⟨b,off,none⟩) n c,.int .i64 x] w fun e w'=>e=.returned (.tuple #[.int .i64 ((zs.take n).countP (· < x):Nat),.bool ((zs.take n).contains x)])∧∃q,w'=w.drewN q:=Any.slices_BinarySearch_int Tryz.qbr b off n c zs x w hz hbig hc hs
open Go.RowKit Go.Sort in
theorem Tryz.slices_Sort_int_none (p:Option Addr)(cap:Nat)(w:World) :
  Calls Tryz.prog 237 #[.slice p 0 cap] w fun e w'=>e=.returned (.tuple #[])∧w'=w:=Any.slices_Sort_int_none Tryz.lays189 p cap w
open Go.RowKit Go.Lib in
theorem Tryz.slices_BinarySearch_int_empty (a:Option Addr)(c:Nat)(x:Int)(w:World) :
  Calls Tryz.prog 127 #[.slice a 0 c,.int .i64 x] w fun e w'=>e=.returned (.tuple #[.int .i64 0,.bool false])∧w'=w:=Any.slices_BinarySearch_int_empty Tryz.qbr a c x w
end F
namespace F
open S (qfw)
open Go.RowKit
variable {tq:Nat} {isV:Int→Bool}
def q91 (x:Int):Value:=.int .i64 x
def q1x (w:World)(a:Option Addr)(l:List Int):Prop:=∀(i:Nat) (x:Int),l[i]?=some x→∃b off,a=some ⟨b,off,none⟩∧w.cell? ⟨b,off + i,none⟩=some (.int .i64 x)
def q5t (w:World)(a:Option Addr)(vs:List Value):Prop:=∀(i:Nat) (u:Value),vs[i]?=some u→∃b off,a=some ⟨b,off,none⟩∧w.cell? ⟨b,off + i,none⟩=some u
theorem q78 {W:World}{base:Nat}{e:TypeId}{size:Nat}{v:Value}{n:Nat}{xs:List Value}(h:W.ownsRow base e size v n xs):∃a c,v=.slice a n c∧n≤c∧q5t W a xs∧∀g,v.ownBlock=some g→base≤g:=by
 rcases h.2 with ⟨rfl,rfl⟩ | ⟨g,cap,cur,rfl,hg,hh,hn,hc,hsz,ht⟩
 ·exact⟨_,_,rfl,Nat.le_refl _,fun i u hi=>by
   have:=h.1
   rw[Nat.zero_mul] at this
   rw[List.eq_nil_of_length_eq_zero this] at hi
   simp at hi,fun g e=>by cases e⟩
 ·refine⟨_,_,rfl,hn,fun i u hi=>⟨g,0,rfl,?_⟩,fun g e=>by cases e;exact hg⟩
  have hlt:i < n * size:=by have:=h.1;have:=(List.getElem?_eq_some_iff.1 hi).1;omega
  have:cur[i]?=some u:=by
   rw[←ht,List.getElem?_take,if_pos hlt] at hi
   simpa using hi
  rw[Nat.zero_add]
  simp[World.cell?,hh,this]
theorem q5t.ints {w:World}{a:Option Addr}{l:List Int}(h:q5t w a (l.map q91)):q1x w a l:=fun i x hi=>h i (q91 x) (by rw[List.getElem?_map,hi];rfl)
theorem q1x.row {w:World}{a:Option Addr}{l:List Int}(h:q1x w a l):q5t w a (l.map q91):=fun i u hi=>by
 rw[List.getElem?_map] at hi
 obtain⟨x,hx,rfl⟩:=Option.map_eq_some_iff.1 hi
 exact h i x hx
theorem q5t.under {w w':World}{a:Option Addr}{vs:List Value}(h:q5t w a vs)(hb:Below w.heap.size w w'):q5t w' a vs:=fun i u hi=>by
 obtain⟨b,off,e,hc⟩:=h i u hi
 exact⟨b,off,e,(hb.cell (p:=⟨b,off + i,none⟩) (World.block_lt_of_cell? _ _ hc)).trans hc⟩
theorem q1x.under {w w':World}{a:Option Addr}{l:List Int}(h:q1x w a l)(hb:Below w.heap.size w w'):q1x w' a l:=fun i x hi=>by
 obtain⟨b,off,e,hc⟩:=h i x hi
 exact⟨b,off,e,(hb.cell (p:=⟨b,off + i,none⟩) (World.block_lt_of_cell? _ _ hc)).trans hc⟩
theorem q5t.news {w:World}{a:Option Addr}{vs:List Value}(h:q5t w a vs):∀(j:Nat) (u:Value),vs[j]?=some u→∃ad,a=some ad∧w.cell? (ad.add j)=some u:=fun j u hu=>by
 obtain⟨b,off,rfl,hc⟩:=h j u hu
 exact⟨_,rfl,by rw[←hc];unfold Addr.add;split <;> simp_all⟩
theorem infoI:(Tryz.prog.info? 3).map (fun i=>(i.zero,i.size,i.bytes))=some (some (.int .i64 0),1,8):=by kernel_rfl
theorem q6k:∀{a b:List Int},a.Pairwise (· < ·)→b.Pairwise (· < ·)→(∀x,x ∈ a↔x ∈ b)→a=b
 | [],[],_,_,_=>rfl
 | [],y :: b,_,_,h=>by have:=(h y).2 (by simp);simp at this
 | x :: a,[],_,_,h=>by have:=(h x).1 (by simp);simp at this
 | x :: a,y :: b,ha,hb,h=>by
  obtain⟨a1,a2⟩:=List.pairwise_cons.1 ha
  obtain⟨b1,b2⟩:=List.pairwise_cons.1 hb
  have hxy:x=y:=by
   have h1:=(h x).1 (by simp)
   have h2:=(h y).2 (by simp)
   rcases List.mem_cons.1 h1 with e | h1
   ·exact e
   ·rcases List.mem_cons.1 h2 with e | h2
    ·exact e.symm
    ·have:=b1 x h1
     have:=a1 y h2
     omega
  subst hxy
  rw[q6k a2 b2 fun z=>?_]
  constructor
  ·intro hz
   have:=(h z).1 (List.mem_cons_of_mem _ hz)
   rcases List.mem_cons.1 this with e | h3
   ·subst e
    have:=a1 z hz
    omega
   ·exact h3
  ·intro hz
   have:=(h z).2 (List.mem_cons_of_mem _ hz)
   rcases List.mem_cons.1 this with e | h3
   ·subst e
    have:=b1 z hz
    omega
   ·exact h3
theorem q9s {l:List Int}(hs:l.Pairwise (·≤·)):∀m,m≤l.length→(Lib.compactUpTo l.toArray m).Pairwise (· < ·)∧∀x,x ∈ Lib.compactUpTo l.toArray m↔x ∈ l.take m
 | 0,_=>⟨by simp[Lib.compactUpTo],fun x=>by simp[Lib.compactUpTo]⟩
 | m + 1,hm=>by
  obtain⟨h1,h2⟩:=q9s hs m (by omega)
  have hlt:m < l.length:=by omega
  have hget:l.toArray[m]! = l[m]:=by rw[getElem!_pos l.toArray m (by simpa using hlt)];simp
  have htk:l.take (m + 1)=l.take m++[l[m]]:=by rw[List.take_add_one,List.getElem?_eq_getElem hlt];rfl
  rw[Lib.compactUpTo_succ]
  by_cases hk:Lib.keeps l.toArray m
  ·rw[if_pos hk,hget,htk]
   refine⟨List.pairwise_append.2 ⟨h1,List.pairwise_singleton _ _,fun x hx y hy=>?_⟩,fun x=>by rw[List.mem_append,List.mem_append,h2]⟩
   rw[List.mem_singleton.1 hy]
   have hx':=(h2 x).1 hx
   obtain⟨i,hi⟩:=List.getElem?_of_mem hx'
   obtain⟨hil,hie⟩:=List.getElem?_eq_some_iff.1 hi
   rw[List.length_take] at hil
   have him:i < m:=by omega
   rw[List.getElem_take] at hie
   have hp:=List.pairwise_iff_getElem.1 hs
   simp only[Lib.keeps,decide_eq_true_eq] at hk
   rcases hk with h0 | h0
   ·omega
   ·have hm1:l.toArray[m - 1]! = l[m - 1]:=by rw[getElem!_pos l.toArray (m - 1) (by simp;omega)];simp
    rw[hget,hm1] at h0
    have q1:l[m - 1]≤l[m]:=hp (m - 1) m (by omega) hlt (by omega)
    have q2:l[i]≤l[m - 1]:=by
     rcases Nat.lt_or_ge i (m - 1) with h3 | h3
     ·exact hp i (m - 1) (by omega) (by omega) h3
     ·have:i=m - 1:=by omega
      subst this
      omega
    rw[hie] at q2
    omega
  ·rw[if_neg hk,List.append_nil,htk]
   refine⟨h1,fun x=>?_⟩
   rw[h2,List.mem_append,List.mem_singleton]
   simp only[Lib.keeps,decide_eq_true_eq,not_or,Classical.not_not] at hk
   have hm1:l.toArray[m - 1]! = l[m - 1]:=by rw[getElem!_pos l.toArray (m - 1) (by simp;omega)];simp
   rw[hget,hm1] at hk
   constructor
   ·exact .inl
   ·rintro (h | h)
    ·exact h
    ·rw[h,hk.2]
     exact List.mem_take_iff_getElem.2 ⟨m - 1,by omega,rfl⟩
theorem q4o {l:List Int}(hs:l.Pairwise (·≤·)):(Lib.compact l).Pairwise (· < ·)∧∀x,x ∈ Lib.compact l↔x ∈ l:=by
 have:=q9s hs l.length (Nat.le_refl _)
 rw[List.take_of_length_le (Nat.le_refl _)] at this
 exact this
theorem q36 (zs:List Int):(Lib.compact zs).length≤zs.length:=by
 unfold Lib.compact Lib.compactUpTo
 rw[List.length_map]
 have:=List.length_filter_le (Lib.keeps zs.toArray) (List.range zs.length)
 simpa using this
theorem q86 (l:List Int):(l.mergeSort fun x y=>decide (x≤y)).Pairwise (·≤·):=(List.pairwise_mergeSort (le:=fun (x y:Int)=>decide (x≤y)) (fun a b c h1 h2=>by
  have:=of_decide_eq_true h1
  have:=of_decide_eq_true h2
  exact decide_eq_true (by omega)) (fun a b=>by
   by_cases h:a≤b
   ·simp[h]
   ·have:b≤a:=by omega
    simp[this]) l).imp fun h=>of_decide_eq_true h
theorem qgq {w:World}{g m B:Nat}{d:Array Int}{os:Array Obj}(hB:B≤g)(hg:g < w.heap.size):Below B w (Sort.grow (Sort.putRow (Value.int .i64) (Sort.ahead w m) g 0 d) os):=by
 refine⟨rfl,rfl,rfl,?_,fun k hk=>?_⟩
 ·unfold Sort.putRow Sort.mapBlock Sort.grow Sort.ahead
  simp
 ·have hkg:k≠g:=by omega
  have hkl:k < w.heap.size:=by omega
  unfold Sort.putRow Sort.mapBlock Sort.grow Sort.ahead
  simp only[Array.getElem?_append,Array.size_modify,hkl,if_true]
  rw[Array.getElem?_modify,if_neg (fun e=>hkg e.symm)]
theorem qkc {w:World}{g m B:Nat}{d:Array Int}(hB:B≤g):Below B w (Sort.putRow (Value.int .i64) (Sort.ahead w m) g 0 d):=by
 refine⟨rfl,rfl,rfl,?_,fun k hk=>?_⟩
 ·unfold Sort.putRow Sort.mapBlock Sort.ahead
  simp
 ·have hkg:k≠g:=by omega
  unfold Sort.putRow Sort.mapBlock Sort.ahead
  rw[Array.getElem?_modify,if_neg (fun e=>hkg e.symm)]
theorem jo {W:World}{base e size:Nat}{v:Value}{n:Nat}{xs:List Value}(h:W.ownsRow base e size v n xs):∀g,v.ownBlock=some g→g < W.heap.size:=by
 intro g hg
 rcases h.2 with ⟨rfl,_⟩ | ⟨g',cap,cur,rfl,_,hh,_⟩
 ·simp[Value.ownBlock] at hg
 ·have e':g'=g:=by simpa [Value.ownBlock] using hg
  subst e'
  exact (Array.getElem?_eq_some_iff.1 hh).1
theorem q8o (w:World)(base n g cap:Nat)(l:List Int)(hl:l.length=n)(hn:n≤17592186043904)(h:w.ownsRow base 3 1 (.slice (some ⟨g,0,none⟩) n cap) n (l.map q91)) :
  Calls Tryz.prog 237 #[.slice (some ⟨g,0,none⟩) n cap] w fun e w'=>e=.returned (.tuple #[])∧Below base w w'∧g < w'.heap.size∧Sort.Holds (Value.int .i64) w' g 0 (l.mergeSort fun x y=>decide (x≤y)).toArray:=by
 have hperm:(l.mergeSort fun x y=>decide (x≤y)).Perm l:=List.mergeSort_perm _ _
 have hblk:g < w.heap.size:=jo h g rfl
 have hbg:base≤g:=qfw h g rfl
 rcases h.2 with ⟨e0,h0⟩ | ⟨g',cap',cur,ev,hg,hh,hnc,hcm,hsz,htk⟩
 ·cases e0
 cases ev
 obtain⟨a0,c0,hv0,_,hrow,_⟩:=q78 h
 cases hv0
 have hfz:∀j,w.frozen? ⟨g,j,none⟩=false:=fun j=>by simp[World.frozen?,hh]
 have hH:Sort.Holds (Value.int .i64) w g 0 l.toArray:=fun j hj=>by
  have hj':j < l.length:=by simpa using hj
  obtain⟨b,off,e,hc⟩:=hrow.ints j l[j] (List.getElem?_eq_getElem hj')
  cases e
  exact⟨by rw[hc];congr 2;rw[getElem!_pos l.toArray j hj];simp,by rw[Nat.zero_add];exact hfz j⟩
 have hcon:=Tryz.slices_Sort_int g 0 cap l w hH hblk (by omega)
 rw[hl] at hcon
 refine hcon.mono fun e w' ⟨he,m,os,hw⟩=>?_
 subst hw
 have hs2:(l.mergeSort fun x y=>decide (x≤y)).toArray.size=l.toArray.size:=by simp[hperm.length_eq]
 have h1:=Sort.holds_putRow (Value.int .i64) (Sort.ahead w m) g 0 l.toArray _ (by exact hH) hs2
 have h2:=Sort.holds_grow (Value.int .i64) _ os g 0 _ (by simpa [Sort.putRow,Sort.mapBlock,Sort.ahead] using hblk) h1
 have hb:Below base w _:=qgq (m:=m) (d:=(l.mergeSort fun x y=>decide (x≤y)).toArray) (os:=os) hbg hblk
 exact⟨he,hb,Nat.lt_of_lt_of_le hblk hb.size,h2⟩
theorem q5u (w:World)(base n g cap:Nat)(zs:List Int)(hl:zs.length=n)(hn:n≤17592186043904)(hcap:n≤cap)(hbg:base≤g)(hH:Sort.Holds (Value.int .i64) w g 0 zs.toArray) :
  Calls Tryz.prog 238 #[.slice (some ⟨g,0,none⟩) n cap] w fun e w'=>e=.returned (.slice (some ⟨g,0,none⟩) (Lib.compact zs).length cap)∧Below base w w'∧q1x w' (some ⟨g,0,none⟩) (Lib.compact zs):=by
 have hcon:=Tryz.slices_Compact_int g 0 cap zs w hH (by omega) (by omega)
 rw[hl] at hcon
 refine hcon.mono fun e w' ⟨he,q,hw⟩=>?_
 subst hw
 refine⟨he,qkc hbg,fun i x hi=>⟨g,0,rfl,?_⟩⟩
 have hle:(Lib.compact zs).length≤zs.length:=q36 zs
 have hilt:i < (Lib.compact zs).length:=(List.getElem?_eq_some_iff.1 hi).1
 have h1:=Sort.holds_putRow (Value.int .i64) (Sort.ahead w q) g 0 zs.toArray (Lib.compact zs++List.replicate (n - (Lib.compact zs).length) 0).toArray (by exact hH) (by simp;omega)
 have h2:=(h1 i (by simp;omega)).1
 rw[h2,getElem!_pos _ i (by simp;omega)]
 congr 2
 have h3:=(List.getElem?_eq_some_iff.1 hi).2
 simp[List.getElem_append_left hilt,h3]
end F
namespace F
variable {tq:Nat} {isV:Int→Bool}
abbrev Pr:=Int × Int
def ltP (p q:Pr):Prop:=p.1 < q.1∨(p.1=q.1∧p.2 < q.2)
instance (p q:Pr):Decidable (ltP p q):=by unfold ltP;infer_instance
theorem q5c (p:Pr):¬ltP p p:=by unfold ltP;omega
theorem qbs {p q r:Pr}(h:ltP p q)(g:ltP q r):ltP p r:=by unfold ltP at *;omega
theorem qbt {p q:Pr}(h:p≠q):ltP p q∨ltP q p:=by
 unfold ltP
 by_cases h1:p.1=q.1
 ·have h2:p.2≠q.2:=fun e=>h (Prod.ext h1 e)
  omega
 ·omega
theorem qkd {p q:Pr}(h:ltP p q):¬ltP q p:=by unfold ltP at *;omega
abbrev Up (l:List Pr):Prop:=l.Pairwise ltP
theorem up_eq:∀{l m:List Pr},Up l→Up m→(∀p,p ∈ l↔p ∈ m)→l=m
 | [],[],_,_,_=>rfl
 | [],q :: m,_,_,h=>absurd ((h q).2 (by simp)) (by simp)
 | p :: l,[],_,_,h=>absurd ((h p).1 (by simp)) (by simp)
 | p :: l,q :: m,h1,h2,h=>by
  obtain⟨a1,a2⟩:=List.pairwise_cons.1 h1
  obtain⟨b1,b2⟩:=List.pairwise_cons.1 h2
  have e:p=q:=by
   rcases List.mem_cons.1 ((h p).1 (by simp)) with e | hp
   ·exact e
   ·rcases List.mem_cons.1 ((h q).2 (by simp)) with e | hq
    ·exact e.symm
    ·exact absurd (a1 q hq) (qkd (b1 p hp))
  subst e
  rw[up_eq a2 b2 fun x=>?_]
  constructor
  ·intro hx
   rcases List.mem_cons.1 ((h x).1 (by simp[hx])) with e | h'
   ·subst e;exact absurd (a1 x hx) (q5c x)
   ·exact h'
  ·intro hx
   rcases List.mem_cons.1 ((h x).2 (by simp[hx])) with e | h'
   ·subst e;exact absurd (b1 x hx) (q5c x)
   ·exact h'
def jy (p:Pr):Pr:=(min p.1 p.2,max p.1 p.2)
def inN (l:List Pr)(p:Pr):Prop:=p.1 < p.2∧∃q ∈ l,jy q=p
structure q38 (l m:List Pr):Prop where
 up:Up m
 mem:∀p,p ∈ m↔inN l p
theorem qmx {l m m':List Pr}(h:q38 l m)(h':q38 l m'):m=m':=up_eq h.up h'.up fun p=>(h.mem p).trans (h'.mem p).symm
theorem qmy {l:List Pr}(h:Up l):l.Nodup:=h.imp fun {a b} hab e=>by subst e;exact q5c a hab
theorem q79 {α:Type}[DecidableEq α]:∀{l m:List α},l.Nodup→(∀x ∈ l,x ∈ m)→l.length≤m.length
 | [],_,_,_=>Nat.zero_le _
 | a :: l,m,h,hs=>by
  obtain⟨h1,h2⟩:=List.nodup_cons.1 h
  have ha:a ∈ m:=hs a (by simp)
  have:=q79 (m:=m.erase a) h2 fun x hx=>by
   have hne:x≠a:=fun e=>h1 (e ▸ hx)
   exact (List.mem_erase_of_ne hne).2 (hs x (by simp[hx]))
  rw[List.length_erase_of_mem ha] at this
  have hpos:0 < m.length:=List.length_pos_of_mem ha
  simp only[List.length_cons]
  omega
end F
namespace F
open Go.RowKit Go.Shelf
variable {tq:Nat} {isV:Int→Bool}
theorem collect_in (F:Fence) (n:Nat) (h43:F.fn 292) (h51:F.fn 302) (hro:F.round=none) (hn:3≤n) (g:Nat) (lb:Array Value) (hFg:F.fn g) (eg:∀args w,(callFunc g args).run Tryz.prog w=.ok (.enter g args) w) (zs:List Int) (hlen:zs.length≤17592186043904) (w:World)
  (hseq:SeqStopsK F (n - 1 - 1) Tryz.prog g lb (fun x:Int=>#[Value.int .i64 x]) (Below w.heap.size) (fun ys=>ys=zs) (fun pre=>pre <+: zs) zs.length (w.alloc (.cells #[.slice none 0 0] 38))) :
  CallsIn F n Tryz.prog  292 #[.func (.func g) #[] lb] w fun e W'=>∃v,e=.returned v∧W'.ownsRow w.heap.size 3 1 v zs.length (zs.map (Value.int .i64))∧Below w.heap.size w W':=by
 refine callsIn_of_wp Tryz.func292 rfl h43 ?_ hro
 simp only[Tryz.ntmps292,List.size_toArray,List.length_cons,List.length_nil,Nat.reduceAdd,Nat.reduceSub,Array.replicate_succ,Array.replicate_zero,List.push_toArray,List.append_toArray,List.nil_append,List.cons_append]
 have h1:1≤n:=by omega
 gi_wp2_with (gi_at_call 302;refine (qgp F (n - 1) h51 hro (by omega) g lb hFg eg zs hlen _ hseq).mono ?_;rintro e w' ⟨v,rfl,hrow,hb⟩)
 go_ret
 exact⟨v,rfl,hrow,hb⟩
structure q87 (l m:List Int):Prop where
 up:m.Pairwise (· < ·)
 mem:∀x,x ∈ m↔x ∈ l
 len:m.length≤l.length
theorem qcy (a:Option Addr)(len cap:Nat)(w:World):Calls Tryz.prog 272 #[.slice a len cap] w fun e w'=>e=.returned (.func (.func 293) #[] #[.pointer (some ⟨w.heap.size,0,none⟩)])∧w'=w.alloc (.cells #[.slice a len cap] 38) :=
 (callsIn_wide (n:=9)).1 (values_in Fence.wide 9 trivial rfl a len cap w)
theorem qb6 (a:Option Addr)(c:Nat)(zs:List Int)(hlen:zs.length≤17592186043904)(w0:World)(hI:q1x w0 a zs)(w:World)(hw:w=w0.alloc (.cells #[.slice a zs.length c] 38)) :
  Calls Tryz.prog 292 #[.func (.func 293) #[] #[.pointer (some ⟨w0.heap.size,0,none⟩)]] w fun e W'=>∃v,e=.returned v∧W'.ownsRow w.heap.size 3 1 v zs.length (zs.map (Value.int .i64))∧Below w.heap.size w W':=by
 refine (callsIn_wide (n:=9)).1 (collect_in Fence.wide 9 trivial trivial rfl (by omega) 293 _ trivial (enters_of Tryz.func293 (by kernel_rfl) rfl) zs hlen w ?_)
 have hs:w.heap.size=w0.heap.size + 1:=by rw[hw];simp
 have hb:Below w0.heap.size w0 (w.alloc (.cells #[.slice none 0 0] 38)):=by rw[hw];exact ((Below.refl _ _).alloc (Nat.le_refl _) _).alloc (by simp) _
 refine values_stops Fence.wide _ trivial rfl (by omega) w0.heap.size w.heap.size a c zs (by omega) _ (by simp;omega) (by simp) ?_ ?_
 ·rw[World.cell?_of_block (w:=w) (a:=⟨w0.heap.size,0,none⟩) (Below.heap_alloc w _ w0.heap.size (by omega)),hw]
  exact World.cell?_alloc_new w0 _ _ 0
 ·intro i x hi
  obtain⟨b,off,e,hc⟩:=hI i x hi
  have hlt:=World.block_lt_of_cell? _ _ hc
  exact⟨b,off,e,by simp at hlt;omega,(hb.cell (p:=⟨b,off + i,none⟩) hlt).trans hc⟩
theorem qgr (a:Option Addr)(c:Nat)(zs:List Int)(n:Nat)(hn:zs.length=n)(hlen:n≤17592186043904)(w0:World)(hI:q1x w0 a zs) :
  Calls Tryz.prog 271 #[.func (.func 293) #[] #[.pointer (some ⟨w0.heap.size,0,none⟩)]] (w0.alloc (.cells #[.slice a n c] 38)) fun e w'=>Below w0.heap.size w0 w'∧∃a2 c2,e=.returned (.slice a2 n c2)∧n≤c2 ∧
   ((n=0)∨∃g,a2=some ⟨g,0,none⟩∧w0.heap.size≤g∧Sort.Holds (Value.int .i64) w' g 0 (zs.mergeSort fun x y=>decide (x≤y)).toArray):=by
 obtain⟨w,hw⟩:∃w,w=w0.alloc (.cells #[.slice a n c] 38):=⟨_,rfl⟩
 have hb0:Below w0.heap.size w0 w:=by rw[hw];exact (Below.refl _ _).alloc (Nat.le_refl _) _
 have C:Hid _:=qb6 a c zs (by omega) w0 hI w (by rw[hw,hn])
 have HB0:Hid (Below w0.heap.size w0 w):=hb0
 have HN:Hid (zs.length=n):=hn
 rw[←hw]
 clear hw hb0 hI hn
 go_enter Tryz.func271,Tryz.ntmps271
 go_wp2_with fail
 refine Calls.mono C.out ?_
 rintro e w1 ⟨v,rfl,ho,hb1⟩
 rw[HN.out] at ho
 have HB1:Hid (Below w0.heap.size w0 w1):=HB0.out.trans (hb1.mono HB0.out.size)
 have hs0:w0.heap.size≤w.heap.size:=HB0.out.size
 by_cases h0:n=0
 ·subst h0
  obtain⟨a2,c2,rfl,_,_,_⟩:=q78 ho
  have S0:Hid _:=Tryz.slices_Sort_int_none a2 c2 w1
  clear C ho hb1
  go_wp2_with fail
  refine Calls.mono S0.out ?_
  rintro e w2 ⟨rfl,hw2⟩
  subst w2
  clear S0
  go_wp2
  go_ret
  first | exact⟨HB1.out,a2,c2,rfl⟩ | exact⟨HB1.out,a2,c2,rfl,Nat.zero_le _,.inl rfl⟩
 ·obtain⟨g,cap,ev,hg,_⟩:=ho.form (by omega)
  subst ev
  obtain⟨_,_,e1,hcap,_,_⟩:=q78 ho
  cases e1
  have S1:Hid _:=q8o w1 w.heap.size n g cap zs HN.out hlen ho
  clear C ho hb1
  go_wp2_with fail
  refine Calls.mono S1.out ?_
  rintro e w2 ⟨rfl,hb2,_,hH⟩
  have HB2:Hid (Below w0.heap.size w0 w2):=HB1.out.trans (hb2.mono hs0)
  have HH:Hid (Sort.Holds (Value.int .i64) w2 g 0 (zs.mergeSort fun x y=>decide (x≤y)).toArray):=hH
  clear S1 hb2 hH
  go_wp2
  go_ret
  exact⟨HB2.out,_,_,rfl,hcap,.inr ⟨g,rfl,by omega,HH.out⟩⟩
theorem qef (w:World)(a:Option Addr)(c:Nat)(l:List Int)(n:Nat)(hl:l.length=n)(hn:n≤17592186043904)(h:q1x w a l) :
  Calls Tryz.prog 253 #[.slice a n c] w fun e w'=>Below w.heap.size w w'∧∃a2 c2 m,e=.returned (.slice a2 m.length c2)∧q1x w' a2 m∧m.length≤c2∧q87 l m:=by
 have V:Hid _:=qcy a n c w
 have S:Hid _:=qgr a c l n hl hn w h
 have HL:Hid (l.length=n):=hl
 clear hl h
 go_enter Tryz.func253,Tryz.ntmps253
 go_wp2_with fail
 refine Calls.mono V.out ?_
 rintro e w1 ⟨rfl,hw1⟩
 subst hw1
 go_wp2_with fail
 refine Calls.mono S.out ?_
 rintro e w2 ⟨hb2,a2,c2,rfl,hc2,hd⟩
 have HB2:Hid (Below w.heap.size w w2):=hb2
 clear V S hb2
 rcases hd with h0 | ⟨g,rfl,hg,hH⟩
 ·subst h0
  have C0:Hid _:=Tryz.slices_Compact_int_empty a2 c2 w2
  go_wp2_with fail
  refine Calls.mono C0.out ?_
  rintro e w3 ⟨rfl,hw3⟩
  subst w3
  clear C0
  go_wp2
  go_ret
  have he:l=[]:=List.eq_nil_of_length_eq_zero HL.out
  refine⟨HB2.out,a2,c2,[],rfl,fun i x hi=>by simp at hi,Nat.zero_le _,⟨List.Pairwise.nil,by simp[he],by simp⟩⟩
 ·have hperm:(l.mergeSort fun x y=>decide (x≤y)).Perm l:=List.mergeSort_perm _ _
  have hml:(l.mergeSort fun x y=>decide (x≤y)).length=n:=by rw[hperm.length_eq,HL.out]
  have C1:Hid _:=q5u w2 w.heap.size n g c2 (l.mergeSort fun x y=>decide (x≤y)) hml hn hc2 hg hH
  have HO:Hid (q87 l (Lib.compact (l.mergeSort fun x y=>decide (x≤y)))):=by
   obtain⟨h1,h2⟩:=q4o (q86 l)
   exact⟨h1,fun x=>(h2 x).trans hperm.mem_iff,by have:=q36 (l.mergeSort fun x y=>decide (x≤y));rw[hml] at this;rw[HL.out];exact this⟩
  have hle:=q36 (l.mergeSort fun x y=>decide (x≤y))
  rw[hml] at hle
  generalize Lib.compact (l.mergeSort fun x y=>decide (x≤y))=m at *
  clear hH hperm
  go_wp2_with fail
  refine Calls.mono C1.out ?_
  rintro e w3 ⟨rfl,hb3,hI3⟩
  have HB3:Hid (Below w.heap.size w w3):=HB2.out.trans hb3
  have HI3:Hid (q1x w3 (some ⟨g,0,none⟩) m):=hI3
  clear C1 hb3 hI3
  go_wp2
  go_ret
  exact⟨HB3.out,_,_,m,rfl,HI3.out,by omega,HO.out⟩
end F
namespace F
open S (qm)
open Go.RowKit
variable {tq:Nat} {isV:Int→Bool}
structure q39 (l m:List Int):Prop where
 up:m.Pairwise (· < ·)
 mem:∀x,x ∈ m↔x ∈ l∧isV x=true
 le:m.length≤l.length
theorem qke (w:World)(a:Option Addr)(n c:Nat)(l:List Int)(hl:l.length=n)(hn:n≤17592186043904)(hA:q1a w a l)(hV:q2w tq isV w) :
  Calls Tryz.prog 180 #[.slice a n c,(q17 tq)] w fun e w'=>Below w.heap.size w w'∧∃a2 c2 m,e=.returned (.slice a2 m.length c2)∧q1a w' a2 m∧m.length≤c2∧q39 (isV:=isV) l m:=by
 obtain⟨iN,hiN,iNz,iNs,iNb⟩:=info_parts q83
 have HA:Hid (q1a w a l):=hA
 have HL:Hid (l.length=n):=hl
 have VA:Hid (q2w tq isV w):=hV
 obtain⟨N,hN⟩:∃N,w.heap.size=N:=⟨_,rfl⟩
 have HN:Hid (w.heap.size=N):=hN
 rw[hN]
 clear hA hl hN hV
 unfold q17
 go_enter Tryz.func180,Tryz.ntmps180
 go_wp2_with fail
 go_loopw [5,10] (fun v5 v10 wx=>∃j k:Nat,j≤n∧k≤j∧v10=.int .i64 j∧Hid (((l.take j).filter isV).length=k)∧Hid (wx.ownsRow N 3 1 v5 k (((l.take j).filter isV).map q91))∧Hid (Below N w wx)) (fun _ v10 _=>n - (intOf v10).toNat)
 case atStart=>exact⟨0,0,Nat.zero_le _,Nat.zero_le _,rfl,rfl,World.ownsRow_nil _ _ _ _,Below.refl _ _⟩
 case round =>
  obtain⟨j,k,hj,hkj,rfl,hK,hO,hB⟩:=hrel
  by_cases hlt:j < n
  ·have n1:(j:Int) < (n:Int):=by omega
   obtain⟨x,hx⟩:∃x,l[j]?=some x:=⟨_,List.getElem?_eq_getElem (by rw[HL.out];exact hlt)⟩
   obtain⟨g,off,rfl,y0⟩:=(HA.out.under (by rw[HN.out];exact hB.out)) j x hx
   have htk:l.take (j + 1)=l.take j++[x]:=by rw[List.take_add_one,hx];rfl
   have V1:Hid _:=VA.out wr x (by rw[HN.out];exact hB.out)
   have HNr:Hid (N≤wr.heap.size):=by have h1:=hB.out.size;have h2:=HN.out;show N≤_;omega
   cases e1:isV x with
   | false =>
    rw[e1] at V1
    have hf:(l.take (j + 1)).filter isV=(l.take j).filter isV:=by rw[htk,List.filter_append];simp[e1]
    have K2:Hid (((l.take (j + 1)).filter isV).length=k):=by show _=_;rw[hf];exact hK.out
    have O2:Hid (wr.ownsRow N 3 1 u5 k (((l.take (j + 1)).filter isV).map q91)):=by show World.ownsRow _ _ _ _ _ _ _;rw[hf];exact hO.out
    clear hf htk hx e1 hO hK
    go_wp2_with fail
    refine Calls.mono V1.out ?_
    rintro e w1 ⟨rfl,hb1⟩
    have O3:Hid (w1.ownsRow N 3 1 u5 k (((l.take (j + 1)).filter isV).map q91)):=S.M.qh O2.out (S.M.Ch.of_below (X:=fun _=>False) hb1) fun _ _ e=>e
    have B1:Hid (Below N w w1):=hB.out.trans (hb1.mono HNr.out)
    clear hb1
    go_wp2
    exact⟨⟨j + 1,k,by omega,by omega,by go_num,K2.out,O3.out,B1.out⟩,by simp[intOf];omega⟩
   | true =>
    rw[e1] at V1
    have hf:(l.take (j + 1)).filter isV=(l.take j).filter isV++[x]:=by rw[htk,List.filter_append];simp[e1]
    have K2:Hid (((l.take (j + 1)).filter isV).length=k + 1):=by show _=_;rw[hf,List.length_append,hK.out];rfl
    have HF:Hid (((l.take (j + 1)).filter isV).map q91=((l.take j).filter isV).map q91++[.int .i64 x]):=by show _=_;rw[hf,List.map_append];rfl
    clear hf htk hx e1 hK
    go_wp2_with fail
    refine Calls.mono V1.out ?_
    rintro e w1 ⟨rfl,hb1⟩
    have HO1:Hid (w1.ownsRow N 3 1 u5 k (((l.take j).filter isV).map q91)):=S.M.qh hO.out (S.M.Ch.of_below (X:=fun _=>False) hb1) fun _ _ e=>e
    have HB1:Hid (Below N w w1):=hB.out.trans (hb1.mono HNr.out)
    have HN1:Hid (N≤w1.heap.size):=Nat.le_trans HNr.out hb1.size
    clear hb1 hO hB
    go_wp2_with (at_builtin;refine wpList_append_lies (w:=w1.alloc (.cells #[.int .i64 x] 3)) rfl _ _ 38 rfl N 3 iN _ 1 8 Tryz.underlying38 hiN iNz iNs iNb rfl (by decide) _ k (((l.take j).filter isV).map q91) (by rfl) (S.M.zk HO1.out _) ⟨w1.heap.size,0,none⟩ 1 1 [.int .i64 x] (by rfl) (by rfl) (World.news_of_block (cs:=#[.int .i64 x]) (t:=3) (fr:=(0,0)) (heap_alloc_new w1 _)) (by simp[Value.oneCell']) (by omega) (by unfold maxLen;omega) (by omega) (Nat.le_trans HN1.out (qo w1 _).size) _ rfl ?_;intro gg cap' w8 hown8 hgrow hat hlt8;have O8:Hid (w8.ownsRow N 3 1 (.slice (some ⟨gg,0,none⟩) (k + 1) cap') (k + 1) (((l.take (j + 1)).filter isV).map q91)):=(by show World.ownsRow _ _ _ _ _ _ _;rw[HF.out];exact hown8);have B8:Hid (Below N w w8):=HB1.out.trans (((Below.refl _ w1).alloc HN1.out _).trans ((Below.refl _ _).grown hgrow (Nat.le_trans HN1.out (qo w1 _).size) (S.M.zf HO1.out)));clear hown8 hgrow hat hlt8)
    exact⟨⟨j + 1,k + 1,by omega,by omega,by go_num,K2.out,O8.out,B8.out⟩,by simp[intOf];omega⟩
  ·have n1:¬(j:Int) < (n:Int):=by omega
   have hall:l.take j=l:=List.take_of_length_le (by rw[HL.out];omega)
   have hO2:=hO.out
   have hK2:=hK.out
   rw[hall] at hO2 hK2
   by_cases h0:k=0
   ·subst h0
    obtain⟨a5,c5,rfl,_⟩:=qm hO2
    have S1:Hid _:=Tryz.slices_Sort_int_none a5 c5 wr
    have S2:Hid _:=Tryz.slices_Compact_int_empty a5 c5 wr
    have HV:Hid (q39 (isV:=isV) l []):=by
     have he:l.filter isV=[]:=List.eq_nil_of_length_eq_zero hK2
     refine⟨List.Pairwise.nil,fun x=>⟨(fun h=>by cases h),fun h=>?_⟩,Nat.zero_le _⟩
     have hm:x ∈ l.filter isV:=List.mem_filter.2 h
     rw[he] at hm
     exact hm
    clear hO hO2 hK hK2 hall
    go_wp2_with fail
    refine Calls.mono S1.out ?_
    rintro e wz ⟨rfl,hwz⟩
    subst wz
    go_wp2_with fail
    refine Calls.mono S2.out ?_
    rintro e wz ⟨rfl,hwz⟩
    subst wz
    go_wp2
    go_ret
    exact⟨hB.out,a5,c5,[],rfl,(fun i x hi=>by simp at hi),Nat.zero_le _,HV.out⟩
   ·obtain⟨g,c5,rfl,hc5,hg5,_⟩:=S.M.q0f hO2 (by omega)
    obtain⟨ms,hms⟩:∃ms,(l.filter isV).mergeSort (fun x y=>decide (x≤y))=ms:=⟨_,rfl⟩
    have hperm:ms.Perm (l.filter isV):=by rw[←hms];exact List.mergeSort_perm _ _
    have hml:ms.length=k:=by rw[hperm.length_eq,hK2]
    have S1:Hid _:=q8o wr N k g c5 (l.filter isV) hK2 (by omega) hO2
    rw[hms] at S1
    have HV:Hid (q39 (isV:=isV) l (Lib.compact ms)):=by
     obtain⟨h1,h2⟩:=q4o (q86 (l.filter isV))
     rw[hms] at h1 h2
     refine⟨h1,fun x=>(h2 x).trans (hperm.mem_iff.trans List.mem_filter),?_⟩
     have:=q36 ms
     rw[HL.out];omega
    have hle:=q36 ms
    rw[hml] at hle
    have HM:Hid (ms.length=k):=hml
    clear hO hO2 hK hK2 hall hms hperm hml
    go_wp2_with fail
    refine Calls.mono S1.out ?_
    rintro e w2 ⟨rfl,hb2,_,hH⟩
    have B2:Hid (Below N w w2):=hB.out.trans hb2
    have C1:Hid _:=q5u w2 N k g c5 ms HM.out (by omega) hc5 hg5 hH
    clear S1 hb2 hH hB
    generalize Lib.compact ms=m at *
    go_wp2_with fail
    refine Calls.mono C1.out ?_
    rintro e w3 ⟨rfl,hb3,hI⟩
    have B3:Hid (Below N w w3):=B2.out.trans hb3
    have HI:Hid (q1a w3 (some ⟨g,0,none⟩) m):=hI
    clear C1 hb3 hI
    obtain⟨nm,hnm⟩:∃nm,m.length=nm:=⟨_,rfl⟩
    have HNM:Hid (m.length=nm∧nm≤c5):=⟨hnm,by omega⟩
    rw[hnm]
    clear hnm hle
    go_wp2
    go_ret
    exact⟨B3.out,some ⟨g,0,none⟩,c5,m,by rw[HNM.out.1];rfl,HI.out,by rw[HNM.out.1];exact HNM.out.2,HV.out⟩
theorem q88 (w:World)(a:Option Addr)(n c:Nat)(l:List Int)(hl:l.length=n)(hn:n≤17592186043904)(hA:q1a w a l)(hV:q2w tq isV w) :
  Calls Tryz.prog 126 #[.slice a n c,(q17 tq)] w fun e w'=>Below w.heap.size w w'∧∃a2 c2 m,e=.returned (.slice a2 m.length c2)∧q1a w' a2 m∧m.length≤c2∧q39 (isV:=isV) l m:=by
 have P:Hid _:=qke w a n c l hl hn hA hV
 clear hA hV
 unfold q17 at P ⊢
 go_enter Tryz.func126,Tryz.ntmps126
 go_wp2_with fail
 refine Calls.mono P.out ?_
 rintro e w2 ⟨hb,a2,c2,m,rfl,h1,h2,h3⟩
 have HB:Hid (Below w.heap.size w w2∧q1a w2 a2 m∧m.length≤c2∧q39 (isV:=isV) l m):=⟨hb,h1,h2,h3⟩
 clear hb h1 h2 h3 P
 obtain⟨nm,hnm⟩:∃nm,m.length=nm:=⟨_,rfl⟩
 have HN:Hid (m.length=nm):=hnm
 rw[hnm]
 clear hnm
 go_wp2
 go_ret
 exact⟨HB.out.1,a2,c2,m,by rw[HN.out];rfl,HB.out.2.1,HB.out.2.2.1,HB.out.2.2.2⟩
end F
end Go.Proofs.YtbancemhfjjmlaaGreatDoor
