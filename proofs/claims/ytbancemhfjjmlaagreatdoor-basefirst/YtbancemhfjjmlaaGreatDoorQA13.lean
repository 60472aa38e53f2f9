/- Laid together: FHas, FAll, FFrT, FFrU, FFrW. -/
import Derived.Test.YtbancemhfjjmlaaGreatDoorTk
import Derived.Test.YtbancemhfjjmlaaGreatDoorQA12
import Derived.Laws.StructEq
import Derived.Deep.RegionHeld3
import Derived.Test.YtbancemhfjjmlaaGreatDoorQA11
set_option maxRecDepth 100000
set_option maxHeartbeats 32000000
namespace Go.Proofs.YtbancemhfjjmlaaGreatDoor
namespace F
open Go.RowKit
variable {tq:Nat} {isV:Int→Bool}
def q3b (l:List Pr)(p:Pr):Bool:=l.any fun q=>(jy q).1 == (jy p).1 && (jy q).2 == (jy p).2
theorem qkl {l:List Pr}{j:Nat}{q p:Pr}(h:l[j]?=some q):q3b (l.take (j + 1)) p=(q3b (l.take j) p || ((jy q).1 == (jy p).1 && (jy q).2 == (jy p).2)):=by
 unfold q3b
 rw[List.take_add_one,h,Option.toList_some,List.any_append]
 simp
theorem hasP_at {l:List Pr}{j:Nat}{q p:Pr}(h:l[j]?=some q)(hf:((jy q).1 == (jy p).1 && (jy q).2 == (jy p).2)=true):q3b l p=true:=List.any_eq_true.2 ⟨q,List.mem_of_getElem? h,hf⟩
theorem qik (w:World)(a:Option Addr)(c n:Nat)(l:List Pr)(p:Pr)(hl:l.length=n)(_hn:n≤4611686018427387904)(hA:q1c w a l) :
  Calls Tryz.prog 220 #[.slice a n c,q2c p] w fun e w'=>e=.returned (.bool (q3b l p))∧Below w.heap.size w w':=by
 have HA:Hid (q1c w a l):=hA
 have HL:Hid (l.length=n):=hl
 obtain⟨w1,hw1⟩:∃w1,w1=w.alloc (.cells #[.int .i64 p.1,.int .i64 p.2] 130):=⟨_,rfl⟩
 have HB1:Hid (Below w.heap.size w w1):=by rw[hw1];exact (Below.refl _ _).alloc (Nat.le_refl _) _
 have C0:Hid _:=q6l p w1
 have HTK:Hid (∀(j:Nat) (x y:Int),l[j]?=some (x,y)→q3b (l.take (j + 1)) p=(q3b (l.take j) p || ((jy (x,y)).1 == (jy p).1 && (jy (x,y)).2 == (jy p).2))):=fun j x y h=>qkl h
 have HAT:Hid (∀(j:Nat) (x y:Int),l[j]?=some (x,y)→((jy (x,y)).1 == (jy p).1 && (jy (x,y)).2 == (jy p).2)=true→q3b l p=true):=fun j x y h=>hasP_at h
 have HEN:Hid (∀j,n≤j→q3b (l.take j) p=q3b l p):=fun j h=>by rw[List.take_of_length_le (by rw[HL.out];exact h)]
 have HZ:Hid (q3b (l.take 0) p=false):=rfl
 generalize q3b l p=r at *
 generalize hf:(fun j=>q3b (l.take j) p)=f
 have HTK2:Hid (∀(j:Nat) (x y:Int),l[j]?=some (x,y)→f (j + 1)=(f j || ((jy (x,y)).1 == (jy p).1 && (jy (x,y)).2 == (jy p).2))):=by subst hf;exact HTK
 have HEN2:Hid (∀j,n≤j→f j=r):=by subst hf;exact HEN
 have HZ2:Hid (f 0=false):=by subst hf;exact HZ
 clear hA hl HTK HEN HZ hf
 generalize jy p=tp at *
 obtain⟨p0,p1⟩:=p
 obtain⟨t0,t1⟩:=tp
 unfold q2c at *
 dsimp only at *
 go_enter Tryz.func220,Tryz.ntmps220
 go_wp2_with fail
 rw[←hw1]
 clear hw1
 refine Calls.mono C0.out ?_
 rintro e w2 ⟨rfl,hb2⟩
 obtain⟨w3,hw3⟩:∃w3,w3=w2.alloc (.cells #[.int .i64 t0,.int .i64 t1] 130):=⟨_,rfl⟩
 have HB3:Hid (Below w.heap.size w w3):=by rw[hw3];exact (HB1.out.trans (hb2.mono HB1.out.size)).alloc (Nat.le_trans HB1.out.size hb2.size) _
 have K0:Hid (w3.cell? ⟨w2.heap.size,0,none⟩=some (.int .i64 t0)):=by rw[hw3];exact World.cell?_alloc_new w2 _ _ 0
 have K1:Hid (w3.cell? ⟨w2.heap.size,1,none⟩=some (.int .i64 t1)):=by rw[hw3];exact World.cell?_alloc_new w2 _ _ 1
 have HS3:Hid (w2.heap.size < w3.heap.size):=by rw[hw3];show _ < _;simp
 clear C0 hb2 HB1
 go_wp2_with fail
 rw[←hw3]
 clear hw3
 generalize w2.heap.size=B5 at *
 go_loopw [12] (fun i wx=>∃j:Nat,j≤n∧i=.int .i64 j∧Hid (Below w3.heap.size w3 wx)∧Hid (f j=false)) (fun i _=>n - (intOf i).toNat)
 case atStart=>exact⟨0,Nat.zero_le _,rfl,Below.refl _ _,HZ2.out⟩
 case round =>
  obtain⟨j,hj,rfl,HB,HN⟩:=hrel
  have HBw:Hid (Below w.heap.size w wr):=HB3.out.trans (HB.out.mono HB3.out.size)
  by_cases hlt:j < n
  ·have n1:(j:Int) < (n:Int):=by omega
   obtain⟨⟨x,y⟩,hx⟩:∃x,l[j]?=some x:=⟨l[j]'(by rw[HL.out];exact hlt),List.getElem?_eq_getElem _⟩
   obtain⟨b1,o1,rfl,c1,d1⟩:=HA.out j _ hx
   have hlt1:=World.block_lt_of_cell? _ _ c1
   have c2:wr.cell? ⟨b1,o1 + j * 2,none⟩=some (.int .i64 x):=(HBw.out.cell (p:=⟨b1,o1 + j * 2,none⟩) hlt1).trans c1
   have d2:wr.cell? ⟨b1,o1 + j * 2 + 1,none⟩=some (.int .i64 y):=(HBw.out.cell (p:=⟨b1,o1 + j * 2 + 1,none⟩) hlt1).trans d1
   obtain⟨wA,hwA⟩:∃wA,wA=wr.alloc (.cells #[.int .i64 x,.int .i64 y] 130):=⟨_,rfl⟩
   have hbA:Below wr.heap.size wr wA:=by rw[hwA];exact (Below.refl _ _).alloc (Nat.le_refl _) _
   have hsA:wr.heap.size < wA.heap.size:=by rw[hwA];simp
   have S2:Hid (wA.drew.cell? ⟨wr.heap.size,0,none⟩=some (.int .i64 x)∧wA.drew.cell? ⟨wr.heap.size,1,none⟩=some (.int .i64 y)∧wA.drew.cell? ⟨B5,0,none⟩=some (.int .i64 t0)∧wA.drew.cell? ⟨B5,1,none⟩=some (.int .i64 t1)):=by
    have hb:Below w3.heap.size w3 wA:=HB.out.trans (hbA.mono HB.out.size)
    refine⟨?_,?_,(hb.cell (p:=⟨B5,0,none⟩) HS3.out).trans K0.out,(hb.cell (p:=⟨B5,1,none⟩) HS3.out).trans K1.out⟩
    ·rw[hwA];exact World.cell?_alloc_new wr _ _ 0
    ·rw[hwA];exact World.cell?_alloc_new wr _ _ 1
   have hBB:B5 < wA.drew.heap.size:=Nat.lt_of_lt_of_le HS3.out (Nat.le_trans HB.out.size hbA.size)
   have hsD:wr.heap.size < wA.drew.heap.size:=hsA
   have SH:Hid (∀w4,Below wA.drew.heap.size wA.drew w4→w4.cell? ⟨wr.heap.size,0,none⟩=some (.int .i64 x)∧w4.cell? ⟨wr.heap.size,1,none⟩=some (.int .i64 y)∧w4.cell? ⟨B5,0,none⟩=some (.int .i64 t0)∧w4.cell? ⟨B5,1,none⟩=some (.int .i64 t1)):=fun w4 h4 =>
    ⟨(h4.cell (p:=⟨wr.heap.size,0,none⟩) hsD).trans S2.out.1,(h4.cell (p:=⟨wr.heap.size,1,none⟩) hsD).trans S2.out.2.1,(h4.cell (p:=⟨B5,0,none⟩) hBB).trans S2.out.2.2.1,(h4.cell (p:=⟨B5,1,none⟩) hBB).trans S2.out.2.2.2⟩
   have hbD:Below w3.heap.size w3 wA.drew:=by
    have h:=HB.out.trans (hbA.mono HB.out.size)
    exact⟨h.os,h.tape,h.output,h.size,h.block⟩
   have HBX:Hid (∀w4,Below wA.drew.heap.size wA.drew w4→Below w3.heap.size w3 w4∧Below w.heap.size w w4):=fun w4 h4=>by
    have h5:Below w3.heap.size w3 w4:=hbD.trans (h4.mono hbD.size)
    exact⟨h5,HB3.out.trans (h5.mono HB3.out.size)⟩
   have C1:Hid _:=q6l (x,y) wA.drew
   have HT:Hid _:=HTK2.out j x y hx
   have HF:Hid _:=HAT.out j x y hx
   rw[HN.out,Bool.false_or] at HT
   clear hx c1 d1 hlt1 HN hbA hsA hsD hbD hBB
   generalize jy (x,y)=tq at *
   obtain⟨u0,u1⟩:=tq
   unfold q2c at C1
   dsimp only at *
   rcases h1:(u0 == t0) <;> rcases h2:(u1 == t1) <;> rw[h1,h2] at HT HF
   all_goals (
    go_wp2_with fail
    rw[←hwA]
    clear hwA
    refine wp_region_held_drew (S:=fun w'=>w'.cell? ⟨wr.heap.size,0,none⟩=some (.int .i64 x)∧w'.cell? ⟨wr.heap.size,1,none⟩=some (.int .i64 y)∧w'.cell? ⟨B5,0,none⟩=some (.int .i64 t0)∧w'.cell? ⟨B5,1,none⟩=some (.int .i64 t1)) (by kernel_rfl) ?_ (fun hHeld=>?_)
    ·exact S2.out
    refine tk 0 ⟨some 16,.load 130 (.tmp 7),130,"dist.go:46",#[],none⟩ ?_ hHeld ?_ ?_
    rotate_left
    ·(intro w hSw;(try dsimp only at hSw);go_simp;try with_reducible rfl)
    try simp only[Act.put,List.setIfInBounds_toArray,List.set_cons_zero,List.set_cons_succ]
    refine tk 2 ⟨some 18,.load 130 (.tmp 5),130,"dist.go:46",#[],none⟩ ?_ hHeld ?_ ?_
    rotate_left
    ·(intro w hSw;(try dsimp only at hSw);go_simp;try with_reducible rfl)
    try simp only[Act.put,List.setIfInBounds_toArray,List.set_cons_zero,List.set_cons_succ]
    refine wpAnyH_ready (rs:=[1]) (by kernel_rfl) (by simp) ?_
    refine AllReadyH.cons rfl (fun K hK=>?_) AllReadyH.nil
    go_simp
    go_at_call 251
    refine Calls.mono C1.out ?_
    rintro e w3 ⟨rfl,hb3⟩
    have S3:Hid _:=SH.out w3 hb3
    have HB3:Hid _:=HBX.out w3 hb3
    clear C1 hb3 SH HBX
    try go_wp2_with fail
    refine hK.out _ _ ?_ (fun hHeld_1=>?_)
    ·exact S3.out
    clear hK K
    try simp only[Act.put,List.setIfInBounds_toArray,List.set_cons_zero,List.set_cons_succ]
    refine tk 3 ⟨some 19,.binOp .eql 130 (.tmp 17) (.tmp 18) 130,4,"dist.go:46",#[⟨1,.data⟩,⟨2,.data⟩],none⟩ ?_ hHeld_1 ?_ ?_
    rotate_left
    ·(intro w hSw;(try dsimp only at hSw);go_simp;try with_reducible rfl)
    try simp only[Act.put,List.setIfInBounds_toArray,List.set_cons_zero,List.set_cons_succ]
    refine wpAnyH_done (by kernel_rfl) ?_ _
    go_wp2
    first
     | (go_ret;exact⟨by rw[HF.out rfl];rfl,HB3.out.2⟩)
     | (go_roundw
        case rel=>exact⟨j + 1,by omega,by go_num,HB3.out.1,HT.out⟩
        case measure=>simp[intOf];omega))
  ·have n1:¬(j:Int) < (n:Int):=by omega
   have HE:Hid (r=false):=by show _=_;rw[←HEN2.out j (by omega)];exact HN.out
   go_wp2
   go_ret
   exact⟨by rw[HE.out];rfl,HBw.out⟩
end F
namespace F
open S (jg)
open Go.RowKit
variable {tq:Nat} {isV:Int→Bool}
def q0a (m:List Int)(i:Nat):List Pr:=(List.range i).flatMap fun k=>(m.drop (k + 1)).map fun b=>(m.getD k 0,b)
theorem q5w (m:List Int)(i:Nat):q0a m (i + 1)=q0a m i++(m.drop (i + 1)).map fun b=>(m.getD i 0,b):=by
 unfold q0a
 rw[List.range_succ,List.flatMap_append]
 simp
def q6n (m:List Int):List Pr:=q0a m m.length
theorem qn9:∀{l:List Int},¬l.Nodup→∃x,x ∈ l∧x ∈ l.erase x
 | [],h=>absurd List.nodup_nil h
 | a :: t,h=>by
  by_cases ha:a ∈ t
  ·exact⟨a,by simp,by simpa using ha⟩
  ·have ht:¬t.Nodup:=fun h'=>h (List.nodup_cons.2 ⟨ha,h'⟩)
   obtain⟨x,hx,he⟩:=qn9 ht
   have hne:¬(a == x)=true:=by rw[beq_iff_eq];rintro rfl;exact ha hx
   exact⟨x,by simp[hx],by rw[List.erase_cons,if_neg hne];simp[he]⟩
theorem q9y {l m:List Int}(h:q87 l m):m.length < l.length↔¬l.Nodup:=by
 have hm:m.Nodup:=h.up.imp fun {a b} hab e=>by omega
 constructor
 ·intro hlt hn
  have:=q79 (l:=l) (m:=m) hn fun x hx=>(h.mem x).2 hx
  omega
 ·intro hn
  obtain⟨x,hx,he⟩:=qn9 hn
  have:=q79 (l:=m) (m:=l.erase x) hm fun y hy=>by
   by_cases e:y=x
   ·rw[e];exact he
   ·exact (List.mem_erase_of_ne e).2 ((h.mem y).1 hy)
  rw[List.length_erase_of_mem hx] at this
  have hpos:=List.length_pos_of_mem hx
  omega
def qil (w w':World)(e:Ending)(vl:List Int):Prop:=Below w.heap.size w w' ∧
 ((512 < vl.length∧e=.returned (.tuple #[.slice none 0 0,.int .i64 22])) ∨
  (vl.length≤512∧¬vl.Nodup∧e=.returned (.tuple #[.slice none 0 0,.int .i64 50])) ∨
  (vl.length≤512∧vl.Nodup∧∃v m,q87 vl m∧e=.returned (.tuple #[v,.int .i64 0])∧w'.ownsRow w.heap.size 130 2 v (q6n m).length (rowP (q6n m))))
def AllRel (m:List Int)(nm:Nat)(w1:World)(v i:Value)(wx:World):Prop:=∃(j q:Nat) (av:Option Addr) (cap:Nat),j≤nm∧q≤j * 512∧i=.int .i64 j∧v=.slice av q cap∧Hid ((q0a m j).length=q)∧Hid (wx.ownsRow w1.heap.size 130 2 (.slice av q cap) q (rowP (q0a m j)))∧Hid (Below w1.heap.size w1 wx)
theorem all_any (w:World)(a:Option Addr)(c:Nat)(vl:List Int)(n:Nat)(hl:vl.length=n)(hn:n≤4611686018427387904)(hA:q1x w a vl) :
  Calls Tryz.prog 223 #[.slice a n c] w fun e w'=>qil w w' e vl:=by
 have HL:Hid (vl.length=n):=hl
 by_cases hbig:512 < n
 ·have f1:decide ((n:Int) > 512)=true:=by rw[decide_eq_true_eq];omega
  have HF:Hid (qil w w (.returned (.tuple #[.slice none 0 0,.int .i64 22])) vl):=⟨Below.refl _ _,.inl ⟨by omega,rfl⟩⟩
  clear hA hl
  go_enter Tryz.func223,Tryz.ntmps223
  go_wp2
  refine bodyPost_ret (by simp[results,Tryz.results223,go_sem];try rfl) rfl ?_
  exact HF.out
 ·have f1:decide ((n:Int) > 512)=false:=by rw[decide_eq_false_iff_not];omega
  have hn5:n≤512:=by omega
  have C0:Hid _:=qef w a c vl n hl (by omega) hA
  obtain⟨i0,hi0,hz0,hz1,hz3⟩:=info_parts info24
  clear hA hl hbig
  go_enter Tryz.func223,Tryz.ntmps223
  go_wp2_with fail
  refine Calls.mono C0.out ?_
  rintro e w1 ⟨hb1,a3,c3,m,rfl,hI,hmc,hO⟩
  obtain⟨nm,hnm⟩:∃nm,m.length=nm:=⟨_,rfl⟩
  have HNM:Hid (m.length=nm):=hnm
  have HB1:Hid (Below w.heap.size w w1):=hb1
  have HI:Hid (q1x w1 a3 m):=hI
  have HO:Hid (q87 vl m):=hO
  rw[hnm]
  have hmc':nm≤c3:=by rw[←hnm];exact hmc
  have hmn:nm≤n:=by rw[←hnm,←HL.out];exact hO.len
  clear C0 hb1 hI hO hnm hmc
  by_cases hd:nm < n
  ·have f2:(nm:Int) < (n:Int):=by omega
   have HF:Hid (qil w w1 (.returned (.tuple #[.slice none 0 0,.int .i64 50])) vl):=⟨HB1.out,.inr (.inl ⟨by rw[HL.out];exact hn5,(q9y HO.out).1 (by rw[HL.out,HNM.out];exact hd),rfl⟩)⟩
   go_wp2
   refine bodyPost_ret (by simp[results,Tryz.results223,go_sem];try rfl) rfl ?_
   exact HF.out
  ·have f2:¬(nm:Int) < (n:Int):=by omega
   have HND:Hid (vl.Nodup):=by
    show vl.Nodup
    refine Decidable.not_not.1 fun h=>?_
    have:=(q9y HO.out).2 h
    rw[HL.out,HNM.out] at this
    exact hd this
   clear hd
   go_wp2_with fail
   go_loopw [5,22] (fun v i wx=>AllRel m nm w1 v i wx) (fun _ i _=>nm - (intOf i).toNat)
   case atStart=>exact⟨0,0,none,0,Nat.zero_le _,Nat.le_refl _,rfl,rfl,rfl,World.ownsRow_nil _ _ _ _,Below.refl _ _⟩
   case round =>
    obtain⟨j,q,av,cap,hj,hqj,rfl,rfl,hml,HR,hb⟩:=hrel
    by_cases hlt:j < nm
    ·have n1:(j:Int) < (nm:Int):=by omega
     obtain⟨x,hx⟩:∃x,m[j]?=some x:=⟨m[j]'(by rw[HNM.out];exact hlt),List.getElem?_eq_getElem _⟩
     obtain⟨b1,o1,rfl,r1⟩:=HI.out j x hx
     have r2:wr.cell? ⟨b1,o1 + j,none⟩=some (.int .i64 x):=(hb.out.cell (p:=⟨b1,o1 + j,none⟩) (World.block_lt_of_cell? _ _ r1)).trans r1
     have g1:IntKind.i64.wrap ((j:Int) + 1)=((j + 1:Nat):Int):=by rw[IntWalk.i64_in _ (by omega)];omega
     clear r1
     go_wp2_with fail
     case inl h =>
      have HX:Hid (∀(k:Nat) (y:Int),(m.drop (j + 1))[k]?=some y→w1.cell? ⟨b1,o1 + k,none⟩=some (.int .i64 y)):=fun k y hy=>by
       have h1:=(List.getElem?_eq_some_iff.1 hy).1
       rw[List.length_drop,HNM.out] at h1
       omega
      have HD:Hid ((m.drop (j + 1)).length=nm - (j + 1)):=by show _=_;rw[List.length_drop,HNM.out]
      have HFS:Hid (q0a m (j + 1)=q0a m j++(m.drop (j + 1)).map fun b=>(x,b)):=by show _=_;rw[q5w,List.getD,hx];rfl
      obtain⟨nr,hnr⟩:∃nr,nm - (j + 1)=nr:=⟨_,rfl⟩
      rw[hnr] at HD
      rw[hnr]
      have hnr2:nr + (j + 1)=nm:=by omega
      have H3:Hid (j + 1=c3):=h.symm
      clear hnr hx h r2
      go_loopw [5,32] (fun v i wx=>∃(k q2:Nat) (av2:Option Addr) (cap2:Nat),k≤nr∧q2≤q + k∧i=.int .i64 k∧v=.slice av2 q2 cap2∧Hid ((q0a m j++((m.drop (j + 1)).take k).map fun b=>(x,b)).length=q2)∧Hid (wx.ownsRow w1.heap.size 130 2 (.slice av2 q2 cap2) q2 (rowP (q0a m j++((m.drop (j + 1)).take k).map fun b=>(x,b))))∧Hid (Below w1.heap.size w1 wx)) (fun _ i _=>nr - (intOf i).toNat)
      case atStart=>exact⟨0,q,av,cap,Nat.zero_le _,Nat.le_refl _,rfl,rfl,by rw[List.take_zero,List.map_nil,List.append_nil];exact hml.out,by rw[List.take_zero,List.map_nil,List.append_nil];exact HR.out,hb.out⟩
      case round =>
       clear hb HR hml
       obtain⟨k,q2,av2,cap2,hk,hq2,rfl,rfl,hml,HR,hb⟩:=hrel
       by_cases hlt2:k < nr
       ·have n2:(k:Int) < (nr:Int):=by omega
        obtain⟨y,hy⟩:∃y,(m.drop (j + 1))[k]?=some y:=⟨(m.drop (j + 1))[k]'(by rw[HD.out];exact hlt2),List.getElem?_eq_getElem _⟩
        have ry:=HX.out k y hy
        have ry2:wr.cell? ⟨b1,o1 + k,none⟩=some (.int .i64 y):=(hb.out.cell (p:=⟨b1,o1 + k,none⟩) (World.block_lt_of_cell? _ _ ry)).trans ry
        have HTK:Hid ((q0a m j++((m.drop (j + 1)).take (k + 1)).map fun b=>(x,b))=(q0a m j++((m.drop (j + 1)).take k).map fun b=>(x,b))++[(x,y)]):=by show _=_;rw[List.take_add_one,hy,Option.toList_some,List.map_append,List.append_assoc];rfl
        clear ry hy
        generalize (q0a m j++((m.drop (j + 1)).take k).map fun b=>(x,b))=row at *
        go_wp2_with (at_builtin;refine jg (w:=wr.alloc (.cells #[.int .i64 x,.int .i64 y] 130)) rfl _ _ _ rfl w1.heap.size 130 i0 _ 2 16 Tryz.underlying45 hi0 hz0 hz1 hz3 rfl (by omega) _ q2 (rowP row) (by rfl) (by exact HR.out.alloc _) (some ⟨wr.heap.size,0,none⟩) 1 1 [.int .i64 x,.int .i64 y] (by rfl) (by rfl) (fun j' u hu=>⟨_,rfl,World.news_of_block (cs:=#[.int .i64 x,.int .i64 y]) (t:=130) (fr:=(0,0)) (World.alloc_heap_new wr _) j' u hu⟩) (by simp[Value.oneCell']) (by unfold maxLen;omega) (by omega) (by exact Nat.le_trans hb.out.size (qg _ _).size) ?_;intro a4 c4 w4 ho4 hb4;have HO4:Hid (w4.ownsRow w1.heap.size 130 2 (.slice a4 (q2 + 1) c4) (q2 + 1) (rowP (row++[(x,y)]))):=(by rw[q67];exact ho4);have HB4:Hid (Below w1.heap.size w1 w4):=(hb.out.alloc hb.out.size _).trans hb4;clear ho4 hb4)
        go_wp2
        exact⟨⟨k + 1,q2 + 1,_,_,by omega,by omega,by go_num,rfl,by show _=_;rw[HTK.out,List.length_append,hml.out];rfl,by rw[HTK.out];exact HO4.out,HB4.out⟩,by simp[intOf];omega⟩
       ·have n2:¬(k:Int) < (nr:Int):=by omega
        have HK:Hid ((q0a m j++((m.drop (j + 1)).take k).map fun b=>(x,b))=q0a m (j + 1)):=by show _=_;rw[HFS.out,List.take_of_length_le (by rw[HD.out];omega)]
        rw[HK.out] at hml HR
        clear HK
        go_wp2
        go_roundw
        case rel =>
         (repeat apply Exists.intro)
         exact⟨⟨j + 1,q2,av2,cap2,by omega,by omega,by go_num,rfl,hml.out,HR.out,hb.out⟩,H3.out,rfl,rfl,rfl,rfl,H3.out,rfl⟩
        case measure=>simp[intOf];omega
     case inr h =>
      have HX:Hid (∀(k:Nat) (y:Int),(m.drop (j + 1))[k]?=some y→w1.cell? ⟨b1,(o1 + (j + 1)) + k,none⟩=some (.int .i64 y)):=fun k y hy=>by
       rw[List.getElem?_drop] at hy
       obtain⟨b9,o9,e9,c9⟩:=HI.out _ y hy
       cases e9
       rw[Nat.add_assoc]
       exact c9
      have HD:Hid ((m.drop (j + 1)).length=nm - (j + 1)):=by show _=_;rw[List.length_drop,HNM.out]
      have HFS:Hid (q0a m (j + 1)=q0a m j++(m.drop (j + 1)).map fun b=>(x,b)):=by show _=_;rw[q5w,List.getD,hx];rfl
      obtain⟨nr,hnr⟩:∃nr,nm - (j + 1)=nr:=⟨_,rfl⟩
      rw[hnr] at HD
      rw[hnr]
      have hnr2:nr + (j + 1)=nm:=by omega
      clear hnr hx h r2
      go_loopw [5,32] (fun v i wx=>∃(k q2:Nat) (av2:Option Addr) (cap2:Nat),k≤nr∧q2≤q + k∧i=.int .i64 k∧v=.slice av2 q2 cap2∧Hid ((q0a m j++((m.drop (j + 1)).take k).map fun b=>(x,b)).length=q2)∧Hid (wx.ownsRow w1.heap.size 130 2 (.slice av2 q2 cap2) q2 (rowP (q0a m j++((m.drop (j + 1)).take k).map fun b=>(x,b))))∧Hid (Below w1.heap.size w1 wx)) (fun _ i _=>nr - (intOf i).toNat)
      case atStart=>exact⟨0,q,av,cap,Nat.zero_le _,Nat.le_refl _,rfl,rfl,by rw[List.take_zero,List.map_nil,List.append_nil];exact hml.out,by rw[List.take_zero,List.map_nil,List.append_nil];exact HR.out,hb.out⟩
      case round =>
       clear hb HR hml
       obtain⟨k,q2,av2,cap2,hk,hq2,rfl,rfl,hml,HR,hb⟩:=hrel
       by_cases hlt2:k < nr
       ·have n2:(k:Int) < (nr:Int):=by omega
        obtain⟨y,hy⟩:∃y,(m.drop (j + 1))[k]?=some y:=⟨(m.drop (j + 1))[k]'(by rw[HD.out];exact hlt2),List.getElem?_eq_getElem _⟩
        have ry:=HX.out k y hy
        have ry2:wr.cell? ⟨b1,(o1 + (j + 1)) + k,none⟩=some (.int .i64 y):=(hb.out.cell (p:=⟨b1,(o1 + (j + 1)) + k,none⟩) (World.block_lt_of_cell? _ _ ry)).trans ry
        have HTK:Hid ((q0a m j++((m.drop (j + 1)).take (k + 1)).map fun b=>(x,b))=(q0a m j++((m.drop (j + 1)).take k).map fun b=>(x,b))++[(x,y)]):=by show _=_;rw[List.take_add_one,hy,Option.toList_some,List.map_append,List.append_assoc];rfl
        clear ry hy
        generalize (q0a m j++((m.drop (j + 1)).take k).map fun b=>(x,b))=row at *
        go_wp2_with (at_builtin;refine jg (w:=wr.alloc (.cells #[.int .i64 x,.int .i64 y] 130)) rfl _ _ _ rfl w1.heap.size 130 i0 _ 2 16 Tryz.underlying45 hi0 hz0 hz1 hz3 rfl (by omega) _ q2 (rowP row) (by rfl) (by exact HR.out.alloc _) (some ⟨wr.heap.size,0,none⟩) 1 1 [.int .i64 x,.int .i64 y] (by rfl) (by rfl) (fun j' u hu=>⟨_,rfl,World.news_of_block (cs:=#[.int .i64 x,.int .i64 y]) (t:=130) (fr:=(0,0)) (World.alloc_heap_new wr _) j' u hu⟩) (by simp[Value.oneCell']) (by unfold maxLen;omega) (by omega) (by exact Nat.le_trans hb.out.size (qg _ _).size) ?_;intro a4 c4 w4 ho4 hb4;have HO4:Hid (w4.ownsRow w1.heap.size 130 2 (.slice a4 (q2 + 1) c4) (q2 + 1) (rowP (row++[(x,y)]))):=(by rw[q67];exact ho4);have HB4:Hid (Below w1.heap.size w1 w4):=(hb.out.alloc hb.out.size _).trans hb4;clear ho4 hb4)
        go_wp2
        exact⟨⟨k + 1,q2 + 1,_,_,by omega,by omega,by go_num,rfl,by show _=_;rw[HTK.out,List.length_append,hml.out];rfl,by rw[HTK.out];exact HO4.out,HB4.out⟩,by simp[intOf];omega⟩
       ·have n2:¬(k:Int) < (nr:Int):=by omega
        have HK:Hid ((q0a m j++((m.drop (j + 1)).take k).map fun b=>(x,b))=q0a m (j + 1)):=by show _=_;rw[HFS.out,List.take_of_length_le (by rw[HD.out];omega)]
        rw[HK.out] at hml HR
        clear HK
        go_wp2
        go_roundw
        case rel =>
         (repeat apply Exists.intro)
         exact⟨⟨j + 1,q2,av2,cap2,by omega,by omega,by go_num,rfl,hml.out,HR.out,hb.out⟩,rfl,rfl,rfl,rfl,rfl⟩
        case measure=>simp[intOf];omega
    ·have n1:¬(j:Int) < (nm:Int):=by omega
     have hjn:j=nm:=by omega
     have HF:Hid (∀w9,w9=wr→qil w w9 (.returned (.tuple #[.slice av q cap,.int .i64 0])) vl):=fun w9 e9=>by
      subst e9
      refine⟨HB1.out.trans (hb.out.mono HB1.out.size),.inr (.inr ⟨by rw[HL.out];exact hn5,HND.out,_,m,HO.out,rfl,?_⟩)⟩
      have h1:=HR.out
      have h2:q0a m j=q6n m:=by unfold q6n;rw[hjn,HNM.out]
      rw[h2] at h1
      have h3:(q6n m).length=q:=by rw[←h2];exact hml.out
      rw[h3]
      exact h1.mono HB1.out.size
     clear hjn HR hb
     go_wp2
     refine bodyPost_ret (by simp[results,Tryz.results223,go_sem];try rfl) rfl ?_
     exact HF.out _ rfl
end F
namespace F
open S (qm)
open Go.Maps Go.RowKit Go.WideMaps
variable {tq:Nat} {isV:Int→Bool}
theorem q4a {N:Nat}{A B:World}(h:Below N A B):S.M.Ch (fun g=>N≤g) A B:=⟨h.os,h.tape,h.output,h.size,fun g _ hx=>h.block g (by omega)⟩
theorem q9z:∀(l:List HyC) (i j:Nat) (x:HyC),l[i]?=some x→j < 4→(yx l)[i * 4 + j]?=(hyC x)[j]?
 | [],i,j,x,h,_=>by simp at h
 | y :: r,0,j,x,h,hj=>by
  simp at h
  subst h
  show (hyC y++yx r)[0 * 4 + j]?=_
  rw[Nat.zero_mul,Nat.zero_add,List.getElem?_append_left (by simp[hyC];omega)]
 | y :: r,i + 1,j,x,h,hj=>by
  show (hyC y++yx r)[(i + 1) * 4 + j]?=_
  rw[List.getElem?_append_right (by simp[hyC];omega)]
  have e:(i + 1) * 4 + j - (hyC y).length=i * 4 + j:=by simp[hyC];omega
  rw[e]
  exact q9z r i j x (by simpa using h) hj
theorem qd1 {W:World}{base g n cap:Nat}{l:List HyC}(h:W.ownsRow base 57 4 (.slice (some ⟨g,0,none⟩) n cap) n (yx l))(i:Nat)(x:HyC)(hi:l[i]?=some x):W.cell? ⟨g,i * 4,none⟩=some (.string x.h.lab)∧W.cell? ⟨g,i * 4 + 1,none⟩=some (.bool x.h.fl)∧W.cell? ⟨g,i * 4 + 2,none⟩=some (.int .i64 x.h.var)∧W.cell? ⟨g,i * 4 + 3,none⟩=some x.ve:=by
 have key:∀j u,(hyC x)[j]?=some u→j < 4→W.cell? ⟨g,i * 4 + j,none⟩=some u:=fun j u hu hj=>by
  obtain⟨ad,e,h1⟩:=q1u h (i * 4 + j) u ((q9z l i j x hi hj).trans hu)
  cases e
  rw[Addr.add_lit,Nat.zero_add] at h1
  exact h1
 exact⟨key 0 _ rfl (by decide),key 1 _ rfl (by decide),key 2 _ rfl (by decide),key 3 _ rfl (by decide)⟩
structure jr (N:Nat)(W:World)(v:Value)(ts:List HyC):Prop where
 own:W.ownsRow N 57 4 v ts.length (yx ts)
 e:∀y ∈ ts,W.ownsRow N 3 1 y.ve y.h.ex.length (zy y.h.ex)
 ap:ts.Pairwise fun x y=>∀g,x.ve.ownBlock=some g→y.ve.ownBlock≠some g
theorem jr.nil (N:Nat)(W:World):jr N W (.slice none 0 0) []:=⟨World.ownsRow_nil _ _ _ _,(fun y hy=>by cases hy),List.Pairwise.nil⟩
theorem jr.below {N:Nat}{W W':World}{v:Value}{ts:List HyC}(h:jr N W v ts)(hb:Below W.heap.size W W'):jr N W' v ts :=
 ⟨S.M.qh h.own (S.M.Ch.of_below (X:=fun _=>False) hb) fun _ _ e=>e,fun y hy=>S.M.qh (h.e y hy) (S.M.Ch.of_below (X:=fun _=>False) hb) fun _ _ e=>e,h.ap⟩
def q06 (F:Bool→Int→Bool)(l:List HyC):List Hy:=(l.map (·.h)).filter fun h=>F h.fl h.var
theorem qa1 {F:Bool→Int→Bool}{l:List HyC}{j:Nat}{y:HyC}(h:l[j]?=some y):q06 F (l.take (j + 1))=q06 F (l.take j)++if F y.h.fl y.h.var=true then [y.h] else []:=by
 unfold q06
 rw[List.take_add_one,h,List.map_append,List.filter_append]
 cases e:F y.h.fl y.h.var <;> simp[e]
theorem qgz (w:World)(lab:ByteArray)(fl:Bool)(var:Int)(a:Option Addr)(n c:Nat):Calls Tryz.prog 214 #[.agg #[.string lab,.bool fl,.int .i64 var,.slice a n c]] w fun e w'=>e=.returned (.bool true)∧Below w.heap.size w w':=by
 go_enter Tryz.func214,Tryz.ntmps214
 go_wp2
 go_ret
 exact⟨rfl,qo _ _⟩
theorem qh0 (w:World) (F:Bool→Int→Bool) (O:Nat→Prop) (T N:Nat) (x:ScC) (v:Value) (ts:List HyC) (hx:q5r O w x) (hc:w.cell? ⟨T,0,none⟩=some x.vl) (hN:N≤w.heap.size) (hO:∀g,O g→g < N) (ht:jr N w v ts) (hn:ts.length + x.hs.length≤1048576) (hlen:∀y ∈ x.hs,y.h.ex.length≤17592186044416)
  (hF:∀W,Below N w W→∀(lab:ByteArray) (fl:Bool) (var:Int) (a:Option Addr) (n c:Nat),Calls Tryz.prog 214 #[.agg #[.string lab,.bool fl,.int .i64 var,.slice a n c]] W fun e W'=>e=.returned (.bool (F fl var))∧Below W.heap.size W W') :
  Calls Tryz.prog 248 #[.pointer (some ⟨T,0,none⟩),v,.func (.func 214) #[] #[]] w fun e w'=>Below N w w'∧∃v' ts',e=.returned v'∧jr N w' v' ts'∧ts'.map (·.h)=ts.map (·.h)++q06 F x.hs:=by
 obtain⟨iH,hiH,iHz,iHs,iHb⟩:=info_parts q9q
 have hl:=hx.l
 obtain⟨al,cl,el,_⟩:=qm hl
 rw[el] at hc hl
 obtain⟨nh,hnh⟩:∃nh,x.hs.length=nh:=⟨_,rfl⟩
 rw[hnh] at hc hl hn
 have HL:Hid (w.ownsRow 0 57 4 (.slice al nh cl) nh (yx x.hs)∧∀g,(Value.slice al nh cl).ownBlock=some g→g < N):=⟨hl,fun g e=>hO g (hx.lo g (by rw[el,hnh];exact e))⟩
 have HE:Hid (∀y ∈ x.hs,w.ownsRow 0 3 1 y.ve y.h.ex.length (zy y.h.ex)∧y.h.ex.length≤17592186044416∧∀g,y.ve.ownBlock=some g→g < N):=fun y hy=>⟨(hx.e y hy).1,hlen y hy,fun g e=>hO g ((hx.e y hy).2 g e)⟩
 have HH:Hid (x.hs.length=nh):=hnh
 have HF:Hid _:=hF
 have HT:Hid (jr N w v ts):=ht
 have HN:Hid (N≤w.heap.size):=hN
 have HM:Hid (ts.length + nh≤1048576):=hn
 have hnb:nh≤1048576:=Nat.le_trans (Nat.le_add_left _ _) hn
 clear hl hnh hF ht hN hx hO hlen el hn
 go_enter Tryz.func248,Tryz.ntmps248
 go_wp2_with fail
 go_loopw [1,14] (fun v1 v14 wx=>∃(j:Nat) (us:List HyC),j≤nh∧v14=.int .i64 j∧Hid (jr N wx v1 us)∧Hid (us.map (·.h)=ts.map (·.h)++q06 F (x.hs.take j)∧us.length≤ts.length + j)∧Hid (Below N w wx)) (fun _ v14 _=>nh - (intOf v14).toNat)
 case atStart=>exact⟨0,ts,Nat.zero_le _,rfl,HT.out,⟨by simp[q06],Nat.le_refl _⟩,Below.refl _ _⟩
 case round =>
  obtain⟨j,us,hj,rfl,hU,hS,hB⟩:=hrel
  by_cases hlt:j < nh
  ·have n1:(j:Int) < (nh:Int):=by omega
   obtain⟨y,hy⟩:∃y,x.hs[j]?=some y:=⟨_,List.getElem?_eq_getElem (by rw[HH.out];exact hlt)⟩
   have hrow:wr.ownsRow 0 57 4 (.slice al nh cl) nh (yx x.hs):=S.M.qh HL.out.1 (q4a hB.out) fun g e h=>by have:=HL.out.2 g e;omega
   obtain⟨g,c',e,_,_,_⟩:=S.M.q0f hrow (by omega)
   cases e
   obtain⟨y0,y1,y2,y3⟩:=qd1 hrow j y hy
   obtain⟨he1,he2,he3⟩:=HE.out y (List.mem_of_getElem? hy)
   have her:wr.ownsRow 0 3 1 y.ve y.h.ex.length (zy y.h.ex):=S.M.qh he1 (q4a hB.out) fun g e h=>by have:=he3 g e;omega
   obtain⟨ae,ce,ee,_,hns⟩:=q3o her
   obtain⟨ne,hne⟩:∃ne,y.h.ex.length=ne:=⟨_,rfl⟩
   rw[ee,hne] at y3
   have WT:=qa1 (F:=F) hy
   obtain⟨⟨lab,fl,var,ex⟩,ve⟩:=y
   dsimp only at *
   obtain⟨wa,hwa⟩:∃wa,wa=wr.alloc (.cells #[.string lab,.bool fl,.int .i64 var,.slice ae ne ce] 57):=⟨_,rfl⟩
   have HWA:Hid (wa=wr.alloc (.cells #[.string lab,.bool fl,.int .i64 var,.slice ae ne ce] 57)):=hwa
   have ba:Below wr.heap.size wr wa:=by rw[hwa];exact qo _ _
   have hNr:N≤wr.heap.size:=Nat.le_trans HN.out hB.out.size
   obtain⟨Bx,hBx⟩:∃Bx,wr.heap.size=Bx:=⟨_,rfl⟩
   have ka:wa.heap[Bx]?=some (.cells #[.string lab,.bool fl,.int .i64 var,.slice ae ne ce] 57 (0,0)):=by rw[hwa,←hBx];exact heap_alloc_new wr _
   have z0:wa.cell? ⟨Bx,0,none⟩=some (.string lab):=S.M.qc ka 0
   have z1:wa.cell? ⟨Bx,1,none⟩=some (.bool fl):=S.M.qc ka 1
   have z2:wa.cell? ⟨Bx,2,none⟩=some (.int .i64 var):=S.M.qc ka 2
   have z3:wa.cell? ⟨Bx,3,none⟩=some (.slice ae ne ce):=S.M.qc ka 3
   have BA:Hid (Below N w wa):=hB.out.trans (ba.mono hNr)
   have CF:Hid _:=HF.out wa BA.out lab fl var ae ne ce
   have KA:Hid (wa.heap[Bx]?=some (.cells #[.string lab,.bool fl,.int .i64 var,.slice ae ne ce] 57 (0,0))∧Bx < wa.heap.size):=⟨ka,(Array.getElem?_eq_some_iff.1 ka).1⟩
   have HB:Hid (wr.heap.size=Bx):=hBx
   have BR:Hid (Below Bx wr wa):=by rw[←hBx];exact ba
   have HNS:Hid (q1a wa ae ex∧ex.length=ne∧ne≤17592186044416):=⟨hns.under ba,hne,by rw[←hne];exact he2⟩
   have HWT:Hid (q06 F (x.hs.take (j + 1))=q06 F (x.hs.take j)++if F fl var=true then [⟨lab,fl,var,ex⟩] else []):=WT
   have HNr:Hid (N≤Bx):=by rw[←hBx];exact hNr
   clear hrow her hns ee hne WT hwa ba hNr ka he1 he2 he3 hy hBx
   go_upto_region 4 with fail
   rw[←HWA.out,HB.out]
   clear HWA y0 y1 y2 y3
   cases hFv:F fl var with
   | false =>
    rw[hFv] at CF HWT
    go_wp2_with fail
    refine Calls.mono CF.out ?_
    rintro e w2 ⟨rfl,hb2⟩
    have U2:Hid (jr N w2 u1 us):=(hU.out.below (by rw[HB.out];exact BR.out)).below hb2
    have B2:Hid (Below N w w2):=BA.out.trans (hb2.mono (Nat.le_trans HNr.out (Nat.le_of_lt KA.out.2)))
    have S2:Hid (us.map (·.h)=ts.map (·.h)++q06 F (x.hs.take (j + 1))∧us.length≤ts.length + (j + 1)):=⟨by rw[hS.out.1,HWT.out];simp,by have:=hS.out.2;omega⟩
    clear hb2 hU hS hFv HWT
    go_wp2
    exact⟨⟨j + 1,us,by omega,by go_num,U2.out,S2.out,B2.out⟩,by simp[intOf];omega⟩
   | true =>
    rw[hFv] at CF HWT
    go_wp2_with fail
    refine Calls.mono CF.out ?_
    rintro e w2 ⟨rfl,hb2⟩
    have k2:w2.heap[Bx]?=some (.cells #[.string lab,.bool fl,.int .i64 var,.slice ae ne ce] 57 (0,0)):=(hb2.block Bx KA.out.2).trans KA.out.1
    have q3:w2.cell? ⟨Bx,3,none⟩=some (.slice ae ne ce):=S.M.qc k2 3
    have B2:Hid (Below Bx wr w2):=BR.out.trans (hb2.mono (Nat.le_of_lt KA.out.2))
    have CL:Hid _:=clone_any w2 ae ne ce ex HNS.out.2.1 HNS.out.2.2 (HNS.out.1.under hb2)
    have K2:Hid (w2.heap[Bx]?=some (.cells #[.string lab,.bool fl,.int .i64 var,.slice ae ne ce] 57 (0,0))∧Bx < w2.heap.size):=⟨k2,(Array.getElem?_eq_some_iff.1 k2).1⟩
    clear hb2 k2 z0 z1 z2 z3 CF KA BR
    go_wp2_with fail
    refine Calls.mono CL.out ?_
    rintro e w3 ⟨v',rfl,hv',hb3⟩
    obtain⟨a3,c3,rfl,_⟩:=qm hv'
    have k3:w3.heap[Bx]?=some (.cells #[.string lab,.bool fl,.int .i64 var,.slice ae ne ce] 57 (0,0)):=(hb3.block Bx K2.out.2).trans K2.out.1
    have p3:w3.cell? ⟨Bx,3,none⟩=some (.slice ae ne ce):=S.M.qc k3 3
    have f3:w3.frozen? ⟨Bx,3,none⟩=false:=by simp[World.frozen?,k3]
    obtain⟨w4,hw4⟩:∃w4,w4=w3.setCell ⟨Bx,3,none⟩ (.slice a3 ne c3):=⟨_,rfl⟩
    have HW4:Hid (w4=w3.setCell ⟨Bx,3,none⟩ (.slice a3 ne c3)):=hw4
    have ch4:S.M.Ch (fun b=>b=Bx) w3 w4:=by rw[hw4];exact S.M.xu w3 Bx 3 _
    have K4:Hid (w4.heap[Bx]?=some (.cells #[.string lab,.bool fl,.int .i64 var,.slice a3 ne c3] 57 (0,0))):=by show _=_;rw[hw4];exact S.M.qj k3
    have hB3:Below Bx wr w3:=B2.out.trans (hb3.mono (Nat.le_of_lt K2.out.2))
    have B4:Hid (Below Bx wr w4):=hB3.trans (ch4.below (by have h1:=hB3.size;have h2:=HB.out;omega) fun b e=>by omega)
    have V4:Hid (w4.ownsRow Bx 3 1 (.slice a3 ne c3) ne (zy ex)):=S.M.qp (S.M.qh hv' ch4 fun b hb e=>own_ne hv' k3 (by decide) (by rw[hb,e])) (Nat.le_of_lt K2.out.2)
    clear hv' hb3 k3 hw4 ch4 hB3 CL q3 B2
    go_upto_region 6 with fail
    rw[←HW4.out]
    clear HW4 p3 f3
    have q0:w4.cell? ⟨Bx,0,none⟩=some (.string lab):=S.M.qc K4.out 0
    have q1:w4.cell? ⟨Bx,1,none⟩=some (.bool fl):=S.M.qc K4.out 1
    have q2:w4.cell? ⟨Bx,2,none⟩=some (.int .i64 var):=S.M.qc K4.out 2
    have q3:w4.cell? ⟨Bx,3,none⟩=some (.slice a3 ne c3):=S.M.qc K4.out 3
    have hul:us.length≤1048575:=by have h1:=hS.out.2;have h2:=HM.out;omega
    obtain⟨ku,hku⟩:∃ku,us.length=ku:=⟨_,rfl⟩
    rw[hku] at hul
    have HKU:Hid (us.length=ku):=hku
    have U4:Hid (jr N w4 u1 us):=hU.out.below (by rw[HB.out];exact B4.out)
    have O4:Hid (w4.ownsRow N 57 4 u1 ku (yx us)):=by have h:=U4.out.own;rw[HKU.out] at h;exact h
    have HN4:Hid (N≤w4.heap.size):=Nat.le_trans HNr.out (Nat.le_of_lt (Array.getElem?_eq_some_iff.1 K4.out).1)
    clear hku
    go_wp2_with (at_builtin;refine wpList_append_lies (w:=w4.alloc (.cells #[.string lab,.bool fl,.int .i64 var,.slice a3 ne c3] 57)) rfl _ _ 44 rfl N 57 iH _ 4 56 Tryz.underlying44 hiH iHz iHs iHb rfl (by decide) _ ku (yx us) (by rfl) (S.M.zk O4.out _) ⟨w4.heap.size,0,none⟩ 1 1 [.string lab,.bool fl,.int .i64 var,.slice a3 ne c3] (by rfl) (by rfl) (World.news_of_block (cs:=#[.string lab,.bool fl,.int .i64 var,.slice a3 ne c3]) (t:=57) (fr:=(0,0)) (heap_alloc_new w4 _)) (by simp[Value.oneCell']) (by omega) (by unfold maxLen;omega) (by omega) (Nat.le_trans HN4.out (qo w4 _).size) _ rfl ?_;intro gg cap' w8 hown8 hgrow hat hlt8;have O8:Hid (w8.ownsRow N 57 4 (.slice (some ⟨gg,0,none⟩) (ku + 1) cap') (ku + 1) (yx us++[.string lab,.bool fl,.int .i64 var,.slice a3 ne c3])):=hown8;have C8:Hid (S.M.Ch (fun b=>Value.ownBlock u1=some b) w4 w8):=((S.M.Ch.of_below (qo w4 _)).trans (S.M.Ch.jm hgrow));clear hown8 hgrow hat hlt8)
    have hT8:Hid (jr N w8 (.slice (some ⟨gg,0,none⟩) (ku + 1) cap') (us++[⟨⟨lab,fl,var,ex⟩,.slice a3 ne c3⟩])):=by
     show jr _ _ _ _
     refine⟨?_,fun z hz=>?_,List.pairwise_append.2 ⟨hU.out.ap,by simp,fun z hz z' hz'=>?_⟩⟩
     ·rw[List.length_append,HKU.out,q2x];exact O8.out
     ·rcases List.mem_append.1 hz with hz | hz
      ·have h1:=U4.out.e z hz
       exact S.M.qh h1 C8.out fun b hb e=>uf h1 U4.out.own (by decide) b hb e
      ·rw[List.mem_singleton.1 hz]
       show w8.ownsRow N 3 1 (.slice a3 ne c3) ex.length (zy ex)
       rw[HNS.out.2.1]
       exact S.M.qp (S.M.qh V4.out C8.out fun b hb e=>uf V4.out U4.out.own (by decide) b hb e) HNr.out
     ·rw[List.mem_singleton.1 hz']
      intro b hb e
      have h1:=S.M.jl (hU.out.e z hz) b hb
      have h2:=S.M.zf V4.out b e
      have h3:=HB.out
      omega
    have hB8:Below N w w8:=hB.out.trans ((B4.out.mono HNr.out).trans (C8.out.below HN4.out fun b e=>S.M.zf U4.out.own b e))
    exact⟨⟨j + 1,us++[HyC.mk (Hy.mk lab fl var ex) (Value.slice a3 ne c3)],by omega,by go_num,hT8.out,⟨by rw[List.map_append,hS.out.1,HWT.out];simp,by rw[List.length_append];have:=hS.out.2;simp;omega⟩,hB8⟩,by simp[intOf];omega⟩
  ·have n1:¬(j:Int) < (nh:Int):=by omega
   have hall:x.hs.take j=x.hs:=List.take_of_length_le (by rw[HH.out];omega)
   have HS2:Hid (us.map (·.h)=ts.map (·.h)++q06 F x.hs):=by have h:=hS.out.1;rw[hall] at h;exact h
   clear hall hS
   go_wp2
   go_ret
   exact⟨hB.out,_,rfl,us,hU.out,HS2.out⟩
end F
namespace F
open S (qm)
open Go.Maps Go.RowKit Go.WideMaps
variable {tq:Nat} {isV:Int→Bool}
theorem qh1 (w:World) (MB:Nat) (F:Bool→Int→Bool) (O:Nat→Prop) (T N:Nat) (x:ScC) (v:Value) (ts:List HyC) (hx:q5r O w x) (hc:w.cell? ⟨T,0,none⟩=some x.vl) (hN:N≤w.heap.size) (hO:∀g,O g→g < N) (ht:jr N w v ts) (hn:ts.length + x.hs.length≤1048576) (hlen:∀y ∈ x.hs,y.h.ex.length≤17592186044416)
  (hF:∀W,Below N w W→∀(lab:ByteArray) (fl:Bool) (var:Int) (a:Option Addr) (n c:Nat),Calls Tryz.prog 234 #[.agg #[.string lab,.bool fl,.int .i64 var,.slice a n c],.pointer (some ⟨MB,0,none⟩)] W fun e W'=>e=.returned (.bool (F fl var))∧Below W.heap.size W W') :
  Calls Tryz.prog 248 #[.pointer (some ⟨T,0,none⟩),v,.func (.func 234) #[] #[.pointer (some ⟨MB,0,none⟩)]] w fun e w'=>Below N w w'∧∃v' ts',e=.returned v'∧jr N w' v' ts'∧ts'.map (·.h)=ts.map (·.h)++q06 F x.hs:=by
 obtain⟨iH,hiH,iHz,iHs,iHb⟩:=info_parts q9q
 have hl:=hx.l
 obtain⟨al,cl,el,_⟩:=qm hl
 rw[el] at hc hl
 obtain⟨nh,hnh⟩:∃nh,x.hs.length=nh:=⟨_,rfl⟩
 rw[hnh] at hc hl hn
 have HL:Hid (w.ownsRow 0 57 4 (.slice al nh cl) nh (yx x.hs)∧∀g,(Value.slice al nh cl).ownBlock=some g→g < N):=⟨hl,fun g e=>hO g (hx.lo g (by rw[el,hnh];exact e))⟩
 have HE:Hid (∀y ∈ x.hs,w.ownsRow 0 3 1 y.ve y.h.ex.length (zy y.h.ex)∧y.h.ex.length≤17592186044416∧∀g,y.ve.ownBlock=some g→g < N):=fun y hy=>⟨(hx.e y hy).1,hlen y hy,fun g e=>hO g ((hx.e y hy).2 g e)⟩
 have HH:Hid (x.hs.length=nh):=hnh
 have HF:Hid _:=hF
 have HT:Hid (jr N w v ts):=ht
 have HN:Hid (N≤w.heap.size):=hN
 have HM:Hid (ts.length + nh≤1048576):=hn
 have hnb:nh≤1048576:=Nat.le_trans (Nat.le_add_left _ _) hn
 clear hl hnh hF ht hN hx hO hlen el hn
 go_enter Tryz.func248,Tryz.ntmps248
 go_wp2_with fail
 go_loopw [1,14] (fun v1 v14 wx=>∃(j:Nat) (us:List HyC),j≤nh∧v14=.int .i64 j∧Hid (jr N wx v1 us)∧Hid (us.map (·.h)=ts.map (·.h)++q06 F (x.hs.take j)∧us.length≤ts.length + j)∧Hid (Below N w wx)) (fun _ v14 _=>nh - (intOf v14).toNat)
 case atStart=>exact⟨0,ts,Nat.zero_le _,rfl,HT.out,⟨by simp[q06],Nat.le_refl _⟩,Below.refl _ _⟩
 case round =>
  obtain⟨j,us,hj,rfl,hU,hS,hB⟩:=hrel
  by_cases hlt:j < nh
  ·have n1:(j:Int) < (nh:Int):=by omega
   obtain⟨y,hy⟩:∃y,x.hs[j]?=some y:=⟨_,List.getElem?_eq_getElem (by rw[HH.out];exact hlt)⟩
   have hrow:wr.ownsRow 0 57 4 (.slice al nh cl) nh (yx x.hs):=S.M.qh HL.out.1 (q4a hB.out) fun g e h=>by have:=HL.out.2 g e;omega
   obtain⟨g,c',e,_,_,_⟩:=S.M.q0f hrow (by omega)
   cases e
   obtain⟨y0,y1,y2,y3⟩:=qd1 hrow j y hy
   obtain⟨he1,he2,he3⟩:=HE.out y (List.mem_of_getElem? hy)
   have her:wr.ownsRow 0 3 1 y.ve y.h.ex.length (zy y.h.ex):=S.M.qh he1 (q4a hB.out) fun g e h=>by have:=he3 g e;omega
   obtain⟨ae,ce,ee,_,hns⟩:=q3o her
   obtain⟨ne,hne⟩:∃ne,y.h.ex.length=ne:=⟨_,rfl⟩
   rw[ee,hne] at y3
   have WT:=qa1 (F:=F) hy
   obtain⟨⟨lab,fl,var,ex⟩,ve⟩:=y
   dsimp only at *
   obtain⟨wa,hwa⟩:∃wa,wa=wr.alloc (.cells #[.string lab,.bool fl,.int .i64 var,.slice ae ne ce] 57):=⟨_,rfl⟩
   have HWA:Hid (wa=wr.alloc (.cells #[.string lab,.bool fl,.int .i64 var,.slice ae ne ce] 57)):=hwa
   have ba:Below wr.heap.size wr wa:=by rw[hwa];exact qo _ _
   have hNr:N≤wr.heap.size:=Nat.le_trans HN.out hB.out.size
   obtain⟨Bx,hBx⟩:∃Bx,wr.heap.size=Bx:=⟨_,rfl⟩
   have ka:wa.heap[Bx]?=some (.cells #[.string lab,.bool fl,.int .i64 var,.slice ae ne ce] 57 (0,0)):=by rw[hwa,←hBx];exact heap_alloc_new wr _
   have z0:wa.cell? ⟨Bx,0,none⟩=some (.string lab):=S.M.qc ka 0
   have z1:wa.cell? ⟨Bx,1,none⟩=some (.bool fl):=S.M.qc ka 1
   have z2:wa.cell? ⟨Bx,2,none⟩=some (.int .i64 var):=S.M.qc ka 2
   have z3:wa.cell? ⟨Bx,3,none⟩=some (.slice ae ne ce):=S.M.qc ka 3
   have BA:Hid (Below N w wa):=hB.out.trans (ba.mono hNr)
   have CF:Hid _:=HF.out wa BA.out lab fl var ae ne ce
   have KA:Hid (wa.heap[Bx]?=some (.cells #[.string lab,.bool fl,.int .i64 var,.slice ae ne ce] 57 (0,0))∧Bx < wa.heap.size):=⟨ka,(Array.getElem?_eq_some_iff.1 ka).1⟩
   have HB:Hid (wr.heap.size=Bx):=hBx
   have BR:Hid (Below Bx wr wa):=by rw[←hBx];exact ba
   have HNS:Hid (q1a wa ae ex∧ex.length=ne∧ne≤17592186044416):=⟨hns.under ba,hne,by rw[←hne];exact he2⟩
   have HWT:Hid (q06 F (x.hs.take (j + 1))=q06 F (x.hs.take j)++if F fl var=true then [⟨lab,fl,var,ex⟩] else []):=WT
   have HNr:Hid (N≤Bx):=by rw[←hBx];exact hNr
   clear hrow her hns ee hne WT hwa ba hNr ka he1 he2 he3 hy hBx
   go_upto_region 4 with fail
   rw[←HWA.out,HB.out]
   clear HWA y0 y1 y2 y3
   cases hFv:F fl var with
   | false =>
    rw[hFv] at CF HWT
    go_wp2_with fail
    refine Calls.mono CF.out ?_
    rintro e w2 ⟨rfl,hb2⟩
    have U2:Hid (jr N w2 u1 us):=(hU.out.below (by rw[HB.out];exact BR.out)).below hb2
    have B2:Hid (Below N w w2):=BA.out.trans (hb2.mono (Nat.le_trans HNr.out (Nat.le_of_lt KA.out.2)))
    have S2:Hid (us.map (·.h)=ts.map (·.h)++q06 F (x.hs.take (j + 1))∧us.length≤ts.length + (j + 1)):=⟨by rw[hS.out.1,HWT.out];simp,by have:=hS.out.2;omega⟩
    clear hb2 hU hS hFv HWT
    go_wp2
    exact⟨⟨j + 1,us,by omega,by go_num,U2.out,S2.out,B2.out⟩,by simp[intOf];omega⟩
   | true =>
    rw[hFv] at CF HWT
    go_wp2_with fail
    refine Calls.mono CF.out ?_
    rintro e w2 ⟨rfl,hb2⟩
    have k2:w2.heap[Bx]?=some (.cells #[.string lab,.bool fl,.int .i64 var,.slice ae ne ce] 57 (0,0)):=(hb2.block Bx KA.out.2).trans KA.out.1
    have q3:w2.cell? ⟨Bx,3,none⟩=some (.slice ae ne ce):=S.M.qc k2 3
    have B2:Hid (Below Bx wr w2):=BR.out.trans (hb2.mono (Nat.le_of_lt KA.out.2))
    have CL:Hid _:=clone_any w2 ae ne ce ex HNS.out.2.1 HNS.out.2.2 (HNS.out.1.under hb2)
    have K2:Hid (w2.heap[Bx]?=some (.cells #[.string lab,.bool fl,.int .i64 var,.slice ae ne ce] 57 (0,0))∧Bx < w2.heap.size):=⟨k2,(Array.getElem?_eq_some_iff.1 k2).1⟩
    clear hb2 k2 z0 z1 z2 z3 CF KA BR
    go_wp2_with fail
    refine Calls.mono CL.out ?_
    rintro e w3 ⟨v',rfl,hv',hb3⟩
    obtain⟨a3,c3,rfl,_⟩:=qm hv'
    have k3:w3.heap[Bx]?=some (.cells #[.string lab,.bool fl,.int .i64 var,.slice ae ne ce] 57 (0,0)):=(hb3.block Bx K2.out.2).trans K2.out.1
    have p3:w3.cell? ⟨Bx,3,none⟩=some (.slice ae ne ce):=S.M.qc k3 3
    have f3:w3.frozen? ⟨Bx,3,none⟩=false:=by simp[World.frozen?,k3]
    obtain⟨w4,hw4⟩:∃w4,w4=w3.setCell ⟨Bx,3,none⟩ (.slice a3 ne c3):=⟨_,rfl⟩
    have HW4:Hid (w4=w3.setCell ⟨Bx,3,none⟩ (.slice a3 ne c3)):=hw4
    have ch4:S.M.Ch (fun b=>b=Bx) w3 w4:=by rw[hw4];exact S.M.xu w3 Bx 3 _
    have K4:Hid (w4.heap[Bx]?=some (.cells #[.string lab,.bool fl,.int .i64 var,.slice a3 ne c3] 57 (0,0))):=by show _=_;rw[hw4];exact S.M.qj k3
    have hB3:Below Bx wr w3:=B2.out.trans (hb3.mono (Nat.le_of_lt K2.out.2))
    have B4:Hid (Below Bx wr w4):=hB3.trans (ch4.below (by have h1:=hB3.size;have h2:=HB.out;omega) fun b e=>by omega)
    have V4:Hid (w4.ownsRow Bx 3 1 (.slice a3 ne c3) ne (zy ex)):=S.M.qp (S.M.qh hv' ch4 fun b hb e=>own_ne hv' k3 (by decide) (by rw[hb,e])) (Nat.le_of_lt K2.out.2)
    clear hv' hb3 k3 hw4 ch4 hB3 CL q3 B2
    go_upto_region 6 with fail
    rw[←HW4.out]
    clear HW4 p3 f3
    have q0:w4.cell? ⟨Bx,0,none⟩=some (.string lab):=S.M.qc K4.out 0
    have q1:w4.cell? ⟨Bx,1,none⟩=some (.bool fl):=S.M.qc K4.out 1
    have q2:w4.cell? ⟨Bx,2,none⟩=some (.int .i64 var):=S.M.qc K4.out 2
    have q3:w4.cell? ⟨Bx,3,none⟩=some (.slice a3 ne c3):=S.M.qc K4.out 3
    have hul:us.length≤1048575:=by have h1:=hS.out.2;have h2:=HM.out;omega
    obtain⟨ku,hku⟩:∃ku,us.length=ku:=⟨_,rfl⟩
    rw[hku] at hul
    have HKU:Hid (us.length=ku):=hku
    have U4:Hid (jr N w4 u1 us):=hU.out.below (by rw[HB.out];exact B4.out)
    have O4:Hid (w4.ownsRow N 57 4 u1 ku (yx us)):=by have h:=U4.out.own;rw[HKU.out] at h;exact h
    have HN4:Hid (N≤w4.heap.size):=Nat.le_trans HNr.out (Nat.le_of_lt (Array.getElem?_eq_some_iff.1 K4.out).1)
    clear hku
    go_wp2_with (at_builtin;refine wpList_append_lies (w:=w4.alloc (.cells #[.string lab,.bool fl,.int .i64 var,.slice a3 ne c3] 57)) rfl _ _ 44 rfl N 57 iH _ 4 56 Tryz.underlying44 hiH iHz iHs iHb rfl (by decide) _ ku (yx us) (by rfl) (S.M.zk O4.out _) ⟨w4.heap.size,0,none⟩ 1 1 [.string lab,.bool fl,.int .i64 var,.slice a3 ne c3] (by rfl) (by rfl) (World.news_of_block (cs:=#[.string lab,.bool fl,.int .i64 var,.slice a3 ne c3]) (t:=57) (fr:=(0,0)) (heap_alloc_new w4 _)) (by simp[Value.oneCell']) (by omega) (by unfold maxLen;omega) (by omega) (Nat.le_trans HN4.out (qo w4 _).size) _ rfl ?_;intro gg cap' w8 hown8 hgrow hat hlt8;have O8:Hid (w8.ownsRow N 57 4 (.slice (some ⟨gg,0,none⟩) (ku + 1) cap') (ku + 1) (yx us++[.string lab,.bool fl,.int .i64 var,.slice a3 ne c3])):=hown8;have C8:Hid (S.M.Ch (fun b=>Value.ownBlock u1=some b) w4 w8):=((S.M.Ch.of_below (qo w4 _)).trans (S.M.Ch.jm hgrow));clear hown8 hgrow hat hlt8)
    have hT8:Hid (jr N w8 (.slice (some ⟨gg,0,none⟩) (ku + 1) cap') (us++[⟨⟨lab,fl,var,ex⟩,.slice a3 ne c3⟩])):=by
     show jr _ _ _ _
     refine⟨?_,fun z hz=>?_,List.pairwise_append.2 ⟨hU.out.ap,by simp,fun z hz z' hz'=>?_⟩⟩
     ·rw[List.length_append,HKU.out,q2x];exact O8.out
     ·rcases List.mem_append.1 hz with hz | hz
      ·have h1:=U4.out.e z hz
       exact S.M.qh h1 C8.out fun b hb e=>uf h1 U4.out.own (by decide) b hb e
      ·rw[List.mem_singleton.1 hz]
       show w8.ownsRow N 3 1 (.slice a3 ne c3) ex.length (zy ex)
       rw[HNS.out.2.1]
       exact S.M.qp (S.M.qh V4.out C8.out fun b hb e=>uf V4.out U4.out.own (by decide) b hb e) HNr.out
     ·rw[List.mem_singleton.1 hz']
      intro b hb e
      have h1:=S.M.jl (hU.out.e z hz) b hb
      have h2:=S.M.zf V4.out b e
      have h3:=HB.out
      omega
    have hB8:Below N w w8:=hB.out.trans ((B4.out.mono HNr.out).trans (C8.out.below HN4.out fun b e=>S.M.zf U4.out.own b e))
    exact⟨⟨j + 1,us++[HyC.mk (Hy.mk lab fl var ex) (Value.slice a3 ne c3)],by omega,by go_num,hT8.out,⟨by rw[List.map_append,hS.out.1,HWT.out];simp,by rw[List.length_append];have:=hS.out.2;simp;omega⟩,hB8⟩,by simp[intOf];omega⟩
  ·have n1:¬(j:Int) < (nh:Int):=by omega
   have hall:x.hs.take j=x.hs:=List.take_of_length_le (by rw[HH.out];omega)
   have HS2:Hid (us.map (·.h)=ts.map (·.h)++q06 F x.hs):=by have h:=hS.out.1;rw[hall] at h;exact h
   clear hall hS
   go_wp2
   go_ret
   exact⟨hB.out,_,rfl,us,hU.out,HS2.out⟩
end F
namespace F
open S (qm)
open Go.Maps Go.RowKit Go.WideMaps
variable {tq:Nat} {isV:Int→Bool}
def jq (xs:List ScC):List HyC:=xs.flatMap (·.hs)
theorem q42 {xs:List ScC}{j:Nat}{x:ScC}(h:xs[j]?=some x):jq (xs.take (j + 1))=jq (xs.take j)++x.hs:=by unfold jq;rw[List.take_add_one,h,List.flatMap_append];simp
theorem qd2 (xs:List ScC)(j:Nat):(jq (xs.take j)).length≤(jq xs).length:=by
 unfold jq
 conv=>rhs;rw[←List.take_append_drop j xs,List.flatMap_append,List.length_append]
 omega
theorem q7a (F:Bool→Int→Bool)(l m:List HyC):q06 F (l++m)=q06 F l++q06 F m:=by unfold q06;rw[List.map_append,List.filter_append]
theorem qep (F:Bool→Int→Bool)(l:List HyC):(q06 F l).length≤l.length:=by
 unfold q06
 exact Nat.le_trans (List.length_filter_le _ _) (by rw[List.length_map];exact Nat.le_refl _)
theorem qh2 (w:World) (F:Bool→Int→Bool) (O:Nat→Prop) (P:Nat) (vS:Value) (xs:List ScC) (h:qw tq O w P vS xs) (hn:xs.length≤1048576) (hp:(jq xs).length≤1048576) (hlen:∀x ∈ xs,∀y ∈ x.hs,y.h.ex.length≤17592186044416)
  (hF:∀W,Below w.heap.size w W→∀(lab:ByteArray) (fl:Bool) (var:Int) (a:Option Addr) (n c:Nat),Calls Tryz.prog 214 #[.agg #[.string lab,.bool fl,.int .i64 var,.slice a n c]] W fun e W'=>e=.returned (.bool (F fl var))∧Below W.heap.size W W') :
  Calls Tryz.prog 215 #[.pointer (some ⟨P,0,none⟩),.func (.func 214) #[] #[]] w fun e w'=>Below w.heap.size w w'∧∃v' ts',e=.returned v'∧jr w.heap.size w' v' ts'∧ts'.map (·.h)=q06 F (jq xs):=by
 obtain⟨a,c,rfl,_⟩:=qm h.row
 have x1:=h.cells.2
 obtain⟨n,hl⟩:∃n,xs.length=n:=⟨_,rfl⟩
 rw[hl] at x1 hn
 have HL:Hid (xs.length=n):=hl
 have HS:Hid (qw tq O w P (.slice a n c) xs):=by have h':=h;rw[hl] at h';exact h'
 have HP:Hid ((jq xs).length≤1048576∧∀x ∈ xs,∀y ∈ x.hs,y.h.ex.length≤17592186044416):=⟨hp,hlen⟩
 obtain⟨N,hN⟩:∃N,w.heap.size=N:=⟨_,rfl⟩
 have HN:Hid (w.heap.size=N):=hN
 rw[hN] at hF ⊢
 have HF:Hid _:=hF
 clear h hl hp hlen hN hF
 go_enter Tryz.func215,Tryz.ntmps215
 go_wp2_with fail
 go_loopw [5,13] (fun v5 v13 wx=>∃(j:Nat) (us:List HyC),j≤n∧v13=.int .i64 j∧Hid (us.map (·.h)=q06 F (jq (xs.take j)))∧Hid (jr N wx v5 us)∧Hid (Below N w wx)) (fun _ v13 _=>n - (intOf v13).toNat)
 case atStart=>exact⟨0,[],Nat.zero_le _,rfl,rfl,jr.nil _ _,Below.refl _ _⟩
 case round =>
  obtain⟨j,us,hj,rfl,hU,hT,hB⟩:=hrel
  have B0:Hid (Below w.heap.size w wr):=by show Below _ _ _;rw[HN.out];exact hB.out
  by_cases hlt:j < n
  ·have n1:(j:Int) < (n:Int):=by omega
   obtain⟨x,hx⟩:∃x,xs[j]?=some x:=⟨_,List.getElem?_eq_getElem (by rw[HL.out];exact hlt)⟩
   have hS:=HS.out.below B0.out
   have hrow:=hS.row
   rw[HL.out] at hrow
   obtain⟨g,c',e,_,_,_⟩:=S.M.q0f hrow (by omega)
   cases e
   obtain⟨y0,y1,y2⟩:=q82 hrow j x hx
   obtain⟨wa,hwa⟩:∃wa,wa=wr.alloc (.cells #[x.vl,.map (some x.mb),x.vp] 225):=⟨_,rfl⟩
   have ba:Below wr.heap.size wr wa:=by rw[hwa];exact qo _ _
   have ka:wa.heap[wr.heap.size]?=some (.cells #[x.vl,.map (some x.mb),x.vp] 225 (0,0)):=by rw[hwa];exact heap_alloc_new wr _
   have BA:Hid (Below N w wa):=hB.out.trans (ba.mono (by have h1:=hB.out.size;have h2:=HN.out;omega))
   have hSa:qw tq O wa P (.slice (some ⟨g,0,none⟩) n c) xs:=HS.out.below (by rw[HN.out];exact BA.out)
   have hok:=hSa.each x (List.mem_of_getElem? hx)
   have hul:us.length≤(jq (xs.take j)).length:=by
    have h1:=qep F (jq (xs.take j))
    rw[←hU.out,List.length_map] at h1
    exact h1
   have TL:Hid _:=qh0 wa F O wr.heap.size N x u5 us hok (S.M.qc ka 0) (by have h1:=BA.out.size;have h2:=HN.out;omega) (fun b hb=>by have h1:=HS.out.lt b hb;have h2:=HN.out;omega) (hT.out.below ba) (by
    have h1:=qd2 xs (j + 1)
    rw[q42 hx,List.length_append] at h1
    have h2:=HP.out.1
    omega) (HP.out.2 x (List.mem_of_getElem? hx)) (fun W hW=>HF.out W (BA.out.trans hW))
   have WT:Hid (q06 F (jq (xs.take (j + 1)))=us.map (·.h)++q06 F x.hs):=by show _=_;rw[q42 hx,q7a,hU.out]
   obtain⟨al,cl,el,_⟩:=qm (hS.each x (List.mem_of_getElem? hx)).l
   obtain⟨ap,cp,ep,_⟩:=qm (hS.each x (List.mem_of_getElem? hx)).p
   rw[el] at y0 hwa
   rw[ep] at y2 hwa
   obtain⟨nh,hnh⟩:∃nh,x.hs.length=nh:=⟨_,rfl⟩
   obtain⟨np,hnp⟩:∃np,x.ps.length=np:=⟨_,rfl⟩
   obtain⟨mb,hmb⟩:∃mb,x.mb=mb:=⟨_,rfl⟩
   rw[hnh] at y0 hwa
   rw[hmb] at y1 hwa
   rw[hnp] at y2 hwa
   have HWA:Hid (wa=wr.alloc (.cells #[.slice al nh cl,.map (some mb),.slice ap np cp] 225)):=hwa
   obtain⟨Bx,hBx⟩:∃Bx,wr.heap.size=Bx:=⟨_,rfl⟩
   have HBX:Hid (wr.heap.size=Bx):=hBx
   rw[hBx] at TL
   clear hS hrow hok hx ba ka hwa el ep hnh hnp hmb hB hBx hSa hul hU hT
   go_upto_region 5 with fail
   rw[←HWA.out,HBX.out]
   clear HWA y0 y1 y2
   go_wp2_with fail
   refine Calls.mono TL.out ?_
   rintro e w2 ⟨hb2,v',ts',rfl,hT',hm'⟩
   have T2:Hid (jr N w2 v' ts'):=hT'
   have U2:Hid (ts'.map (·.h)=q06 F (jq (xs.take (j + 1)))):=hm'.trans WT.out.symm
   have B2:Hid (Below N w w2):=BA.out.trans hb2
   clear hb2 hT' hm' TL WT
   go_wp2
   exact⟨⟨j + 1,ts',by omega,by go_num,U2.out,T2.out,B2.out⟩,by simp[intOf];omega⟩
  ·have n1:¬(j:Int) < (n:Int):=by omega
   have hall:xs.take j=xs:=List.take_of_length_le (by rw[HL.out];omega)
   have U2:Hid (us.map (·.h)=q06 F (jq xs)):=by have h:=hU.out;rw[hall] at h;exact h
   clear hall hU
   go_wp2
   go_ret
   exact⟨hB.out,_,rfl,us,hT.out,U2.out⟩
theorem qh3 (w:World) (MB:Nat) (F:Bool→Int→Bool) (O:Nat→Prop) (P:Nat) (vS:Value) (xs:List ScC) (h:qw tq O w P vS xs) (hn:xs.length≤1048576) (hp:(jq xs).length≤1048576) (hlen:∀x ∈ xs,∀y ∈ x.hs,y.h.ex.length≤17592186044416)
  (hF:∀W,Below w.heap.size w W→∀(lab:ByteArray) (fl:Bool) (var:Int) (a:Option Addr) (n c:Nat),Calls Tryz.prog 234 #[.agg #[.string lab,.bool fl,.int .i64 var,.slice a n c],.pointer (some ⟨MB,0,none⟩)] W fun e W'=>e=.returned (.bool (F fl var))∧Below W.heap.size W W') :
  Calls Tryz.prog 215 #[.pointer (some ⟨P,0,none⟩),.func (.func 234) #[] #[.pointer (some ⟨MB,0,none⟩)]] w fun e w'=>Below w.heap.size w w'∧∃v' ts',e=.returned v'∧jr w.heap.size w' v' ts'∧ts'.map (·.h)=q06 F (jq xs):=by
 obtain⟨a,c,rfl,_⟩:=qm h.row
 have x1:=h.cells.2
 obtain⟨n,hl⟩:∃n,xs.length=n:=⟨_,rfl⟩
 rw[hl] at x1 hn
 have HL:Hid (xs.length=n):=hl
 have HS:Hid (qw tq O w P (.slice a n c) xs):=by have h':=h;rw[hl] at h';exact h'
 have HP:Hid ((jq xs).length≤1048576∧∀x ∈ xs,∀y ∈ x.hs,y.h.ex.length≤17592186044416):=⟨hp,hlen⟩
 obtain⟨N,hN⟩:∃N,w.heap.size=N:=⟨_,rfl⟩
 have HN:Hid (w.heap.size=N):=hN
 rw[hN] at hF ⊢
 have HF:Hid _:=hF
 clear h hl hp hlen hN hF
 go_enter Tryz.func215,Tryz.ntmps215
 go_wp2_with fail
 go_loopw [5,13] (fun v5 v13 wx=>∃(j:Nat) (us:List HyC),j≤n∧v13=.int .i64 j∧Hid (us.map (·.h)=q06 F (jq (xs.take j)))∧Hid (jr N wx v5 us)∧Hid (Below N w wx)) (fun _ v13 _=>n - (intOf v13).toNat)
 case atStart=>exact⟨0,[],Nat.zero_le _,rfl,rfl,jr.nil _ _,Below.refl _ _⟩
 case round =>
  obtain⟨j,us,hj,rfl,hU,hT,hB⟩:=hrel
  have B0:Hid (Below w.heap.size w wr):=by show Below _ _ _;rw[HN.out];exact hB.out
  by_cases hlt:j < n
  ·have n1:(j:Int) < (n:Int):=by omega
   obtain⟨x,hx⟩:∃x,xs[j]?=some x:=⟨_,List.getElem?_eq_getElem (by rw[HL.out];exact hlt)⟩
   have hS:=HS.out.below B0.out
   have hrow:=hS.row
   rw[HL.out] at hrow
   obtain⟨g,c',e,_,_,_⟩:=S.M.q0f hrow (by omega)
   cases e
   obtain⟨y0,y1,y2⟩:=q82 hrow j x hx
   obtain⟨wa,hwa⟩:∃wa,wa=wr.alloc (.cells #[x.vl,.map (some x.mb),x.vp] 225):=⟨_,rfl⟩
   have ba:Below wr.heap.size wr wa:=by rw[hwa];exact qo _ _
   have ka:wa.heap[wr.heap.size]?=some (.cells #[x.vl,.map (some x.mb),x.vp] 225 (0,0)):=by rw[hwa];exact heap_alloc_new wr _
   have BA:Hid (Below N w wa):=hB.out.trans (ba.mono (by have h1:=hB.out.size;have h2:=HN.out;omega))
   have hSa:qw tq O wa P (.slice (some ⟨g,0,none⟩) n c) xs:=HS.out.below (by rw[HN.out];exact BA.out)
   have hok:=hSa.each x (List.mem_of_getElem? hx)
   have hul:us.length≤(jq (xs.take j)).length:=by
    have h1:=qep F (jq (xs.take j))
    rw[←hU.out,List.length_map] at h1
    exact h1
   have TL:Hid _:=qh1 wa MB F O wr.heap.size N x u5 us hok (S.M.qc ka 0) (by have h1:=BA.out.size;have h2:=HN.out;omega) (fun b hb=>by have h1:=HS.out.lt b hb;have h2:=HN.out;omega) (hT.out.below ba) (by
    have h1:=qd2 xs (j + 1)
    rw[q42 hx,List.length_append] at h1
    have h2:=HP.out.1
    omega) (HP.out.2 x (List.mem_of_getElem? hx)) (fun W hW=>HF.out W (BA.out.trans hW))
   have WT:Hid (q06 F (jq (xs.take (j + 1)))=us.map (·.h)++q06 F x.hs):=by show _=_;rw[q42 hx,q7a,hU.out]
   obtain⟨al,cl,el,_⟩:=qm (hS.each x (List.mem_of_getElem? hx)).l
   obtain⟨ap,cp,ep,_⟩:=qm (hS.each x (List.mem_of_getElem? hx)).p
   rw[el] at y0 hwa
   rw[ep] at y2 hwa
   obtain⟨nh,hnh⟩:∃nh,x.hs.length=nh:=⟨_,rfl⟩
   obtain⟨np,hnp⟩:∃np,x.ps.length=np:=⟨_,rfl⟩
   obtain⟨mb,hmb⟩:∃mb,x.mb=mb:=⟨_,rfl⟩
   rw[hnh] at y0 hwa
   rw[hmb] at y1 hwa
   rw[hnp] at y2 hwa
   have HWA:Hid (wa=wr.alloc (.cells #[.slice al nh cl,.map (some mb),.slice ap np cp] 225)):=hwa
   obtain⟨Bx,hBx⟩:∃Bx,wr.heap.size=Bx:=⟨_,rfl⟩
   have HBX:Hid (wr.heap.size=Bx):=hBx
   rw[hBx] at TL
   clear hS hrow hok hx ba ka hwa el ep hnh hnp hmb hB hBx hSa hul hU hT
   go_upto_region 5 with fail
   rw[←HWA.out,HBX.out]
   clear HWA y0 y1 y2
   go_wp2_with fail
   refine Calls.mono TL.out ?_
   rintro e w2 ⟨hb2,v',ts',rfl,hT',hm'⟩
   have T2:Hid (jr N w2 v' ts'):=hT'
   have U2:Hid (ts'.map (·.h)=q06 F (jq (xs.take (j + 1)))):=hm'.trans WT.out.symm
   have B2:Hid (Below N w w2):=BA.out.trans hb2
   clear hb2 hT' hm' TL WT
   go_wp2
   exact⟨⟨j + 1,ts',by omega,by go_num,U2.out,T2.out,B2.out⟩,by simp[intOf];omega⟩
  ·have n1:¬(j:Int) < (n:Int):=by omega
   have hall:xs.take j=xs:=List.take_of_length_le (by rw[HL.out];omega)
   have U2:Hid (us.map (·.h)=q06 F (jq xs)):=by have h:=hU.out;rw[hall] at h;exact h
   clear hall hU
   go_wp2
   go_ret
   exact⟨hB.out,_,rfl,us,hT.out,U2.out⟩
end F
end Go.Proofs.YtbancemhfjjmlaaGreatDoor
