/- Laid together: SKScanA. -/
import Derived.Test.YtbancemhfjjmlaaGreatDoorQA03
import Derived.Lib.LastIndexByte
import Derived.Lib.Strings
import Derived.Lib.Bytealg
import Derived.Lib.IndexAny
import Derived.Outline
import Derived.Deep.Light
import Derived.RegionTactic
import Derived.ChangeAlike
import Derived.Deep.RegionWith
import Derived.Deep.RegionLaw
import Derived.Deep.AppendLies
import Derived.Deep.RegionHeld3
set_option maxRecDepth 100000
set_option maxHeartbeats 32000000
namespace Go.Proofs.YtbancemhfjjmlaaGreatDoor
namespace S.K
def q2p (l:List UInt8):Nat:=l.count 10 + 1
def q6h (l:List UInt8):Nat:=l.foldl (fun c b=>if b=10 then 1 else c + 1) 1
theorem q9i (l:List UInt8)(b:UInt8):q2p (l++[b])=q2p l + if b=10 then 1 else 0:=by
 unfold q2p;rw[List.count_append,List.count_singleton];simp only[beq_iff_eq];split <;> omega
theorem q7p (l:List UInt8)(b:UInt8):q6h (l++[b])=if b=10 then 1 else q6h l + 1:=by
 unfold q6h;rw[List.foldl_append];rfl
theorem qm9 (l:List UInt8):1≤q2p l∧q2p l≤l.length + 1:=by
 unfold q2p;have:=List.count_le_length (a:=(10:UInt8)) (l:=l);omega
theorem q4s (b:UInt8):((b.toNat:Int)=10)↔b=10:=by
 constructor
 ·intro h;apply UInt8.toNat_inj.1;have:b.toNat=10:=by omega
  rw[this];rfl
 ·rintro rfl;rfl
theorem qma (t:ByteArray):∀k:Nat,k≤t.size→(q6h (t.data.toList.take k):Int)=k - Lib.lastIdx t 10 k:=by
 intro k
 induction k with
 | zero=>intro _;rfl
 | succ k ih =>
  intro hk
  have hb:t.data[k]! = t[k]:=by rw[getElem!_pos t.data k (by simpa using (show k < t.size by omega))];rfl
  rw[take_snoc t k (by omega),q7p]
  by_cases h:t[k]=10
  ·rw[if_pos h,Lib.lastIdx_hit _ _ _ (by rw[hb];exact (q4s _).2 h)]
   omega
  ·rw[if_neg h,Lib.lastIdx_miss _ _ _ (by rw[hb];exact fun e=>h ((q4s _).1 e))]
   have:=ih (by omega)
   omega
theorem qg2 (t:ByteArray)(c:Int)(k:Nat):-1≤Lib.lastIdx t c k∧Lib.lastIdx t c k < k:=by
 rcases Lib.lastIdx_spec t c k with ⟨e,_⟩ | ⟨i,hi,e,_⟩ <;> omega
theorem qmb (t:ByteArray):t.data.toList.take t.size=t.data.toList:=List.take_of_length_le (Nat.le_of_eq rfl)
theorem size_ext (s:ByteArray)(off:Nat)(h:off≤s.size):(s.extract 0 off).size=off:=by rw[ByteArray.size_extract];omega
theorem q70 (s:ByteArray)(off:Nat):(s.extract 0 off).data.toList=s.data.toList.take off:=by rw[Lib.extract_data];simp
theorem col_ext (s:ByteArray)(off:Nat)(h:off≤s.size):(off:Int) - (Lib.lastIndexByte (s.extract 0 off) 10 + 1) + 1=q6h (s.data.toList.take off):=by
 have h1:=qma (s.extract 0 off) (s.extract 0 off).size (Nat.le_refl _)
 rw[qmb,q70] at h1
 unfold Lib.lastIndexByte
 rw[size_ext s off h] at h1 ⊢
 omega
theorem qmc (s:ByteArray)(off:Nat):((Lib.countByte (s.extract 0 off).data.toList 10:Nat):Int) + 1=q2p (s.data.toList.take off):=by
 rw[q70];unfold q2p Lib.countByte;omega
theorem qcm (s:ByteArray)(k:Nat):1≤q2p (s.data.toList.take k)∧q2p (s.data.toList.take k)≤k + 1:=by
 have:=qm9 (s.data.toList.take k);have h2:(s.data.toList.take k).length≤k:=List.length_take_le _ _;omega
end S.K
namespace S.K
structure Tok where
 text:ByteArray
 off:Int
 line:Int
 col:Int
def q71:Tok:=⟨⟨#[]⟩,0,0,0⟩
def isOpen (t:ByteArray):Bool:=t.toList == [36,40]
def q46 (t:ByteArray):Bool:=t.toList == [36,41]
def qcn (t:ByteArray):Bool:=Lib.contains t.data.toList [36,40] || Lib.contains t.data.toList [36,41]
structure Rd where
 told:List Tok
 opn:Tok
def q3s (r:Rd):Bool:=!r.opn.text.toList.isEmpty
def takeC (o t:Tok):Int × Tok:=if q46 t.text then (0,q71) else if qcn t.text then (11,o) else (0,o)
def ql (r:Rd)(t:Tok):Int × Rd :=
 if q3s r then ((takeC r.opn t).1,{ r with opn:=(takeC r.opn t).2 })
 else if isOpen t.text then (0,{ r with opn:=t })
 else if q46 t.text then (11,r)
 else if r.told.length=16384 then (13,r)
 else (0,{ r with told:=r.told++[t] })
end S.K
namespace S.K
def q1e (k:Nat)(c:UInt8):Int:=if k=65536 then 13 else if xq c.toNat=0 then 10 else 0
def wordAt (s:ByteArray)(start stop line ls:Nat):Tok:=⟨s.extract start stop,start,line,start - ls + 1⟩
def evs (s:ByteArray):List UInt8→Nat→Nat→Nat→Nat→List (Tok × Int)
 | [],k,start,line,ls=>if start < k then [(wordAt s start k line ls,0)] else []
 | c :: rest,k,start,line,ls =>
  if q1e k c=0 then
   if xq c.toNat=1 then (if start < k then [(wordAt s start k line ls,0)] else [])++evs s rest (k + 1) (k + 1) (if c=10 then line + 1 else line) (if c=10 then k + 1 else ls)
   else evs s rest (k + 1) start line ls
  else [(⟨⟨#[]⟩,k,line,k - ls + 1⟩,q1e k c)]
def events (s:ByteArray):List (Tok × Int):=evs s s.data.toList 0 0 1 0
def xw:Rd→List (Tok × Int)→Rd × Option (Tok × Int)
 | r,[]=>(r,none)
 | r,(t,c) :: es=>if c=0 then (if (ql r t).1=0 then xw (ql r t).2 es else ((ql r t).2,some (t,(ql r t).1))) else (r,some (t,c))
def rd0:Rd:=⟨[],q71⟩
def q0t (s:ByteArray):List Tok × Option (Tok × Int) :=
 match xw rd0 (events s) with
 | (r,some f)=>(r.told,some f)
 | (r,none)=>(r.told,if q3s r then some (r.opn,12) else none)
theorem q3h (r:Rd)(xa bs:List (Tok × Int)):xw r (xa++bs)=match xw r xa with | (r',none)=>xw r' bs | (r',some f)=>(r',some f):=by
 induction xa generalizing r with
 | nil=>rfl
 | cons a xa ih =>
  obtain⟨t,c⟩:=a
  simp only[List.cons_append,xw]
  split
  ·split
   ·exact ih _
   ·rfl
  ·rfl
theorem drop_cons (s:ByteArray)(k:Nat)(h:k < s.size):s.data.toList.drop k=s[k] :: s.data.toList.drop (k + 1):=by
 rw[List.drop_eq_getElem_cons (by simpa using h)];rfl
theorem drop_end (s:ByteArray)(k:Nat)(h:s.size≤k):s.data.toList.drop k=[]:=List.drop_eq_nil_of_le (by simpa using h)
theorem qdu (s:ByteArray)(k start line ls:Nat)(h:k < s.size)(hc:q1e k s[k]≠0):evs s (s.data.toList.drop k) k start line ls=[(⟨⟨#[]⟩,k,line,k - ls + 1⟩,q1e k s[k])]:=by
 rw[drop_cons s k h,evs,if_neg hc]
theorem qia (s:ByteArray)(k start line ls:Nat)(h:k < s.size)(hc:q1e k s[k]=0)(hb:¬xq s[k].toNat=1):evs s (s.data.toList.drop k) k start line ls=evs s (s.data.toList.drop (k + 1)) (k + 1) start line ls:=by
 rw[drop_cons s k h,evs,if_pos hc,if_neg hb]
theorem qdv (s:ByteArray)(k start line ls:Nat)(h:k < s.size)(hc:q1e k s[k]=0)(hb:xq s[k].toNat=1):evs s (s.data.toList.drop k) k start line ls=(if start < k then [(wordAt s start k line ls,0)] else [])++evs s (s.data.toList.drop (k + 1)) (k + 1) (k + 1) (if s[k]=10 then line + 1 else line) (if s[k]=10 then k + 1 else ls):=by
 rw[drop_cons s k h,evs,if_pos hc,if_pos hb]
theorem qmd (s:ByteArray)(k start line ls:Nat)(h:s.size≤k):evs s (s.data.toList.drop k) k start line ls=if start < k then [(wordAt s start k line ls,0)] else []:=by
 rw[drop_end s k h,evs]
end S.K
namespace S.K
open Go.RowKit
theorem bcell {W w1:World}(hb:Below W.heap.size W w1):(∀b o,b < W.heap.size→w1.cell? ⟨b,o,none⟩=W.cell? ⟨b,o,none⟩)∧(∀b o,b < W.heap.size→w1.frozen? ⟨b,o,none⟩=W.frozen? ⟨b,o,none⟩) :=
 ⟨fun b o h=>hb.cell (p:=⟨b,o,none⟩) h,fun b o h=>hb.frozen (p:=⟨b,o,none⟩) h⟩
def qg3 (s:ByteArray)(k:Nat):Value:=.agg #[.int .i64 k,.int .i64 (q2p (s.data.toList.take k)),.int .i64 (q6h (s.data.toList.take k))]
theorem later {W w1:World}{x:Value}{b o:Nat}{O:Obj}(hb:Below (W.alloc O).heap.size (W.alloc O) w1)(h:W.cell? ⟨b,o,none⟩=some x):w1.cell? ⟨b,o,none⟩=some x:=by
 have hlt:b < W.heap.size:=World.block_lt_of_cell? _ _ h
 rw[hb.cell (p:=⟨b,o,none⟩) (by simp;omega)]
 rw[World.cell?_of_block (w:=W) (Below.heap_alloc W O b hlt)]
 exact h
theorem q5j {W:World}{x:Value}{b o:Nat}(h:W.cell? ⟨b,o,none⟩=some x)(O:Obj):(W.alloc O).cell? ⟨b,o,none⟩=some x :=
 (World.cell?_of_block (w:=W) (Below.heap_alloc W O b (World.block_lt_of_cell? _ _ h))).trans h
end S.K
namespace S.K
open Go.RowKit
def zn (t:Tok):Value:=.agg #[.string t.text,.int .i64 t.off,.int .i64 t.line,.int .i64 t.col]
def um (t:Tok):List Value:=[.string t.text,.int .i64 t.off,.int .i64 t.line,.int .i64 t.col]
def rowOf (l:List Tok):List Value:=l.flatMap um
def q0x (W:World)(R:Nat)(v:Value)(o:Tok):Prop:=W.heap[R]?=some (.cells #[v,.string o.text,.int .i64 o.off,.int .i64 o.line,.int .i64 o.col] 110 (0,0))
theorem q0x.lt {W:World}{R:Nat}{v:Value}{o:Tok}(h:q0x W R v o):R < W.heap.size:=(Array.getElem?_eq_some_iff.1 h).1
theorem q0x.cells {W:World}{R:Nat}{v:Value}{o:Tok}(h:q0x W R v o):W.cell? ⟨R,0,none⟩=some v∧W.cell? ⟨R,1,none⟩=some (.string o.text)∧W.cell? ⟨R,2,none⟩=some (.int .i64 o.off)∧W.cell? ⟨R,3,none⟩=some (.int .i64 o.line)∧W.cell? ⟨R,4,none⟩=some (.int .i64 o.col):=by
 refine⟨?_,?_,?_,?_,?_⟩ <;> simp[World.cell?,show W.heap[R]?=_ from h]
theorem q0x.free {W:World}{R:Nat}{v:Value}{o:Tok}(h:q0x W R v o)(i:Nat):W.frozen? ⟨R,i,none⟩=false:=by simp[World.frozen?,show W.heap[R]?=_ from h]
theorem grownBy_set (W:World)(b o:Nat)(v:Value):W.grownBy (W.setCell ⟨b,o,none⟩ v) (some b) :=
 ⟨rfl,rfl,rfl,by simp[World.setCell],fun k _ hk=>Below.heap_setCell _ _ _ k (fun e=>hk (by rw[e]))⟩
theorem q7q {W W':World}(h:Below W.heap.size W W')(row:Option Nat):W.grownBy W' row:=⟨h.os,h.tape,h.output,h.size,fun k hk _=>h.block k hk⟩
theorem qj {W:World}{b o:Nat}{v:Value}{cs:Array Value}{t:TypeId}{fr:Nat × Nat}(h:W.heap[b]?=some (.cells cs t fr)):(W.setCell ⟨b,o,none⟩ v).heap[b]?=some (.cells (cs.setIfInBounds o v) t fr):=by
 obtain⟨hlt,hk⟩:=Array.getElem?_eq_some_iff.1 h
 show (W.heap.modify b _)[b]?=_
 rw[Array.getElem?_eq_getElem (by rw[Array.size_modify];exact hlt),Array.getElem_modify_self,hk]
 rfl
theorem q0x.qme {W:World}{R:Nat}{v:Value}{o:Tok}(h:q0x W R v o)(t:Tok) :
  q0x ((((W.setCell ⟨R,1,none⟩ (.string t.text)).setCell ⟨R,2,none⟩ (.int .i64 t.off)).setCell ⟨R,3,none⟩ (.int .i64 t.line)).setCell ⟨R,4,none⟩ (.int .i64 t.col)) R v t :=
 qj (qj (qj (qj h)))
theorem q0x.setTold {W:World}{R:Nat}{v:Value}{o:Tok}(h:q0x W R v o)(u:Value):q0x (W.setCell ⟨R,0,none⟩ u) R u o:=qj h
theorem q0x.kept {W W':World}{R:Nat}{v:Value}{o:Tok}(h:q0x W R v o)(hb:W'.heap[R]?=W.heap[R]?):q0x W' R v o:=hb.trans h
theorem q0x.alloc {W:World}{R:Nat}{v:Value}{o:Tok}(h:q0x W R v o)(O:Obj):q0x (W.alloc O) R v o:=h.kept (Below.heap_alloc W O R h.lt)
theorem q3w (W:World)(R:Nat)(a b c d:Value):W.grownBy ((((W.setCell ⟨R,1,none⟩ a).setCell ⟨R,2,none⟩ b).setCell ⟨R,3,none⟩ c).setCell ⟨R,4,none⟩ d) (some R) :=
 (((grownBy_set W R 1 a).trans (grownBy_set _ R 2 b)).trans (grownBy_set _ R 3 c)).trans (grownBy_set _ R 4 d)
theorem clone_any (t:ByteArray)(w:World)(ht:t.size≤281474976710656) :
  Calls Tryz.prog 100 #[.string t] w fun e w'=>e=.returned (.string t)∧Below w.heap.size w w':=by
 go_enter Tryz.func100,Tryz.ntmps100
 go_wp2_with (go_at_call 151;refine (Tryz.stringslite_Clone _ _ ht).mono ?_;rintro e w' ⟨rfl,hb⟩)
 go_ret
 exact⟨rfl,hb⟩
theorem q8k (t:Tok)(w:World)(ht:t.text.size≤281474976710656) :
  Calls Tryz.prog 122 #[zn t] w fun e w'=>e=.returned (zn t)∧Below w.heap.size w w':=by
 obtain⟨t,a,b,c⟩:=t
 unfold zn
 dsimp only at ht ⊢
 go_enter Tryz.func122,Tryz.ntmps122
 go_wp2
 go_region_with (go_at_call 100;refine (clone_any _ _ ht).mono ?_;rintro e w1 ⟨rfl,hb⟩;have hz:w.heap.size + 1 < w1.heap.size:=(by have:=hb.size;simp at this;omega);obtain⟨hc,hf⟩:=bcell hb)
 all_goals go_wp2
 all_goals (refine bodyPost_ret (v:=.agg #[.string t,.int .i64 a,.int .i64 b,.int .i64 c]) (by simp[results,Tryz.results122,go_sem,hc]) rfl ⟨rfl,?_⟩)
 all_goals exact ((((((((Below.refl w.heap.size w).alloc (Nat.le_refl _) _).alloc (by simp) _).drew).trans (hb.mono (by simp;omega))).setCell (by simp) _).setCell (by simp) _).setCell (by simp) _).setCell (by simp) _
theorem q1t (R:Nat)(v:Value)(o:Tok)(w:World)(h:q0x w R v o) :
  Calls Tryz.prog 63 #[.pointer (some ⟨R,0,none⟩)] w fun e w'=>e=.returned (.bool (!o.text.toList.isEmpty))∧w'=w:=by
 have h1:=h.cells.2.1
 go_enter Tryz.func63,Tryz.ntmps63
 go_wp2
 go_ret
 exact⟨rfl,rfl⟩
theorem q72 (R:Nat)(v:Value)(o t:Tok)(m:Int)(w:World)(hRd:q0x w R v o)(ht:t.text.size≤65536)(hm:w.cell? ⟨2,0,none⟩=some (.int .i64 m)) :
  Calls Tryz.prog 121 #[.pointer (some ⟨R,0,none⟩),zn t] w fun e w'=>e=.returned (.int .i64 (takeC o t).1)∧q0x w' R v (takeC o t).2∧w.grownBy w' (some R):=by
 obtain⟨h0,h1,h2,h3,h4⟩:=hRd.cells
 have hlt:=hRd.lt
 have hfr:=hRd.free
 obtain⟨t,a,b,c⟩:=t
 unfold zn
 dsimp only at ht ⊢
 by_cases hs:q46 t
 ·have hs':(t.toList == [36,41])=true:=hs
  have hc:Hid (takeC o ⟨t,a,b,c⟩=(0,q71)):=by unfold takeC;exact if_pos hs
  clear hs
  rw[hc.out]
  go_enter Tryz.func121,Tryz.ntmps121
  go_wp2
  go_ret
  exact⟨rfl,(hRd.qme q71).alloc _,(q3w w R _ _ _ _).trans (World.grownBy_alloc _ _ _)⟩
 ·have hs':(t.toList == [36,41])=false:=by simpa [q46] using hs
  have hm':=q5j hm
  have C1:=fun wx hx=>Tryz.strings_Contains t ⟨#[36,40]⟩ m wx (by omega) hx
  have C2:=fun wx hx=>Tryz.strings_Contains t ⟨#[36,41]⟩ m wx (by omega) hx
  by_cases h40:Lib.contains t.data.toList [36,40]=true
  ·have hc:Hid (takeC o ⟨t,a,b,c⟩=(11,o)):=by
    unfold takeC
    rw[if_neg hs]
    exact if_pos (by unfold qcn;rw[h40];rfl)
   rw[hc.out]
   have H40:Hid (Lib.contains t.data.toList [36,40]=true):=h40
   clear hs h40 hc
   replace C1:=show Hid _ from C1
   replace C2:=show Hid _ from C2
   go_enter Tryz.func121,Tryz.ntmps121
   go_wp2_with fail
   refine (C1.out _ (hm' _)).mono ?_
   rintro e w1 ⟨rfl,hw⟩
   subst hw
   rw[show Lib.contains t.data.toList (⟨#[36,40]⟩:ByteArray).data.toList=true from H40.out]
   go_wp2
   go_ret
   exact⟨rfl,hRd.alloc _,World.grownBy_alloc _ _ _⟩
  ·have h40':Lib.contains t.data.toList [36,40]=false:=by simpa using h40
   have hc:Hid (takeC o ⟨t,a,b,c⟩=if Lib.contains t.data.toList [36,41] then (11,o) else (0,o)):=by
    show _=_
    unfold takeC
    rw[if_neg hs]
    unfold qcn
    rw[h40',Bool.false_or]
   have H40:Hid (Lib.contains t.data.toList [36,40]=false):=h40'
   replace C1:=show Hid _ from C1
   replace C2:=show Hid _ from C2
   clear h40 h40'
   cases h41:Lib.contains t.data.toList [36,41] with
   | true =>
    rw[h41] at hc
    rw[hc.out]
    have H41:Hid (Lib.contains t.data.toList [36,41]=true):=h41
    clear hs hc h41
    go_enter Tryz.func121,Tryz.ntmps121
    go_wp2_with fail
    refine (C1.out _ (hm' _)).mono ?_
    rintro e w1 ⟨rfl,hw⟩
    subst hw
    rw[show Lib.contains t.data.toList (⟨#[36,40]⟩:ByteArray).data.toList=false from H40.out]
    go_wp2_with fail
    refine (C2.out _ (hm' _)).mono ?_
    rintro e w1 ⟨rfl,hw⟩
    subst hw
    rw[show Lib.contains t.data.toList (⟨#[36,41]⟩:ByteArray).data.toList=true from H41.out]
    go_wp2
    go_ret
    exact⟨rfl,hRd.alloc _,World.grownBy_alloc _ _ _⟩
   | false =>
    rw[h41] at hc
    rw[hc.out]
    have H41:Hid (Lib.contains t.data.toList [36,41]=false):=h41
    clear hs hc h41
    go_enter Tryz.func121,Tryz.ntmps121
    go_wp2_with fail
    refine (C1.out _ (hm' _)).mono ?_
    rintro e w1 ⟨rfl,hw⟩
    subst hw
    rw[show Lib.contains t.data.toList (⟨#[36,40]⟩:ByteArray).data.toList=false from H40.out]
    go_wp2_with fail
    refine (C2.out _ (hm' _)).mono ?_
    rintro e w1 ⟨rfl,hw⟩
    subst hw
    rw[show Lib.contains t.data.toList (⟨#[36,41]⟩:ByteArray).data.toList=false from H41.out]
    go_wp2
    go_ret
    exact⟨rfl,hRd.alloc _,World.grownBy_alloc _ _ _⟩
end S.K
namespace S.K
open Go.RowKit
structure Keeps (base R:Nat)(W W':World):Prop where
 os:W'.os=W.os
 tape:W'.tape=W.tape
 output:W'.output=W.output
 size:W.heap.size≤W'.heap.size
 block:∀k,k < base→k≠R→W'.heap[k]?=W.heap[k]?
theorem Keeps.trans {base R:Nat}{A B C:World}(h:Keeps base R A B)(k:Keeps base R B C):Keeps base R A C :=
 ⟨k.os.trans h.os,k.tape.trans h.tape,k.output.trans h.output,Nat.le_trans h.size k.size,fun i hi hr=>(k.block i hi hr).trans (h.block i hi hr)⟩
theorem Keeps.jm {base R:Nat}{A B:World}(h:A.grownBy B (some R))(hb:base≤A.heap.size):Keeps base R A B :=
 ⟨h.os,h.tape,h.output,h.size,fun i hi hr=>h.block i (by omega) (fun e=>hr (by cases e;rfl))⟩
theorem Keeps.qmf {base R:Nat}{A B:World}{row:Option Nat}(h:A.grownBy B row)(hb:base≤A.heap.size)(hr:∀g,row=some g→base≤g):Keeps base R A B :=
 ⟨h.os,h.tape,h.output,h.size,fun i hi _=>h.block i (by omega) (fun e=>by have:=hr i e.symm;omega)⟩
theorem Keeps.of_below {base R:Nat}{A B:World}(h:Below A.heap.size A B)(hb:base≤A.heap.size):Keeps base R A B :=
 ⟨h.os,h.tape,h.output,h.size,fun i hi _=>h.block i (by omega)⟩
theorem Keeps.drew (base R:Nat)(A:World):Keeps base R A A.drew:=⟨rfl,rfl,rfl,Nat.le_refl _,fun _ _ _=>rfl⟩
theorem Keeps.alloc {base R:Nat}{A:World}(hb:base≤A.heap.size)(O:Obj):Keeps base R A (A.alloc O):=Keeps.qmf (World.grownBy_alloc A O none) hb (fun _ e=>by cases e)
theorem slice_form {W:World}{base e size:Nat}{v:Value}{n:Nat}{xs:List Value}(h:W.ownsRow base e size v n xs):∃a cap,v=.slice a n cap∧∀g,v.ownBlock=some g→base≤g:=by
 rcases h.2 with ⟨rfl,rfl⟩ | ⟨g,cap,cur,rfl,hg,_⟩
 ·exact⟨_,_,rfl,fun g e=>by simp[Value.ownBlock] at e⟩
 ·exact⟨_,_,rfl,fun g' e=>by simp[Value.ownBlock] at e;omega⟩
theorem info37:(Tryz.prog.info? 36).map (fun i=>(i.zero,i.size,i.bytes))=some (some (.agg #[.string ⟨#[]⟩,.int .i64 0,.int .i64 0,.int .i64 0]),4,40):=by kernel_rfl
theorem q6i {W W':World}{base R e size:Nat}{v:Value}{n:Nat}{xs:List Value}(h:W.ownsRow base e size v n xs)(hg:W.grownBy W' (some R))(hR:R < base):W'.ownsRow base e size v n xs:=by
 refine⟨h.1,?_⟩
 rcases h.2 with h0 | ⟨g,cap,cur,hv,hb,hh,hr⟩
 ·exact .inl h0
 ·exact .inr ⟨g,cap,cur,hv,hb,(hg.block g (Array.getElem?_eq_some_iff.1 hh).1 (fun e'=>by cases e';omega)).trans hh,hr⟩
theorem zk {W:World}{base e size:Nat}{v:Value}{n:Nat}{xs:List Value}(h:W.ownsRow base e size v n xs)(O:Obj):(W.alloc O).ownsRow base e size v n xs:=by
 refine⟨h.1,?_⟩
 rcases h.2 with h0 | ⟨g,cap,cur,hv,hb,hh,hr⟩
 ·exact .inl h0
 ·exact .inr ⟨g,cap,cur,hv,hb,(Below.heap_alloc W O g (Array.getElem?_eq_some_iff.1 hh).1).trans hh,hr⟩
def q2h (W:World)(base R:Nat)(r:Rd):Prop:=∃v,q0x W R v r.opn∧W.ownsRow base 36 4 v r.told.length (rowOf r.told)
def q29 (r:Rd)(t:Tok)(w:World)(base R:Nat):Ending→World→Prop:=fun e w'=>e=.returned (.int .i64 (ql r t).1)∧q2h w' base R (ql r t).2∧Keeps base R w w'∧((ql r t).1≠0→w.grownBy w' (some R))
theorem qmg (R base:Nat)(r:Rd)(t:Tok)(m:Int)(w:World)(hI:q2h w base R r)(hb:base≤w.heap.size)(hRb:R < base)(ht:t.text.size≤65536)(hm:w.cell? ⟨2,0,none⟩=some (.int .i64 m))(hc:q3s r=true) :
  Calls Tryz.prog 61 #[.pointer (some ⟨R,0,none⟩),zn t] w (q29 r t w base R):=by
 obtain⟨v,hRd,hown⟩:=hI
 unfold q29
 have hF:Hid (ql r t=((takeC r.opn t).1,{ r with opn:=(takeC r.opn t).2 })):=by show _=_;unfold ql;rw[if_pos hc]
 rw[hF.out]
 have hb1:base≤(w.alloc (.cells #[.string t.text,.int .i64 t.off,.int .i64 t.line,.int .i64 t.col] 36)).heap.size:=by simp;omega
 have IC:=q1t R v r.opn _ (hRd.alloc (.cells #[.string t.text,.int .i64 t.off,.int .i64 t.line,.int .i64 t.col] 36))
 have hc':(!r.opn.text.toList.isEmpty)=true:=hc
 rw[hc'] at IC
 have TC:=q72 R v r.opn t m _ (hRd.alloc (.cells #[.string t.text,.int .i64 t.off,.int .i64 t.line,.int .i64 t.col] 36)) ht (q5j hm _)
 replace IC:=show Hid _ from IC
 replace TC:=show Hid _ from TC
 unfold zn at TC ⊢
 go_enter Tryz.func61,Tryz.ntmps61
 go_wp2_with fail
 refine Calls.mono IC.out ?_
 rintro e w1 ⟨rfl,hw⟩
 subst hw
 go_wp2_with fail
 refine Calls.mono TC.out ?_
 rintro e w2 ⟨rfl,hR2,hg2⟩
 go_wp2
 go_ret
 exact⟨rfl,⟨v,hR2,q6i (zk hown _) hg2 hRb⟩,(Keeps.alloc hb _).trans (Keeps.jm hg2 hb1),fun _=>(World.grownBy_alloc w _ (some R)).trans hg2⟩
theorem qjj (R base:Nat)(r:Rd)(t:Tok)(w:World)(hI:q2h w base R r)(hb:base≤w.heap.size)(hRb:R < base)(hc:q3s r=false)(ho:isOpen t.text=true) :
  Calls Tryz.prog 61 #[.pointer (some ⟨R,0,none⟩),zn t] w (q29 r t w base R):=by
 obtain⟨v,hRd,hown⟩:=hI
 have hF:Hid (ql r t=(0,{ r with opn:=t })):=by show _=_;unfold ql;rw[if_neg (by simp[hc]),if_pos ho]
 unfold q29
 rw[hF.out]
 have IC:=q1t R v r.opn _ (hRd.alloc (.cells #[.string t.text,.int .i64 t.off,.int .i64 t.line,.int .i64 t.col] 36))
 have hc':(!r.opn.text.toList.isEmpty)=false:=hc
 rw[hc'] at IC
 replace IC:=show Hid _ from IC
 have ho':(t.text.toList == [36,40])=true:=ho
 obtain⟨h0,h1,h2,h3,h4⟩:=hRd.cells
 have hfr:=hRd.free
 have hlt:=hRd.lt
 clear hc hc' ho
 unfold zn
 go_enter Tryz.func61,Tryz.ntmps61
 go_wp2_with fail
 refine Calls.mono IC.out ?_
 rintro e w1 ⟨rfl,hw⟩
 subst hw
 go_wp2
 go_ret
 exact⟨rfl,⟨v,(hRd.qme t).alloc _,zk (q6i hown (q3w w R _ _ _ _) hRb) _⟩,(Keeps.jm (q3w w R _ _ _ _) hb).trans (Keeps.alloc (by have:=(q3w w R (.string t.text) (.int .i64 t.off) (.int .i64 t.line) (.int .i64 t.col)).size;omega) _),fun h=>absurd rfl h⟩
theorem qjk (R base:Nat)(r:Rd)(t:Tok)(w:World)(hI:q2h w base R r)(hb:base≤w.heap.size)(hc:q3s r=false)(ho:isOpen t.text=false)(hs:q46 t.text=true) :
  Calls Tryz.prog 61 #[.pointer (some ⟨R,0,none⟩),zn t] w (q29 r t w base R):=by
 obtain⟨v,hRd,hown⟩:=hI
 have hF:Hid (ql r t=(11,r)):=by show _=_;unfold ql;rw[if_neg (by simp[hc]),if_neg (by simp[ho]),if_pos hs]
 unfold q29
 rw[hF.out]
 have IC:=q1t R v r.opn _ (hRd.alloc (.cells #[.string t.text,.int .i64 t.off,.int .i64 t.line,.int .i64 t.col] 36))
 have hc':(!r.opn.text.toList.isEmpty)=false:=hc
 rw[hc'] at IC
 replace IC:=show Hid _ from IC
 have ho':(t.text.toList == [36,40])=false:=ho
 have hs':(t.text.toList == [36,41])=true:=hs
 clear hc hc' ho hs
 unfold zn
 go_enter Tryz.func61,Tryz.ntmps61
 go_wp2_with fail
 refine Calls.mono IC.out ?_
 rintro e w1 ⟨rfl,hw⟩
 subst hw
 go_wp2
 go_ret
 exact⟨rfl,⟨v,hRd.alloc _,zk hown _⟩,Keeps.alloc hb _,fun _=>World.grownBy_alloc w _ (some R)⟩
theorem qjl (R base:Nat)(r:Rd)(t:Tok)(w:World)(hI:q2h w base R r)(hb:base≤w.heap.size)(hc:q3s r=false)(ho:isOpen t.text=false)(hs:q46 t.text=false)(hn:r.told.length=16384) :
  Calls Tryz.prog 61 #[.pointer (some ⟨R,0,none⟩),zn t] w (q29 r t w base R):=by
 obtain⟨v,hRd,hown⟩:=hI
 have hF:Hid (ql r t=(13,r)):=by show _=_;unfold ql;rw[if_neg (by simp[hc]),if_neg (by simp[ho]),if_neg (by simp[hs]),if_pos hn]
 unfold q29
 rw[hF.out]
 obtain⟨a,cap,hv,hg⟩:=slice_form hown
 rw[hn] at hv
 have hfin:q2h (w.alloc (.cells #[.string t.text,.int .i64 t.off,.int .i64 t.line,.int .i64 t.col] 36)) base R r:=⟨v,hRd.alloc _,zk hown _⟩
 have IC:=q1t R v r.opn _ (hRd.alloc (.cells #[.string t.text,.int .i64 t.off,.int .i64 t.line,.int .i64 t.col] 36))
 have hc':(!r.opn.text.toList.isEmpty)=false:=hc
 rw[hc'] at IC
 replace IC:=show Hid _ from IC
 have ho':(t.text.toList == [36,40])=false:=ho
 have hs':(t.text.toList == [36,41])=false:=hs
 have h0:=hRd.cells.1
 rw[hv] at h0
 replace h0:=q5j h0
 clear hc hc' ho hs hn hv hg hRd hown
 unfold zn
 go_enter Tryz.func61,Tryz.ntmps61
 go_wp2_with fail
 refine Calls.mono IC.out ?_
 rintro e w1 ⟨rfl,hw⟩
 subst hw
 go_wp2
 go_ret
 exact⟨rfl,hfin,Keeps.alloc hb _,fun _=>World.grownBy_alloc w _ (some R)⟩
theorem qg4 (l:List Tok)(t:Tok):rowOf (l++[t])=rowOf l++um t:=by simp[rowOf]
theorem qjm (R base:Nat)(r:Rd)(t:Tok)(w:World)(hI:q2h w base R r)(hb:base≤w.heap.size)(hRb:R < base)(ht:t.text.size≤65536)(hc:q3s r=false)(ho:isOpen t.text=false)(hs:q46 t.text=false)(hn:r.told.length < 16384) :
  Calls Tryz.prog 61 #[.pointer (some ⟨R,0,none⟩),zn t] w (q29 r t w base R):=by
 obtain⟨v,hRd,hown⟩:=hI
 have hF:Hid (ql r t=(0,{ r with told:=r.told++[t] })):=by show _=_;unfold ql;rw[if_neg (by simp[hc]),if_neg (by simp[ho]),if_neg (by simp[hs]),if_neg (by omega)]
 unfold q29
 rw[hF.out]
 obtain⟨a,cap,hv,hg⟩:=slice_form hown
 obtain⟨i0,hi0,hz0,hz1,hz3⟩:=info_parts info37
 have IC:=q1t R v r.opn _ (hRd.alloc (.cells #[.string t.text,.int .i64 t.off,.int .i64 t.line,.int .i64 t.col] 36))
 have hc':(!r.opn.text.toList.isEmpty)=false:=hc
 rw[hc'] at IC
 replace IC:=show Hid _ from IC
 have OW:=fun wx=>q8k t wx (by omega)
 replace OW:=show Hid _ from OW
 have ho':(t.text.toList == [36,40])=false:=ho
 have hs':(t.text.toList == [36,41])=false:=hs
 obtain⟨L,hL⟩:∃L,L=r.told.length:=⟨_,rfl⟩
 have HL:Hid (L=r.told.length):=hL
 rw[←hL] at hown hv hn
 have hn':((L:Int) == 16384)=false:=beq_eq_false_iff_ne.2 (by omega)
 subst hv
 have h0:=hRd.cells.1
 have h0':=q5j h0
 clear hc hc' ho hs hL
 unfold zn at OW ⊢
 go_enter Tryz.func61,Tryz.ntmps61
 go_wp2_with fail
 refine Calls.mono IC.out ?_
 rintro e w1 ⟨rfl,hw⟩
 subst hw
 go_wp2_with fail
 have hfr:=hRd.free
 have hlt:=hRd.lt
 obtain⟨W1,hW1⟩:∃W1,W1=w.alloc (.cells #[.string t.text,.int .i64 t.off,.int .i64 t.line,.int .i64 t.col] 36):=⟨_,rfl⟩
 have b0:W1.cell? ⟨w.heap.size,0,none⟩=some (.string t.text):=by rw[hW1];simp[go_sem]
 have b1:W1.cell? ⟨w.heap.size,1,none⟩=some (.int .i64 t.off):=by rw[hW1];simp[go_sem]
 have b2:W1.cell? ⟨w.heap.size,2,none⟩=some (.int .i64 t.line):=by rw[hW1];simp[go_sem]
 have b3:W1.cell? ⟨w.heap.size,3,none⟩=some (.int .i64 t.col):=by rw[hW1];simp[go_sem]
 have r0:W1.cell? ⟨R,0,none⟩=some (.slice a L cap):=by rw[hW1];exact h0' _
 have hRd1:q0x W1 R (.slice a L cap) r.opn:=by rw[hW1];exact hRd.alloc _
 have hown1:W1.ownsRow base 36 4 (.slice a L cap) L (rowOf r.told):=by rw[hW1];exact zk hown _
 have hk1:Keeps base R w W1:=by rw[hW1];exact Keeps.alloc hb _
 have hb1:base≤W1.heap.size:=by rw[hW1];simp;omega
 have hw1:w.heap.size < W1.heap.size:=by rw[hW1];simp
 rw[←hW1]
 have hgR:some R≠(Value.slice a L cap).ownBlock:=fun e'=>by have:=hg R e'.symm;omega
 have hgW:some w.heap.size≠(Value.slice a L cap).ownBlock:=by
  rcases hown.2 with ⟨e1,_⟩ | ⟨g1,c1,cu1,e1,_,hh,_⟩
  ·rw[e1];simp[Value.ownBlock]
  ·rw[e1];intro e'
   have:=(Array.getElem?_eq_some_iff.1 hh).1
   simp[Value.ownBlock] at e';omega
 clear hW1 h0' h0 hRd hown
 have hne1:R≠w.heap.size:=by omega
 have hne2:w.heap.size≠R:=by omega
 go_region_law (first
  | (refine step_append_lies _ (by rfl) _ _ _ (by rfl) base 36 i0 _ 4 40 Tryz.underlying32 hi0 hz0 hz1 hz3 rfl (by omega) _ L (rowOf r.told) (by rfl) (by exact ((hown1.drew.kept (q7q hbel none) (by cases (Value.slice a L cap).ownBlock <;> simp)).alloc _)) ⟨w2.heap.size,0,none⟩ 1 1 (um t) (by rfl) (by rfl) (World.news_of_block (cs:=#[.string t.text,.int .i64 t.off,.int .i64 t.line,.int .i64 t.col]) (t:=36) (fr:=(0,0)) (heap_alloc_new w2 _)) (by simp[um,Value.oneCell']) (by omega) (by unfold maxLen;omega) (by omega) (by have:=hbel.size;simp at this ⊢;omega) (w2.heap.size + 1) (by simp) ?_;intro gg cap' w3 hown3 hgrow hat hlt3;have hRd3:q0x w3 R (.slice a L cap) r.opn:=((hgrow.block R (by simp;omega) hgR).trans ((Below.heap_alloc w2 _ R (by omega)).trans (hbel.block R (by simp;omega)))).trans hRd1;have hf3:=hRd3.free;have hc3:=hRd3.cells.1)
  | (go_simp;go_at_call 122;refine (OW.out _).mono ?_;rintro e w2 ⟨rfl,hbel⟩;have hz2:W1.heap.size≤w2.heap.size:=hbel.size;have r2:w2.cell? ⟨R,0,none⟩=some (.slice a L cap):=(hbel.cell (p:=⟨R,0,none⟩) (by simp;omega)).trans r0;have r3:=q5j r2))
 all_goals go_wp2
 all_goals go_ret
 all_goals
  refine⟨rfl,⟨_,hRd3.setTold _,?_⟩,((hk1.trans (Keeps.drew base R W1)).trans (Keeps.of_below hbel hb1)).trans (((Keeps.alloc (by omega) _).trans (Keeps.qmf hgrow (by simp;omega) hg)).trans (Keeps.jm (grownBy_set w3 R 0 _) (by have:=hgrow.size;simp at this;omega))),fun h=>absurd rfl h⟩
  have e1:(r.told++[t]).length=L + 1:=by rw[HL.out];simp
  show World.ownsRow _ base 36 4 _ (r.told++[t]).length (rowOf (r.told++[t]))
  rw[e1,qg4]
  exact q6i hown3 (grownBy_set w3 R 0 _) hRb
theorem take_any (R base:Nat)(r:Rd)(t:Tok)(m:Int)(w:World)(hI:q2h w base R r)(hb:base≤w.heap.size)(hRb:R < base)(ht:t.text.size≤65536)(hm:w.cell? ⟨2,0,none⟩=some (.int .i64 m))(hn:r.told.length≤16384) :
  Calls Tryz.prog 61 #[.pointer (some ⟨R,0,none⟩),zn t] w (q29 r t w base R):=by
 cases hc:q3s r with
 | true=>exact qmg R base r t m w hI hb hRb ht hm hc
 | false =>
  cases ho:isOpen t.text with
  | true=>exact qjj R base r t w hI hb hRb hc ho
  | false =>
   cases hs:q46 t.text with
   | true=>exact qjk R base r t w hI hb hc ho hs
   | false =>
    by_cases h:r.told.length=16384
    ·exact qjl R base r t w hI hb hc ho hs h
    ·exact qjm R base r t w hI hb hRb ht hc ho hs (by omega)
theorem qjn (r:Rd)(t:Tok)(hr:r.opn.text.size≤65536)(ht:t.text.size≤65536):(ql r t).2.opn.text.size≤65536:=by
 unfold ql
 split
 ·show (takeC r.opn t).2.text.size≤65536
  unfold takeC
  split
  ·decide
  ·split
   ·exact hr
   ·exact hr
 ·split
  ·exact ht
  ·split
   ·exact hr
   ·split
    ·exact hr
    ·exact hr
theorem qjo (r:Rd)(t:Tok)(hn:r.told.length≤16384):(ql r t).2.told.length≤16384:=by
 unfold ql
 split
 ·exact hn
 ·split
  ·exact hn
  ·split
   ·exact hn
   ·split
    ·exact hn
    ·simp;omega
end S.K
namespace S.K
open Go.RowKit
def q59 (W:World)(B:Nat)(t:Tok)(code:Int):Prop:=W.heap[B]?=some (.cells #[.int .i64 t.off,.int .i64 t.line,.int .i64 t.col,.string t.text,.int .i64 code] 31 (0,0))
theorem q4t (W:World)(O:Obj):(W.alloc O).heap[W.heap.size]?=some O:=by
 show (W.heap.push O)[W.heap.size]?=_
 simp
theorem q5k (t:Tok)(code:Int)(w:World)(ht:t.text.size≤65536) :
  Calls Tryz.prog 62 #[zn t,.int .i64 code] w fun e w'=>∃B,e=.returned (.pointer (some ⟨B,0,none⟩))∧w.heap.size≤B∧q59 w' B t code∧Below w.heap.size w w':=by
 have OW:=fun wx=>q8k t wx (by omega)
 replace OW:=show Hid _ from OW
 unfold zn at OW ⊢
 go_enter Tryz.func62,Tryz.ntmps62
 go_wp2_with fail
 refine (OW.out _).mono ?_
 rintro e w1 ⟨rfl,hb⟩
 have hz:w.heap.size < w1.heap.size:=by have:=hb.size;simp at this;omega
 go_wp2
 go_ret
 refine⟨w1.heap.size + 1,rfl,by omega,?_,?_⟩
 ·have:=q4t (w1.alloc (.cells #[.string t.text,.int .i64 t.off,.int .i64 t.line,.int .i64 t.col] 36)) (.cells #[.int .i64 t.off,.int .i64 t.line,.int .i64 t.col,.string t.text,.int .i64 code] 31)
  rw[World.size_alloc] at this
  exact this
 ·exact ((((Below.refl _ _).alloc (Nat.le_refl _) _).trans (hb.mono (by simp))).alloc (by omega) _).alloc (by simp;omega) _
def q5l (s:ByteArray)(k:Nat):Int:=if k=65536 then 13 else if xq ((s.data.toList.getD k 0).toNat)=0 then 10 else 0
theorem getD_byte (s:ByteArray)(k:Nat)(h:k < s.size):s.data.toList.getD k 0=s[k]:=by
 rw[List.getD_eq_getElem?_getD,List.getElem?_eq_getElem (by simpa using h)];rfl
theorem q3f (s:ByteArray)(k:Nat)(w:World)(hk:k < s.size)(_hs:s.size≤281474976710656)(hKB:KB w) :
  Calls Tryz.prog 119 #[.string s,.int .i64 k] w fun e w'=>e=.returned (.int .i64 (q5l s k))∧w'=w:=by
 by_cases h1:k=65536
 ·have hf:Hid (q5l s k=13):=by show _=_;unfold q5l;exact if_pos h1
  have h1':((k:Int) == 65536)=true:=by simp;omega
  clear h1
  rw[hf.out]
  go_enter Tryz.func119,Tryz.ntmps119
  go_wp2
  go_ret
  exact⟨rfl,rfl⟩
 ·have h1':((k:Int) == 65536)=false:=by simp;omega
  have hf:Hid (q5l s k=if xq s[k].toNat=0 then 10 else 0):=by show _=_;unfold q5l;rw[if_neg h1,getD_byte s k hk]
  clear h1
  go_enter Tryz.func119,Tryz.ntmps119
  go_wp2_with (go_at_call 120;refine (q28 _ _ (Int.natCast_nonneg _) (q66 _) hKB).mono ?_;rintro e w' ⟨rfl,rfl⟩)
  ·have h2:(xq s[k].toNat == 0)=true:=by assumption
   go_ret
   exact⟨q58 (by rw[hf.out,if_pos (by simpa using h2)]),rfl⟩
  ·have h2:(xq s[k].toNat == 0)=false:=by assumption
   go_ret
   exact⟨q58 (by rw[hf.out,if_neg (by simpa using h2)]),rfl⟩
theorem q3i (off line start:Int)(b1 b2:Nat)(w:World)(o1:0≤off)(o2:off≤281474976710656)(s1:0≤start)(s2:start≤281474976710656)(h1:w.cell? ⟨b1,0,none⟩=some (.int .i64 line))(h2:w.cell? ⟨b2,0,none⟩=some (.int .i64 start)) :
  Calls Tryz.prog 118 #[.int .i64 off,.pointer (some ⟨b1,0,none⟩),.pointer (some ⟨b2,0,none⟩)] w fun e w'=>e=.returned (.agg #[.int .i64 off,.int .i64 line,.int .i64 (off - start + 1)])∧w'=w.alloc (.cells #[.int .i64 off,.int .i64 line,.int .i64 (off - start + 1)] 28):=by
 replace h1:=q5j h1
 replace h2:=q5j h2
 go_enter Tryz.func118,Tryz.ntmps118
 go_wp2
 exact bodyPost_ret (v:=.agg #[.int .i64 off,.int .i64 line,.int .i64 (off - start + 1)]) (by simp[results,Tryz.results118,go_sem]) rfl ⟨rfl,rfl⟩
end S.K
end Go.Proofs.YtbancemhfjjmlaaGreatDoor
