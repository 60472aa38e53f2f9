/- Laid together: FFrBase, FFrA, FShelfF, FFrL, FFrF, FFrG. -/
import Derived.Test.YtbancemhfjjmlaaGreatDoorTk
import Derived.Test.YtbancemhfjjmlaaGreatDoorQA00
import Derived.Test.YtbancemhfjjmlaaGreatDoorProg
import Derived.WalkKit
import Derived.BigQuiet
import Derived.Maps.OwnSet
import Derived.Deep.RegionHeld3
import Derived.Deep.DeepCutAuto
import Derived.Deep.MidRow
import Derived.Laws.StructEq
import Derived.Carry
import Derived.Shelf.Small.Bits
import Derived.Shelf.Strconv.Itoa0
import Derived.Shelf.LaysM
import Derived.Shelf.Strconv.Clone
import Derived.Shelf.Sort.Plain
import Derived.Ground.Names2Prog
import Derived.Shelf.Slices.Clone
import Derived.Shelf.Slices.CompactI
import Derived.Shelf.Slices.SearchI
import Derived.Shelf.Slices.Cells
import Derived.Shelf.Slices.In.SortNone
import Derived.Shelf.Slices.Empties
import Derived.Ground.SlgnProg
import Derived.Shelf.SlicesE.Clone
set_option maxRecDepth 100000
set_option maxHeartbeats 32000000
namespace Go.Proofs.YtbancemhfjjmlaaGreatDoor
namespace F
open Go.Maps Go.RowKit Go.WideMaps
variable {tq:Nat} {isV:Int→Bool}
theorem qo (w:World)(o:Obj):Below w.heap.size w (w.alloc o):=(Below.refl _ w).alloc (Nat.le_refl _) o
theorem zu {N:Nat}{w w':World}(h:Below N w w')(k:Nat):Below N w (w'.drewN k):=⟨h.os,h.tape,h.output,h.size,h.block⟩
theorem qbo (n:Int)(h1:-9223372036854775808≤n)(h2:n≤9223372036854775807):IntKind.i64.wrap n=n:=by rw[IntKind.wrap_i64];omega
theorem yw {W:World}{base e size n:Nat}{v:Value}{xs:List Value}(h:W.ownsRow base e size v n xs){g:Nat}(hg:v.ownBlock=some g):∃cs,W.heap[g]?=some (.cells cs e (0,0)):=by
 rcases h.2 with ⟨rfl,_⟩ | ⟨g',cap,cur,rfl,_,hh,_⟩
 ·cases hg
 ·cases hg
  exact⟨_,hh⟩
theorem own_ne {W:World}{base e size n:Nat}{v:Value}{xs:List Value}(h:W.ownsRow base e size v n xs){B:Nat}{cs:Array Value}{t:TypeId}(hb:W.heap[B]?=some (.cells cs t (0,0)))(hne:e≠t):v.ownBlock≠some B:=fun e'=>by
 obtain⟨c2,h2⟩:=yw h e'
 rw[hb] at h2
 simp only[Option.some.injEq,Obj.cells.injEq] at h2
 exact hne h2.2.1.symm
theorem uf {W:World}{b1 e1 s1 n1 b2 e2 s2 n2:Nat}{v1 v2:Value}{x1 x2:List Value}(h1:W.ownsRow b1 e1 s1 v1 n1 x1)(h2:W.ownsRow b2 e2 s2 v2 n2 x2)(hne:e1≠e2):∀g,v1.ownBlock=some g→v2.ownBlock≠some g:=fun g h=>by
 obtain⟨cs,hc⟩:=yw h1 h
 exact own_ne h2 hc (Ne.symm hne)
def wfN (x:Int):Prop:=-9223372036854775808≤x∧x≤9223372036854775807
theorem qcu {x:Int}(h:wfN x):(Lit.int .i64 x).wf:=WalkArith.wf_i64 h
theorem qcv:Keyed Tryz.prog 3:=int_keyed Tryz.underlying3
theorem qms (w:World):(zeroValue 3).run Tryz.prog w=.ok (.int .i64 0) w:=by kernel_rfl
def q9o (x:Int):Lit:=.int .i64 x
theorem qmt {x y:Int}(h:q9o x=q9o y):x=y:=by unfold q9o at h;simpa using h
theorem qif {x:Int}(h:wfN x):keyOf Tryz.prog 3 (.int .i64 x)=some (q9o x):=keyOf_int_mk Tryz.underlying3 (qcu h)
theorem qea (x:Int):WideAt.IsKeyLit (q9o x):=by unfold q9o;simp[WideAt.IsKeyLit]
def zeroN:DataW Unit:=.lit (.int .i64 0)
def q2b (W:World)(b n:Nat)(f:Int→Option Int):Prop :=
 ∃D:DataW Unit,W.ownsMap Tryz.prog 3 (plainElem Tryz.prog 3) b n D∧∀x,has D (q9o x)=(f x).isSome∧D.atKey (q9o x) zeroN=.lit (.int .i64 ((f x).getD 0))
theorem q2b.made (w:World):q2b (w.alloc (.map #[] 0)) w.heap.size 0 (fun _=>none) :=
 ⟨.map [],World.ownsMap_made _ _ _ _,fun _=>⟨rfl,rfl⟩⟩
theorem q2b.kept {W W':World}{b n:Nat}{f:Int→Option Int}(h:q2b W b n f)(hb:W'.heap[b]?=W.heap[b]?):q2b W' b n f:=by
 obtain⟨D,⟨es,clock,hh,hr⟩,hf⟩:=h
 exact⟨D,⟨es,clock,hb.trans hh,hr⟩,hf⟩
theorem q2b.isM {W:World}{b n:Nat}{f:Int→Option Int}(h:q2b W b n f):∃es clock,W.heap[b]?=some (.map es clock):=by
 obtain⟨D,⟨es,clock,hh,_⟩,_⟩:=h
 exact⟨es,clock,hh⟩
theorem q2b.look {W:World}{b n:Nat}{f:Int→Option Int}(h:q2b W b n f)(x:Int)(hx:wfN x) :
  (Instr.lookup 219 (.map (some b)) (.int .i64 x) true).run Tryz.prog W=.ok (.tuple #[.int .i64 ((f x).getD 0),.bool (f x).isSome]) W:=by
 obtain⟨D,hown,hf⟩:=h
 obtain⟨v,ps,hrun,hv⟩:=hown.look_ok qcv Tryz.underlying219 (qms W) (plainElem_int (H:=Unit) Tryz.underlying3 (by decide)) (qif hx)
 obtain⟨c,rfl,hc,_⟩:=plainElem_int_inv Tryz.underlying3 hv
 have h1:D.atKey (q9o x) zeroN=.lit (.int .i64 c):=congrArg Prod.fst hc
 rw[(hf x).2] at h1
 have e:(f x).getD 0=c:=by simpa using h1
 rw[hrun,(hf x).1,e]
theorem q2b.put {W:World}{b n:Nat}{f:Int→Option Int}(h:q2b W b n f)(hn:n < maxLen)(x:Int)(hx:wfN x)(c:Int)(hc:wfN c) :
  ∃W',(Instr.mapUpdate 219 (.map (some b)) (.int .i64 x) (.int .i64 c)).run Tryz.prog W=.ok () W'∧q2b W' b (n + 1) (fun t=>if t=x then some c else f t)∧W.grownBy W' (some b):=by
 obtain⟨D,hown,hf⟩:=h
 obtain⟨W',hrun,hown',hg⟩:=hown.update qcv Tryz.underlying219 hn (qif hx) (plainElem_int (H:=Unit) (q:=.i64) Tryz.underlying3 (a:=c) (qcu hc))
 refine⟨W',hrun,⟨_,hown',fun t=>?_⟩,hg⟩
 have hM:IsMap D:=by
  obtain⟨es,e,_⟩:=hown.tidy qcv
  exact⟨es,e⟩
 dsimp only
 by_cases e:t=x
 ·subst e
  rw[if_pos rfl,has_put_same hM (qea t),atKey_put_same hM (qea t)]
  exact⟨rfl,rfl⟩
 ·have hne:q9o t≠q9o x:=fun h=>e (qmt h)
  rw[if_neg e,has_put_other hne,atKey_put_other hne]
  exact hf t
structure Hy where
 lab:ByteArray
 fl:Bool
 var:Int
 ex:List Int
structure HyC where
 h:Hy
 ve:Value
def nV (x:Int):Value:=.int .i64 x
def zy (l:List Int):List Value:=l.map nV
abbrev Pp:=Int × Int
def je (l:List Pp):List Value:=l.flatMap fun p=>[.int .i64 p.1,.int .i64 p.2]
def hyC (x:HyC):List Value:=[.string x.h.lab,.bool x.h.fl,.int .i64 x.h.var,x.ve]
def yx (l:List HyC):List Value:=l.flatMap hyC
structure ScC where
 vl:Value
 hs:List HyC
 mb:Nat
 mn:Nat
 vp:Value
 ps:List Pp
def scC (x:ScC):List Value:=[x.vl,.map (some x.mb),x.vp]
def uq (l:List ScC):List Value:=l.flatMap scC
def q5b (l:List Hy)(v:Int):Option Int:=(l.find? fun h=>h.fl && decide (h.var=v)).map fun h=>h.ex.headD 0
structure q5r (O:Nat→Prop)(W:World)(x:ScC):Prop where
 l:W.ownsRow 0 57 4 x.vl x.hs.length (yx x.hs)
 lo:∀g,x.vl.ownBlock=some g→O g
 e:∀y ∈ x.hs,W.ownsRow 0 3 1 y.ve y.h.ex.length (zy y.h.ex)∧∀g,y.ve.ownBlock=some g→O g
 m:q2b W x.mb x.mn (q5b (x.hs.map (·.h)))
 mo:O x.mb
 mc:x.mn≤x.hs.length
 p:W.ownsRow 0 130 2 x.vp x.ps.length (je x.ps)
 po:∀g,x.vp.ownBlock=some g→O g
def ScAp (x y:ScC):Prop:=(∀g,x.vl.ownBlock=some g→y.vl.ownBlock≠some g)∧x.mb≠y.mb∧∀g,x.vp.ownBlock=some g→y.vp.ownBlock≠some g
def q17 (tq:Nat):Value:=.func (.func 70) #[.pointer (some ⟨tq,0,none⟩)] #[]
def q2w (tq:Nat)(isV:Int→Bool)(w:World):Prop:=∀(wx:World) (n:Int),Below w.heap.size w wx→Calls Tryz.prog 70 #[.pointer (some ⟨tq,0,none⟩),.int .i64 n] wx fun e w'=>e=.returned (.bool (isV n))∧Below wx.heap.size wx w'
theorem q2w.up {tq:Nat}{isV:Int→Bool}{w w':World}(h:q2w tq isV w)(hb:Below w.heap.size w w'):q2w tq isV w':=fun wx n hx=>h wx n (hb.trans (hx.mono hb.size))
structure qw (tq:Nat)(O:Nat→Prop)(W:World)(P:Nat)(vS:Value)(xs:List ScC):Prop where
 box:W.heap[P]?=some (.cells #[(q17 tq),vS] 171 (0,0))
 bo:O P
 row:W.ownsRow 0 225 3 vS xs.length (uq xs)
 ro:∀g,vS.ownBlock=some g→O g
 each:∀x ∈ xs,q5r O W x
 ap:xs.Pairwise ScAp
 lt:∀g,O g→g < W.heap.size
theorem q5r.ch {O X:Nat→Prop}{W W':World}{x:ScC}(h:q5r O W x)(hc:S.M.Ch X W W')(hl:∀g,x.vl.ownBlock=some g→¬X g)(he:∀y ∈ x.hs,∀g,y.ve.ownBlock=some g→¬X g)(hm:¬X x.mb)(hp:∀g,x.vp.ownBlock=some g→¬X g):q5r O W' x:=by
 obtain⟨es,ck,hmm⟩:=h.m.isM
 exact⟨S.M.qh h.l hc hl,h.lo,fun y hy=>⟨S.M.qh (h.e y hy).1 hc (he y hy),(h.e y hy).2⟩,h.m.kept (hc.block _ (Array.getElem?_eq_some_iff.1 hmm).1 hm),h.mo,h.mc,S.M.qh h.p hc hp,h.po⟩
theorem qw.below {O:Nat→Prop}{W W':World}{P:Nat}{vS:Value}{xs:List ScC}(h:qw tq O W P vS xs)(hb:Below W.heap.size W W'):qw tq O W' P vS xs :=
 have hc:=S.M.Ch.of_below (X:=fun _=>False) hb
 ⟨(hb.block P (h.lt P h.bo)).trans h.box,h.bo,S.M.qh h.row hc fun _ _ e=>e,h.ro,fun x hx=>(h.each x hx).ch hc (fun _ _ e=>e) (fun _ _ _ _ e=>e) (fun e=>e) (fun _ _ e=>e),h.ap,fun g hg=>Nat.lt_of_lt_of_le (h.lt g hg) hb.size⟩
theorem q5s:∀(l:List ScC) (i j:Nat) (x:ScC),l[i]?=some x→j < 3→(uq l)[i * 3 + j]?=(scC x)[j]?
 | [],i,j,x,h,_=>by simp at h
 | y :: r,0,j,x,h,hj=>by
  simp at h;subst h
  have e:uq (y :: r)=scC y++uq r:=rfl
  rw[e,Nat.zero_mul,Nat.zero_add,List.getElem?_append_left (by simp[scC];omega)]
 | y :: r,i + 1,j,x,h,hj=>by
  have e:uq (y :: r)=scC y++uq r:=rfl
  have h2:r[i]?=some x:=by simpa using h
  rw[e,List.getElem?_append_right (by simp[scC];omega)]
  have e2:(i + 1) * 3 + j - (scC y).length=i * 3 + j:=by simp[scC];omega
  rw[e2]
  exact q5s r i j x h2 hj
theorem q1k (l m:List ScC):uq (l++m)=uq l++uq m:=by unfold uq;rw[List.flatMap_append]
theorem q82 {W:World}{base g n cap:Nat}{l:List ScC}(h:W.ownsRow base 225 3 (.slice (some ⟨g,0,none⟩) n cap) n (uq l))(i:Nat)(x:ScC)(hi:l[i]?=some x):W.cell? ⟨g,i * 3,none⟩=some x.vl∧W.cell? ⟨g,i * 3 + 1,none⟩=some (.map (some x.mb))∧W.cell? ⟨g,i * 3 + 2,none⟩=some x.vp:=by
 have k0:=q5s l i 0 x hi (by omega)
 rw[Nat.add_zero] at k0
 exact⟨S.M.q34 h _ _ (k0.trans rfl),S.M.q34 h _ _ ((q5s l i 1 x hi (by omega)).trans rfl),S.M.q34 h _ _ ((q5s l i 2 x hi (by omega)).trans rfl)⟩
end F
namespace F
open S (qm)
open Go.Maps Go.RowKit Go.WideMaps
variable {tq:Nat} {isV:Int→Bool}
theorem q77 (w:World):Calls Tryz.prog 152 #[] w fun e w'=>∃b,e=.returned (.agg #[.slice none 0 0,.map (some b),.slice none 0 0])∧q2b w' b 0 (fun _=>none)∧w.heap.size≤b∧Below w.heap.size w w':=by
 obtain⟨w1,hw1⟩:∃w1,w1=w.alloc (.cells #[.slice none 0 0,.map none,.slice none 0 0] 225):=⟨_,rfl⟩
 have s1:w1.heap.size=w.heap.size + 1:=by rw[hw1];simp
 have k1:w1.heap[w.heap.size]?=some (.cells #[.slice none 0 0,.map none,.slice none 0 0] 225 (0,0)):=by rw[hw1];exact heap_alloc_new w _
 have b1:Below w.heap.size w w1:=by rw[hw1];exact qo _ _
 obtain⟨w2,hw2⟩:∃w2,w2=w1.alloc (.map #[] 0):=⟨_,rfl⟩
 have b2:Below w1.heap.size w1 w2:=by rw[hw2];exact qo _ _
 have k2:w2.heap[w.heap.size]?=some (.cells #[.slice none 0 0,.map none,.slice none 0 0] 225 (0,0)):=(b2.block _ (by omega)).trans k1
 have t2:q2b w2 w1.heap.size 0 (fun _=>none):=by rw[hw2];exact q2b.made w1
 obtain⟨T,hT⟩:∃T,w.heap.size=T:=⟨_,rfl⟩
 obtain⟨B,hB⟩:∃B,w1.heap.size=B:=⟨_,rfl⟩
 rw[hT] at k2 s1
 rw[hB] at t2 s1
 have x0:w2.cell? ⟨T,0,none⟩=some (.slice none 0 0):=S.M.qc k2 0
 have x1:w2.cell? ⟨T,1,none⟩=some (.map none):=S.M.qc k2 1
 have x2:w2.cell? ⟨T,2,none⟩=some (.slice none 0 0):=S.M.qc k2 2
 have f0:w2.frozen? ⟨T,0,none⟩=false:=by simp[World.frozen?,k2]
 have f1:w2.frozen? ⟨T,1,none⟩=false:=by simp[World.frozen?,k2]
 have f2:w2.frozen? ⟨T,2,none⟩=false:=by simp[World.frozen?,k2]
 obtain⟨w9,hw9⟩:∃w9,w9=((w2.setCell ⟨T,0,none⟩ (.slice none 0 0)).setCell ⟨T,1,none⟩ (.map (some B))).setCell ⟨T,2,none⟩ (.slice none 0 0):=⟨_,rfl⟩
 have K9:Hid (w9.heap[T]?=some (.cells #[.slice none 0 0,.map (some B),.slice none 0 0] 225 (0,0))):=by
  show _=_
  rw[hw9]
  exact S.M.qj (S.M.qj (S.M.qj k2))
 have ch9:S.M.Ch (fun b=>b=T) w2 w9:=by rw[hw9];exact ((S.M.xu w2 T 0 _).trans (S.M.xu _ T 1 _)).trans (S.M.xu _ T 2 _)
 have FI:Hid (q2b w9 B 0 (fun _=>none)∧w.heap.size≤B∧Below w.heap.size w w9):=by
  refine⟨t2.kept (ch9.block B (by have:=b2.size;obtain⟨es,ck,h⟩:=t2.isM;exact (Array.getElem?_eq_some_iff.1 h).1) (by omega)),by omega,(b1.trans (b2.mono b1.size)).trans (ch9.below (Nat.le_trans b1.size b2.size) fun g e=>by omega)⟩
 have HW1:Hid (w1=w.alloc (.cells #[.slice none 0 0,.map none,.slice none 0 0] 225)):=hw1
 have HW2:Hid (w2=w1.alloc (.map #[] 0)):=hw2
 have HT:Hid (w.heap.size=T):=hT
 have HB:Hid (w1.heap.size=B):=hB
 have HW9:Hid (w9=((w2.setCell ⟨T,0,none⟩ (.slice none 0 0)).setCell ⟨T,1,none⟩ (.map (some B))).setCell ⟨T,2,none⟩ (.slice none 0 0)):=hw9
 have RM:(Instr.makeMap 219 none).run Tryz.prog w1=.ok (.map (some B)) w2:=by rw[←hB,hw2];exact run_makeMap _ _
 clear hw1 hw2 b1 b2 k1 k2 t2 s1 hT hB hw9 ch9
 go_enter Tryz.func152,Tryz.ntmps152
 go_upto_region 1 with fail
 rw[←HW1.out,HT.out]
 clear HW1 HW2
 go_wp2_with fail
 rw[←HW9.out]
 clear HW9
 have z0:w9.cell? ⟨T,0,none⟩=some (.slice none 0 0):=S.M.qc K9.out 0
 have z1:w9.cell? ⟨T,1,none⟩=some (.map (some B)):=S.M.qc K9.out 1
 have z2:w9.cell? ⟨T,2,none⟩=some (.slice none 0 0):=S.M.qc K9.out 2
 refine bodyPost_ret (by simp[results,Tryz.results152,go_sem,z0,z1,z2];try rfl) rfl ?_
 exact⟨B,rfl,FI.out⟩
theorem qw.cells {O:Nat→Prop}{W:World}{P:Nat}{vS:Value}{xs:List ScC}(h:qw tq O W P vS xs):W.cell? ⟨P,0,none⟩=some (q17 tq)∧W.cell? ⟨P,1,none⟩=some vS:=⟨S.M.qc h.box 0,S.M.qc h.box 1⟩
theorem q41 (w:World)(O:Nat→Prop)(P:Nat)(vS:Value)(xs:List ScC)(h:qw tq O w P vS xs)(hn:xs.length≤1048576) :
  Calls Tryz.prog 57 #[.pointer (some ⟨P,0,none⟩)] w fun e w'=>e=.returned (.int .i64 ((xs.length:Int) - 1))∧w'=w:=by
 obtain⟨a,c,rfl,_⟩:=qm h.row
 have x1:=h.cells.2
 obtain⟨n,hl⟩:∃n,xs.length=n:=⟨_,rfl⟩
 rw[hl] at x1 hn ⊢
 have hw:IntKind.i64.wrap ((n:Int) - 1)=(n:Int) - 1:=qbo _ (by omega) (by omega)
 clear h hl
 go_enter Tryz.func57,Tryz.ntmps57
 go_wp2
 go_ret
 exact⟨rfl,rfl⟩
theorem qgl (w:World)(T mb mn:Nat)(f:Int→Option Int)(v:Int)(x1:w.cell? ⟨T,1,none⟩=some (.map (some mb)))(hm:q2b w mb mn f)(hv:wfN v) :
  Calls Tryz.prog 258 #[.pointer (some ⟨T,0,none⟩),.int .i64 v] w fun e w'=>e=.returned (.tuple #[.int .i64 ((f v).getD 0),.bool (f v).isSome])∧w'=w:=by
 have lk:=hm.look v hv
 clear hm
 go_enter Tryz.func258,Tryz.ntmps258
 go_wp2
 go_ret2
 exact⟨rfl,rfl⟩
def tyS (xs:List ScC)(v:Int):Option Int:=xs.findSome? fun x=>q5b (x.hs.map (·.h)) v
theorem qmu {xs:List ScC}{v:Int}{j:Nat}{x:ScC}(hj:xs[j]?=some x)(h:tyS (xs.take j) v=none)(hx:q5b (x.hs.map (·.h)) v=none):tyS (xs.take (j + 1)) v=none:=by
 unfold tyS at h ⊢
 rw[List.take_add_one,hj,List.findSome?_append,h]
 simp[hx]
theorem qmv {xs:List ScC}{v t:Int}{j:Nat}{x:ScC}(hj:xs[j]?=some x)(h:tyS (xs.take j) v=none)(hx:q5b (x.hs.map (·.h)) v=some t):tyS xs v=some t:=by
 have hl:=(List.getElem?_eq_some_iff.1 hj)
 have e:xs=xs.take j++x :: xs.drop (j + 1):=by
  obtain⟨h1,h2⟩:=hl
  rw[←h2,←List.drop_eq_getElem_cons h1,List.take_append_drop]
 unfold tyS at h ⊢
 rw[e,List.findSome?_append,h]
 simp[hx]
theorem q9p (w:World)(O:Nat→Prop)(P:Nat)(vS:Value)(xs:List ScC)(v:Int)(h:qw tq O w P vS xs)(hn:xs.length≤1048576)(hv:wfN v) :
  Calls Tryz.prog 228 #[.pointer (some ⟨P,0,none⟩),.int .i64 v] w fun e w'=>e=.returned (.tuple #[.int .i64 ((tyS xs v).getD 0),.bool (tyS xs v).isSome])∧Below w.heap.size w w':=by
 obtain⟨a,c,rfl,_⟩:=qm h.row
 have x1:=h.cells.2
 obtain⟨n,hl⟩:∃n,xs.length=n:=⟨_,rfl⟩
 rw[hl] at x1 hn
 have HL:Hid (xs.length=n):=hl
 have HS:Hid (qw tq O w P (.slice a n c) xs):=by have h':=h;rw[hl] at h';exact h'
 have HV:Hid (wfN v):=hv
 clear h hl hv
 go_enter Tryz.func228,Tryz.ntmps228
 go_wp2_with fail
 go_loopw [15] (fun i wx=>∃j:Nat,j≤n∧i=.int .i64 j∧Hid (tyS (xs.take j) v=none)∧Hid (Below w.heap.size w wx)) (fun i _=>n - (intOf i).toNat)
 case atStart=>exact⟨0,Nat.zero_le _,rfl,rfl,Below.refl _ _⟩
 case round =>
  obtain⟨j,hj,rfl,hN,hB⟩:=hrel
  by_cases hlt:j < n
  ·have n1:(j:Int) < (n:Int):=by omega
   obtain⟨x,hx⟩:∃x,xs[j]?=some x:=⟨_,List.getElem?_eq_getElem (by rw[HL.out];exact hlt)⟩
   have hS:=HS.out.below hB.out
   have hrow:=hS.row
   rw[HL.out] at hrow
   obtain⟨g,c',e,_,_,_⟩:=S.M.q0f hrow (by omega)
   cases e
   obtain⟨y0,y1,y2⟩:=q82 hrow j x hx
   have hok:=hS.each x (List.mem_of_getElem? hx)
   obtain⟨al,cl,el,_⟩:=qm hok.l
   obtain⟨ap,cp,ep,_⟩:=qm hok.p
   rw[el] at y0
   rw[ep] at y2
   obtain⟨wa,hwa⟩:∃wa,wa=wr.alloc (.cells #[.slice al x.hs.length cl,.map (some x.mb),.slice ap x.ps.length cp] 225):=⟨_,rfl⟩
   have HWA:Hid (wa=wr.alloc (.cells #[.slice al x.hs.length cl,.map (some x.mb),.slice ap x.ps.length cp] 225)):=hwa
   have ba:Below wr.heap.size wr wa:=by rw[hwa];exact qo _ _
   have ka:wa.heap[wr.heap.size]?=some (.cells #[.slice al x.hs.length cl,.map (some x.mb),.slice ap x.ps.length cp] 225 (0,0)):=by rw[hwa];exact heap_alloc_new wr _
   have TO:Hid _:=qgl wa wr.heap.size x.mb x.mn (q5b (x.hs.map (·.h))) v (S.M.qc ka 1) (hok.m.kept (ba.block _ (hS.lt _ hok.mo))) HV.out
   have BA:Hid (Below w.heap.size w wa):=hB.out.trans (ba.mono hB.out.size)
   have HX:Hid (xs[j]?=some x):=hx
   clear hS hrow hok hx ba ka hwa el ep
   obtain⟨nh,hnh⟩:∃nh,x.hs.length=nh:=⟨_,rfl⟩
   obtain⟨np,hnp⟩:∃np,x.ps.length=np:=⟨_,rfl⟩
   obtain⟨mb,hmb⟩:∃mb,x.mb=mb:=⟨_,rfl⟩
   rw[hnh] at y0 HWA
   rw[hmb] at y1 HWA
   rw[hnp] at y2 HWA
   clear hnh hnp hmb
   cases ht:q5b (x.hs.map (·.h)) v with
   | none =>
    rw[ht] at TO
    have HN2:Hid (tyS (xs.take (j + 1)) v=none):=qmu HX.out hN.out ht
    clear ht
    go_upto_region 4 with fail
    rw[←HWA.out]
    go_wp2_with fail
    refine Calls.mono TO.out ?_
    rintro e wz ⟨rfl,hwz⟩
    subst wz
    clear TO y0 y1 y2
    go_wp2
    exact⟨⟨j + 1,by omega,by go_num,HN2.out,BA.out⟩,by simp[intOf];omega⟩
   | some t =>
    rw[ht] at TO
    have HN2:Hid (tyS xs v=some t):=qmv HX.out hN.out ht
    clear ht
    go_upto_region 4 with fail
    rw[←HWA.out]
    go_wp2_with fail
    refine Calls.mono TO.out ?_
    rintro e wz ⟨rfl,hwz⟩
    subst wz
    clear TO y0 y1 y2
    go_wp2
    go_ret2
    exact⟨by rw[HN2.out];rfl,BA.out⟩
  ·have n1:¬(j:Int) < (n:Int):=by omega
   have HN2:Hid (tyS xs v=none):=by have h:=hN.out;rw[List.take_of_length_le (by rw[HL.out];omega)] at h;exact h
   go_wp2
   go_ret2
   exact⟨by rw[HN2.out];rfl,hB.out⟩
end F
namespace F
open Go.Shelf
variable {tq:Nat} {isV:Int→Bool}
def Tryz.q2t:Go.Shelf.Ren:=⟨fun | 316=>151 | n=>n,fun | 9=>9 | 3=>3 | 4=>4 | 37=>133 | 0=>0 | 127=>210 | 5=>5 | n=>n,fun | n=>n⟩
theorem Tryz.laysM316:Go.Proofs.LaysM.n316 Tryz.prog Tryz.q2t:={
 mixed:=by kernel_rfl
 f316:=Tryz.func151.trans (congrArg some (by kernel_rfl))
 t0:=Tryz.underlying0
 a0:=Tryz.isAgg0
 z0:=Tryz.sizeOf0
 v0:=Tryz.zeroValue0
 t3:=Tryz.underlying3
 a3:=Tryz.isAgg3
 z3:=Tryz.sizeOf3
 v3:=Tryz.zeroValue3
 t4:=Tryz.underlying4
 a4:=Tryz.isAgg4
 z4:=Tryz.sizeOf4
 v4:=Tryz.zeroValue4
 t9:=Tryz.underlying9
 a9:=Tryz.isAgg9
 z9:=Tryz.sizeOf9
 v9:=Tryz.zeroValue9
 t37:=Tryz.underlying133
 a37:=Tryz.isAgg133
 z37:=Tryz.sizeOf133
 v37:=Tryz.zeroValue133
 t127:=Tryz.underlying210
 a127:=Tryz.isAgg210
 z127:=Tryz.sizeOf210
 v127:=Tryz.zeroValue210
 t5:=Tryz.underlying5
 a5:=Tryz.isAgg5
 z5:=Tryz.sizeOf5
 v5:=Tryz.zeroValue5
 i0:=by kernel_rfl
 i3:=by kernel_rfl
 i4:=by kernel_rfl
 i5:=by kernel_rfl
 i9:=by kernel_rfl
 i37:=by kernel_rfl
 i127:=by kernel_rfl }
open Go.RowKit in
theorem Tryz.stringslite_Clone (s:ByteArray)(w:World)(hlim:s.size≤281474976710656) :
  Calls Tryz.prog 151 #[.string s] w fun e w'=>e=.returned (.string s)∧Below w.heap.size w w':=Any.stringslite_Clone Tryz.laysM316 s w hlim
def Tryz.qb3:Go.Shelf.Ren:=⟨fun | 15=>72 | n=>n,fun | 22=>38 | 3=>3 | 4=>4 | n=>n,fun | n=>n⟩
theorem Tryz.laysNm215:Go.Proofs.Lays2.n15 Tryz.prog Tryz.qb3:={
 mixed:=by kernel_rfl
 f15:=Tryz.func72.trans (congrArg some (by kernel_rfl))
 t3:=Tryz.underlying3
 a3:=Tryz.isAgg3
 z3:=Tryz.sizeOf3
 v3:=Tryz.zeroValue3
 t4:=Tryz.underlying4
 a4:=Tryz.isAgg4
 z4:=Tryz.sizeOf4
 v4:=Tryz.zeroValue4
 t22:=Tryz.underlying38
 a22:=Tryz.isAgg38
 z22:=Tryz.sizeOf38
 v22:=Tryz.zeroValue38
 i3:=by kernel_rfl }
open Go.RowKit Go.Lib in
theorem Tryz.slices_Clone_int (b off n c:Nat)(zs:List Int)(w:World)(hz:n≤zs.length)(hbig:n * 8≤140737488355328)(hc:∀j,j < zs.length→w.cell? ⟨b,off + j,none⟩=some (.int .i64 (zs.getD j 0))) :
  Calls Tryz.prog 72 #[.slice (some ⟨b,off,none⟩) n c] w fun e w'=>∃v',e=.returned v'∧w'.ownsRow w.heap.size 3 1 v' n ((zs.take n).map (Value.int .i64))∧v'≠.slice none 0 0∧Below w.heap.size w w':=Any.slices_Clone_int Tryz.laysNm215 b off n c zs w hz hbig hc
open Go.RowKit Go.Lib in
theorem Tryz.slices_Clone_int_nil (n c:Nat)(w:World) :
  Calls Tryz.prog 72 #[.slice none n c] w fun e w'=>e=.returned (.slice none 0 0)∧w'=w:=Any.slices_Clone_int_nil Tryz.laysNm215 n c w
open Go.RowKit Go.Lib in
theorem Tryz.slices_Clone_int_zero (a:Addr)(c:Nat)(w:World) :
  Calls Tryz.prog 72 #[.slice (some a) 0 c] w fun e w'=>∃v',e=.returned v'∧w'.ownsRow w.heap.size 3 1 v' 0 []∧v'≠.slice none 0 0∧Below w.heap.size w w':=Any.slices_Clone_int_zero Tryz.laysNm215 a c w
end F
namespace F
open Go.Maps Go.RowKit Go.WideMaps
variable {tq:Nat} {isV:Int→Bool}
theorem q9q:(Tryz.prog.info? 57).map (fun i=>(i.zero,i.size,i.bytes))=some (some (.agg #[.string ⟨#[]⟩,.bool false,.int .i64 0,.slice none 0 0]),4,56):=by kernel_rfl
theorem q83:(Tryz.prog.info? 3).map (fun i=>(i.zero,i.size,i.bytes))=some (some (.int .i64 0),1,8):=by kernel_rfl
theorem qmw:(Tryz.prog.info? 225).map (fun i=>(i.zero,i.size,i.bytes))=some (some (.agg #[.slice none 0 0,.map none,.slice none 0 0]),3,56):=by kernel_rfl
theorem qcw:(Tryz.prog.info? 130).map (fun i=>(i.zero,i.size,i.bytes))=some (some (.agg #[.int .i64 0,.int .i64 0]),2,16):=by kernel_rfl
theorem q2x (l m:List HyC):yx (l++m)=yx l++yx m:=by unfold yx;rw[List.flatMap_append]
theorem q9r (t:ByteArray)(w:World)(ht:t.size≤281474976710656):Calls Tryz.prog 100 #[.string t] w fun e w'=>e=.returned (.string t)∧Below w.heap.size w w':=by
 go_enter Tryz.func100,Tryz.ntmps100
 go_wp2_with (go_at_call 151;refine (Tryz.stringslite_Clone _ _ ht).mono ?_;rintro e w' ⟨rfl,hb⟩)
 go_ret
 exact⟨rfl,hb⟩
structure Listed (w W:World)(g o:Nat)(vl vl':Value)(hs:List HyC)(y:HyC):Prop where
 cell:W.cell? ⟨g,o,none⟩=some vl'
 own:W.ownsRow 0 57 4 vl' (hs.length + 1) (yx (hs++[y]))
 loc:∀b,vl'.ownBlock=some b→vl.ownBlock=some b∨w.heap.size≤b
 blk:∀cs t,w.heap[g]?=some (.cells cs t (0,0))→W.heap[g]?=some (.cells (cs.setIfInBounds o vl') t (0,0))
 ch:S.M.Ch (fun b=>vl.ownBlock=some b∨b=g) w W
theorem qeb (w:World)(g o:Nat)(cs:Array Value)(vl:Value)(hs:List HyC)(lab:ByteArray)(fl:Bool)(var:Int)(ae:Option Addr)(ne ce:Nat)(ex:List Int)(hg:w.heap[g]?=some (.cells cs 225 (0,0)))(ho:cs[o]?=some vl)(hl:w.ownsRow 0 57 4 vl hs.length (yx hs))(hn:hs.length≤1048576)(hlab:lab.size≤281474976710656) :
  Calls Tryz.prog 259 #[.pointer (some ⟨g,o,none⟩),.agg #[.string lab,.bool fl,.int .i64 var,.slice ae ne ce]] w fun e w'=>e=.returned (.tuple #[])∧∃vl',Listed w w' g o vl vl' hs ⟨⟨lab,fl,var,ex⟩,.slice ae ne ce⟩:=by
 obtain⟨iH,hiH,iHz,iHs,iHb⟩:=info_parts q9q
 obtain⟨T,hT⟩:∃T,w.heap.size=T:=⟨_,rfl⟩
 obtain⟨w1,hw1⟩:∃w1,w1=w.alloc (.cells #[.string lab,.bool fl,.int .i64 var,.slice ae ne ce] 57):=⟨_,rfl⟩
 have HW1:Hid (w1=w.alloc (.cells #[.string lab,.bool fl,.int .i64 var,.slice ae ne ce] 57)):=hw1
 have b1:Below w.heap.size w w1:=by rw[hw1];exact qo _ _
 have k1:w1.heap[T]?=some (.cells #[.string lab,.bool fl,.int .i64 var,.slice ae ne ce] 57 (0,0)):=by rw[hw1,←hT];exact heap_alloc_new w _
 have s1:w1.heap.size=T + 1:=by rw[hw1,←hT];simp
 have x0:w1.cell? ⟨T,0,none⟩=some (.string lab):=S.M.qc k1 0
 have CL:Hid _:=q9r lab w1 hlab
 have hgT:g < T:=by rw[←hT];exact (Array.getElem?_eq_some_iff.1 hg).1
 have HO:Hid (w.ownsRow 0 57 4 vl hs.length (yx hs)):=hl
 have HG:Hid (w.heap[g]?=some (.cells cs 225 (0,0))∧cs[o]?=some vl):=⟨hg,ho⟩
 have HT:Hid (w.heap.size=T):=hT
 have K1:Hid (w1.heap[T]?=some (.cells #[.string lab,.bool fl,.int .i64 var,.slice ae ne ce] 57 (0,0))):=k1
 have B1:Hid (Below w.heap.size w w1):=b1
 have S1:Hid (w1.heap.size=T + 1):=s1
 obtain⟨n,hnn⟩:∃n,hs.length=n:=⟨_,rfl⟩
 rw[hnn] at hn HO
 have HN:Hid (hs.length=n):=hnn
 clear hw1 b1 k1 s1 hg ho hl hlab hT hnn
 go_enter Tryz.func259,Tryz.ntmps259
 go_upto_region 1 with fail
 rw[←HW1.out,HT.out]
 clear HW1
 go_wp2_with fail
 refine Calls.mono CL.out ?_
 rintro e w2 ⟨rfl,hb2⟩
 have k2:w2.heap[T]?=some (.cells #[.string lab,.bool fl,.int .i64 var,.slice ae ne ce] 57 (0,0)):=(hb2.block T (by have:=S1.out;omega)).trans K1.out
 have y0:w2.cell? ⟨T,0,none⟩=some (.string lab):=S.M.qc k2 0
 have f0:w2.frozen? ⟨T,0,none⟩=false:=by simp[World.frozen?,k2]
 obtain⟨w3,hw3⟩:∃w3,w3=w2.setCell ⟨T,0,none⟩ (.string lab):=⟨_,rfl⟩
 have HW3:Hid (w3=w2.setCell ⟨T,0,none⟩ (.string lab)):=hw3
 have ch3:S.M.Ch (fun b=>b=T) w2 w3:=by rw[hw3];exact S.M.xu w2 T 0 _
 have K3:Hid (w3.heap[T]?=some (.cells #[.string lab,.bool fl,.int .i64 var,.slice ae ne ce] 57 (0,0))):=by show _=_;rw[hw3];exact S.M.qj k2
 have B3:Hid (Below w.heap.size w w3):=B1.out.trans ((hb2.mono B1.out.size).trans (ch3.below (Nat.le_trans B1.out.size hb2.size) fun b e=>by have:=HT.out;omega))
 clear hb2 k2 hw3 ch3 CL B1 K1 x0
 go_upto_region 2 with fail
 rw[←HW3.out]
 clear HW3 y0 f0
 have BD:Hid (Below w.heap.size w w3.drew):=zu B3.out 1
 have KT:Hid (∀W,S.M.Ch (fun b=>vl.ownBlock=some b∨b=g) w3 W→W.heap[T]?=some (.cells #[.string lab,.bool fl,.int .i64 var,.slice ae ne ce] 57 (0,0))):=fun W hc=>(hc.block T (Array.getElem?_eq_some_iff.1 K3.out).1 (fun e=>by
  rcases e with e | e
  ·have h1:=S.M.jl HO.out _ e;have h2:=HT.out;omega
  ·omega)).trans K3.out
 have SF:Hid (∀W,S.M.Ch (fun b=>vl.ownBlock=some b∨b=g) w3 W→W.cell? ⟨T,0,none⟩=some (.string lab)∧W.cell? ⟨T,1,none⟩=some (.bool fl)∧W.cell? ⟨T,2,none⟩=some (.int .i64 var)∧W.cell? ⟨T,3,none⟩=some (.slice ae ne ce)):=fun W hc=>⟨S.M.qc (KT.out W hc) 0,S.M.qc (KT.out W hc) 1,S.M.qc (KT.out W hc) 2,S.M.qc (KT.out W hc) 3⟩
 have C0:Hid (S.M.Ch (fun b=>vl.ownBlock=some b∨b=g) w3 w3.drew):=S.M.Ch.of_below (zu (Below.refl _ _) 1)
 have G0:Hid (w3.drew.heap[g]?=some (.cells cs 225 (0,0))∧w3.drew.ownsRow 0 57 4 vl n (yx hs)):=⟨(BD.out.block g (by have:=HT.out;omega)).trans HG.out.1,S.M.qh HO.out (S.M.Ch.of_below (X:=fun _=>False) BD.out) fun _ _ e=>e⟩
 refine wp_region_held_drew (S:=fun w'=>w'.cell? ⟨T,0,none⟩=some (.string lab)∧w'.cell? ⟨T,1,none⟩=some (.bool fl)∧w'.cell? ⟨T,2,none⟩=some (.int .i64 var)∧w'.cell? ⟨T,3,none⟩=some (.slice ae ne ce)) (by kernel_rfl) ?_ (fun hHeld=>?_)
 ·exact SF.out _ C0.out
 refine tk 0 ⟨some 8,.move (.tmp 0),289,"scope.go:42",#[],none⟩ ?_ hHeld ?_ ?_
 rotate_left
 ·(intro w hSw;(try dsimp only at hSw);go_simp;try with_reducible rfl)
 try simp only[Act.put,List.setIfInBounds_toArray,List.set_cons_zero,List.set_cons_succ]
 refine tk 1 ⟨some 9,.move (.tmp 0),289,"scope.go:42",#[],none⟩ ?_ hHeld ?_ ?_
 rotate_left
 ·(intro w hSw;(try dsimp only at hSw);go_simp;try with_reducible rfl)
 try simp only[Act.put,List.setIfInBounds_toArray,List.set_cons_zero,List.set_cons_succ]
 refine tk 2 ⟨some 10,.nilCheck (.tmp 9),0,"scope.go:42",#[⟨1,.data⟩],none⟩ ?_ hHeld ?_ ?_
 rotate_left
 ·(intro w hSw;(try dsimp only at hSw);go_simp;try with_reducible rfl)
 try simp only[Act.put,List.setIfInBounds_toArray,List.set_cons_zero,List.set_cons_succ]
 refine tk 3 ⟨some 11,.fieldAddr 221 (.tmp 10) 0,0,"scope.go:42",#[⟨2,.data⟩],none⟩ ?_ hHeld ?_ ?_
 rotate_left
 ·(intro w hSw;(try dsimp only at hSw);go_simp;try with_reducible rfl)
 try simp only[Act.put,List.setIfInBounds_toArray,List.set_cons_zero,List.set_cons_succ]
 refine tk 5 ⟨some 13,.load 57 (.tmp 3),57,"scope.go:42",#[],none⟩ ?_ hHeld ?_ ?_
 rotate_left
 ·(intro w hSw;(try dsimp only at hSw);go_simp;try with_reducible rfl)
 try simp only[Act.put,List.setIfInBounds_toArray,List.set_cons_zero,List.set_cons_succ]
 refine wpAnyH_ready (rs:=[4,6]) (by kernel_rfl) (by simp) ?_
 refine AllReadyH.cons rfl (fun K hK=>?_) (AllReadyH.cons rfl (fun K hK=>?_) AllReadyH.nil)
 ·have qL:w3.drew.cell? ⟨g,o,none⟩=some vl:=(S.M.qc G0.out.1 o).trans HG.out.2
  go_simp
  refine hK.out _ _ ?_ (fun hHeld_4=>?_)
  ·exact SF.out _ C0.out
  clear hK K
  try simp only[Act.put,List.setIfInBounds_toArray,List.set_cons_zero,List.set_cons_succ]
  refine wpAnyH_ready (rs:=[6]) (by kernel_rfl) (by simp) ?_
  refine AllReadyH.cons rfl (fun K hK=>?_) AllReadyH.nil
  have C1:Hid (S.M.Ch (fun b=>vl.ownBlock=some b∨b=g) w3 (w3.drew.alloc (.cells #[.string lab,.bool fl,.int .i64 var,.slice ae ne ce] 57))):=C0.out.trans (S.M.Ch.of_below (qo _ _))
  have G1:Hid ((w3.drew.alloc (.cells #[.string lab,.bool fl,.int .i64 var,.slice ae ne ce] 57)).heap[g]?=some (.cells cs 225 (0,0))∧(w3.drew.alloc (.cells #[.string lab,.bool fl,.int .i64 var,.slice ae ne ce] 57)).ownsRow 0 57 4 vl n (yx hs)):=⟨((qo w3.drew _).block g (Array.getElem?_eq_some_iff.1 G0.out.1).1).trans G0.out.1,S.M.zk G0.out.2 _⟩
  go_simp
  refine hK.out _ _ ?_ (fun hHeld_6=>?_)
  ·exact SF.out _ C1.out
  clear hK K
  try simp only[Act.put,List.setIfInBounds_toArray,List.set_cons_zero,List.set_cons_succ]
  refine wpAnyH_ready (rs:=[7]) (by kernel_rfl) (by simp) ?_
  refine AllReadyH.cons rfl (fun K hK=>?_) AllReadyH.nil
  refine step_append_lies (w3.drew.alloc (.cells #[.string lab,.bool fl,.int .i64 var,.slice ae ne ce] 57)) rfl _ _ 44 rfl 0 57 iH _ 4 56 Tryz.underlying44 hiH iHz iHs iHb rfl (by omega) vl n (yx hs) (by rfl) G1.out.2 ⟨w3.drew.heap.size,0,none⟩ 1 1 [.string lab,.bool fl,.int .i64 var,.slice ae ne ce] (by rfl) (by rfl) (World.news_of_block (cs:=#[.string lab,.bool fl,.int .i64 var,.slice ae ne ce]) (t:=57) (fr:=(0,0)) (heap_alloc_new w3.drew _)) (by simp[Value.oneCell']) (by omega) (by unfold maxLen;omega) (by omega) (Nat.zero_le _) _ rfl ?_
  intro gg cap' w8 hown8 hgrow hat hlt8
  have C8:Hid (S.M.Ch (fun b=>vl.ownBlock=some b∨b=g) w3 w8):=C1.out.trans ((S.M.Ch.jm hgrow).mono fun b e=>.inl e)
  have O8:Hid (w8.ownsRow 0 57 4 (.slice (some ⟨gg,0,none⟩) (n + 1) cap') (n + 1) (yx (hs++[⟨⟨lab,fl,var,ex⟩,.slice ae ne ce⟩]))):=by show World.ownsRow _ _ _ _ _ _ _;rw[q2x];exact hown8
  have G8:Hid (w8.heap[g]?=some (.cells cs 225 (0,0))):=(hgrow.block g (Array.getElem?_eq_some_iff.1 G1.out.1).1 (fun e=>own_ne G1.out.2 G1.out.1 (by decide) e.symm)).trans G1.out.1
  have L8:Hid (∀b,(Value.slice (some ⟨gg,0,none⟩) (n + 1) cap').ownBlock=some b→vl.ownBlock=some b∨w.heap.size≤b):=fun b e=>by
   rcases S.M.q43 (c:=cap') (n:=n + 1) hat b e with h | h
   ·exact .inl h
   ·exact .inr (Nat.le_trans (Nat.le_trans BD.out.size (qo w3.drew (.cells #[.string lab,.bool fl,.int .i64 var,.slice ae ne ce] 57)).size) h)
  clear hgrow hat hown8 hlt8
  refine hK.out _ _ ?_ (fun hHeld_7=>?_)
  ·exact SF.out _ C8.out
  clear hK K
  try simp only[Act.put,List.setIfInBounds_toArray]
  refine tk 8 ⟨some 16,.nilCheck (.tmp 8),0,"scope.go:42",#[⟨0,.data⟩,⟨0,.phase⟩,⟨1,.phase⟩,⟨2,.phase⟩,⟨3,.phase⟩,⟨4,.phase⟩,⟨5,.phase⟩,⟨6,.phase⟩,⟨7,.phase⟩],none⟩ ?_ hHeld_7 ?_ ?_
  rotate_left
  ·(intro w hSw;(try dsimp only at hSw);go_simp;try with_reducible rfl)
  try simp only[Act.put]
  refine tk 9 ⟨some 17,.fieldAddr 221 (.tmp 16) 0,0,"scope.go:42",#[⟨8,.data⟩,⟨0,.phase⟩,⟨1,.phase⟩,⟨2,.phase⟩,⟨3,.phase⟩,⟨4,.phase⟩,⟨5,.phase⟩,⟨6,.phase⟩,⟨7,.phase⟩],none⟩ ?_ hHeld_7 ?_ ?_
  rotate_left
  ·(intro w hSw;(try dsimp only at hSw);go_simp;try with_reducible rfl)
  try simp only[Act.put]
  refine wpAnyH_ready (rs:=[10]) (by kernel_rfl) (by simp) ?_
  refine AllReadyH.cons rfl (fun K hK=>?_) AllReadyH.nil
  have dL:w8.cell? ⟨g,o,none⟩=some vl:=(S.M.qc G8.out o).trans HG.out.2
  have fL:w8.frozen? ⟨g,o,none⟩=false:=by simp[World.frozen?,G8.out]
  have C9:Hid (S.M.Ch (fun b=>vl.ownBlock=some b∨b=g) w3 (w8.setCell ⟨g,o,none⟩ (.slice (some ⟨gg,0,none⟩) (n + 1) cap'))):=C8.out.trans ((S.M.xu w8 g o (.slice (some ⟨gg,0,none⟩) (n + 1) cap')).mono fun b e=>.inr e)
  have FI:Hid (Listed w (w8.setCell ⟨g,o,none⟩ (.slice (some ⟨gg,0,none⟩) (n + 1) cap')) g o vl (.slice (some ⟨gg,0,none⟩) (n + 1) cap') hs ⟨⟨lab,fl,var,ex⟩,.slice ae ne ce⟩):=by
   have hset:=S.M.qj (o:=o) (v:=(.slice (some ⟨gg,0,none⟩) (n + 1) cap')) G8.out
   have hlt:o < cs.size:=(Array.getElem?_eq_some_iff.1 HG.out.2).1
   refine⟨?_,?_,L8.out,fun cs' t' h=>?_,?_⟩
   ·rw[S.M.qc hset o,Array.getElem?_setIfInBounds_self_of_lt hlt]
   ·rw[HN.out];exact S.M.qh O8.out (S.M.xu w8 g o _) fun b e e2=>own_ne O8.out G8.out (by decide) (by rw[e,e2])
   ·rw[HG.out.1] at h;cases h;exact hset
   ·exact (S.M.Ch.of_below B3.out).trans C9.out
  go_simp
  refine hK.out _ _ ?_ (fun hHeld_10=>?_)
  ·exact SF.out _ C9.out
  clear hK K
  try simp only[Act.put,List.setIfInBounds_toArray,List.set_cons_zero,List.set_cons_succ]
  refine wpAnyH_done (by kernel_rfl) ?_ _
  go_wp2_with fail
  refine bodyPost_end (results_none rfl _ _ _) rfl ?_
  exact⟨rfl,_,FI.out⟩
 ·have C1:Hid (S.M.Ch (fun b=>vl.ownBlock=some b∨b=g) w3 (w3.drew.alloc (.cells #[.string lab,.bool fl,.int .i64 var,.slice ae ne ce] 57))):=C0.out.trans (S.M.Ch.of_below (qo _ _))
  have G1:Hid ((w3.drew.alloc (.cells #[.string lab,.bool fl,.int .i64 var,.slice ae ne ce] 57)).heap[g]?=some (.cells cs 225 (0,0))∧(w3.drew.alloc (.cells #[.string lab,.bool fl,.int .i64 var,.slice ae ne ce] 57)).ownsRow 0 57 4 vl n (yx hs)):=⟨((qo w3.drew _).block g (Array.getElem?_eq_some_iff.1 G0.out.1).1).trans G0.out.1,S.M.zk G0.out.2 _⟩
  go_simp
  refine hK.out _ _ ?_ (fun hHeld_6=>?_)
  ·exact SF.out _ C1.out
  clear hK K
  try simp only[Act.put,List.setIfInBounds_toArray,List.set_cons_zero,List.set_cons_succ]
  refine wpAnyH_ready (rs:=[4]) (by kernel_rfl) (by simp) ?_
  refine AllReadyH.cons rfl (fun K hK=>?_) AllReadyH.nil
  have qL:(w3.alloc (.cells #[.string lab,.bool fl,.int .i64 var,.slice ae ne ce] 57)).cell? ⟨g,o,none⟩=some vl:=(S.M.qc (W:=(w3.drew.alloc (.cells #[.string lab,.bool fl,.int .i64 var,.slice ae ne ce] 57))) G1.out.1 o).trans HG.out.2
  go_simp
  refine hK.out _ _ ?_ (fun hHeld_4=>?_)
  ·exact SF.out _ C1.out
  clear hK K
  try simp only[Act.put,List.setIfInBounds_toArray,List.set_cons_zero,List.set_cons_succ]
  refine wpAnyH_ready (rs:=[7]) (by kernel_rfl) (by simp) ?_
  refine AllReadyH.cons rfl (fun K hK=>?_) AllReadyH.nil
  refine step_append_lies (w3.drew.alloc (.cells #[.string lab,.bool fl,.int .i64 var,.slice ae ne ce] 57)) rfl _ _ 44 rfl 0 57 iH _ 4 56 Tryz.underlying44 hiH iHz iHs iHb rfl (by omega) vl n (yx hs) (by rfl) G1.out.2 ⟨w3.drew.heap.size,0,none⟩ 1 1 [.string lab,.bool fl,.int .i64 var,.slice ae ne ce] (by rfl) (by rfl) (World.news_of_block (cs:=#[.string lab,.bool fl,.int .i64 var,.slice ae ne ce]) (t:=57) (fr:=(0,0)) (heap_alloc_new w3.drew _)) (by simp[Value.oneCell']) (by omega) (by unfold maxLen;omega) (by omega) (Nat.zero_le _) _ rfl ?_
  intro gg cap' w8 hown8 hgrow hat hlt8
  have C8:Hid (S.M.Ch (fun b=>vl.ownBlock=some b∨b=g) w3 w8):=C1.out.trans ((S.M.Ch.jm hgrow).mono fun b e=>.inl e)
  have O8:Hid (w8.ownsRow 0 57 4 (.slice (some ⟨gg,0,none⟩) (n + 1) cap') (n + 1) (yx (hs++[⟨⟨lab,fl,var,ex⟩,.slice ae ne ce⟩]))):=by show World.ownsRow _ _ _ _ _ _ _;rw[q2x];exact hown8
  have G8:Hid (w8.heap[g]?=some (.cells cs 225 (0,0))):=(hgrow.block g (Array.getElem?_eq_some_iff.1 G1.out.1).1 (fun e=>own_ne G1.out.2 G1.out.1 (by decide) e.symm)).trans G1.out.1
  have L8:Hid (∀b,(Value.slice (some ⟨gg,0,none⟩) (n + 1) cap').ownBlock=some b→vl.ownBlock=some b∨w.heap.size≤b):=fun b e=>by
   rcases S.M.q43 (c:=cap') (n:=n + 1) hat b e with h | h
   ·exact .inl h
   ·exact .inr (Nat.le_trans (Nat.le_trans BD.out.size (qo w3.drew (.cells #[.string lab,.bool fl,.int .i64 var,.slice ae ne ce] 57)).size) h)
  clear hgrow hat hown8 hlt8
  refine hK.out _ _ ?_ (fun hHeld_7=>?_)
  ·exact SF.out _ C8.out
  clear hK K
  try simp only[Act.put,List.setIfInBounds_toArray]
  refine tk 8 ⟨some 16,.nilCheck (.tmp 8),0,"scope.go:42",#[⟨0,.data⟩,⟨0,.phase⟩,⟨1,.phase⟩,⟨2,.phase⟩,⟨3,.phase⟩,⟨4,.phase⟩,⟨5,.phase⟩,⟨6,.phase⟩,⟨7,.phase⟩],none⟩ ?_ hHeld_7 ?_ ?_
  rotate_left
  ·(intro w hSw;(try dsimp only at hSw);go_simp;try with_reducible rfl)
  try simp only[Act.put]
  refine tk 9 ⟨some 17,.fieldAddr 221 (.tmp 16) 0,0,"scope.go:42",#[⟨8,.data⟩,⟨0,.phase⟩,⟨1,.phase⟩,⟨2,.phase⟩,⟨3,.phase⟩,⟨4,.phase⟩,⟨5,.phase⟩,⟨6,.phase⟩,⟨7,.phase⟩],none⟩ ?_ hHeld_7 ?_ ?_
  rotate_left
  ·(intro w hSw;(try dsimp only at hSw);go_simp;try with_reducible rfl)
  try simp only[Act.put]
  refine wpAnyH_ready (rs:=[10]) (by kernel_rfl) (by simp) ?_
  refine AllReadyH.cons rfl (fun K hK=>?_) AllReadyH.nil
  have dL:w8.cell? ⟨g,o,none⟩=some vl:=(S.M.qc G8.out o).trans HG.out.2
  have fL:w8.frozen? ⟨g,o,none⟩=false:=by simp[World.frozen?,G8.out]
  have C9:Hid (S.M.Ch (fun b=>vl.ownBlock=some b∨b=g) w3 (w8.setCell ⟨g,o,none⟩ (.slice (some ⟨gg,0,none⟩) (n + 1) cap'))):=C8.out.trans ((S.M.xu w8 g o (.slice (some ⟨gg,0,none⟩) (n + 1) cap')).mono fun b e=>.inr e)
  have FI:Hid (Listed w (w8.setCell ⟨g,o,none⟩ (.slice (some ⟨gg,0,none⟩) (n + 1) cap')) g o vl (.slice (some ⟨gg,0,none⟩) (n + 1) cap') hs ⟨⟨lab,fl,var,ex⟩,.slice ae ne ce⟩):=by
   have hset:=S.M.qj (o:=o) (v:=(.slice (some ⟨gg,0,none⟩) (n + 1) cap')) G8.out
   have hlt:o < cs.size:=(Array.getElem?_eq_some_iff.1 HG.out.2).1
   refine⟨?_,?_,L8.out,fun cs' t' h=>?_,?_⟩
   ·rw[S.M.qc hset o,Array.getElem?_setIfInBounds_self_of_lt hlt]
   ·rw[HN.out];exact S.M.qh O8.out (S.M.xu w8 g o _) fun b e e2=>own_ne O8.out G8.out (by decide) (by rw[e,e2])
   ·rw[HG.out.1] at h;cases h;exact hset
   ·exact (S.M.Ch.of_below B3.out).trans C9.out
  go_simp
  refine hK.out _ _ ?_ (fun hHeld_10=>?_)
  ·exact SF.out _ C9.out
  clear hK K
  try simp only[Act.put,List.setIfInBounds_toArray,List.set_cons_zero,List.set_cons_succ]
  refine wpAnyH_done (by kernel_rfl) ?_ _
  go_wp2_with fail
  refine bodyPost_end (results_none rfl _ _ _) rfl ?_
  exact⟨rfl,_,FI.out⟩
end F
namespace F
open S (qm)
open Go.Maps Go.RowKit Go.WideMaps
variable {tq:Nat} {isV:Int→Bool}
def q1a (w:World)(a:Option Addr)(l:List Int):Prop:=∀(i:Nat) (x:Int),l[i]?=some x→∃b off,a=some ⟨b,off,none⟩∧w.cell? ⟨b,off + i,none⟩=some (.int .i64 x)
theorem q1a.under {w w':World}{a:Option Addr}{l:List Int}(h:q1a w a l)(hb:Below w.heap.size w w'):q1a w' a l:=fun i x hi=>by
 obtain⟨b,off,e,h0⟩:=h i x hi
 exact⟨b,off,e,(hb.cell (p:=⟨b,_,none⟩) (World.block_lt_of_cell? _ _ h0)).trans h0⟩
theorem q3o {W:World}{base n:Nat}{v:Value}{l:List Int}(h:W.ownsRow base 3 1 v n (zy l)):∃a c,v=.slice a n c∧n≤c∧q1a W a l:=by
 obtain⟨a,c,rfl,hc,hcell⟩:=S.M.zx h
 refine⟨a,c,rfl,hc,fun i x hx=>?_⟩
 obtain⟨g,rfl,h0⟩:=hcell i (nV x) (by unfold zy;rw[List.getElem?_map,hx];rfl)
 exact⟨g,0,rfl,by rw[Nat.zero_add];exact h0⟩
theorem clone_any (w:World)(a:Option Addr)(n c:Nat)(l:List Int)(hl:l.length=n)(hn:n≤17592186044416)(h:q1a w a l) :
  Calls Tryz.prog 72 #[.slice a n c] w fun e w'=>∃v',e=.returned v'∧w'.ownsRow w.heap.size 3 1 v' n (zy l)∧Below w.heap.size w w':=by
 cases a with
 | none =>
  have hl0:l=[]:=by
   cases l with
   | nil=>rfl
   | cons x r =>
    obtain⟨b,off,e,_⟩:=h 0 x rfl
    cases e
  subst hl0
  subst hl
  refine (Tryz.slices_Clone_int_nil 0 c w).mono ?_
  rintro e w' ⟨rfl,rfl⟩
  exact⟨_,rfl,World.ownsRow_nil _ _ _ _,Below.refl _ _⟩
 | some ad =>
  rcases Nat.eq_zero_or_pos n with h0 | h0
  ·subst h0
   have hl0:l=[]:=List.eq_nil_of_length_eq_zero hl
   subst hl0
   refine (Tryz.slices_Clone_int_zero ad c w).mono ?_
   rintro e w' ⟨v',rfl,h1,_,h2⟩
   exact⟨v',rfl,h1,h2⟩
  ·obtain⟨b,off,e,_⟩:=h 0 _ (List.getElem?_eq_getElem (by omega))
   cases e
   refine (Tryz.slices_Clone_int b off n c l w (by omega) (by omega) (fun j hj=>by
    obtain⟨b',off',e',h1⟩:=h j _ (List.getElem?_eq_getElem hj)
    cases e'
    rw[h1,List.getD,List.getElem?_eq_getElem hj];rfl)).mono ?_
   rintro e w' ⟨v',rfl,h1,_,h2⟩
   refine⟨v',rfl,?_,h2⟩
   rw[List.take_of_length_le (by omega)] at h1
   exact h1
structure Put (w W:World)(g o:Nat)(cs:Array Value)(x:ScC)(vl' ve:Value)(h:Hy)(mn':Nat):Prop where
 blk:W.heap[g]?=some (.cells (cs.setIfInBounds o vl') 225 (0,0))
 own:W.ownsRow 0 57 4 vl' (x.hs.length + 1) (yx (x.hs++[⟨h,ve⟩]))
 loc:∀b,vl'.ownBlock=some b→x.vl.ownBlock=some b∨w.heap.size≤b
 ev:W.ownsRow 0 3 1 ve h.ex.length (zy h.ex)
 el:∀b,ve.ownBlock=some b→w.heap.size≤b
 m:q2b W x.mb mn' (q5b (x.hs.map (·.h)++[h]))
 ch:S.M.Ch (fun b=>x.vl.ownBlock=some b∨b=g∨b=x.mb) w W
theorem qbp (l:List Hy)(h:Hy)(v:Int):q5b (l++[h]) v=(q5b l v).or (if h.fl=true∧h.var=v then some (h.ex.headD 0) else none):=by
 unfold q5b
 rw[List.find?_append]
 cases hf:l.find? fun h=>h.fl && decide (h.var=v) with
 | some y=>simp
 | none =>
  simp only[Option.none_or,Option.map_none]
  by_cases hc:h.fl=true∧h.var=v
  ·rw[if_pos hc,List.find?_cons_of_pos (by simp[hc.1,hc.2])];rfl
  ·rw[if_neg hc,List.find?_cons_of_neg (by simpa using fun h1 h2=>hc ⟨h1,h2⟩)];rfl
theorem q84 (w:World)(O:Nat→Prop)(g o:Nat)(cs:Array Value)(x:ScC)(lab:ByteArray)(typ v:Int)(hg:w.heap[g]?=some (.cells cs 225 (0,0)))(ho:cs[o]?=some x.vl)(ho1:cs[o + 1]?=some (.map (some x.mb)))(hx:q5r O w x)(hn:x.hs.length≤1048576)(hlab:lab.size≤281474976710656)(ht:wfN typ)(hv:wfN v)(hty:q5b (x.hs.map (·.h)) v=none) :
  Calls Tryz.prog 229 #[.pointer (some ⟨g,o,none⟩),.string lab,.int .i64 typ,.int .i64 v] w fun e w'=>e=.returned (.tuple #[])∧∃vl' ve,Put w w' g o cs x vl' ve ⟨lab,true,v,[typ,v]⟩ (x.mn + 1):=by
 obtain⟨T,hT⟩:∃T,w.heap.size=T:=⟨_,rfl⟩
 obtain⟨w1,hw1⟩:∃w1,w1=w.alloc (.cells #[.int .i64 typ,.int .i64 v] 3):=⟨_,rfl⟩
 have b1:Below w.heap.size w w1:=by rw[hw1];exact qo _ _
 have g1:w1.heap[g]?=some (.cells cs 225 (0,0)):=(b1.block g (Array.getElem?_eq_some_iff.1 hg).1).trans hg
 have l1:=S.M.qh hx.l (S.M.Ch.of_below (X:=fun _=>False) b1) fun _ _ e=>e
 have v1:w1.ownsRow T 3 1 (.slice (some ⟨T,0,none⟩) 2 2) 2 (zy [typ,v]):=by
  rw[hw1,←hT]
  exact⟨rfl,.inr ⟨_,2,#[.int .i64 typ,.int .i64 v],rfl,Nat.le_refl _,heap_alloc_new w _,Nat.le_refl _,by decide,rfl,rfl⟩⟩
 have LI:Hid _:=qeb w1 g o cs x.vl x.hs lab true v (some ⟨T,0,none⟩) 2 2 [typ,v] g1 ho l1 hn hlab
 have HW1:Hid (w1=w.alloc (.cells #[.int .i64 typ,.int .i64 v] 3)):=hw1
 have HT:Hid (w.heap.size=T):=hT
 have HG:Hid (w1.heap[g]?=some (.cells cs 225 (0,0))∧cs[o]?=some x.vl∧cs[o + 1]?=some (.map (some x.mb))):=⟨g1,ho,ho1⟩
 have HX:Hid (q5r O w x):=hx
 have B1:Hid (Below w.heap.size w w1):=b1
 have V1:Hid (w1.ownsRow T 3 1 (.slice (some ⟨T,0,none⟩) 2 2) 2 (zy [typ,v])):=v1
 have HTY:Hid (q5b (x.hs.map (·.h)) v=none∧wfN typ∧wfN v∧x.hs.length≤1048576∧g < w.heap.size):=⟨hty,ht,hv,hn,(Array.getElem?_eq_some_iff.1 hg).1⟩
 clear hw1 b1 g1 l1 v1 hg ho ho1 hx hlab hT hty ht hv
 go_enter Tryz.func229,Tryz.ntmps229
 go_wp2_with fail
 rw[←HW1.out,HT.out]
 refine Calls.mono LI.out ?_
 rintro e w3 ⟨rfl,vl',hL⟩
 obtain⟨es,ck,hmm⟩:=HX.out.m.isM
 have hmlt:x.mb < w.heap.size:=(Array.getElem?_eq_some_iff.1 hmm).1
 have hm1:w1.heap[x.mb]?=some (.map es ck):=(B1.out.block _ hmlt).trans hmm
 have nvl:¬(x.vl.ownBlock=some x.mb∨x.mb=g):=fun e=>by
  rcases e with e | e
  ·obtain⟨c2,h2⟩:=yw HX.out.l e
   rw[hmm] at h2
   cases h2
  ·have h2:=HG.out.1
   rw[←e,hm1] at h2
   cases h2
 have hm3:q2b w3 x.mb x.mn (q5b (x.hs.map (·.h))):=HX.out.m.kept ((hL.ch.block _ (Nat.lt_of_lt_of_le hmlt B1.out.size) nvl).trans (B1.out.block _ hmlt))
 obtain⟨w4,hrun,hm4,hgr⟩:=hm3.put (by have h1:=HX.out.mc;have h2:=HTY.out.2.2.2.1;unfold maxLen;omega) v HTY.out.2.2.1 typ HTY.out.2.1
 have blk3:=hL.blk _ _ HG.out.1
 have og:o + 1 < cs.size:=(Array.getElem?_eq_some_iff.1 HG.out.2.2).1
 have c1:w3.cell? ⟨g,o + 1,none⟩=some (.map (some x.mb)):=by
  rw[S.M.qc blk3 (o + 1),Array.getElem?_setIfInBounds_ne (by omega)]
  exact HG.out.2.2
 have c4:S.M.Ch (fun b=>b=x.mb) w3 w4:=(S.M.Ch.jm hgr).mono fun b e=>by cases e;rfl
 have ngm:g≠x.mb:=fun e=>nvl (.inr e.symm)
 have isM3:∃es ck,w3.heap[x.mb]?=some (.map es ck):=hm3.isM
 have nrow:∀{base e sz n:Nat} {u:Value} {zs:List Value},w3.ownsRow base e sz u n zs→∀b,u.ownBlock=some b→¬b=x.mb:=fun ho b hb e=>by
  obtain⟨c2,h2⟩:=yw ho hb
  obtain⟨es,ck,h3⟩:=isM3
  rw[e,h3] at h2
  cases h2
 have v3:w3.ownsRow T 3 1 (.slice (some ⟨T,0,none⟩) 2 2) 2 (zy [typ,v]):=S.M.qh V1.out hL.ch fun b hb e=>by
  rcases e with e | e
  ·exact uf V1.out (S.M.qh HX.out.l (S.M.Ch.of_below (X:=fun _=>False) B1.out) fun _ _ e=>e) (by decide) b hb e
  ·exact own_ne V1.out HG.out.1 (by decide) (by rw[hb,e])
 have FI:Hid (Put w w4 g o cs x vl' (.slice (some ⟨T,0,none⟩) 2 2) ⟨lab,true,v,[typ,v]⟩ (x.mn + 1)):=by
  refine⟨(c4.block g (Array.getElem?_eq_some_iff.1 blk3).1 ngm).trans blk3,S.M.qh hL.own c4 (nrow hL.own),fun b e=>?_,S.M.qp (S.M.qh v3 c4 (nrow v3)) (Nat.zero_le _),fun b e=>?_,?_,?_⟩
  ·rcases hL.loc b e with h | h
   ·exact .inl h
   ·exact .inr (Nat.le_trans B1.out.size h)
  ·cases e;exact Nat.le_of_eq HT.out
  ·refine (congrArg (q2b w4 x.mb (x.mn + 1)) ?_).mp hm4
   funext t
   rw[qbp]
   by_cases e:t=v
   ·subst e
    rw[if_pos rfl,HTY.out.1,if_pos ⟨rfl,rfl⟩]
    rfl
   ·rw[if_neg e,if_neg (fun h=>e h.2.symm)]
    cases q5b (x.hs.map (·.h)) t <;> rfl
  ·have h1:S.M.Ch (fun b=>x.vl.ownBlock=some b∨b=g∨b=x.mb) w w1:=S.M.Ch.of_below B1.out
   exact (h1.trans (hL.ch.mono fun b e=>by rcases e with e | e;exact .inl e;exact .inr (.inl e))).trans (c4.mono fun b e=>.inr (.inr e))
 obtain⟨mb,hmb⟩:∃mb,x.mb=mb:=⟨_,rfl⟩
 rw[hmb] at hrun c1
 clear hL hm3 hm4 hgr blk3 c4 v3 hm1 hmm LI hmlt nvl isM3 ngm hmb
 go_wp2_with fail
 refine bodyPost_end (results_none rfl _ _ _) rfl ?_
 exact⟨rfl,_,_,FI.out⟩
theorem qcx (w:World)(O:Nat→Prop)(g o:Nat)(cs:Array Value)(x:ScC)(lab:ByteArray)(a:Option Addr)(n c:Nat)(e:List Int)(hg:w.heap[g]?=some (.cells cs 225 (0,0)))(ho:cs[o]?=some x.vl)(hx:q5r O w x)(hn:x.hs.length≤1048576)(hlab:lab.size≤281474976710656)(hl:e.length=n)(hln:n≤17592186044416)(he:q1a w a e) :
  Calls Tryz.prog 232 #[.pointer (some ⟨g,o,none⟩),.string lab,.slice a n c] w fun ee w'=>ee=.returned (.tuple #[])∧∃vl' ve,Put w w' g o cs x vl' ve ⟨lab,false,-1,e⟩ x.mn:=by
 have CL:Hid _:=clone_any w a n c e hl hln he
 have HG:Hid (w.heap[g]?=some (.cells cs 225 (0,0))∧cs[o]?=some x.vl):=⟨hg,ho⟩
 have HX:Hid (q5r O w x):=hx
 have HL:Hid (lab.size≤281474976710656∧x.hs.length≤1048576∧e.length=n):=⟨hlab,hn,hl⟩
 clear hg ho hx hlab hl he
 go_enter Tryz.func232,Tryz.ntmps232
 go_wp2_with fail
 refine Calls.mono CL.out ?_
 rintro ee w1 ⟨v',rfl,hv,hb⟩
 obtain⟨a1,c1,rfl,_⟩:=qm hv
 have g1:w1.heap[g]?=some (.cells cs 225 (0,0)):=(hb.block g (Array.getElem?_eq_some_iff.1 HG.out.1).1).trans HG.out.1
 have l1:=S.M.qh HX.out.l (S.M.Ch.of_below (X:=fun _=>False) hb) fun _ _ e=>e
 have LI:Hid _:=qeb w1 g o cs x.vl x.hs lab false (-1) a1 n c1 e g1 HG.out.2 l1 HL.out.2.1 HL.out.1
 have V1:Hid (w1.ownsRow w.heap.size 3 1 (.slice a1 n c1) n (zy e)):=hv
 have B1:Hid (Below w.heap.size w w1):=hb
 clear hv hb CL g1 l1
 go_wp2_with fail
 refine Calls.mono LI.out ?_
 rintro ee w3 ⟨rfl,vl',hL⟩
 have FI:Hid (Put w w3 g o cs x vl' (.slice a1 n c1) ⟨lab,false,-1,e⟩ x.mn):=by
  have g1:w1.heap[g]?=some (.cells cs 225 (0,0)):=(B1.out.block g (Array.getElem?_eq_some_iff.1 HG.out.1).1).trans HG.out.1
  obtain⟨es,ck,hmm⟩:=HX.out.m.isM
  have hmlt:x.mb < w.heap.size:=(Array.getElem?_eq_some_iff.1 hmm).1
  have nvl:¬(x.vl.ownBlock=some x.mb∨x.mb=g):=fun e=>by
   rcases e with e | e
   ·obtain⟨c2,h2⟩:=yw HX.out.l e
    rw[hmm] at h2
    cases h2
   ·have h2:=HG.out.1
    rw[←e,hmm] at h2
    cases h2
  have v3:w3.ownsRow w.heap.size 3 1 (.slice a1 n c1) n (zy e):=S.M.qh V1.out hL.ch fun b hb e=>by
   rcases e with e | e
   ·exact uf V1.out (S.M.qh HX.out.l (S.M.Ch.of_below (X:=fun _=>False) B1.out) fun _ _ e=>e) (by decide) b hb e
   ·exact own_ne V1.out g1 (by decide) (by rw[hb,e])
  refine⟨hL.blk _ _ g1,hL.own,fun b e=>?_,?_,fun b e=>S.M.zf v3 b e,?_,?_⟩
  ·rcases hL.loc b e with h | h
   ·exact .inl h
   ·exact .inr (Nat.le_trans B1.out.size h)
  ·show w3.ownsRow 0 3 1 (.slice a1 n c1) e.length (zy e)
   rw[HL.out.2.2]
   exact S.M.qp v3 (Nat.zero_le _)
  ·refine (congrArg (q2b w3 x.mb x.mn) ?_).mp (HX.out.m.kept ((hL.ch.block _ (Nat.lt_of_lt_of_le hmlt B1.out.size) nvl).trans (B1.out.block _ hmlt)))
   funext t
   rw[qbp,if_neg (fun h=>by cases h.1)]
   cases q5b (x.hs.map (·.h)) t <;> rfl
  ·have h1:S.M.Ch (fun b=>x.vl.ownBlock=some b∨b=g∨b=x.mb) w w1:=S.M.Ch.of_below B1.out
   exact h1.trans (hL.ch.mono fun b e=>by rcases e with e | e;exact .inl e;exact .inr (.inl e))
 clear hL LI
 go_wp2_with fail
 refine bodyPost_end (results_none rfl _ _ _) rfl ?_
 exact⟨rfl,_,_,FI.out⟩
end F
namespace F
open S (qm)
open Go.Maps Go.RowKit Go.WideMaps
variable {tq:Nat} {isV:Int→Bool}
theorem q49 {W:World}{base e size n b mn:Nat}{v:Value}{xs:List Value}{f:Int→Option Int}(h:W.ownsRow base e size v n xs)(hm:q2b W b mn f):v.ownBlock≠some b:=fun e'=>by
 obtain⟨c2,h2⟩:=yw h e'
 obtain⟨es,ck,h3⟩:=hm.isM
 rw[h3] at h2
 cases h2
theorem q3x {W:World}{g b mn:Nat}{cs:Array Value}{t:TypeId}{f:Int→Option Int}(h:W.heap[g]?=some (.cells cs t (0,0)))(hm:q2b W b mn f):g≠b:=fun e'=>by
 obtain⟨es,ck,h3⟩:=hm.isM
 rw[←e',h] at h3
 cases h3
theorem q5r.mono {O O':Nat→Prop}{W:World}{x:ScC}(h:q5r O W x)(ho:∀g,O g→O' g):q5r O' W x:=⟨h.l,fun g e=>ho g (h.lo g e),fun y hy=>⟨(h.e y hy).1,fun g e=>ho g ((h.e y hy).2 g e)⟩,h.m,ho _ h.mo,h.mc,h.p,fun g e=>ho g (h.po g e)⟩
theorem qec {w W:World}{g n c o:Nat}{cs:Array Value}{l l':List Value}{v:Value}(h:w.ownsRow 0 225 3 (.slice (some ⟨g,0,none⟩) n c) n l)(hg:w.heap[g]?=some (.cells cs 225 (0,0)))(hW:W.heap[g]?=some (.cells (cs.setIfInBounds o v) 225 (0,0)))(hl:l.set o v=l'):W.ownsRow 0 225 3 (.slice (some ⟨g,0,none⟩) n c) n l':=by
 subst hl
 refine⟨by rw[List.length_set];exact h.1,?_⟩
 rcases h.2 with ⟨e',_⟩ | ⟨g',cap',cur,hv,hg',hh,hn,hc,hsz,ht⟩
 ·cases e'
 ·simp only[Value.slice.injEq,Option.some.injEq,Addr.mk.injEq] at hv
  obtain⟨⟨rfl,_⟩,_,rfl⟩:=hv
  rw[hg] at hh
  cases hh
  refine .inr ⟨g,c,cs.setIfInBounds o v,rfl,hg',hW,hn,hc,by rw[Array.size_setIfInBounds];exact hsz,?_⟩
  rw[Array.toList_setIfInBounds,List.take_set,ht]
theorem q4w:∀l:List ScC,(uq l).length=l.length * 3
 | []=>rfl
 | x :: l=>by
  have e:uq (x :: l)=scC x++uq l:=rfl
  rw[e,List.length_append,q4w l,List.length_cons]
  simp[scC];omega
theorem qgm (xs:List ScC)(x:ScC)(vl':Value)(hs':List HyC)(mn':Nat):(uq (xs++[x])).set (xs.length * 3) vl'=uq (xs++[{ x with vl:=vl',hs:=hs',mn:=mn' }]):=by
 rw[q1k,q1k,List.set_append_right _ _ (by rw[q4w];exact Nat.le_refl _),q4w,Nat.sub_self]
 rfl
theorem qgn (xs:List ScC)(x:ScC)(vp':Value)(ps':List Pp):(uq (xs++[x])).set (xs.length * 3 + 2) vp'=uq (xs++[{ x with vp:=vp',ps:=ps' }]):=by
 rw[q1k,q1k,List.set_append_right _ _ (by rw[q4w];omega),q4w,show xs.length * 3 + 2 - xs.length * 3=2 by omega]
 rfl
def More (O:Nat→Prop)(w W:World)(b:Nat):Prop:=O b∨(w.heap.size≤b∧b < W.heap.size)
theorem qw.put {O:Nat→Prop}{w W:World}{P g n c:Nat}{xs:List ScC}{x:ScC}{cs:Array Value}{vl' ve:Value}{h:Hy}{mn':Nat}(hS:qw tq O w P (.slice (some ⟨g,0,none⟩) n c) (xs++[x]))(hg:w.heap[g]?=some (.cells cs 225 (0,0)))(hp:Put w W g (xs.length * 3) cs x vl' ve h mn')(hm:mn'≤x.hs.length + 1) :
  qw tq (More O w W) W P (.slice (some ⟨g,0,none⟩) n c) (xs++[{ x with vl:=vl',hs:=x.hs++[⟨h,ve⟩],mn:=mn' }])∧S.M.Ch O w W:=by
 have hxm:x ∈ xs++[x]:=by simp
 have hx:=hS.each x hxm
 have hrow:=hS.row
 have up:∀b,O b→More O w W b:=fun b hb=>.inl hb
 have XO:∀b,(x.vl.ownBlock=some b∨b=g∨b=x.mb)→O b:=fun b hb=>by
  rcases hb with hb | rfl | rfl
  ·exact hx.lo b hb
  ·exact hS.ro _ rfl
  ·exact hx.mo
 have cG:S.M.Ch O w W:=hp.ch.mono XO
 have cells:∀{B:Nat} {cs':Array Value} {t:TypeId},w.heap[B]?=some (.cells cs' t (0,0))→t≠57→t≠225→W.heap[B]?=w.heap[B]?:=fun hB h1 h2=>hp.ch.block _ (Array.getElem?_eq_some_iff.1 hB).1 fun e=>by
  rcases e with e | rfl | rfl
  ·exact own_ne hx.l hB (Ne.symm h1) e
  ·rw[hg] at hB;simp only[Option.some.injEq,Obj.cells.injEq] at hB;exact h2 hB.2.1.symm
  ·exact q3x hB hx.m rfl
 have rows:∀{base e sz k:Nat} {v:Value} {zs:List Value},w.ownsRow base e sz v k zs→e≠57→e≠225→∀b,v.ownBlock=some b→¬(x.vl.ownBlock=some b∨b=g∨b=x.mb):=fun ho h1 h2 b hb e=>by
  rcases e with e | rfl | rfl
  ·exact uf ho hx.l h1 b hb e
  ·exact own_ne ho hg h2 hb
  ·exact q49 ho hx.m hb
 obtain⟨hap,_,hall⟩:=List.pairwise_append.1 hS.ap
 refine⟨⟨(cells hS.box (by decide) (by decide)).trans hS.box,up _ hS.bo,?_,fun b e=>up b (hS.ro b e),fun y hy=>?_,?_,?_⟩,cG⟩
 ·have hlen:n=(xs++[x]).length:=by obtain⟨_,_,e,_⟩:=qm hrow;cases e;rfl
  have h0:=qec (o:=xs.length * 3) (v:=vl') (l':=uq (xs++[{ x with vl:=vl',hs:=x.hs++[⟨h,ve⟩],mn:=mn' }])) (by rw[←hlen] at hrow;exact hrow) hg hp.blk (qgm xs x vl' _ mn')
  rw[hlen] at h0
  rw[hlen]
  simpa using h0
 ·rcases List.mem_append.1 hy with hy | hy
  ·have hyo:=hS.each y (List.mem_append_left _ hy)
   obtain⟨a1,a2,a3⟩:=hall y hy x (by simp)
   refine (hyo.ch hp.ch (fun b hb e=>?_) (fun z hz b hb=>rows (hyo.e z hz).1 (by decide) (by decide) b hb) (fun e=>?_) (fun b hb=>rows hyo.p (by decide) (by decide) b hb)).mono up
   ·rcases e with e | rfl | rfl
    ·exact a1 b hb e
    ·exact own_ne hyo.l hg (by decide) hb
    ·exact q49 hyo.l hx.m hb
   ·rcases e with e | e | e
    ·exact q49 hx.l hyo.m e
    ·exact q3x hg hyo.m e.symm
    ·exact a2 e
  ·rw[List.mem_singleton.1 hy]
   refine⟨by show W.ownsRow 0 57 4 vl' (x.hs++[(⟨h,ve⟩:HyC)]).length _;rw[List.length_append];exact hp.own,fun b e=>?_,fun z hz=>?_,?_,up _ hx.mo,by show mn'≤(x.hs++[(⟨h,ve⟩:HyC)]).length;rw[List.length_append];exact hm,S.M.qh hx.p hp.ch (rows hx.p (by decide) (by decide)),fun b e=>up b (hx.po b e)⟩
   ·rcases hp.loc b e with h1 | h1
    ·exact up b (hx.lo b h1)
    ·exact .inr ⟨h1,S.M.jl hp.own b e⟩
   ·rcases List.mem_append.1 hz with hz | hz
    ·exact⟨S.M.qh (hx.e z hz).1 hp.ch (rows (hx.e z hz).1 (by decide) (by decide)),fun b e=>up b ((hx.e z hz).2 b e)⟩
    ·rw[List.mem_singleton.1 hz]
     exact⟨hp.ev,fun b e=>.inr ⟨hp.el b e,S.M.jl hp.ev b e⟩⟩
   ·show q2b W x.mb mn' (q5b ((x.hs++[(⟨h,ve⟩:HyC)]).map (·.h)))
    rw[List.map_append]
    exact hp.m
 ·refine List.pairwise_append.2 ⟨hap,by simp,fun y hy z hz=>?_⟩
  rw[List.mem_singleton.1 hz]
  obtain⟨a1,a2,a3⟩:=hall y hy x (by simp)
  refine⟨fun b hb e=>?_,a2,a3⟩
  rcases hp.loc b e with h1 | h1
  ·exact a1 b hb h1
  ·have:=S.M.jl (hS.each y (List.mem_append_left _ hy)).l b hb
   omega
 ·intro b hb
  rcases hb with hb | hb
  ·exact Nat.lt_of_lt_of_le (hS.lt b hb) cG.size
  ·exact hb.2
theorem q85 (w:World)(O:Nat→Prop)(P g n c:Nat)(xs:List ScC)(hl:xs.length=n)(h0:0 < n)(hn:n≤1048576)(h:qw tq O w P (.slice (some ⟨g,0,none⟩) n c) xs) :
  Calls Tryz.prog 226 #[.pointer (some ⟨P,0,none⟩)] w fun e w'=>e=.returned (.pointer (some ⟨g,(n - 1) * 3,none⟩))∧∃q,w'=w.drewN q:=by
 have x1:=h.cells.2
 obtain⟨m,rfl⟩:∃m,n=m + 1:=⟨n - 1,by omega⟩
 have DP:Hid (∀q,Calls Tryz.prog 57 #[.pointer (some ⟨P,0,none⟩)] (w.drewN q) fun e w'=>e=.returned (.int .i64 (m:Int))∧w'=w.drewN q):=fun q=>by
  have h1:=q41 (w.drewN q) O P _ xs (h.below (zu (Below.refl _ _) q)) (by omega)
  rw[hl,show (((m + 1:Nat):Int) - 1)=(m:Int) by omega] at h1
  exact h1
 have n1:(m:Int) < ((m + 1:Nat):Int):=by omega
 clear h hl
 go_enter Tryz.func226,Tryz.ntmps226
 go_wp2_with fail
 go_quiet (first | exact (DP.out _).mono fun _ _ ⟨he,hw⟩=>⟨he,_,hw⟩)
 go_wp2
 go_ret
 exact⟨rfl,_,rfl⟩
end F
end Go.Proofs.YtbancemhfjjmlaaGreatDoor
