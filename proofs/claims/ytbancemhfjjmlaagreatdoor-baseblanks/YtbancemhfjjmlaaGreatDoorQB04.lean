/- Laid together. -/
import Derived.Test.YtbancemhfjjmlaaGreatDoorQB00
import Derived.Maps.OwnSet
import Derived.Carry
import Derived.Shelf.Small.Bits
import Derived.Shelf.Strconv.Itoa0
import Derived.Shelf.LaysM
import Derived.Shelf.Strconv.Clone
import Derived.Shelf.Sort.Plain
import Derived.Ground.Names2Prog
import Derived.Shelf.Slices.Clone
import Derived.Shelf.Slices.CompactI
import Derived.Shelf.Slices.SearchI
import Derived.Shelf.Slices.Cells
import Derived.Shelf.Slices.In.SortNone
import Derived.Shelf.Slices.Empties
import Derived.Ground.SlgnProg
import Derived.Shelf.SlicesE.Clone
import Derived.RangeFuncBox
import Derived.RangeFuncLeaves
import Derived.Shelf.Abstract
import Derived.OwnWalkIn
import Derived.TacticsInMore
import Derived.LoopNIn
import Derived.LoopIn
import Derived.Maps.AppendAt
import Derived.Deep.QuietTactic
set_option maxRecDepth 100000
set_option maxHeartbeats 32000000
namespace Go.Proofs.YtbancemhfjjmlaaGreatDoor
namespace F
open Go.Maps Go.RowKit Go.WideMaps
variable {tq:Nat} {isV:Int→Bool}
theorem qo (w:World)(o:Obj):Below w.heap.size w (w.alloc o):=(Below.refl _ w).alloc (Nat.le_refl _) o
theorem xu {N:Nat}{w w':World}(h:Below N w w')(k:Nat):Below N w (w'.drewN k):=⟨h.os,h.tape,h.output,h.size,h.block⟩
theorem qd7 (n:Int)(h1:-9223372036854775808≤n)(h2:n≤9223372036854775807):IntKind.i64.wrap n=n:=by rw[IntKind.wrap_i64];omega
theorem um {W:World}{base e size n:Nat}{v:Value}{xs:List Value}(h:W.ownsRow base e size v n xs){g:Nat}(hg:v.ownBlock=some g):∃cs,W.heap[g]?=some (.cells cs e (0,0)):=by
 rcases h.2 with ⟨rfl,_⟩ | ⟨g',cap,cur,rfl,_,hh,_⟩
 ·cases hg
 ·cases hg;exact⟨_,hh⟩
theorem own_ne {W:World}{base e size n:Nat}{v:Value}{xs:List Value}(h:W.ownsRow base e size v n xs){B:Nat}{cs:Array Value}{t:TypeId}(hb:W.heap[B]?=some (.cells cs t (0,0)))(hne:e≠t):v.ownBlock≠some B:=fun e'=>by
 obtain⟨c2,h2⟩:=um h e';rw[hb] at h2;simp only[Option.some.injEq,Obj.cells.injEq] at h2;exact hne h2.2.1.symm
theorem q00 {W:World}{b1 e1 s1 n1 b2 e2 s2 n2:Nat}{v1 v2:Value}{x1 x2:List Value}(h1:W.ownsRow b1 e1 s1 v1 n1 x1)(h2:W.ownsRow b2 e2 s2 v2 n2 x2)(hne:e1≠e2):∀g,v1.ownBlock=some g→v2.ownBlock≠some g:=fun g h=>by
 obtain⟨cs,hc⟩:=um h1 h;exact own_ne h2 hc (Ne.symm hne)
def wfN (x:Int):Prop:=-9223372036854775808≤x∧x≤9223372036854775807
theorem qe9 {x:Int}(h:wfN x):(Lit.int .i64 x).wf:=WalkArith.wf_i64 h
theorem qea:Keyed Tryz.prog 3:=int_keyed Tryz.underlying3
theorem qpf (w:World):(zeroValue 3).run Tryz.prog w=.ok (.int .i64 0) w:=by kernel_rfl
def qau (x:Int):Lit:=.int .i64 x
theorem qpg {x y:Int}(h:qau x=qau y):x=y:=by unfold qau at h;simpa using h
theorem qkm {x:Int}(h:wfN x):keyOf Tryz.prog 3 (.int .i64 x)=some (qau x):=keyOf_int_mk Tryz.underlying3 (qe9 h)
theorem qfl (x:Int):WideAt.IsKeyLit (qau x):=by unfold qau;simp[WideAt.IsKeyLit]
def zeroN:DataW Unit:=.lit (.int .i64 0)
def q2l (W:World)(b n:Nat)(f:Int→Option Int):Prop :=
 ∃D:DataW Unit,W.ownsMap Tryz.prog 3 (plainElem Tryz.prog 3) b n D∧∀x,has D (qau x)=(f x).isSome∧D.atKey (qau x) zeroN=.lit (.int .i64 ((f x).getD 0))
theorem q2l.made (w:World):q2l (w.alloc (.map #[] 0)) w.heap.size 0 (fun _=>none) :=
 ⟨.map [],World.ownsMap_made _ _ _ _,fun _=>⟨rfl,rfl⟩⟩
theorem q2l.kept {W W':World}{b n:Nat}{f:Int→Option Int}(h:q2l W b n f)(hb:W'.heap[b]?=W.heap[b]?):q2l W' b n f:=by
 obtain⟨D,⟨es,clock,hh,hr⟩,hf⟩:=h;exact⟨D,⟨es,clock,hb.trans hh,hr⟩,hf⟩
theorem q2l.isM {W:World}{b n:Nat}{f:Int→Option Int}(h:q2l W b n f):∃es clock,W.heap[b]?=some (.map es clock):=by
 obtain⟨D,⟨es,clock,hh,_⟩,_⟩:=h;exact⟨es,clock,hh⟩
theorem q2l.look {W:World}{b n:Nat}{f:Int→Option Int}(h:q2l W b n f)(x:Int)(hx:wfN x) :
  (Instr.lookup 219 (.map (some b)) (.int .i64 x) true).run Tryz.prog W=.ok (.tuple #[.int .i64 ((f x).getD 0),.bool (f x).isSome]) W:=by
 obtain⟨D,hown,hf⟩:=h;obtain⟨v,ps,hrun,hv⟩:=hown.look_ok qea Tryz.underlying219 (qpf W) (plainElem_int (H:=Unit) Tryz.underlying3 (by decide)) (qkm hx);obtain⟨c,rfl,hc,_⟩:=plainElem_int_inv Tryz.underlying3 hv;have h1:D.atKey (qau x) zeroN=.lit (.int .i64 c):=congrArg Prod.fst hc;rw[(hf x).2] at h1;have e:(f x).getD 0=c:=by simpa using h1
 rw[hrun,(hf x).1,e]
theorem q2l.put {W:World}{b n:Nat}{f:Int→Option Int}(h:q2l W b n f)(hn:n < maxLen)(x:Int)(hx:wfN x)(c:Int)(hc:wfN c) :
  ∃W',(Instr.mapUpdate 219 (.map (some b)) (.int .i64 x) (.int .i64 c)).run Tryz.prog W=.ok () W'∧q2l W' b (n + 1) (fun t=>if t=x then some c else f t)∧W.grownBy W' (some b):=by
 obtain⟨D,hown,hf⟩:=h;obtain⟨W',hrun,hown',hg⟩:=hown.update qea Tryz.underlying219 hn (qkm hx) (plainElem_int (H:=Unit) (q:=.i64) Tryz.underlying3 (a:=c) (qe9 hc));refine⟨W',hrun,⟨_,hown',fun t=>?_⟩,hg⟩;have hM:IsMap D:=by
  obtain⟨es,e,_⟩:=hown.tidy qea;exact⟨es,e⟩
 dsimp only
 by_cases e:t=x
 ·subst e;rw[if_pos rfl,has_put_same hM (qfl t),atKey_put_same hM (qfl t)];exact⟨rfl,rfl⟩
 ·have hne:qau t≠qau x:=fun h=>e (qpg h)
  rw[if_neg e,has_put_other hne,atKey_put_other hne];exact hf t
structure Hy where
 lab:ByteArray
 fl:Bool
 var:Int
 ex:List Int
structure HyC where
 h:Hy
 ve:Value
def nV (x:Int):Value:=.int .i64 x
def xw (l:List Int):List Value:=l.map nV
abbrev Pp:=Int × Int
def jh (l:List Pp):List Value:=l.flatMap fun p=>[.int .i64 p.1,.int .i64 p.2]
def hyC (x:HyC):List Value:=[.string x.h.lab,.bool x.h.fl,.int .i64 x.h.var,x.ve]
def uf (l:List HyC):List Value:=l.flatMap hyC
structure ScC where
 vl:Value
 hs:List HyC
 mb:Nat
 mn:Nat
 vp:Value
 ps:List Pp
def scC (x:ScC):List Value:=[x.vl,.map (some x.mb),x.vp]
def q0a (l:List ScC):List Value:=l.flatMap scC
def q5f (l:List Hy)(v:Int):Option Int:=(l.find? fun h=>h.fl && decide (h.var=v)).map fun h=>h.ex.headD 0
structure q6l (O:Nat→Prop)(W:World)(x:ScC):Prop where
 l:W.ownsRow 0 57 4 x.vl x.hs.length (uf x.hs)
 lo:∀g,x.vl.ownBlock=some g→O g
 e:∀y ∈ x.hs,W.ownsRow 0 3 1 y.ve y.h.ex.length (xw y.h.ex)∧∀g,y.ve.ownBlock=some g→O g
 m:q2l W x.mb x.mn (q5f (x.hs.map (·.h)))
 mo:O x.mb
 mc:x.mn≤x.hs.length
 p:W.ownsRow 0 130 2 x.vp x.ps.length (jh x.ps)
 po:∀g,x.vp.ownBlock=some g→O g
def ScAp (x y:ScC):Prop:=(∀g,x.vl.ownBlock=some g→y.vl.ownBlock≠some g)∧x.mb≠y.mb∧∀g,x.vp.ownBlock=some g→y.vp.ownBlock≠some g
def q0r (tq:Nat):Value:=.func (.func 70) #[.pointer (some ⟨tq,0,none⟩)] #[]
def q1r (tq:Nat)(isV:Int→Bool)(w:World):Prop:=∀(wx:World) (n:Int),Below w.heap.size w wx→Calls Tryz.prog 70 #[.pointer (some ⟨tq,0,none⟩),.int .i64 n] wx fun e w'=>e=.returned (.bool (isV n))∧Below wx.heap.size wx w'
theorem q1r.up {tq:Nat}{isV:Int→Bool}{w w':World}(h:q1r tq isV w)(hb:Below w.heap.size w w'):q1r tq isV w':=fun wx n hx=>h wx n (hb.trans (hx.mono hb.size))
structure qw (tq:Nat)(O:Nat→Prop)(W:World)(P:Nat)(vS:Value)(xs:List ScC):Prop where
 box:W.heap[P]?=some (.cells #[(q0r tq),vS] 171 (0,0))
 bo:O P
 row:W.ownsRow 0 225 3 vS xs.length (q0a xs)
 ro:∀g,vS.ownBlock=some g→O g
 each:∀x ∈ xs,q6l O W x
 ap:xs.Pairwise ScAp
 lt:∀g,O g→g < W.heap.size
theorem q6l.ch {O X:Nat→Prop}{W W':World}{x:ScC}(h:q6l O W x)(hc:S.M.Ch X W W')(hl:∀g,x.vl.ownBlock=some g→¬X g)(he:∀y ∈ x.hs,∀g,y.ve.ownBlock=some g→¬X g)(hm:¬X x.mb)(hp:∀g,x.vp.ownBlock=some g→¬X g):q6l O W' x:=by
 obtain⟨es,ck,hmm⟩:=h.m.isM;exact⟨S.M.qh h.l hc hl,h.lo,fun y hy=>⟨S.M.qh (h.e y hy).1 hc (he y hy),(h.e y hy).2⟩,h.m.kept (hc.block _ (aIx hmm) hm),h.mo,h.mc,S.M.qh h.p hc hp,h.po⟩
theorem qw.below {O:Nat→Prop}{W W':World}{P:Nat}{vS:Value}{xs:List ScC}(h:qw tq O W P vS xs)(hb:Below W.heap.size W W'):qw tq O W' P vS xs :=
 have hc:=S.M.Ch.oB (X:=fun _=>False) hb
 ⟨(hb.block P (h.lt P h.bo)).trans h.box,h.bo,S.M.qh h.row hc fun _ _ e=>e,h.ro,fun x hx=>(h.each x hx).ch hc (fun _ _ e=>e) (fun _ _ _ _ e=>e) (fun e=>e) (fun _ _ e=>e),h.ap,fun g hg=>Nat.lt_of_lt_of_le (h.lt g hg) hb.size⟩
theorem q6m:∀(l:List ScC) (i j:Nat) (x:ScC),l[i]?=some x→j < 3→(q0a l)[i * 3 + j]?=(scC x)[j]?
 | [],i,j,x,h,_=>by simp at h
 | y :: r,0,j,x,h,hj=>by
  simp at h;subst h;have e:q0a (y :: r)=scC y++q0a r:=rfl;rw[e,Nat.zero_mul,Nat.zero_add,List.getElem?_append_left (by simp[scC];omega)]
 | y :: r,i + 1,j,x,h,hj=>by
  have e:q0a (y :: r)=scC y++q0a r:=rfl;have h2:r[i]?=some x:=by simpa using h
  rw[e,List.getElem?_append_right (by simp[scC];omega)];have e2:(i + 1) * 3 + j - (scC y).length=i * 3 + j:=by simp[scC];omega
  rw[e2];exact q6m r i j x h2 hj
theorem q1y (l m:List ScC):q0a (l++m)=q0a l++q0a m:=by unfold q0a;rw[List.flatMap_append]
theorem q8z {W:World}{base g n cap:Nat}{l:List ScC}(h:W.ownsRow base 225 3 (.slice (some ⟨g,0,none⟩) n cap) n (q0a l))(i:Nat)(x:ScC)(hi:l[i]?=some x):W.cell? ⟨g,i * 3,none⟩=some x.vl∧W.cell? ⟨g,i * 3 + 1,none⟩=some (.map (some x.mb))∧W.cell? ⟨g,i * 3 + 2,none⟩=some x.vp:=by
 have k0:=q6m l i 0 x hi (by omega);rw[Nat.add_zero] at k0;exact⟨S.M.q3r h _ _ (k0.trans rfl),S.M.q3r h _ _ ((q6m l i 1 x hi (by omega)).trans rfl),S.M.q3r h _ _ ((q6m l i 2 x hi (by omega)).trans rfl)⟩
open S (ql)
theorem q7z (w:World):Calls Tryz.prog 152 #[] w fun e w'=>∃b,e=.returned (.agg #[.slice none 0 0,.map (some b),.slice none 0 0])∧q2l w' b 0 (fun _=>none)∧w.heap.size≤b∧Below w.heap.size w w':=by
 obtain⟨w1,hw1⟩:=eXa (w.alloc (.cells #[.slice none 0 0,.map none,.slice none 0 0] 225));have s1:w1.heap.size=w.heap.size + 1:=by rw[hw1];simp
 have k1:w1.heap[w.heap.size]?=some (.cells #[.slice none 0 0,.map none,.slice none 0 0] 225 (0,0)):=by rw[hw1];exact heap_alloc_new w _
 have b1:Below w.heap.size w w1:=by rw[hw1];exact qo _ _
 obtain⟨w2,hw2⟩:=eXa (w1.alloc (.map #[] 0));have b2:Below w1.heap.size w1 w2:=by rw[hw2];exact qo _ _
 have k2:w2.heap[w.heap.size]?=some (.cells #[.slice none 0 0,.map none,.slice none 0 0] 225 (0,0)):=(b2.block _ (by omega)).trans k1;have t2:q2l w2 w1.heap.size 0 (fun _=>none):=by rw[hw2];exact q2l.made w1
 obtain⟨T,hT⟩:=eXb w.heap.size;obtain⟨B,hB⟩:=eXb w1.heap.size;rw[hT] at k2 s1;rw[hB] at t2 s1;have x0:w2.cell? ⟨T,0,none⟩=some (.slice none 0 0):=S.M.qc k2 0;have x1:w2.cell? ⟨T,1,none⟩=some (.map none):=S.M.qc k2 1;have x2:w2.cell? ⟨T,2,none⟩=some (.slice none 0 0):=S.M.qc k2 2;have f0:w2.frozen? ⟨T,0,none⟩=false:=by simp[World.frozen?,k2]
 have f1:w2.frozen? ⟨T,1,none⟩=false:=by simp[World.frozen?,k2]
 have f2:w2.frozen? ⟨T,2,none⟩=false:=by simp[World.frozen?,k2]
 obtain⟨w9,hw9⟩:=eXa (((w2.setCell ⟨T,0,none⟩ (.slice none 0 0)).setCell ⟨T,1,none⟩ (.map (some B))).setCell ⟨T,2,none⟩ (.slice none 0 0));have K9:Hid (w9.heap[T]?=some (.cells #[.slice none 0 0,.map (some B),.slice none 0 0] 225 (0,0))):=by
  show _=_
  rw[hw9];exact S.M.qj (S.M.qj (S.M.qj k2))
 have ch9:S.M.Ch (fun b=>b=T) w2 w9:=by rw[hw9];exact ((S.M.jc w2 T 0 _).trans (S.M.jc _ T 1 _)).trans (S.M.jc _ T 2 _)
 have FI:Hid (q2l w9 B 0 (fun _=>none)∧w.heap.size≤B∧Below w.heap.size w w9):=by
  refine⟨t2.kept (ch9.block B (by have:=b2.size;obtain⟨es,ck,h⟩:=t2.isM;exact (aIx h)) (by omega)),by omega,(b1.trans (b2.mono b1.size)).trans (ch9.below (nLt b1.size b2.size) fun g e=>by omega)⟩
 have HW1:=hid hw1;have HW2:=hid hw2;have HT:=hid hT;have HB:=hid hB;have HW9:=hid hw9;have RM:(Instr.makeMap 219 none).run Tryz.prog w1=.ok (.map (some B)) w2:=by rw[←hB,hw2];exact run_makeMap _ _
 clear hw1 hw2 b1 b2 k1 k2 t2 s1 hT hB hw9 ch9;go_enter Tryz.func152,Tryz.ntmps152;go_upto_region 1 with fail;rw[←HW1.out,HT.out];clear HW1 HW2;go_wp2_with fail;rw[←HW9.out];clear HW9;have z0:w9.cell? ⟨T,0,none⟩=some (.slice none 0 0):=S.M.qc K9.out 0;have z1:w9.cell? ⟨T,1,none⟩=some (.map (some B)):=S.M.qc K9.out 1;have z2:w9.cell? ⟨T,2,none⟩=some (.slice none 0 0):=S.M.qc K9.out 2;refine bodyPost_ret (by simp[results,Tryz.results152,go_sem,z0,z1,z2];try rfl) rfl ?_;exact⟨B,rfl,FI.out⟩
theorem qw.cells {O:Nat→Prop}{W:World}{P:Nat}{vS:Value}{xs:List ScC}(h:qw tq O W P vS xs):W.cell? ⟨P,0,none⟩=some (q0r tq)∧W.cell? ⟨P,1,none⟩=some vS:=⟨S.M.qc h.box 0,S.M.qc h.box 1⟩
theorem q4i (w:World)(O:Nat→Prop)(P:Nat)(vS:Value)(xs:List ScC)(h:qw tq O w P vS xs)(hn:xs.length≤1048576) :
  Calls Tryz.prog 57 #[.pointer (some ⟨P,0,none⟩)] w fun e w'=>e=.returned (.int .i64 ((xs.length:Int) - 1))∧w'=w:=by
 obtain⟨a,c,rfl,_⟩:=ql h.row;have x1:=h.cells.2;obtain⟨n,hl⟩:=eXb xs.length;rw[hl] at x1 hn ⊢;have hw:IntKind.i64.wrap ((n:Int) - 1)=(n:Int) - 1:=qd7 _ (by omega) (by omega);clear h hl;go_enter Tryz.func57,Tryz.ntmps57
 go_wp2
 go_ret
 exact⟨rfl,rfl⟩
theorem qib (w:World)(T mb mn:Nat)(f:Int→Option Int)(v:Int)(x1:w.cell? ⟨T,1,none⟩=some (.map (some mb)))(hm:q2l w mb mn f)(hv:wfN v) :
  Calls Tryz.prog 258 #[.pointer (some ⟨T,0,none⟩),.int .i64 v] w fun e w'=>e=.returned (.tuple #[.int .i64 ((f v).getD 0),.bool (f v).isSome])∧w'=w:=by
 have lk:=hm.look v hv;clear hm;go_enter Tryz.func258,Tryz.ntmps258
 go_wp2
 go_ret2
 exact⟨rfl,rfl⟩
def tyS (xs:List ScC)(v:Int):Option Int:=xs.findSome? fun x=>q5f (x.hs.map (·.h)) v
theorem qph {xs:List ScC}{v:Int}{j:Nat}{x:ScC}(hj:xs[j]?=some x)(h:tyS (xs.take j) v=none)(hx:q5f (x.hs.map (·.h)) v=none):tyS (xs.take (j + 1)) v=none:=by
 unfold tyS at h ⊢;rw[List.take_add_one,hj,List.findSome?_append,h];simp[hx]
theorem qpi {xs:List ScC}{v t:Int}{j:Nat}{x:ScC}(hj:xs[j]?=some x)(h:tyS (xs.take j) v=none)(hx:q5f (x.hs.map (·.h)) v=some t):tyS xs v=some t:=by
 have hl:=(List.getElem?_eq_some_iff.1 hj);have e:xs=xs.take j++x :: xs.drop (j + 1):=by
  obtain⟨h1,h2⟩:=hl;rw[←h2,←List.drop_eq_getElem_cons h1,List.take_append_drop]
 unfold tyS at h ⊢;rw[e,List.findSome?_append,h];simp[hx]
theorem qav (w:World)(O:Nat→Prop)(P:Nat)(vS:Value)(xs:List ScC)(v:Int)(h:qw tq O w P vS xs)(hn:xs.length≤1048576)(hv:wfN v) :
  Calls Tryz.prog 228 #[.pointer (some ⟨P,0,none⟩),.int .i64 v] w fun e w'=>e=.returned (.tuple #[.int .i64 ((tyS xs v).getD 0),.bool (tyS xs v).isSome])∧Below w.heap.size w w':=by
 obtain⟨a,c,rfl,_⟩:=ql h.row;have x1:=h.cells.2;obtain⟨n,hl⟩:=eXb xs.length;rw[hl] at x1 hn;have HL:=hid hl;have HS:Hid (qw tq O w P (.slice a n c) xs):=by have h':=h;rw[hl] at h';exact h'
 have HV:Hid (wfN v):=hv;clear h hl hv;go_enter Tryz.func228,Tryz.ntmps228;go_wp2_with fail
 go_loopw [15] (fun i wx=>∃j:Nat,j≤n∧i=.int .i64 j∧Hid (tyS (xs.take j) v=none)∧Hid (Below w.heap.size w wx)) (fun i _=>n - (intOf i).toNat)
 case atStart=>exact⟨0,Nat.zero_le _,rfl,rfl,bRf⟩
 case round =>
  obtain⟨j,hj,rfl,hN,hB⟩:=hrel
  by_cases hlt:j < n
  ·have n1:(j:Int) < (n:Int):=by omega
   obtain⟨x,hx⟩:∃x,xs[j]?=some x:=⟨_,gEq (by rw[HL.out];exact hlt)⟩;have hS:=HS.out.below hB.out;have hrow:=hS.row;rw[HL.out] at hrow;obtain⟨g,c',e,_,_,_⟩:=S.M.q0h hrow (by omega)
   cases e;obtain⟨y0,y1,y2⟩:=q8z hrow j x hx;have hok:=hS.each x (mGe hx);obtain⟨al,cl,el,_⟩:=ql hok.l;obtain⟨ap,cp,ep,_⟩:=ql hok.p;rw[el] at y0;rw[ep] at y2;obtain⟨wa,hwa⟩:=eXa (wr.alloc (.cells #[.slice al x.hs.length cl,.map (some x.mb),.slice ap x.ps.length cp] 225));have HWA:=hid hwa;have ba:Below wr.heap.size wr wa:=by rw[hwa];exact qo _ _
   have ka:wa.heap[wr.heap.size]?=some (.cells #[.slice al x.hs.length cl,.map (some x.mb),.slice ap x.ps.length cp] 225 (0,0)):=by rw[hwa];exact heap_alloc_new wr _
   have TO:Hid _:=qib wa wr.heap.size x.mb x.mn (q5f (x.hs.map (·.h))) v (S.M.qc ka 1) (hok.m.kept (ba.block _ (hS.lt _ hok.mo))) HV.out;have BA:=bTr hB ba;have HX:=hid hx;clear hS hrow hok hx ba ka hwa el ep;obtain⟨nh,hnh⟩:=eXb x.hs.length;obtain⟨np,hnp⟩:=eXb x.ps.length;obtain⟨mb,hmb⟩:=eXb x.mb;rw[hnh] at y0 HWA;rw[hmb] at y1 HWA;rw[hnp] at y2 HWA;clear hnh hnp hmb
   cases ht:q5f (x.hs.map (·.h)) v with
   | none =>
    rw[ht] at TO;have HN2:Hid (tyS (xs.take (j + 1)) v=none):=qph HX.out hN.out ht;clear ht;go_upto_region 4 with fail;rw[←HWA.out];go_wp2_with fail;refine cMo TO.out ?_;rintro e wz ⟨rfl,hwz⟩;subst wz;clear TO y0 y1 y2
    go_wp2
    exact⟨⟨j + 1,by omega,by go_num,HN2.out,BA.out⟩,by simp[intOf];omega⟩
   | some t =>
    rw[ht] at TO;have HN2:Hid (tyS xs v=some t):=qpi HX.out hN.out ht;clear ht;go_upto_region 4 with fail;rw[←HWA.out];go_wp2_with fail;refine cMo TO.out ?_;rintro e wz ⟨rfl,hwz⟩;subst wz;clear TO y0 y1 y2
    go_wp2
    go_ret2
    exact⟨by rw[HN2.out];rfl,BA.out⟩
  ·have n1:¬(j:Int) < (n:Int):=by omega
   have HN2:Hid (tyS xs v=none):=by have h:=hN.out;rw[List.take_of_length_le (by rw[HL.out];omega)] at h;exact h
   go_wp2
   go_ret2
   exact⟨by rw[HN2.out];rfl,hB.out⟩
open Go.Shelf
def Tryz.q3j:Go.Shelf.Ren:=⟨fun | 316=>151 | n=>n,fun | 9=>9 | 3=>3 | 4=>4 | 37=>133 | 0=>0 | 127=>210 | 5=>5 | n=>n,fun | n=>n⟩
theorem Tryz.laysM316:Go.Proofs.LaysM.n316 Tryz.prog Tryz.q3j:={
 mixed:=by kernel_rfl
 f316:=Tryz.func151.trans (congrArg some (by kernel_rfl))
 t0:=Tryz.underlying0
 a0:=Tryz.isAgg0
 z0:=Tryz.sizeOf0
 v0:=Tryz.zeroValue0
 t3:=Tryz.underlying3
 a3:=Tryz.isAgg3
 z3:=Tryz.sizeOf3
 v3:=Tryz.zeroValue3
 t4:=Tryz.underlying4
 a4:=Tryz.isAgg4
 z4:=Tryz.sizeOf4
 v4:=Tryz.zeroValue4
 t9:=Tryz.underlying9
 a9:=Tryz.isAgg9
 z9:=Tryz.sizeOf9
 v9:=Tryz.zeroValue9
 t37:=Tryz.underlying133
 a37:=Tryz.isAgg133
 z37:=Tryz.sizeOf133
 v37:=Tryz.zeroValue133
 t127:=Tryz.underlying210
 a127:=Tryz.isAgg210
 z127:=Tryz.sizeOf210
 v127:=Tryz.zeroValue210
 t5:=Tryz.underlying5
 a5:=Tryz.isAgg5
 z5:=Tryz.sizeOf5
 v5:=Tryz.zeroValue5
 i0:=by kernel_rfl
 i3:=by kernel_rfl
 i4:=by kernel_rfl
 i5:=by kernel_rfl
 i9:=by kernel_rfl
 i37:=by kernel_rfl
 i127:=by kernel_rfl }
open Go.RowKit in
theorem Tryz.stringslite_Clone (s:ByteArray)(w:World)(hlim:s.size≤281474976710656) :
  Calls Tryz.prog 151 #[.string s] w fun e w'=>e=.returned (.string s)∧Below w.heap.size w w':=Any.stringslite_Clone Tryz.laysM316 s w hlim
def Tryz.qcn:Go.Shelf.Ren:=⟨fun | 15=>72 | n=>n,fun | 22=>38 | 3=>3 | 4=>4 | n=>n,fun | n=>n⟩
theorem Tryz.laysNm215:Go.Proofs.Lays2.n15 Tryz.prog Tryz.qcn:={
 mixed:=by kernel_rfl
 f15:=Tryz.func72.trans (congrArg some (by kernel_rfl))
 t3:=Tryz.underlying3
 a3:=Tryz.isAgg3
 z3:=Tryz.sizeOf3
 v3:=Tryz.zeroValue3
 t4:=Tryz.underlying4
 a4:=Tryz.isAgg4
 z4:=Tryz.sizeOf4
 v4:=Tryz.zeroValue4
 t22:=Tryz.underlying38
 a22:=Tryz.isAgg38
 z22:=Tryz.sizeOf38
 v22:=Tryz.zeroValue38
 i3:=by kernel_rfl }
open Go.RowKit Go.Lib in
theorem Tryz.slices_Clone_int (b off n c:Nat)(zs:List Int)(w:World)(hz:n≤zs.length)(hbig:n * 8≤140737488355328)(hc:∀j,j < zs.length→w.cell? ⟨b,off + j,none⟩=some (.int .i64 (zs.getD j 0))) :
  Calls Tryz.prog 72 #[.slice (some ⟨b,off,none⟩) n c] w fun e w'=>∃v',e=.returned v'∧w'.ownsRow w.heap.size 3 1 v' n ((zs.take n).map (Value.int .i64))∧v'≠.slice none 0 0∧Below w.heap.size w w':=Any.slices_Clone_int Tryz.laysNm215 b off n c zs w hz hbig hc
open Go.RowKit Go.Lib in
theorem Tryz.slices_Clone_int_nil (n c:Nat)(w:World) :
  Calls Tryz.prog 72 #[.slice none n c] w fun e w'=>e=.returned (.slice none 0 0)∧w'=w:=Any.slices_Clone_int_nil Tryz.laysNm215 n c w
open Go.RowKit Go.Lib in
theorem Tryz.slices_Clone_int_zero (a:Addr)(c:Nat)(w:World) :
  Calls Tryz.prog 72 #[.slice (some a) 0 c] w fun e w'=>∃v',e=.returned v'∧w'.ownsRow w.heap.size 3 1 v' 0 []∧v'≠.slice none 0 0∧Below w.heap.size w w':=Any.slices_Clone_int_zero Tryz.laysNm215 a c w
theorem qaw:(Tryz.prog.info? 57).map (fun i=>(i.zero,i.size,i.bytes))=some (some (.agg #[.string ⟨#[]⟩,.bool false,.int .i64 0,.slice none 0 0]),4,56):=by kernel_rfl
theorem q7l:(Tryz.prog.info? 3).map (fun i=>(i.zero,i.size,i.bytes))=some (some (.int .i64 0),1,8):=by kernel_rfl
theorem qpj:(Tryz.prog.info? 225).map (fun i=>(i.zero,i.size,i.bytes))=some (some (.agg #[.slice none 0 0,.map none,.slice none 0 0]),3,56):=by kernel_rfl
theorem qeb:(Tryz.prog.info? 130).map (fun i=>(i.zero,i.size,i.bytes))=some (some (.agg #[.int .i64 0,.int .i64 0]),2,16):=by kernel_rfl
theorem q3m (l m:List HyC):uf (l++m)=uf l++uf m:=by unfold uf;rw[List.flatMap_append]
theorem qax (t:ByteArray)(w:World)(ht:t.size≤281474976710656):Calls Tryz.prog 100 #[.string t] w fun e w'=>e=.returned (.string t)∧Below w.heap.size w w':=by
 go_enter Tryz.func100,Tryz.ntmps100
 go_wp2_with (go_at_call 151;refine (Tryz.stringslite_Clone _ _ ht).mono ?_;rintro e w' ⟨rfl,hb⟩)
 go_ret
 exact⟨rfl,hb⟩
structure Listed (w W:World)(g o:Nat)(vl vl':Value)(hs:List HyC)(y:HyC):Prop where
 cell:W.cell? ⟨g,o,none⟩=some vl'
 own:W.ownsRow 0 57 4 vl' (hs.length + 1) (uf (hs++[y]))
 loc:∀b,vl'.ownBlock=some b→vl.ownBlock=some b∨w.heap.size≤b
 blk:∀cs t,w.heap[g]?=some (.cells cs t (0,0))→W.heap[g]?=some (.cells (cs.setIfInBounds o vl') t (0,0))
 ch:S.M.Ch (fun b=>vl.ownBlock=some b∨b=g) w W
theorem qfm (w:World)(g o:Nat)(cs:Array Value)(vl:Value)(hs:List HyC)(lab:ByteArray)(fl:Bool)(var:Int)(ae:Option Addr)(ne ce:Nat)(ex:List Int)(hg:w.heap[g]?=some (.cells cs 225 (0,0)))(ho:cs[o]?=some vl)(hl:w.ownsRow 0 57 4 vl hs.length (uf hs))(hn:hs.length≤1048576)(hlab:lab.size≤281474976710656) :
  Calls Tryz.prog 259 #[.pointer (some ⟨g,o,none⟩),.agg #[.string lab,.bool fl,.int .i64 var,.slice ae ne ce]] w fun e w'=>e=.returned (.tuple #[])∧∃vl',Listed w w' g o vl vl' hs ⟨⟨lab,fl,var,ex⟩,.slice ae ne ce⟩:=by
 obtain⟨iH,hiH,iHz,iHs,iHb⟩:=info_parts qaw;obtain⟨T,hT⟩:=eXb w.heap.size;obtain⟨w1,hw1⟩:=eXa (w.alloc (.cells #[.string lab,.bool fl,.int .i64 var,.slice ae ne ce] 57));have HW1:=hid hw1;have b1:Below w.heap.size w w1:=by rw[hw1];exact qo _ _
 have k1:w1.heap[T]?=some (.cells #[.string lab,.bool fl,.int .i64 var,.slice ae ne ce] 57 (0,0)):=by rw[hw1,←hT];exact heap_alloc_new w _
 have s1:w1.heap.size=T + 1:=by rw[hw1,←hT];simp
 have x0:w1.cell? ⟨T,0,none⟩=some (.string lab):=S.M.qc k1 0;have CL:Hid _:=qax lab w1 hlab;have hgT:g < T:=by rw[←hT];exact (aIx hg)
 have HO:=hid hl;have HG:Hid (w.heap[g]?=some (.cells cs 225 (0,0))∧cs[o]?=some vl):=⟨hg,ho⟩;have HT:=hid hT;have K1:Hid (w1.heap[T]?=some (.cells #[.string lab,.bool fl,.int .i64 var,.slice ae ne ce] 57 (0,0))):=k1;have B1:=hid b1;have S1:=hid s1;obtain⟨n,hnn⟩:=eXb hs.length;rw[hnn] at hn HO;have HN:=hid hnn;clear hw1 b1 k1 s1 hg ho hl hlab hT hnn;go_enter Tryz.func259,Tryz.ntmps259;go_upto_region 1 with fail;rw[←HW1.out,HT.out];clear HW1;go_wp2_with fail;refine cMo CL.out ?_;rintro e w2 ⟨rfl,hb2⟩;have k2:w2.heap[T]?=some (.cells #[.string lab,.bool fl,.int .i64 var,.slice ae ne ce] 57 (0,0)):=(hb2.block T (by have:=S1.out;omega)).trans K1.out;have y0:w2.cell? ⟨T,0,none⟩=some (.string lab):=S.M.qc k2 0;have f0:w2.frozen? ⟨T,0,none⟩=false:=by simp[World.frozen?,k2]
 obtain⟨w3,hw3⟩:=eXa (w2.setCell ⟨T,0,none⟩ (.string lab));have HW3:=hid hw3;have ch3:S.M.Ch (fun b=>b=T) w2 w3:=by rw[hw3];exact S.M.jc w2 T 0 _
 have K3:Hid (w3.heap[T]?=some (.cells #[.string lab,.bool fl,.int .i64 var,.slice ae ne ce] 57 (0,0))):=by show _=_;rw[hw3];exact S.M.qj k2
 have B3:Hid (Below w.heap.size w w3):=B1.out.trans ((hb2.mono B1.out.size).trans (ch3.below (nLt B1.out.size hb2.size) fun b e=>by have:=HT.out;omega));clear hb2 k2 hw3 ch3 CL B1 K1 x0;go_upto_region 2 with fail;rw[←HW3.out];clear HW3 y0 f0;have BD:Hid (Below w.heap.size w w3.drew):=xu B3.out 1
 have KT:Hid (∀W,S.M.Ch (fun b=>vl.ownBlock=some b∨b=g) w3 W→W.heap[T]?=some (.cells #[.string lab,.bool fl,.int .i64 var,.slice ae ne ce] 57 (0,0))):=fun W hc=>(hc.block T (aIx K3.out) (fun e=>by
  rcases e with e | e
  ·have h1:=S.M.jr HO.out _ e;have h2:=HT.out;omega
  ·omega)).trans K3.out
 have SF:Hid (∀W,S.M.Ch (fun b=>vl.ownBlock=some b∨b=g) w3 W→W.cell? ⟨T,0,none⟩=some (.string lab)∧W.cell? ⟨T,1,none⟩=some (.bool fl)∧W.cell? ⟨T,2,none⟩=some (.int .i64 var)∧W.cell? ⟨T,3,none⟩=some (.slice ae ne ce)):=fun W hc=>⟨S.M.qc (KT.out W hc) 0,S.M.qc (KT.out W hc) 1,S.M.qc (KT.out W hc) 2,S.M.qc (KT.out W hc) 3⟩
 have C0:Hid (S.M.Ch (fun b=>vl.ownBlock=some b∨b=g) w3 w3.drew):=S.M.Ch.oB (xu bRf 1);have G0:Hid (w3.drew.heap[g]?=some (.cells cs 225 (0,0))∧w3.drew.ownsRow 0 57 4 vl n (uf hs)):=⟨(BD.out.block g (by have:=HT.out;omega)).trans HG.out.1,S.M.qh HO.out (S.M.Ch.oB (X:=fun _=>False) BD.out) fun _ _ e=>e⟩;refine wp_region_held_drew (S:=fun w'=>w'.cell? ⟨T,0,none⟩=some (.string lab)∧w'.cell? ⟨T,1,none⟩=some (.bool fl)∧w'.cell? ⟨T,2,none⟩=some (.int .i64 var)∧w'.cell? ⟨T,3,none⟩=some (.slice ae ne ce)) (by kernel_rfl) ?_ (fun hZ=>?_)
 ·exact SF.out _ C0.out
 refine tkq 0 hZ ?_;refine tkq 1 hZ ?_;refine tkq 2 hZ ?_;refine tkq 3 hZ ?_;refine tkq 5 hZ ?_;refine wpAnyH_ready (rs:=[4,6]) (by kernel_rfl) (by simp) ?_;refine AllReadyH.cons rfl (fun K hK=>?_) (AllReadyH.cons rfl (fun K hK=>?_) AllReadyH.nil)
 ·have qL:w3.drew.cell? ⟨g,o,none⟩=some vl:=(S.M.qc G0.out.1 o).trans HG.out.2;go_simp;refine aQq hK ?_ fun hZ_4=>?_
  ·exact SF.out _ C0.out
  clear hK K;refine rkq 6 fun K hK=>?_
  have C1:Hid (S.M.Ch (fun b=>vl.ownBlock=some b∨b=g) w3 (w3.drew.alloc (.cells #[.string lab,.bool fl,.int .i64 var,.slice ae ne ce] 57))):=C0.out.trans (S.M.Ch.oB (qo _ _));have G1:Hid ((w3.drew.alloc (.cells #[.string lab,.bool fl,.int .i64 var,.slice ae ne ce] 57)).heap[g]?=some (.cells cs 225 (0,0))∧(w3.drew.alloc (.cells #[.string lab,.bool fl,.int .i64 var,.slice ae ne ce] 57)).ownsRow 0 57 4 vl n (uf hs)):=⟨((qo w3.drew _).block g (aIx G0.out.1)).trans G0.out.1,S.M.zk G0.out.2 _⟩;go_simp;refine aQq hK ?_ fun hZ_6=>?_
  ·exact SF.out _ C1.out
  clear hK K;refine rkq 7 fun K hK=>?_
  refine step_append_lies (w3.drew.alloc (.cells #[.string lab,.bool fl,.int .i64 var,.slice ae ne ce] 57)) rfl _ _ 44 rfl 0 57 iH _ 4 56 Tryz.underlying44 hiH iHz iHs iHb rfl (by omega) vl n (uf hs) (by rfl) G1.out.2 ⟨w3.drew.heap.size,0,none⟩ 1 1 [.string lab,.bool fl,.int .i64 var,.slice ae ne ce] (by rfl) (by rfl) (World.news_of_block (cs:=#[.string lab,.bool fl,.int .i64 var,.slice ae ne ce]) (t:=57) (fr:=(0,0)) (heap_alloc_new w3.drew _)) (by simp[Value.oneCell']) (by omega) (by unfold maxLen;omega) (by omega) (Nat.zero_le _) _ rfl ?_;intro gg cap' w8 hown8 hgrow hat hlt8;have C8:Hid (S.M.Ch (fun b=>vl.ownBlock=some b∨b=g) w3 w8):=C1.out.trans ((S.M.Ch.jw hgrow).mono fun b e=>.inl e);have O8:Hid (w8.ownsRow 0 57 4 (.slice (some ⟨gg,0,none⟩) (n + 1) cap') (n + 1) (uf (hs++[⟨⟨lab,fl,var,ex⟩,.slice ae ne ce⟩]))):=by show World.ownsRow _ _ _ _ _ _ _;rw[q3m];exact hown8
  have G8:Hid (w8.heap[g]?=some (.cells cs 225 (0,0))):=(hgrow.block g (aIx G1.out.1) (fun e=>own_ne G1.out.2 G1.out.1 (by decide) e.symm)).trans G1.out.1;have L8:Hid (∀b,(Value.slice (some ⟨gg,0,none⟩) (n + 1) cap').ownBlock=some b→vl.ownBlock=some b∨w.heap.size≤b):=fun b e=>by
   rcases S.M.q4k (c:=cap') (n:=n + 1) hat b e with h | h
   ·exact .inl h
   ·exact .inr (nLt (nLt BD.out.size (qo w3.drew (.cells #[.string lab,.bool fl,.int .i64 var,.slice ae ne ce] 57)).size) h)
  clear hgrow hat hown8 hlt8;refine aQq hK ?_ fun hZ_7=>?_
  ·exact SF.out _ C8.out
  clear hK K;refine tkq 8 hZ_7 ?_;refine tkq 9 hZ_7 ?_;refine rkq 10 fun K hK=>?_
  have dL:w8.cell? ⟨g,o,none⟩=some vl:=(S.M.qc G8.out o).trans HG.out.2;have fL:w8.frozen? ⟨g,o,none⟩=false:=by simp[World.frozen?,G8.out]
  have C9:Hid (S.M.Ch (fun b=>vl.ownBlock=some b∨b=g) w3 (w8.setCell ⟨g,o,none⟩ (.slice (some ⟨gg,0,none⟩) (n + 1) cap'))):=C8.out.trans ((S.M.jc w8 g o (.slice (some ⟨gg,0,none⟩) (n + 1) cap')).mono fun b e=>.inr e);have FI:Hid (Listed w (w8.setCell ⟨g,o,none⟩ (.slice (some ⟨gg,0,none⟩) (n + 1) cap')) g o vl (.slice (some ⟨gg,0,none⟩) (n + 1) cap') hs ⟨⟨lab,fl,var,ex⟩,.slice ae ne ce⟩):=by
   have hset:=S.M.qj (o:=o) (v:=(.slice (some ⟨gg,0,none⟩) (n + 1) cap')) G8.out;have hlt:o < cs.size:=(aIx HG.out.2);refine⟨?_,?_,L8.out,fun cs' t' h=>?_,?_⟩
   ·rw[S.M.qc hset o,Array.getElem?_setIfInBounds_self_of_lt hlt]
   ·rw[HN.out];exact S.M.qh O8.out (S.M.jc w8 g o _) fun b e e2=>own_ne O8.out G8.out (by decide) (by rw[e,e2])
   ·rw[HG.out.1] at h;cases h;exact hset
   ·exact (S.M.Ch.oB B3.out).trans C9.out
  go_simp;refine aQq hK ?_ fun hZ_10=>?_
  ·exact SF.out _ C9.out
  clear hK K;refine wpAnyH_done (by kernel_rfl) ?_ _;go_wp2_with fail;refine bodyPost_end (results_none rfl _ _ _) rfl ?_;exact⟨rfl,_,FI.out⟩
 ·have C1:Hid (S.M.Ch (fun b=>vl.ownBlock=some b∨b=g) w3 (w3.drew.alloc (.cells #[.string lab,.bool fl,.int .i64 var,.slice ae ne ce] 57))):=C0.out.trans (S.M.Ch.oB (qo _ _));have G1:Hid ((w3.drew.alloc (.cells #[.string lab,.bool fl,.int .i64 var,.slice ae ne ce] 57)).heap[g]?=some (.cells cs 225 (0,0))∧(w3.drew.alloc (.cells #[.string lab,.bool fl,.int .i64 var,.slice ae ne ce] 57)).ownsRow 0 57 4 vl n (uf hs)):=⟨((qo w3.drew _).block g (aIx G0.out.1)).trans G0.out.1,S.M.zk G0.out.2 _⟩;go_simp;refine aQq hK ?_ fun hZ_6=>?_
  ·exact SF.out _ C1.out
  clear hK K;refine rkq 4 fun K hK=>?_
  have qL:(w3.alloc (.cells #[.string lab,.bool fl,.int .i64 var,.slice ae ne ce] 57)).cell? ⟨g,o,none⟩=some vl:=(S.M.qc (W:=(w3.drew.alloc (.cells #[.string lab,.bool fl,.int .i64 var,.slice ae ne ce] 57))) G1.out.1 o).trans HG.out.2;go_simp;refine aQq hK ?_ fun hZ_4=>?_
  ·exact SF.out _ C1.out
  clear hK K;refine rkq 7 fun K hK=>?_
  refine step_append_lies (w3.drew.alloc (.cells #[.string lab,.bool fl,.int .i64 var,.slice ae ne ce] 57)) rfl _ _ 44 rfl 0 57 iH _ 4 56 Tryz.underlying44 hiH iHz iHs iHb rfl (by omega) vl n (uf hs) (by rfl) G1.out.2 ⟨w3.drew.heap.size,0,none⟩ 1 1 [.string lab,.bool fl,.int .i64 var,.slice ae ne ce] (by rfl) (by rfl) (World.news_of_block (cs:=#[.string lab,.bool fl,.int .i64 var,.slice ae ne ce]) (t:=57) (fr:=(0,0)) (heap_alloc_new w3.drew _)) (by simp[Value.oneCell']) (by omega) (by unfold maxLen;omega) (by omega) (Nat.zero_le _) _ rfl ?_;intro gg cap' w8 hown8 hgrow hat hlt8;have C8:Hid (S.M.Ch (fun b=>vl.ownBlock=some b∨b=g) w3 w8):=C1.out.trans ((S.M.Ch.jw hgrow).mono fun b e=>.inl e);have O8:Hid (w8.ownsRow 0 57 4 (.slice (some ⟨gg,0,none⟩) (n + 1) cap') (n + 1) (uf (hs++[⟨⟨lab,fl,var,ex⟩,.slice ae ne ce⟩]))):=by show World.ownsRow _ _ _ _ _ _ _;rw[q3m];exact hown8
  have G8:Hid (w8.heap[g]?=some (.cells cs 225 (0,0))):=(hgrow.block g (aIx G1.out.1) (fun e=>own_ne G1.out.2 G1.out.1 (by decide) e.symm)).trans G1.out.1;have L8:Hid (∀b,(Value.slice (some ⟨gg,0,none⟩) (n + 1) cap').ownBlock=some b→vl.ownBlock=some b∨w.heap.size≤b):=fun b e=>by
   rcases S.M.q4k (c:=cap') (n:=n + 1) hat b e with h | h
   ·exact .inl h
   ·exact .inr (nLt (nLt BD.out.size (qo w3.drew (.cells #[.string lab,.bool fl,.int .i64 var,.slice ae ne ce] 57)).size) h)
  clear hgrow hat hown8 hlt8;refine aQq hK ?_ fun hZ_7=>?_
  ·exact SF.out _ C8.out
  clear hK K;refine tkq 8 hZ_7 ?_;refine tkq 9 hZ_7 ?_;refine rkq 10 fun K hK=>?_
  have dL:w8.cell? ⟨g,o,none⟩=some vl:=(S.M.qc G8.out o).trans HG.out.2;have fL:w8.frozen? ⟨g,o,none⟩=false:=by simp[World.frozen?,G8.out]
  have C9:Hid (S.M.Ch (fun b=>vl.ownBlock=some b∨b=g) w3 (w8.setCell ⟨g,o,none⟩ (.slice (some ⟨gg,0,none⟩) (n + 1) cap'))):=C8.out.trans ((S.M.jc w8 g o (.slice (some ⟨gg,0,none⟩) (n + 1) cap')).mono fun b e=>.inr e);have FI:Hid (Listed w (w8.setCell ⟨g,o,none⟩ (.slice (some ⟨gg,0,none⟩) (n + 1) cap')) g o vl (.slice (some ⟨gg,0,none⟩) (n + 1) cap') hs ⟨⟨lab,fl,var,ex⟩,.slice ae ne ce⟩):=by
   have hset:=S.M.qj (o:=o) (v:=(.slice (some ⟨gg,0,none⟩) (n + 1) cap')) G8.out;have hlt:o < cs.size:=(aIx HG.out.2);refine⟨?_,?_,L8.out,fun cs' t' h=>?_,?_⟩
   ·rw[S.M.qc hset o,Array.getElem?_setIfInBounds_self_of_lt hlt]
   ·rw[HN.out];exact S.M.qh O8.out (S.M.jc w8 g o _) fun b e e2=>own_ne O8.out G8.out (by decide) (by rw[e,e2])
   ·rw[HG.out.1] at h;cases h;exact hset
   ·exact (S.M.Ch.oB B3.out).trans C9.out
  go_simp;refine aQq hK ?_ fun hZ_10=>?_
  ·exact SF.out _ C9.out
  clear hK K;refine wpAnyH_done (by kernel_rfl) ?_ _;go_wp2_with fail;refine bodyPost_end (results_none rfl _ _ _) rfl ?_;exact⟨rfl,_,FI.out⟩
def uj (w:World)(a:Option Addr)(l:List Int):Prop:=∀(i:Nat) (x:Int),l[i]?=some x→∃b off,a=some ⟨b,off,none⟩∧w.cell? ⟨b,off + i,none⟩=some (.int .i64 x)
theorem uj.under {w w':World}{a:Option Addr}{l:List Int}(h:uj w a l)(hb:Below w.heap.size w w'):uj w' a l:=fun i x hi=>by
 obtain⟨b,off,e,h0⟩:=h i x hi;exact⟨b,off,e,(hb.cell (p:=⟨b,_,none⟩) (bLt h0)).trans h0⟩
theorem q3n {W:World}{base n:Nat}{v:Value}{l:List Int}(h:W.ownsRow base 3 1 v n (xw l)):∃a c,v=.slice a n c∧n≤c∧uj W a l:=by
 obtain⟨a,c,rfl,hc,hcell⟩:=S.M.xq h;refine⟨a,c,rfl,hc,fun i x hx=>?_⟩;obtain⟨g,rfl,h0⟩:=hcell i (nV x) (by unfold xw;rw[List.getElem?_map,hx];rfl);exact⟨g,0,rfl,by rw[Nat.zero_add];exact h0⟩
theorem clone_any (w:World)(a:Option Addr)(n c:Nat)(l:List Int)(hl:l.length=n)(hn:n≤17592186044416)(h:uj w a l) :
  Calls Tryz.prog 72 #[.slice a n c] w fun e w'=>∃v',e=.returned v'∧w'.ownsRow w.heap.size 3 1 v' n (xw l)∧Below w.heap.size w w':=by
 cases a with
 | none =>
  have hl0:l=[]:=by
   cases l with
   | nil=>rfl
   | cons x r =>
    obtain⟨b,off,e,_⟩:=h 0 x rfl
    cases e
  subst hl0;subst hl;refine (Tryz.slices_Clone_int_nil 0 c w).mono ?_;rintro e w' ⟨rfl,rfl⟩;exact⟨_,rfl,World.ownsRow_nil _ _ _ _,bRf⟩
 | some ad =>
  rcases Nat.eq_zero_or_pos n with h0 | h0
  ·subst h0;have hl0:l=[]:=List.eq_nil_of_length_eq_zero hl;subst hl0;refine (Tryz.slices_Clone_int_zero ad c w).mono ?_;rintro e w' ⟨v',rfl,h1,_,h2⟩;exact⟨v',rfl,h1,h2⟩
  ·obtain⟨b,off,e,_⟩:=h 0 _ (gEq (by omega))
   cases e
   refine (Tryz.slices_Clone_int b off n c l w (by omega) (by omega) (fun j hj=>by
    obtain⟨b',off',e',h1⟩:=h j _ (gEq hj)
    cases e'
    rw[h1,List.getD,gEq hj];rfl)).mono ?_
   rintro e w' ⟨v',rfl,h1,_,h2⟩;refine⟨v',rfl,?_,h2⟩;rw[List.take_of_length_le (by omega)] at h1;exact h1
structure Put (w W:World)(g o:Nat)(cs:Array Value)(x:ScC)(vl' ve:Value)(h:Hy)(mn':Nat):Prop where
 blk:W.heap[g]?=some (.cells (cs.setIfInBounds o vl') 225 (0,0))
 own:W.ownsRow 0 57 4 vl' (x.hs.length + 1) (uf (x.hs++[⟨h,ve⟩]))
 loc:∀b,vl'.ownBlock=some b→x.vl.ownBlock=some b∨w.heap.size≤b
 ev:W.ownsRow 0 3 1 ve h.ex.length (xw h.ex)
 el:∀b,ve.ownBlock=some b→w.heap.size≤b
 m:q2l W x.mb mn' (q5f (x.hs.map (·.h)++[h]))
 ch:S.M.Ch (fun b=>x.vl.ownBlock=some b∨b=g∨b=x.mb) w W
theorem qd8 (l:List Hy)(h:Hy)(v:Int):q5f (l++[h]) v=(q5f l v).or (if h.fl=true∧h.var=v then some (h.ex.headD 0) else none):=by
 unfold q5f;rw[List.find?_append]
 cases hf:l.find? fun h=>h.fl && decide (h.var=v) with
 | some y=>simp
 | none =>
  simp only[Option.none_or,Option.map_none]
  by_cases hc:h.fl=true∧h.var=v
  ·rw[if_pos hc,List.find?_cons_of_pos (by simp[hc.1,hc.2])];rfl
  ·rw[if_neg hc,List.find?_cons_of_neg (by simpa using fun h1 h2=>hc ⟨h1,h2⟩)];rfl
theorem q90 (w:World)(O:Nat→Prop)(g o:Nat)(cs:Array Value)(x:ScC)(lab:ByteArray)(typ v:Int)(hg:w.heap[g]?=some (.cells cs 225 (0,0)))(ho:cs[o]?=some x.vl)(ho1:cs[o + 1]?=some (.map (some x.mb)))(hx:q6l O w x)(hn:x.hs.length≤1048576)(hlab:lab.size≤281474976710656)(ht:wfN typ)(hv:wfN v)(hty:q5f (x.hs.map (·.h)) v=none) :
  Calls Tryz.prog 229 #[.pointer (some ⟨g,o,none⟩),.string lab,.int .i64 typ,.int .i64 v] w fun e w'=>e=.returned (.tuple #[])∧∃vl' ve,Put w w' g o cs x vl' ve ⟨lab,true,v,[typ,v]⟩ (x.mn + 1):=by
 obtain⟨T,hT⟩:=eXb w.heap.size;obtain⟨w1,hw1⟩:=eXa (w.alloc (.cells #[.int .i64 typ,.int .i64 v] 3));have b1:Below w.heap.size w w1:=by rw[hw1];exact qo _ _
 have g1:w1.heap[g]?=some (.cells cs 225 (0,0)):=(b1.block g (aIx hg)).trans hg;have l1:=S.M.qh hx.l (S.M.Ch.oB (X:=fun _=>False) b1) fun _ _ e=>e
 have v1:w1.ownsRow T 3 1 (.slice (some ⟨T,0,none⟩) 2 2) 2 (xw [typ,v]):=by
  rw[hw1,←hT];exact⟨rfl,.inr ⟨_,2,#[.int .i64 typ,.int .i64 v],rfl,Nat.le_refl _,heap_alloc_new w _,Nat.le_refl _,by decide,rfl,rfl⟩⟩
 have LI:Hid _:=qfm w1 g o cs x.vl x.hs lab true v (some ⟨T,0,none⟩) 2 2 [typ,v] g1 ho l1 hn hlab;have HW1:=hid hw1;have HT:=hid hT;have HG:Hid (w1.heap[g]?=some (.cells cs 225 (0,0))∧cs[o]?=some x.vl∧cs[o + 1]?=some (.map (some x.mb))):=⟨g1,ho,ho1⟩;have HX:=hid hx;have B1:=hid b1;have V1:=hid v1;have HTY:Hid (q5f (x.hs.map (·.h)) v=none∧wfN typ∧wfN v∧x.hs.length≤1048576∧g < w.heap.size):=⟨hty,ht,hv,hn,(aIx hg)⟩;clear hw1 b1 g1 l1 v1 hg ho ho1 hx hlab hT hty ht hv;go_enter Tryz.func229,Tryz.ntmps229;go_wp2_with fail;rw[←HW1.out,HT.out];refine cMo LI.out ?_;rintro e w3 ⟨rfl,vl',hL⟩;obtain⟨es,ck,hmm⟩:=HX.out.m.isM;have hmlt:x.mb < w.heap.size:=(aIx hmm);have hm1:w1.heap[x.mb]?=some (.map es ck):=(B1.out.block _ hmlt).trans hmm;have nvl:¬(x.vl.ownBlock=some x.mb∨x.mb=g):=fun e=>by
  rcases e with e | e
  ·obtain⟨c2,h2⟩:=um HX.out.l e;rw[hmm] at h2
   cases h2
  ·have h2:=HG.out.1;rw[←e,hm1] at h2
   cases h2
 have hm3:q2l w3 x.mb x.mn (q5f (x.hs.map (·.h))):=HX.out.m.kept ((hL.ch.block _ (Nat.lt_of_lt_of_le hmlt B1.out.size) nvl).trans (B1.out.block _ hmlt));obtain⟨w4,hrun,hm4,hgr⟩:=hm3.put (by have h1:=HX.out.mc;have h2:=HTY.out.2.2.2.1;unfold maxLen;omega) v HTY.out.2.2.1 typ HTY.out.2.1;have blk3:=hL.blk _ _ HG.out.1;have og:o + 1 < cs.size:=(aIx HG.out.2.2);have c1:w3.cell? ⟨g,o + 1,none⟩=some (.map (some x.mb)):=by
  rw[S.M.qc blk3 (o + 1),Array.getElem?_setIfInBounds_ne (by omega)];exact HG.out.2.2
 have c4:S.M.Ch (fun b=>b=x.mb) w3 w4:=(S.M.Ch.jw hgr).mono fun b e=>by cases e;rfl
 have ngm:g≠x.mb:=fun e=>nvl (.inr e.symm)
 have isM3:∃es ck,w3.heap[x.mb]?=some (.map es ck):=hm3.isM;have nrow:∀{base e sz n:Nat} {u:Value} {zs:List Value},w3.ownsRow base e sz u n zs→∀b,u.ownBlock=some b→¬b=x.mb:=fun ho b hb e=>by
  obtain⟨c2,h2⟩:=um ho hb;obtain⟨es,ck,h3⟩:=isM3;rw[e,h3] at h2
  cases h2
 have v3:w3.ownsRow T 3 1 (.slice (some ⟨T,0,none⟩) 2 2) 2 (xw [typ,v]):=S.M.qh V1.out hL.ch fun b hb e=>by
  rcases e with e | e
  ·exact q00 V1.out (S.M.qh HX.out.l (S.M.Ch.oB (X:=fun _=>False) B1.out) fun _ _ e=>e) (by decide) b hb e
  ·exact own_ne V1.out HG.out.1 (by decide) (by rw[hb,e])
 have FI:Hid (Put w w4 g o cs x vl' (.slice (some ⟨T,0,none⟩) 2 2) ⟨lab,true,v,[typ,v]⟩ (x.mn + 1)):=by
  refine⟨(c4.block g (aIx blk3) ngm).trans blk3,S.M.qh hL.own c4 (nrow hL.own),fun b e=>?_,S.M.qp (S.M.qh v3 c4 (nrow v3)) (Nat.zero_le _),fun b e=>?_,?_,?_⟩
  ·rcases hL.loc b e with h | h
   ·exact .inl h
   ·exact .inr (nLt B1.out.size h)
  ·cases e;exact Nat.le_of_eq HT.out
  ·refine (congrArg (q2l w4 x.mb (x.mn + 1)) ?_).mp hm4
   funext t
   rw[qd8]
   by_cases e:t=v
   ·subst e;rw[if_pos rfl,HTY.out.1,if_pos ⟨rfl,rfl⟩]
    rfl
   ·rw[if_neg e,if_neg (fun h=>e h.2.symm)]
    cases q5f (x.hs.map (·.h)) t <;> rfl
  ·have h1:S.M.Ch (fun b=>x.vl.ownBlock=some b∨b=g∨b=x.mb) w w1:=S.M.Ch.oB B1.out;exact (h1.trans (hL.ch.mono fun b e=>by rcases e with e | e;exact .inl e;exact .inr (.inl e))).trans (c4.mono fun b e=>.inr (.inr e))
 obtain⟨mb,hmb⟩:=eXb x.mb;rw[hmb] at hrun c1;clear hL hm3 hm4 hgr blk3 c4 v3 hm1 hmm LI hmlt nvl isM3 ngm hmb;go_wp2_with fail;refine bodyPost_end (results_none rfl _ _ _) rfl ?_;exact⟨rfl,_,_,FI.out⟩
theorem qec (w:World)(O:Nat→Prop)(g o:Nat)(cs:Array Value)(x:ScC)(lab:ByteArray)(a:Option Addr)(n c:Nat)(e:List Int)(hg:w.heap[g]?=some (.cells cs 225 (0,0)))(ho:cs[o]?=some x.vl)(hx:q6l O w x)(hn:x.hs.length≤1048576)(hlab:lab.size≤281474976710656)(hl:e.length=n)(hln:n≤17592186044416)(he:uj w a e) :
  Calls Tryz.prog 232 #[.pointer (some ⟨g,o,none⟩),.string lab,.slice a n c] w fun ee w'=>ee=.returned (.tuple #[])∧∃vl' ve,Put w w' g o cs x vl' ve ⟨lab,false,-1,e⟩ x.mn:=by
 have CL:Hid _:=clone_any w a n c e hl hln he;have HG:Hid (w.heap[g]?=some (.cells cs 225 (0,0))∧cs[o]?=some x.vl):=⟨hg,ho⟩;have HX:=hid hx;have HL:Hid (lab.size≤281474976710656∧x.hs.length≤1048576∧e.length=n):=⟨hlab,hn,hl⟩;clear hg ho hx hlab hl he;go_enter Tryz.func232,Tryz.ntmps232;go_wp2_with fail;refine cMo CL.out ?_;rintro ee w1 ⟨v',rfl,hv,hb⟩;obtain⟨a1,c1,rfl,_⟩:=ql hv;have g1:w1.heap[g]?=some (.cells cs 225 (0,0)):=(hb.block g (aIx HG.out.1)).trans HG.out.1;have l1:=S.M.qh HX.out.l (S.M.Ch.oB (X:=fun _=>False) hb) fun _ _ e=>e
 have LI:Hid _:=qfm w1 g o cs x.vl x.hs lab false (-1) a1 n c1 e g1 HG.out.2 l1 HL.out.2.1 HL.out.1;have V1:=hid hv;have B1:=hid hb;clear hv hb CL g1 l1;go_wp2_with fail;refine cMo LI.out ?_;rintro ee w3 ⟨rfl,vl',hL⟩;have FI:Hid (Put w w3 g o cs x vl' (.slice a1 n c1) ⟨lab,false,-1,e⟩ x.mn):=by
  have g1:w1.heap[g]?=some (.cells cs 225 (0,0)):=(B1.out.block g (aIx HG.out.1)).trans HG.out.1;obtain⟨es,ck,hmm⟩:=HX.out.m.isM;have hmlt:x.mb < w.heap.size:=(aIx hmm);have nvl:¬(x.vl.ownBlock=some x.mb∨x.mb=g):=fun e=>by
   rcases e with e | e
   ·obtain⟨c2,h2⟩:=um HX.out.l e;rw[hmm] at h2
    cases h2
   ·have h2:=HG.out.1;rw[←e,hmm] at h2
    cases h2
  have v3:w3.ownsRow w.heap.size 3 1 (.slice a1 n c1) n (xw e):=S.M.qh V1.out hL.ch fun b hb e=>by
   rcases e with e | e
   ·exact q00 V1.out (S.M.qh HX.out.l (S.M.Ch.oB (X:=fun _=>False) B1.out) fun _ _ e=>e) (by decide) b hb e
   ·exact own_ne V1.out g1 (by decide) (by rw[hb,e])
  refine⟨hL.blk _ _ g1,hL.own,fun b e=>?_,?_,fun b e=>S.M.zf v3 b e,?_,?_⟩
  ·rcases hL.loc b e with h | h
   ·exact .inl h
   ·exact .inr (nLt B1.out.size h)
  ·show w3.ownsRow 0 3 1 (.slice a1 n c1) e.length (xw e)
   rw[HL.out.2.2];exact S.M.qp v3 (Nat.zero_le _)
  ·refine (congrArg (q2l w3 x.mb x.mn) ?_).mp (HX.out.m.kept ((hL.ch.block _ (Nat.lt_of_lt_of_le hmlt B1.out.size) nvl).trans (B1.out.block _ hmlt)))
   funext t
   rw[qd8,if_neg (fun h=>by cases h.1)]
   cases q5f (x.hs.map (·.h)) t <;> rfl
  ·have h1:S.M.Ch (fun b=>x.vl.ownBlock=some b∨b=g∨b=x.mb) w w1:=S.M.Ch.oB B1.out;exact h1.trans (hL.ch.mono fun b e=>by rcases e with e | e;exact .inl e;exact .inr (.inl e))
 clear hL LI;go_wp2_with fail;refine bodyPost_end (results_none rfl _ _ _) rfl ?_;exact⟨rfl,_,_,FI.out⟩
theorem q4o {W:World}{base e size n b mn:Nat}{v:Value}{xs:List Value}{f:Int→Option Int}(h:W.ownsRow base e size v n xs)(hm:q2l W b mn f):v.ownBlock≠some b:=fun e'=>by
 obtain⟨c2,h2⟩:=um h e';obtain⟨es,ck,h3⟩:=hm.isM;rw[h3] at h2
 cases h2
theorem q4d {W:World}{g b mn:Nat}{cs:Array Value}{t:TypeId}{f:Int→Option Int}(h:W.heap[g]?=some (.cells cs t (0,0)))(hm:q2l W b mn f):g≠b:=fun e'=>by
 obtain⟨es,ck,h3⟩:=hm.isM;rw[←e',h] at h3
 cases h3
theorem q6l.mono {O O':Nat→Prop}{W:World}{x:ScC}(h:q6l O W x)(ho:∀g,O g→O' g):q6l O' W x:=⟨h.l,fun g e=>ho g (h.lo g e),fun y hy=>⟨(h.e y hy).1,fun g e=>ho g ((h.e y hy).2 g e)⟩,h.m,ho _ h.mo,h.mc,h.p,fun g e=>ho g (h.po g e)⟩
theorem qfn {w W:World}{g n c o:Nat}{cs:Array Value}{l l':List Value}{v:Value}(h:w.ownsRow 0 225 3 (.slice (some ⟨g,0,none⟩) n c) n l)(hg:w.heap[g]?=some (.cells cs 225 (0,0)))(hW:W.heap[g]?=some (.cells (cs.setIfInBounds o v) 225 (0,0)))(hl:l.set o v=l'):W.ownsRow 0 225 3 (.slice (some ⟨g,0,none⟩) n c) n l':=by
 subst hl;refine⟨by rw[List.length_set];exact h.1,?_⟩;rcases h.2 with ⟨e',_⟩ | ⟨g',cap',cur,hv,hg',hh,hn,hc,hsz,ht⟩
 ·cases e'
 ·simp only[Value.slice.injEq,Option.some.injEq,Addr.mk.injEq] at hv;obtain⟨⟨rfl,_⟩,_,rfl⟩:=hv;rw[hg] at hh
  cases hh;refine .inr ⟨g,c,cs.setIfInBounds o v,rfl,hg',hW,hn,hc,by rw[Array.size_setIfInBounds];exact hsz,?_⟩;rw[Array.toList_setIfInBounds,List.take_set,ht]
theorem q5g:∀l:List ScC,(q0a l).length=l.length * 3
 | []=>rfl
 | x :: l=>by
  have e:q0a (x :: l)=scC x++q0a l:=rfl;rw[e,lAp,q5g l,List.length_cons];simp[scC];omega
theorem qic (xs:List ScC)(x:ScC)(vl':Value)(hs':List HyC)(mn':Nat):(q0a (xs++[x])).set (xs.length * 3) vl'=q0a (xs++[{ x with vl:=vl',hs:=hs',mn:=mn' }]):=by
 rw[q1y,q1y,List.set_append_right _ _ (by rw[q5g];exact Nat.le_refl _),q5g,Nat.sub_self]
 rfl
theorem qid (xs:List ScC)(x:ScC)(vp':Value)(ps':List Pp):(q0a (xs++[x])).set (xs.length * 3 + 2) vp'=q0a (xs++[{ x with vp:=vp',ps:=ps' }]):=by
 rw[q1y,q1y,List.set_append_right _ _ (by rw[q5g];omega),q5g,show xs.length * 3 + 2 - xs.length * 3=2 by omega]
 rfl
def More (O:Nat→Prop)(w W:World)(b:Nat):Prop:=O b∨(w.heap.size≤b∧b < W.heap.size)
theorem qw.put {O:Nat→Prop}{w W:World}{P g n c:Nat}{xs:List ScC}{x:ScC}{cs:Array Value}{vl' ve:Value}{h:Hy}{mn':Nat}(hS:qw tq O w P (.slice (some ⟨g,0,none⟩) n c) (xs++[x]))(hg:w.heap[g]?=some (.cells cs 225 (0,0)))(hp:Put w W g (xs.length * 3) cs x vl' ve h mn')(hm:mn'≤x.hs.length + 1) :
  qw tq (More O w W) W P (.slice (some ⟨g,0,none⟩) n c) (xs++[{ x with vl:=vl',hs:=x.hs++[⟨h,ve⟩],mn:=mn' }])∧S.M.Ch O w W:=by
 have hxm:x ∈ xs++[x]:=by simp
 have hx:=hS.each x hxm;have hrow:=hS.row;have up:∀b,O b→More O w W b:=fun b hb=>.inl hb
 have XO:∀b,(x.vl.ownBlock=some b∨b=g∨b=x.mb)→O b:=fun b hb=>by
  rcases hb with hb | rfl | rfl
  ·exact hx.lo b hb
  ·exact hS.ro _ rfl
  ·exact hx.mo
 have cG:S.M.Ch O w W:=hp.ch.mono XO;have cells:∀{B:Nat} {cs':Array Value} {t:TypeId},w.heap[B]?=some (.cells cs' t (0,0))→t≠57→t≠225→W.heap[B]?=w.heap[B]?:=fun hB h1 h2=>hp.ch.block _ (aIx hB) fun e=>by
  rcases e with e | rfl | rfl
  ·exact own_ne hx.l hB (Ne.symm h1) e
  ·rw[hg] at hB;simp only[Option.some.injEq,Obj.cells.injEq] at hB;exact h2 hB.2.1.symm
  ·exact q4d hB hx.m rfl
 have rows:∀{base e sz k:Nat} {v:Value} {zs:List Value},w.ownsRow base e sz v k zs→e≠57→e≠225→∀b,v.ownBlock=some b→¬(x.vl.ownBlock=some b∨b=g∨b=x.mb):=fun ho h1 h2 b hb e=>by
  rcases e with e | rfl | rfl
  ·exact q00 ho hx.l h1 b hb e
  ·exact own_ne ho hg h2 hb
  ·exact q4o ho hx.m hb
 obtain⟨hap,_,hall⟩:=List.pairwise_append.1 hS.ap;refine⟨⟨(cells hS.box (by decide) (by decide)).trans hS.box,up _ hS.bo,?_,fun b e=>up b (hS.ro b e),fun y hy=>?_,?_,?_⟩,cG⟩
 ·have hlen:n=(xs++[x]).length:=by obtain⟨_,_,e,_⟩:=ql hrow;cases e;rfl
  have h0:=qfn (o:=xs.length * 3) (v:=vl') (l':=q0a (xs++[{ x with vl:=vl',hs:=x.hs++[⟨h,ve⟩],mn:=mn' }])) (by rw[←hlen] at hrow;exact hrow) hg hp.blk (qic xs x vl' _ mn');rw[hlen] at h0;rw[hlen]
  simpa using h0
 ·rcases mAp.1 hy with hy | hy
  ·have hyo:=hS.each y (List.mem_append_left _ hy);obtain⟨a1,a2,a3⟩:=hall y hy x (by simp);refine (hyo.ch hp.ch (fun b hb e=>?_) (fun z hz b hb=>rows (hyo.e z hz).1 (by decide) (by decide) b hb) (fun e=>?_) (fun b hb=>rows hyo.p (by decide) (by decide) b hb)).mono up
   ·rcases e with e | rfl | rfl
    ·exact a1 b hb e
    ·exact own_ne hyo.l hg (by decide) hb
    ·exact q4o hyo.l hx.m hb
   ·rcases e with e | e | e
    ·exact q4o hx.l hyo.m e
    ·exact q4d hg hyo.m e.symm
    ·exact a2 e
  ·rw[mSg.1 hy];refine⟨by show W.ownsRow 0 57 4 vl' (x.hs++[(⟨h,ve⟩:HyC)]).length _;rw[lAp];exact hp.own,fun b e=>?_,fun z hz=>?_,?_,up _ hx.mo,by show mn'≤(x.hs++[(⟨h,ve⟩:HyC)]).length;rw[lAp];exact hm,S.M.qh hx.p hp.ch (rows hx.p (by decide) (by decide)),fun b e=>up b (hx.po b e)⟩
   ·rcases hp.loc b e with h1 | h1
    ·exact up b (hx.lo b h1)
    ·exact .inr ⟨h1,S.M.jr hp.own b e⟩
   ·rcases mAp.1 hz with hz | hz
    ·exact⟨S.M.qh (hx.e z hz).1 hp.ch (rows (hx.e z hz).1 (by decide) (by decide)),fun b e=>up b ((hx.e z hz).2 b e)⟩
    ·rw[mSg.1 hz];exact⟨hp.ev,fun b e=>.inr ⟨hp.el b e,S.M.jr hp.ev b e⟩⟩
   ·show q2l W x.mb mn' (q5f ((x.hs++[(⟨h,ve⟩:HyC)]).map (·.h)))
    rw[List.map_append];exact hp.m
 ·refine List.pairwise_append.2 ⟨hap,by simp,fun y hy z hz=>?_⟩;rw[mSg.1 hz];obtain⟨a1,a2,a3⟩:=hall y hy x (by simp);refine⟨fun b hb e=>?_,a2,a3⟩;rcases hp.loc b e with h1 | h1
  ·exact a1 b hb h1
  ·have:=S.M.jr (hS.each y (List.mem_append_left _ hy)).l b hb
   omega
 ·intro b hb;rcases hb with hb | hb
  ·exact Nat.lt_of_lt_of_le (hS.lt b hb) cG.size
  ·exact hb.2
theorem q91 (w:World)(O:Nat→Prop)(P g n c:Nat)(xs:List ScC)(hl:xs.length=n)(h0:0 < n)(hn:n≤1048576)(h:qw tq O w P (.slice (some ⟨g,0,none⟩) n c) xs) :
  Calls Tryz.prog 226 #[.pointer (some ⟨P,0,none⟩)] w fun e w'=>e=.returned (.pointer (some ⟨g,(n - 1) * 3,none⟩))∧∃q,w'=w.drewN q:=by
 have x1:=h.cells.2;obtain⟨m,rfl⟩:∃m,n=m + 1:=⟨n - 1,by omega⟩;have DP:Hid (∀q,Calls Tryz.prog 57 #[.pointer (some ⟨P,0,none⟩)] (w.drewN q) fun e w'=>e=.returned (.int .i64 (m:Int))∧w'=w.drewN q):=fun q=>by
  have h1:=q4i (w.drewN q) O P _ xs (h.below (xu bRf q)) (by omega);rw[hl,show (((m + 1:Nat):Int) - 1)=(m:Int) by omega] at h1;exact h1
 have n1:(m:Int) < ((m + 1:Nat):Int):=by omega
 clear h hl;go_enter Tryz.func226,Tryz.ntmps226;go_wp2_with fail
 go_quiet (first | exact (DP.out _).mono fun _ _ ⟨he,hw⟩=>⟨he,_,hw⟩)
 go_wp2
 go_ret
 exact⟨rfl,_,rfl⟩
structure Sa where
 hs:List Hy
 ps:List Pp
def jm (x:ScC):Sa:=⟨x.hs.map (·.h),x.ps⟩
def tyA (l:List Sa)(v:Int):Option Int:=l.findSome? fun a=>q5f a.hs v
theorem qaa (xs:List ScC)(v:Int):tyS xs v=tyA (xs.map jm) v:=by
 unfold tyS tyA;rw[List.findSome?_map]
 rfl
def q1c (f:Sa→Sa)(l:List Sa):List Sa:=match l.getLast? with | some a=>l.dropLast++[f a] | none=>[]
theorem q52 (f:Sa→Sa)(l:List Sa)(a:Sa):q1c f (l++[a])=l++[f a]:=by unfold q1c;rw[List.getLast?_concat,List.dropLast_concat]
def Decl (O:Nat→Prop)(w:World)(P:Nat)(E:Int)(l:List Sa)(e:Ending)(w':World):Prop:=e=.returned (.int .i64 E)∧∃vS xs,qw tq (More O w w') w' P vS xs∧xs.map jm=l∧S.M.Ch O w w'
theorem qw.up {O O':Nat→Prop}{W:World}{P:Nat}{vS:Value}{xs:List ScC}(h:qw tq O W P vS xs)(ho:∀g,O g→O' g)(hl:∀g,O' g→g < W.heap.size):qw tq O' W P vS xs:=⟨h.box,ho _ h.bo,h.row,fun g e=>ho g (h.ro g e),fun x hx=>(h.each x hx).mono ho,h.ap,hl⟩
theorem Decl.same {O:Nat→Prop}{w w':World}{P:Nat}{vS:Value}{xs:List ScC}{E:Int}(h:qw tq O w P vS xs)(hb:Below w.heap.size w w'):Decl (tq:=tq) O w P E (xs.map jm) (.returned (.int .i64 E)) w' :=
 ⟨rfl,vS,xs,(h.below hb).up (fun _ hg=>.inl hg) (fun g hg=>by
  rcases hg with hg | hg
  ·exact Nat.lt_of_lt_of_le (h.lt g hg) hb.size
  ·exact hg.2),rfl,S.M.Ch.oB hb⟩
def q0s (l:List Sa)(typ v:Int):Int:=if isV v=false then 71 else if isV typ=true then 72 else if (tyA l v).isSome=true then 70 else 0
def q0j (l:List Sa)(lab:ByteArray)(typ v:Int):List Sa:=if q0s (isV:=isV) l typ v=0 then q1c (fun a=>⟨a.hs++[⟨lab,true,v,[typ,v]⟩],a.ps⟩) l else l
theorem qw.shape {O:Nat→Prop}{W:World}{P:Nat}{vS:Value}{xs:List ScC}(h:qw tq O W P vS xs)(hn:0 < xs.length):∃g c cs,vS=.slice (some ⟨g,0,none⟩) xs.length c∧W.heap[g]?=some (.cells cs 225 (0,0))∧∀(i j:Nat) (x:ScC),xs[i]?=some x→j < 3→cs[i * 3 + j]?=(scC x)[j]?:=by
 obtain⟨g,c,rfl,_,_,_⟩:=S.M.q0h h.row hn;obtain⟨cs,hcs⟩:=um h.row (g:=g) rfl;refine⟨g,c,cs,rfl,hcs,fun i j x hx hj=>?_⟩;have h1:=q6m xs i j x hx hj;have hlt:j < (scC x).length:=hj;rw[gEq hlt] at h1 ⊢;have h2:=S.M.q3r h.row _ _ h1;rw[S.M.qc hcs] at h2;exact h2
theorem qie (w:World)(O:Nat→Prop)(P:Nat)(vS:Value)(xs:List ScC)(lab:ByteArray)(typ v:Int)(h:qw tq O w P vS xs)(hV:q1r tq isV w)(h0:0 < xs.length)(hn:xs.length≤1048576)(hm:∀x ∈ xs,x.hs.length≤1048576)(hlab:lab.size≤281474976710656)(ht:wfN typ)(hv:wfN v) :
  Calls Tryz.prog 169 #[.pointer (some ⟨P,0,none⟩),.string lab,.int .i64 typ,.int .i64 v] w (Decl (tq:=tq) O w P (q0s (isV:=isV) (xs.map jm) typ v) (q0j (isV:=isV) (xs.map jm) lab typ v)):=by
 obtain⟨x0,x1⟩:=h.cells;have HS:=hid h;have VA:=hid hV;have TY:Hid (∀wx,Below w.heap.size w wx→_):=fun wx hb=>qav wx O P vS xs v (HS.out.below hb) hn hv
 have HM:Hid (0 < xs.length∧xs.length≤1048576∧(∀x ∈ xs,x.hs.length≤1048576)∧lab.size≤281474976710656∧wfN typ∧wfN v):=⟨h0,hn,hm,hlab,ht,hv⟩;clear h h0 hn hm hlab ht hv hV;unfold q0r at x0
 cases e1:isV v with
 | false =>
  have HE:Hid (q0s (isV:=isV) (xs.map jm) typ v=71∧q0j (isV:=isV) (xs.map jm) lab typ v=xs.map jm):=by
   have h1:q0s (isV:=isV) (xs.map jm) typ v=71:=by unfold q0s;rw[if_pos e1]
   exact⟨h1,by unfold q0j;rw[h1];rfl⟩
  have V1:Hid _:=VA.out w v bRf;rw[e1] at V1;clear e1;go_enter Tryz.func169,Tryz.ntmps169;go_wp2_with fail;refine cMo V1.out ?_;rintro e w1 ⟨rfl,hb1⟩;have B1:=hid hb1;obtain⟨y0,y1⟩:=(HS.out.below hb1).cells;unfold q0r at y0;clear hb1 V1 x0 x1
  go_wp2
  go_ret
  rw[HE.out.1,HE.out.2];exact Decl.same HS.out B1.out
 | true =>
  have V1:Hid _:=VA.out w v bRf;rw[e1] at V1
  cases e2:isV typ with
  | true =>
   have HE:Hid (q0s (isV:=isV) (xs.map jm) typ v=72∧q0j (isV:=isV) (xs.map jm) lab typ v=xs.map jm):=by
    have h1:q0s (isV:=isV) (xs.map jm) typ v=72:=by unfold q0s;rw[e1,if_neg (by simp),if_pos e2]
    exact⟨h1,by unfold q0j;rw[h1];rfl⟩
   have V2:Hid (∀wx,Below w.heap.size w wx→Calls Tryz.prog 70 #[.pointer (some ⟨tq,0,none⟩),.int .i64 typ] wx fun e w'=>e=.returned (.bool (isV typ))∧Below wx.heap.size wx w'):=fun wx hb=>VA.out wx typ hb
   rw[e2] at V2;clear e1 e2;go_enter Tryz.func169,Tryz.ntmps169;go_wp2_with fail;refine cMo V1.out ?_;rintro e w1 ⟨rfl,hb1⟩;have B1:=hid hb1;obtain⟨y0,y1⟩:=(HS.out.below hb1).cells;unfold q0r at y0;clear hb1 V1 x0 x1;go_wp2_with fail;refine cMo (V2.out w1 B1.out) ?_;rintro e w2 ⟨rfl,hb2⟩;have B2:=bTr B1 hb2;clear hb2 V2 y0 y1 VA
   go_wp2
   go_ret
   rw[HE.out.1,HE.out.2];exact Decl.same HS.out B2.out
  | false =>
   have V2:Hid (∀wx,Below w.heap.size w wx→Calls Tryz.prog 70 #[.pointer (some ⟨tq,0,none⟩),.int .i64 typ] wx fun e w'=>e=.returned (.bool (isV typ))∧Below wx.heap.size wx w'):=fun wx hb=>VA.out wx typ hb
   rw[e2] at V2
   cases e3:tyS xs v with
   | some t =>
    have HE:Hid (q0s (isV:=isV) (xs.map jm) typ v=70∧q0j (isV:=isV) (xs.map jm) lab typ v=xs.map jm):=by
     have h1:q0s (isV:=isV) (xs.map jm) typ v=70:=by unfold q0s;rw[e1,if_neg (by simp),e2,if_neg (by simp),←qaa,e3];rfl
     exact⟨h1,by unfold q0j;rw[h1];rfl⟩
    rw[e3] at TY;clear e1 e2 e3;go_enter Tryz.func169,Tryz.ntmps169;go_wp2_with fail;refine cMo V1.out ?_;rintro e w1 ⟨rfl,hb1⟩;have B1:=hid hb1;obtain⟨y0,y1⟩:=(HS.out.below hb1).cells;unfold q0r at y0;clear hb1 V1 x0 x1;go_wp2_with fail;refine cMo (V2.out w1 B1.out) ?_;rintro e w2 ⟨rfl,hb2⟩;have B2:=bTr B1 hb2;clear hb2 V2 y0 y1 VA;go_wp2_with fail;refine cMo (TY.out w2 B2.out) ?_;rintro e w5 ⟨rfl,hb5x⟩;have hb5:Below w.heap.size w w5:=B2.out.trans (hb5x.mono B2.out.size);clear hb5x;have B5:=hid hb5;clear hb5 TY
    go_wp2
    go_ret
    rw[HE.out.1,HE.out.2];exact Decl.same HS.out B5.out
   | none =>
    obtain⟨ys,x,hxs⟩:∃ys x,xs=ys++[x]:=⟨xs.dropLast,xs.getLast (List.ne_nil_of_length_pos HM.out.1),(List.dropLast_concat_getLast _).symm⟩;have hE:q0s (isV:=isV) (xs.map jm) typ v=0:=by unfold q0s;rw[e1,if_neg (by simp),e2,if_neg (by simp),←qaa,e3];rfl
    have HE:Hid (q0s (isV:=isV) (xs.map jm) typ v=0∧q0j (isV:=isV) (xs.map jm) lab typ v=ys.map jm++[⟨x.hs.map (·.h)++[⟨lab,true,v,[typ,v]⟩],x.ps⟩]):=⟨hE,by unfold q0j;rw[hE,if_pos rfl,hxs,List.map_append];exact q52 _ _ _⟩;have hty:q5f (x.hs.map (·.h)) v=none:=by
     rw[hxs] at e3;unfold tyS at e3;rw[List.findSome?_eq_none_iff] at e3;exact e3 x (by simp)
    rw[e3] at TY;have HTY:=hid hty;clear e1 e2 e3 hE hty;go_enter Tryz.func169,Tryz.ntmps169;go_wp2_with fail;refine cMo V1.out ?_;rintro e w1 ⟨rfl,hb1⟩;have B1:=hid hb1;obtain⟨y0,y1⟩:=(HS.out.below hb1).cells;unfold q0r at y0;clear hb1 V1 x0 x1;go_wp2_with fail;refine cMo (V2.out w1 B1.out) ?_;rintro e w2 ⟨rfl,hb2⟩;have B2:=bTr B1 hb2;clear hb2 V2 y0 y1 VA;go_wp2_with fail;refine cMo (TY.out w2 B2.out) ?_;rintro e w5 ⟨rfl,hb5x⟩;have hb5:Below w.heap.size w w5:=B2.out.trans (hb5x.mono B2.out.size);clear hb5x;have S5:=HS.out.below hb5;obtain⟨g,c,cs,hvS,hcs,hcell⟩:=S5.shape HM.out.1;subst hxs;have hlen:(ys++[x]).length=ys.length + 1:=by rw[lAp];rfl
    rw[hlen] at hvS;subst hvS;have IN:Hid _:=q91 w5 O P g (ys.length + 1) c (ys++[x]) hlen (by omega) (by have:=HM.out.2.1;omega) S5;rw[show (ys.length + 1 - 1) * 3=ys.length * 3 by omega] at IN;have hxat:(ys++[x])[ys.length]?=some x:=by simp
    have FL:Hid (∀q,Calls Tryz.prog 229 #[.pointer (some ⟨g,ys.length * 3,none⟩),.string lab,.int .i64 typ,.int .i64 v] (w5.drewN q) fun e w'=>e=.returned (.tuple #[])∧∃vl' ve,Put (w5.drewN q) w' g (ys.length * 3) cs x vl' ve ⟨lab,true,v,[typ,v]⟩ (x.mn + 1)):=fun q =>
     q90 (w5.drewN q) O g (ys.length * 3) cs x lab typ v hcs (hcell ys.length 0 x hxat (by omega)) (hcell ys.length 1 x hxat (by omega)) ((S5.below (xu bRf q)).each x (by simp)) (HM.out.2.2.1 x (by simp)) HM.out.2.2.2.1 HM.out.2.2.2.2.1 HM.out.2.2.2.2.2 HTY.out
    have HS5:Hid (qw tq O w5 P (.slice (some ⟨g,0,none⟩) (ys.length + 1) c) (ys++[x])∧w5.heap[g]?=some (.cells cs 225 (0,0))∧Below w.heap.size w w5):=⟨S5,hcs,hb5⟩;obtain⟨ny,hny⟩:=eXb ys.length;rw[hny] at IN FL;have HNY:=hid hny;clear S5 hcs hcell hb5 TY hlen hxat hny;go_wp2_with fail;refine cMo IN.out ?_;rintro e wz ⟨rfl,q,hwz⟩;subst hwz;go_wp2_with fail;refine cMo (FL.out q) ?_;rintro e w7 ⟨rfl,vl',ve,hp⟩;have FI:Hid (Decl (tq:=tq) O w P 0 (ys.map jm++[⟨x.hs.map (·.h)++[⟨lab,true,v,[typ,v]⟩],x.ps⟩]) (.returned (.int .i64 0)) w7):=by
     have S6:=HS5.out.1.below (xu bRf q);rw[←HNY.out] at hp;obtain⟨k1,k2⟩:=S6.put (g:=g) HS5.out.2.1 hp (by have:=(S6.each x (by simp)).mc;omega);have bq:Below w.heap.size w (w5.drewN q):=xu HS5.out.2.2 q;refine⟨rfl,_,_,k1.up (fun b hb=>?_) (fun b hb=>?_),?_,(S.M.Ch.oB bq).trans k2⟩
     ·rcases hb with hb | hb
      ·exact .inl hb
      ·exact .inr ⟨nLt bq.size hb.1,hb.2⟩
     ·rcases hb with hb | hb
      ·exact Nat.lt_of_lt_of_le (S6.lt b hb) k2.size
      ·exact hb.2
     ·simp[jm]
    clear hp IN FL
    go_wp2
    go_ret
    rw[HE.out.1,HE.out.2];exact FI.out
open Go.RowKit Go.Shelf
attribute [local go_sem] Oper.semAt_some
def upto {α:Type}(f:Nat→α)(k:Nat):List α:=(List.range k).map f
theorem upto_succ {α:Type}(f:Nat→α)(k:Nat):upto f (k + 1)=upto f k++[f k]:=by simp[upto,List.range_succ]
theorem upto_length {α:Type}(f:Nat→α)(k:Nat):(upto f k).length=k:=by simp[upto]
theorem upto_all (zs:List Int):upto (fun j=>zs[j]?.getD 0) zs.length=zs:=by
 apply List.ext_getElem
 ·simp[upto]
 ·intro i h1 h2;simp[upto,h2]
theorem upto_take (zs:List Int){k:Nat}(hk:k≤zs.length):upto (fun j=>zs[j]?.getD 0) k=zs.take k:=by
 apply List.ext_getElem
 ·simp[upto,hk]
 ·intro i h1 h2;have:i < zs.length:=by simp[upto] at h1;omega
  simp[upto,this]
theorem values1_in (F:Fence) (n:Nat) (h7:F.fn 293) (hro:F.round=none) (hn:1≤n) (l Bs n₀:Nat) (a:Option Addr) (len cap:Nat) (zs:List Int) (hreach:len≤4611686018427387904) (J Jx:List Int→World→Prop)
  (hY:∀pre x W,J pre W→pre.length < len→YieldAt F (n - 1) Tryz.prog l #[.int .i64 x] W fun e W' =>
    (e=.returned (.bool true)∧J (pre++[x]) W'∧Below n₀ W W')∨(e=.returned (.bool false)∧Jx (pre++[x]) W'))
  (W:World) (hBs:W.cell? ⟨Bs,0,none⟩=some (.slice a len cap)) (hc:∀j,j < len→∃b off,a=some ⟨b,off,none⟩∧b < n₀∧W.cell? ⟨b,off + j,none⟩=some (.int .i64 (zs[j]?.getD 0))) (h0:J [] W) :
  CallsIn F n Tryz.prog  293 #[.func (.yield l) #[] #[],.pointer (some ⟨Bs,0,none⟩)] W fun e W'=>(∃v,e=.returned v) ∧
   ((∃ys,ys=upto (fun j=>zs[j]?.getD 0) len∧J ys W')∨(∃pre,(∃k,k≤len∧pre=upto (fun j=>zs[j]?.getD 0) k)∧Jx pre W')):=by
 refine callsIn_of_wp Tryz.func293 rfl h7 ?_ hro;simp only[Tryz.ntmps293,List.size_toArray,List.length_cons,List.length_nil,Nat.reduceAdd,Nat.reduceSub,Array.replicate_succ,Array.replicate_zero,List.push_toArray,List.append_toArray,List.nil_append,List.cons_append]
 gi_wp2
 gi_loopw [7] (fun i wr=>∃k:Nat,k≤len∧i=.int .i64 k∧J (upto (fun j=>zs[j]?.getD 0) k) wr∧Below n₀ W wr)
  (fun i _=>len - (intOf i).toNat)
 case atStart=>exact⟨0,Nat.zero_le _,rfl,h0,bRf⟩
 case round =>
  obtain⟨k,hk,rfl,hJs,hnx⟩:=hrel
  by_cases hlt:k < len
  ·obtain⟨b,off,rfl,hb,hck⟩:=hc k hlt;have hcx:wr.cell? ⟨b,off + k,none⟩=some (.int .i64 (zs[k]?.getD 0)):=(hnx.cell (p:=⟨b,off + k,none⟩) hb).trans hck;obtain⟨fn,tmps,assign,body,hy,hR⟩:=hY _ (zs[k]?.getD 0) wr hJs (by rw[upto_length];exact hlt);clear hck hc
   gi_wp2
   refine hR.mono ?_;rintro e W3 (⟨rfl,hJ3,hk3⟩ | ⟨rfl,hJx3⟩)
   ·gi_wp2
    go_roundw
    case rel=>exact⟨k + 1,by omega,by simp,by rw[upto_succ];exact hJ3,hnx.trans hk3⟩
    case measure=>simp[intOf];omega
   ·gi_wp2
    refine bodyPost_ret (results_none rfl _ _ _) rfl ?_;exact⟨⟨_,rfl⟩,.inr ⟨_,⟨k + 1,by omega,(upto_succ _ _).symm⟩,hJx3⟩⟩
  ·obtain rfl:k=len:=by omega
   clear hc
   gi_wp2
   go_end0
   exact⟨⟨_,rfl⟩,.inl ⟨_,rfl,hJs⟩⟩
def qmf (n₀:Nat)(w:World)(a:Option Addr)(l:List Int):Prop:=∀(i:Nat) (x:Int),l[i]?=some x→∃b off,a=some ⟨b,off,none⟩∧b < n₀∧w.cell? ⟨b,off + i,none⟩=some (.int .i64 x)
theorem values_in (F:Fence)(n:Nat)(h5:F.fn 272)(hro:F.round=none)(a:Option Addr)(len cap:Nat)(w:World) :
  CallsIn F n Tryz.prog  272 #[.slice a len cap] w fun e w'=>e=.returned (.func (.func 293) #[] #[.pointer (some ⟨w.heap.size,0,none⟩)])∧w'=w.alloc (.cells #[.slice a len cap] 38):=by
 refine callsIn_of_wp Tryz.func272 rfl h5 ?_ hro;simp only[Tryz.ntmps272,List.size_toArray,List.length_cons,List.length_nil,Nat.reduceAdd,Nat.reduceSub,Array.replicate_succ,Array.replicate_zero,List.push_toArray,List.append_toArray,List.nil_append,List.cons_append]
 gi_wp2
 go_ret
 exact⟨rfl,rfl⟩
theorem values_stops (F:Fence) (n:Nat) (h7:F.fn 293) (hro:F.round=none) (hn:1≤n) (Bs n₀:Nat) (a:Option Addr) (cap:Nat) (zs:List Int) (hreach:zs.length≤4611686018427387904) (w:World) (hBs:Bs < w.heap.size) (hn₀:n₀≤w.heap.size)
  (hc:w.cell? ⟨Bs,0,none⟩=some (.slice a zs.length cap)) (hI:qmf n₀ w a zs) :
  SeqStopsK F n Tryz.prog  293 #[.pointer (some ⟨Bs,0,none⟩)] (fun x:Int=>#[Value.int .i64 x]) (Below n₀) (fun ys=>ys=zs) (fun pre=>pre <+: zs) zs.length w:=fun l J Jx W hW _ _ hY h0=>by
 have hc':=(hW.cell (p:=⟨Bs,0,none⟩) hBs).trans hc;refine (values1_in F n h7 hro hn l Bs n₀ a zs.length cap zs hreach J Jx hY W hc' (fun j hj=>?_) h0).mono ?_
 ·obtain⟨b,off,e,hb,h⟩:=hI j (zs[j]?.getD 0) (by rw[gEq hj];rfl);exact⟨b,off,e,hb,((hW.mono hn₀).cell (p:=⟨b,off + j,none⟩) hb).trans h⟩
 ·rintro e W' ⟨he,⟨ys,rfl,hj⟩ | ⟨pre,⟨k,hk,rfl⟩,hj⟩⟩
  ·exact⟨he,.inl ⟨_,upto_all zs,hj⟩⟩
  ·exact⟨he,.inr ⟨_,by rw[upto_take zs hk];exact List.take_prefix _ _,hj⟩⟩
theorem info3:(Tryz.prog.info? 3).map (fun i=>(i.zero,i.size,i.bytes))=some (some (.int .i64 0),1,8):=by kernel_rfl
theorem qif (F:Fence) (n:Nat) (h51:F.fn 302) (hro:F.round=none) (hn:2≤n) (g:Nat) (lb:Array Value) (hFg:F.fn g) (eg:∀args w,(callFunc g args).run Tryz.prog w=.ok (.enter g args) w) (zs:List Int) (hlen:zs.length≤17592186043904) (w:World)
  (hseq:SeqStopsK F (n - 1) Tryz.prog g lb (fun x:Int=>#[Value.int .i64 x]) (Below w.heap.size) (fun ys=>ys=zs) (fun pre=>pre <+: zs) zs.length (w.alloc (.cells #[.slice none 0 0] 38))) :
  CallsIn F n Tryz.prog  302 #[.slice none 0 0,.func (.func g) #[] lb] w fun e W'=>∃v,e=.returned v∧W'.ownsRow w.heap.size 3 1 v zs.length (zs.map (Value.int .i64))∧Below w.heap.size w W':=by
 have h1:1≤n:=by omega
 obtain⟨i0,hi,hz0,hz1,hz2⟩:=info_parts info3;refine callsIn_of_wp_marks Tryz.func302 rfl h51 ?_ hro;simp only[Tryz.ntmps302,List.size_toArray,List.length_cons,List.length_nil,Nat.reduceAdd,Nat.reduceSub,Array.replicate_succ,Array.replicate_zero,List.push_toArray,List.append_toArray,List.nil_append,List.cons_append]
 gi_wp2
 have bO:=Boxed.new w 38 (.slice none 0 0);have hB0:Below w.heap.size w (w.alloc (.cells #[.slice none 0 0] 38)):=(Below.refl _ w).alloc (Nat.le_refl _) _;refine wpIn_rangeFunc_ownG hro h1 (gf:=g) (lb:=lb) rfl hFg eg hseq belowK_t (belowK_b (by simp)) bRf (fun _=>rfl)
  (fun pre W=>(∃v,Boxed W w.heap.size 38 v∧W.ownsRow w.heap.size 3 1 v pre.length (pre.map (Value.int .i64))∧(v=.slice none 0 0↔pre=[]))∧Below w.heap.size w W)
  (fun _ _ _=>False)
  (OwnFrom.and (Own.from (holdsRow_own w.heap.size w.heap.size 38 3 1 (fun pre=>pre.length) (fun pre=>pre.map (Value.int .i64)) (fun pre v=>v=.slice none 0 0↔pre=[])) _) (ownFrom_below (Nat.le_refl _) (by simp)))
  (fun _ _ _ _ _ hs _ _=>hs)
  ⟨⟨_,bO,World.ownsRow_nil _ _ _ _,by simp⟩,hB0⟩
  (fun x=>{ tmps:=#[.slice none 0 0,.func (.func g) #[] lb,.pointer (some ⟨w.heap.size,0,none⟩),undef,.slice none 0 0,.int .i64 x,.func (.func g) #[] lb,.int .i64 x,undef,undef,undef,undef,undef],defers:=[] }) ?assign ?body ?done ?stop
 case assign =>
  intro l x W K hK
  gi_wp2
  exact hK
 case body =>
  rintro l pre x W ⟨⟨v,hv,hrow,hnil⟩,hB⟩ hlt;have hc:=hv.cell
  gi_wp2_with (gi_at_builtin;refine wpListIn_append_own _ rfl _ _ 38 rfl w.heap.size 3 i0 (.int .i64 0) 1 8 Tryz.underlying38 hi hz0 hz1 hz2 rfl (by decide) _ _ _ rfl (hrow.alloc _) ⟨W.heap.size,0,none⟩ 1 1 [.int .i64 x] rfl rfl (cell_one_new _ _ _) (by simp[Value.oneCell']) (by unfold maxLen;omega) (by omega) (by have:=hB.size;simp;omega) ?_;intro v' w1 hown' hgrow _;obtain⟨g',cap',rfl⟩:=ownsRow_succ hown';obtain⟨hv1,hv2,hr2,hk2,hb2⟩:=hv.appended (by decide) hrow hB.size (Nat.le_refl _) hown' hgrow;have hc1:=hv1.cell;have hf1:=hv1.frozen)
  exact⟨hk2.from _,hb2,⟨_,hv2,by simpa using hr2,by simp⟩,hB.trans hb2⟩
 case done =>
  rintro D ys W hD rfl ⟨⟨v,hv,hrow,hnil⟩,hB⟩ hK;have hc:=hv.cell
  gi_wp2
  refine⟨by simp,.inl ⟨_,_,rfl,run_takeDeferred hK,?_⟩⟩;exact⟨_,results_tmp rfl _ _ _,v,rfl,ownsRow_putObj hrow _ hK rfl,hB.trans (belowK_b (w:=w) (Nat.le_refl _) W D _ _ (by simp at hD;omega) hK rfl rfl)⟩
 case stop =>
  rintro D c pre W _ _ h _;exact h.elim
def Tryz.qfo:Go.Shelf.Ren:=⟨fun | 189=>237 | 125=>267 | 257=>266 | 128=>284 | 129=>285 | 294=>276 | 295=>277 | 296=>278 | 297=>279 | 298=>280 | 299=>281 | 216=>181 | 300=>282 | 301=>283 | 328=>294 | 329=>295 | 330=>296 | 331=>297 | 332=>298 | 215=>239 | 343=>303 | n=>n,fun | 28=>38 | 3=>3 | 46=>116 | 0=>0 | 51=>299 | 53=>311 | 4=>4 | 183=>304 | 182=>303 | 131=>54 | 5=>5 | 9=>9 | 218=>321 | 222=>325 | 228=>330 | 229=>331 | n=>n,fun | n=>n⟩
theorem Tryz.lays189:Go.Proofs.Lays.n189 Tryz.prog Tryz.qfo:={
 mixed:=by kernel_rfl
 f125:=Tryz.func267.trans (congrArg some (by kernel_rfl))
 f128:=Tryz.func284.trans (congrArg some (by kernel_rfl))
 f129:=Tryz.func285.trans (congrArg some (by kernel_rfl))
 f189:=Tryz.func237.trans (congrArg some (by kernel_rfl))
 f215:=Tryz.func239.trans (congrArg some (by kernel_rfl))
 f216:=Tryz.func181.trans (congrArg some (by kernel_rfl))
 f257:=Tryz.func266.trans (congrArg some (by kernel_rfl))
 f294:=Tryz.func276.trans (congrArg some (by kernel_rfl))
 f295:=Tryz.func277.trans (congrArg some (by kernel_rfl))
 f296:=Tryz.func278.trans (congrArg some (by kernel_rfl))
 f297:=Tryz.func279.trans (congrArg some (by kernel_rfl))
 f298:=Tryz.func280.trans (congrArg some (by kernel_rfl))
 f299:=Tryz.func281.trans (congrArg some (by kernel_rfl))
 f300:=Tryz.func282.trans (congrArg some (by kernel_rfl))
 f301:=Tryz.func283.trans (congrArg some (by kernel_rfl))
 f328:=Tryz.func294.trans (congrArg some (by kernel_rfl))
 f329:=Tryz.func295.trans (congrArg some (by kernel_rfl))
 f330:=Tryz.func296.trans (congrArg some (by kernel_rfl))
 f331:=Tryz.func297.trans (congrArg some (by kernel_rfl))
 f332:=Tryz.func298.trans (congrArg some (by kernel_rfl))
 f343:=Tryz.func303.trans (congrArg some (by kernel_rfl))
 t0:=Tryz.underlying0
 a0:=Tryz.isAgg0
 z0:=Tryz.sizeOf0
 v0:=Tryz.zeroValue0
 t3:=Tryz.underlying3
 a3:=Tryz.isAgg3
 z3:=Tryz.sizeOf3
 v3:=Tryz.zeroValue3
 t4:=Tryz.underlying4
 a4:=Tryz.isAgg4
 z4:=Tryz.sizeOf4
 v4:=Tryz.zeroValue4
 t5:=Tryz.underlying5
 a5:=Tryz.isAgg5
 z5:=Tryz.sizeOf5
 v5:=Tryz.zeroValue5
 t9:=Tryz.underlying9
 a9:=Tryz.isAgg9
 z9:=Tryz.sizeOf9
 v9:=Tryz.zeroValue9
 t28:=Tryz.underlying38
 a28:=Tryz.isAgg38
 z28:=Tryz.sizeOf38
 v28:=Tryz.zeroValue38
 t46:=Tryz.underlying116
 a46:=Tryz.isAgg116
 z46:=Tryz.sizeOf116
 v46:=Tryz.zeroValue116
 t51:=Tryz.underlying299
 a51:=Tryz.isAgg299
 z51:=Tryz.sizeOf299
 v51:=Tryz.zeroValue299
 t53:=Tryz.underlying311
 a53:=Tryz.isAgg311
 z53:=Tryz.sizeOf311
 v53:=Tryz.zeroValue311
 t131:=Tryz.underlying54
 a131:=Tryz.isAgg54
 z131:=Tryz.sizeOf54
 v131:=Tryz.zeroValue54
 t182:=Tryz.underlying303
 a182:=Tryz.isAgg303
 z182:=Tryz.sizeOf303
 v182:=Tryz.zeroValue303
 t183:=Tryz.underlying304
 a183:=Tryz.isAgg304
 z183:=Tryz.sizeOf304
 v183:=Tryz.zeroValue304
 t218:=Tryz.underlying321
 a218:=Tryz.isAgg321
 z218:=Tryz.sizeOf321
 v218:=Tryz.zeroValue321
 t222:=Tryz.underlying325
 a222:=Tryz.isAgg325
 z222:=Tryz.sizeOf325
 v222:=Tryz.zeroValue325
 t228:=Tryz.underlying330
 a228:=Tryz.isAgg330
 z228:=Tryz.sizeOf330
 v228:=Tryz.zeroValue330
 t229:=Tryz.underlying331
 a229:=Tryz.isAgg331
 z229:=Tryz.sizeOf331
 v229:=Tryz.zeroValue331 }
open Go.Sort Go.RowKit in
theorem Tryz.slices_Sort_int (blk off cap:Nat)(zs:List Int)(w:World)(hH:Holds (Value.int .i64) w blk off zs.toArray)(hblk:blk < w.heap.size)(hsz:zs.length < 4611686018427387904) :
  Calls Tryz.prog 237 #[.slice (some ⟨blk,off,none⟩) zs.length cap] w fun e w' =>
   e=.returned (.tuple #[])∧∃n os,w'=grow (putRow (Value.int .i64) (Sort.ahead w n) blk off (zs.mergeSort fun x y=>decide (x≤y)).toArray) os:=Any.slices_Sort_int Tryz.lays189 blk off cap zs w hH hblk hsz
def Tryz.qco:Go.Shelf.Ren:=⟨fun | 20=>238 | n=>n,fun | 22=>38 | 3=>3 | 4=>4 | 0=>0 | n=>n,fun | n=>n⟩
theorem Tryz.qd9:Go.Proofs.Lays2.n20 Tryz.prog Tryz.qco:={
 mixed:=by kernel_rfl
 f20:=Tryz.func238.trans (congrArg some (by kernel_rfl))
 t0:=Tryz.underlying0
 a0:=Tryz.isAgg0
 z0:=Tryz.sizeOf0
 v0:=Tryz.zeroValue0
 t3:=Tryz.underlying3
 a3:=Tryz.isAgg3
 z3:=Tryz.sizeOf3
 v3:=Tryz.zeroValue3
 t4:=Tryz.underlying4
 a4:=Tryz.isAgg4
 z4:=Tryz.sizeOf4
 v4:=Tryz.zeroValue4
 t22:=Tryz.underlying38
 a22:=Tryz.isAgg38
 z22:=Tryz.sizeOf38
 v22:=Tryz.zeroValue38
 i3:=by kernel_rfl }
open Go.RowKit Go.Lib Go.Sort in
theorem Tryz.slices_Compact_int (blk off cap:Nat)(zs:List Int)(w:World)(hH:Holds (Value.int .i64) w blk off zs.toArray)(hsz:zs.length≤9223372036854775807)(hcap:zs.length≤cap) :
  Calls Tryz.prog 238 #[.slice (some ⟨blk,off,none⟩) zs.length cap] w fun e w'=>e=.returned (.slice (some ⟨blk,off,none⟩) (Lib.compact zs).length cap)∧∃q,w'=putRow (Value.int .i64) (Sort.ahead w q) blk off (Lib.compact zs++List.replicate (zs.length - (Lib.compact zs).length) 0).toArray:=Any.slices_Compact_int Tryz.qd9 blk off cap zs w hH hsz hcap
open Go.RowKit Go.Lib Go.Sort in
theorem Tryz.slices_Compact_int_empty (a:Option Addr)(cap:Nat)(w:World) :
  Calls Tryz.prog 238 #[.slice a 0 cap] w fun e w'=>e=.returned (.slice a 0 cap)∧w'=w:=Any.slices_Compact_int_empty Tryz.qd9 a cap w
def Tryz.qcp:Go.Shelf.Ren:=⟨fun | 25=>127 | 31=>181 | 32=>182 | 37=>239 | n=>n,fun | 22=>38 | 3=>3 | 4=>4 | 40=>116 | 0=>0 | n=>n,fun | n=>n⟩
theorem Tryz.qda:Go.Proofs.Lays2.n25 Tryz.prog Tryz.qcp:={
 mixed:=by kernel_rfl
 f25:=Tryz.func127.trans (congrArg some (by kernel_rfl))
 f31:=Tryz.func181.trans (congrArg some (by kernel_rfl))
 f32:=Tryz.func182.trans (congrArg some (by kernel_rfl))
 f37:=Tryz.func239.trans (congrArg some (by kernel_rfl))
 t0:=Tryz.underlying0
 a0:=Tryz.isAgg0
 z0:=Tryz.sizeOf0
 v0:=Tryz.zeroValue0
 t3:=Tryz.underlying3
 a3:=Tryz.isAgg3
 z3:=Tryz.sizeOf3
 v3:=Tryz.zeroValue3
 t4:=Tryz.underlying4
 a4:=Tryz.isAgg4
 z4:=Tryz.sizeOf4
 v4:=Tryz.zeroValue4
 t22:=Tryz.underlying38
 a22:=Tryz.isAgg38
 z22:=Tryz.sizeOf38
 v22:=Tryz.zeroValue38
 t40:=Tryz.underlying116
 a40:=Tryz.isAgg116
 z40:=Tryz.sizeOf116
 v40:=Tryz.zeroValue116 }
open Go.RowKit Go.Lib in
theorem Tryz.slices_BinarySearch_int (b off n c:Nat)(zs:List Int)(x:Int)(w:World)(hz:n≤zs.length)(hbig:n < 4611686018427387904)(hc:∀j,j < zs.length→w.cell? ⟨b,off + j,none⟩=some (.int .i64 (zs.getD j 0)))(hs:(zs.take n).Pairwise (·≤·)) :
  Calls Tryz.prog 127 #[.slice (some ⟨b,off,none⟩) n c,.int .i64 x] w fun e w'=>e=.returned (.tuple #[.int .i64 ((zs.take n).countP (· < x):Nat),.bool ((zs.take n).contains x)])∧∃q,w'=w.drewN q:=Any.slices_BinarySearch_int Tryz.qda b off n c zs x w hz hbig hc hs
open Go.RowKit Go.Sort in
theorem Tryz.slices_Sort_int_none (p:Option Addr)(cap:Nat)(w:World) :
  Calls Tryz.prog 237 #[.slice p 0 cap] w fun e w'=>e=.returned (.tuple #[])∧w'=w:=Any.slices_Sort_int_none Tryz.lays189 p cap w
open Go.RowKit Go.Lib in
theorem Tryz.slices_BinarySearch_int_empty (a:Option Addr)(c:Nat)(x:Int)(w:World) :
  Calls Tryz.prog 127 #[.slice a 0 c,.int .i64 x] w fun e w'=>e=.returned (.tuple #[.int .i64 0,.bool false])∧w'=w:=Any.slices_BinarySearch_int_empty Tryz.qda a c x w
open S (qhr)
open Go.RowKit
def q5h (x:Int):Value:=.int .i64 x
def q2b (w:World)(a:Option Addr)(l:List Int):Prop:=∀(i:Nat) (x:Int),l[i]?=some x→∃b off,a=some ⟨b,off,none⟩∧w.cell? ⟨b,off + i,none⟩=some (.int .i64 x)
def q6n (w:World)(a:Option Addr)(vs:List Value):Prop:=∀(i:Nat) (u:Value),vs[i]?=some u→∃b off,a=some ⟨b,off,none⟩∧w.cell? ⟨b,off + i,none⟩=some u
theorem q80 {W:World}{base:Nat}{e:TypeId}{size:Nat}{v:Value}{n:Nat}{xs:List Value}(h:W.ownsRow base e size v n xs):∃a c,v=.slice a n c∧n≤c∧q6n W a xs∧∀g,v.ownBlock=some g→base≤g:=by
 rcases h.2 with ⟨rfl,rfl⟩ | ⟨g,cap,cur,rfl,hg,hh,hn,hc,hsz,ht⟩
 ·exact⟨_,_,rfl,Nat.le_refl _,fun i u hi=>by
   have:=h.1
   rw[Nat.zero_mul] at this
   rw[List.eq_nil_of_length_eq_zero this] at hi
   simp at hi,fun g e=>by cases e⟩
 ·refine⟨_,_,rfl,hn,fun i u hi=>⟨g,0,rfl,?_⟩,fun g e=>by cases e;exact hg⟩;have hlt:i < n * size:=by have:=h.1;have:=(List.getElem?_eq_some_iff.1 hi).1;omega
  have:cur[i]?=some u:=by
   rw[←ht,List.getElem?_take,if_pos hlt] at hi
   simpa using hi
  rw[Nat.zero_add];simp[World.cell?,hh,this]
theorem q6n.ints {w:World}{a:Option Addr}{l:List Int}(h:q6n w a (l.map q5h)):q2b w a l:=fun i x hi=>h i (q5h x) (by rw[List.getElem?_map,hi];rfl)
theorem q2b.row {w:World}{a:Option Addr}{l:List Int}(h:q2b w a l):q6n w a (l.map q5h):=fun i u hi=>by
 rw[List.getElem?_map] at hi;obtain⟨x,hx,rfl⟩:=Option.map_eq_some_iff.1 hi;exact h i x hx
theorem q6n.under {w w':World}{a:Option Addr}{vs:List Value}(h:q6n w a vs)(hb:Below w.heap.size w w'):q6n w' a vs:=fun i u hi=>by
 obtain⟨b,off,e,hc⟩:=h i u hi;exact⟨b,off,e,(hb.cell (p:=⟨b,off + i,none⟩) (bLt hc)).trans hc⟩
theorem q2b.under {w w':World}{a:Option Addr}{l:List Int}(h:q2b w a l)(hb:Below w.heap.size w w'):q2b w' a l:=fun i x hi=>by
 obtain⟨b,off,e,hc⟩:=h i x hi;exact⟨b,off,e,(hb.cell (p:=⟨b,off + i,none⟩) (bLt hc)).trans hc⟩
theorem q6n.news {w:World}{a:Option Addr}{vs:List Value}(h:q6n w a vs):∀(j:Nat) (u:Value),vs[j]?=some u→∃ad,a=some ad∧w.cell? (ad.add j)=some u:=fun j u hu=>by
 obtain⟨b,off,rfl,hc⟩:=h j u hu;exact⟨_,rfl,by rw[←hc];unfold Addr.add;split <;> simp_all⟩
theorem infoI:(Tryz.prog.info? 3).map (fun i=>(i.zero,i.size,i.bytes))=some (some (.int .i64 0),1,8):=by kernel_rfl
theorem q7m:∀{a b:List Int},a.Pairwise (· < ·)→b.Pairwise (· < ·)→(∀x,x ∈ a↔x ∈ b)→a=b
 | [],[],_,_,_=>rfl
 | [],y :: b,_,_,h=>by have:=(h y).2 (by simp);simp at this
 | x :: a,[],_,_,h=>by have:=(h x).1 (by simp);simp at this
 | x :: a,y :: b,ha,hb,h=>by
  obtain⟨a1,a2⟩:=List.pairwise_cons.1 ha;obtain⟨b1,b2⟩:=List.pairwise_cons.1 hb;have hxy:x=y:=by
   have h1:=(h x).1 (by simp);have h2:=(h y).2 (by simp);rcases List.mem_cons.1 h1 with e | h1
   ·exact e
   ·rcases List.mem_cons.1 h2 with e | h2
    ·exact e.symm
    ·have:=b1 x h1
     have:=a1 y h2
     omega
  subst hxy;rw[q7m a2 b2 fun z=>?_];constructor
  ·intro hz;have:=(h z).1 (List.mem_cons_of_mem _ hz)
   rcases List.mem_cons.1 this with e | h3
   ·subst e;have:=a1 z hz
    omega
   ·exact h3
  ·intro hz;have:=(h z).2 (List.mem_cons_of_mem _ hz)
   rcases List.mem_cons.1 this with e | h3
   ·subst e;have:=b1 z hz
    omega
   ·exact h3
theorem qay {l:List Int}(hs:l.Pairwise (·≤·)):∀m,m≤l.length→(Lib.compactUpTo l.toArray m).Pairwise (· < ·)∧∀x,x ∈ Lib.compactUpTo l.toArray m↔x ∈ l.take m
 | 0,_=>⟨by simp[Lib.compactUpTo],fun x=>by simp[Lib.compactUpTo]⟩
 | m + 1,hm=>by
  obtain⟨h1,h2⟩:=qay hs m (by omega);have hlt:m < l.length:=by omega
  have hget:l.toArray[m]! = l[m]:=by rw[getElem!_pos l.toArray m (by simpa using hlt)];simp
  have htk:l.take (m + 1)=l.take m++[l[m]]:=by rw[List.take_add_one,gEq hlt];rfl
  rw[Lib.compactUpTo_succ]
  by_cases hk:Lib.keeps l.toArray m
  ·rw[if_pos hk,hget,htk];refine⟨List.pairwise_append.2 ⟨h1,List.pairwise_singleton _ _,fun x hx y hy=>?_⟩,fun x=>by rw[mAp,mAp,h2]⟩;rw[mSg.1 hy];have hx':=(h2 x).1 hx;obtain⟨i,hi⟩:=List.getElem?_of_mem hx';obtain⟨hil,hie⟩:=List.getElem?_eq_some_iff.1 hi;rw[List.length_take] at hil;have him:i < m:=by omega
   rw[List.getElem_take] at hie;have hp:=List.pairwise_iff_getElem.1 hs;simp only[Lib.keeps,decide_eq_true_eq] at hk;rcases hk with h0 | h0
   ·omega
   ·have hm1:l.toArray[m - 1]! = l[m - 1]:=by rw[getElem!_pos l.toArray (m - 1) (by simp;omega)];simp
    rw[hget,hm1] at h0;have q1:l[m - 1]≤l[m]:=hp (m - 1) m (by omega) hlt (by omega);have q2:l[i]≤l[m - 1]:=by
     rcases Nat.lt_or_ge i (m - 1) with h3 | h3
     ·exact hp i (m - 1) (by omega) (by omega) h3
     ·have:i=m - 1:=by omega
      subst this;omega
    rw[hie] at q2;omega
  ·rw[if_neg hk,List.append_nil,htk];refine⟨h1,fun x=>?_⟩;rw[h2,mAp,mSg];simp only[Lib.keeps,decide_eq_true_eq,not_or,Classical.not_not] at hk;have hm1:l.toArray[m - 1]! = l[m - 1]:=by rw[getElem!_pos l.toArray (m - 1) (by simp;omega)];simp
   rw[hget,hm1] at hk;constructor
   ·exact .inl
   ·rintro (h | h)
    ·exact h
    ·rw[h,hk.2];exact List.mem_take_iff_getElem.2 ⟨m - 1,by omega,rfl⟩
theorem q2y {l:List Int}(hs:l.Pairwise (·≤·)):(Lib.compact l).Pairwise (· < ·)∧∀x,x ∈ Lib.compact l↔x ∈ l:=by
 have:=qay hs l.length (Nat.le_refl _)
 rw[List.take_of_length_le (Nat.le_refl _)] at this;exact this
theorem q2m (zs:List Int):(Lib.compact zs).length≤zs.length:=by
 unfold Lib.compact Lib.compactUpTo;rw[lMa];have:=List.length_filter_le (Lib.keeps zs.toArray) (List.range zs.length)
 simpa using this
theorem q5i (l:List Int):(l.mergeSort fun x y=>decide (x≤y)).Pairwise (·≤·):=(List.pairwise_mergeSort (le:=fun (x y:Int)=>decide (x≤y)) (fun a b c h1 h2=>by
  have:=of_decide_eq_true h1
  have:=of_decide_eq_true h2
  exact decide_eq_true (by omega)) (fun a b=>by
   by_cases h:a≤b
   ·simp[h]
   ·have:b≤a:=by omega
    simp[this]) l).imp fun h=>of_decide_eq_true h
theorem qig {w:World}{g m B:Nat}{d:Array Int}{os:Array Obj}(hB:B≤g)(hg:g < w.heap.size):Below B w (Sort.grow (Sort.putRow (Value.int .i64) (Sort.ahead w m) g 0 d) os):=by
 refine⟨rfl,rfl,rfl,?_,fun k hk=>?_⟩
 ·unfold Sort.putRow Sort.mapBlock Sort.grow Sort.ahead;simp
 ·have hkg:k≠g:=by omega
  have hkl:k < w.heap.size:=by omega
  unfold Sort.putRow Sort.mapBlock Sort.grow Sort.ahead;simp only[Array.getElem?_append,Array.size_modify,hkl,if_true];rw[Array.getElem?_modify,if_neg (fun e=>hkg e.symm)]
theorem qmg {w:World}{g m B:Nat}{d:Array Int}(hB:B≤g):Below B w (Sort.putRow (Value.int .i64) (Sort.ahead w m) g 0 d):=by
 refine⟨rfl,rfl,rfl,?_,fun k hk=>?_⟩
 ·unfold Sort.putRow Sort.mapBlock Sort.ahead;simp
 ·have hkg:k≠g:=by omega
  unfold Sort.putRow Sort.mapBlock Sort.ahead;rw[Array.getElem?_modify,if_neg (fun e=>hkg e.symm)]
theorem jy {W:World}{base e size:Nat}{v:Value}{n:Nat}{xs:List Value}(h:W.ownsRow base e size v n xs):∀g,v.ownBlock=some g→g < W.heap.size:=by
 intro g hg;rcases h.2 with ⟨rfl,_⟩ | ⟨g',cap,cur,rfl,_,hh,_⟩
 ·simp[Value.ownBlock] at hg
 ·have e':g'=g:=by simpa [Value.ownBlock] using hg
  subst e';exact (aIx hh)
theorem q6o (w:World)(base n g cap:Nat)(l:List Int)(hl:l.length=n)(hn:n≤17592186043904)(h:w.ownsRow base 3 1 (.slice (some ⟨g,0,none⟩) n cap) n (l.map q5h)) :
  Calls Tryz.prog 237 #[.slice (some ⟨g,0,none⟩) n cap] w fun e w'=>e=.returned (.tuple #[])∧Below base w w'∧g < w'.heap.size∧Sort.Holds (Value.int .i64) w' g 0 (l.mergeSort fun x y=>decide (x≤y)).toArray:=by
 have hperm:(l.mergeSort fun x y=>decide (x≤y)).Perm l:=List.mergeSort_perm _ _;have hblk:g < w.heap.size:=jy h g rfl;have hbg:base≤g:=qhr h g rfl;rcases h.2 with ⟨e0,h0⟩ | ⟨g',cap',cur,ev,hg,hh,hnc,hcm,hsz,htk⟩
 ·cases e0
 cases ev;obtain⟨a0,c0,hv0,_,hrow,_⟩:=q80 h
 cases hv0;have hfz:∀j,w.frozen? ⟨g,j,none⟩=false:=fun j=>by simp[World.frozen?,hh]
 have hH:Sort.Holds (Value.int .i64) w g 0 l.toArray:=fun j hj=>by
  have hj':j < l.length:=by simpa using hj
  obtain⟨b,off,e,hc⟩:=hrow.ints j l[j] (gEq hj')
  cases e;exact⟨by rw[hc];congr 2;rw[getElem!_pos l.toArray j hj];simp,by rw[Nat.zero_add];exact hfz j⟩
 have hcon:=Tryz.slices_Sort_int g 0 cap l w hH hblk (by omega);rw[hl] at hcon;refine hcon.mono fun e w' ⟨he,m,os,hw⟩=>?_
 subst hw;have hs2:(l.mergeSort fun x y=>decide (x≤y)).toArray.size=l.toArray.size:=by simp[hperm.length_eq]
 have h1:=Sort.holds_putRow (Value.int .i64) (Sort.ahead w m) g 0 l.toArray _ (by exact hH) hs2;have h2:=Sort.holds_grow (Value.int .i64) _ os g 0 _ (by simpa [Sort.putRow,Sort.mapBlock,Sort.ahead] using hblk) h1;have hb:Below base w _:=qig (m:=m) (d:=(l.mergeSort fun x y=>decide (x≤y)).toArray) (os:=os) hbg hblk;exact⟨he,hb,Nat.lt_of_lt_of_le hblk hb.size,h2⟩
theorem q4p (w:World)(base n g cap:Nat)(zs:List Int)(hl:zs.length=n)(hn:n≤17592186043904)(hcap:n≤cap)(hbg:base≤g)(hH:Sort.Holds (Value.int .i64) w g 0 zs.toArray) :
  Calls Tryz.prog 238 #[.slice (some ⟨g,0,none⟩) n cap] w fun e w'=>e=.returned (.slice (some ⟨g,0,none⟩) (Lib.compact zs).length cap)∧Below base w w'∧q2b w' (some ⟨g,0,none⟩) (Lib.compact zs):=by
 have hcon:=Tryz.slices_Compact_int g 0 cap zs w hH (by omega) (by omega);rw[hl] at hcon;refine hcon.mono fun e w' ⟨he,q,hw⟩=>?_
 subst hw;refine⟨he,qmg hbg,fun i x hi=>⟨g,0,rfl,?_⟩⟩;have hle:(Lib.compact zs).length≤zs.length:=q2m zs;have hilt:i < (Lib.compact zs).length:=(List.getElem?_eq_some_iff.1 hi).1;have h1:=Sort.holds_putRow (Value.int .i64) (Sort.ahead w q) g 0 zs.toArray (Lib.compact zs++List.replicate (n - (Lib.compact zs).length) 0).toArray (by exact hH) (by simp;omega);have h2:=(h1 i (by simp;omega)).1;rw[h2,getElem!_pos _ i (by simp;omega)]
 congr 2
 have h3:=(List.getElem?_eq_some_iff.1 hi).2;simp[List.getElem_append_left hilt,h3]
abbrev Pr:=Int × Int
def ltP (p q:Pr):Prop:=p.1 < q.1∨(p.1=q.1∧p.2 < q.2)
instance (p q:Pr):Decidable (ltP p q):=by unfold ltP;infer_instance
theorem q60 (p:Pr):¬ltP p p:=by unfold ltP;omega
theorem qdb {p q r:Pr}(h:ltP p q)(g:ltP q r):ltP p r:=by unfold ltP at *;omega
theorem qdc {p q:Pr}(h:p≠q):ltP p q∨ltP q p:=by
 unfold ltP
 by_cases h1:p.1=q.1
 ·have h2:p.2≠q.2:=fun e=>h (Prod.ext h1 e)
  omega
 ·omega
theorem qmh {p q:Pr}(h:ltP p q):¬ltP q p:=by unfold ltP at *;omega
abbrev Up (l:List Pr):Prop:=l.Pairwise ltP
theorem up_eq:∀{l m:List Pr},Up l→Up m→(∀p,p ∈ l↔p ∈ m)→l=m
 | [],[],_,_,_=>rfl
 | [],q :: m,_,_,h=>absurd ((h q).2 (by simp)) (by simp)
 | p :: l,[],_,_,h=>absurd ((h p).1 (by simp)) (by simp)
 | p :: l,q :: m,h1,h2,h=>by
  obtain⟨a1,a2⟩:=List.pairwise_cons.1 h1;obtain⟨b1,b2⟩:=List.pairwise_cons.1 h2;have e:p=q:=by
   rcases List.mem_cons.1 ((h p).1 (by simp)) with e | hp
   ·exact e
   ·rcases List.mem_cons.1 ((h q).2 (by simp)) with e | hq
    ·exact e.symm
    ·exact absurd (a1 q hq) (qmh (b1 p hp))
  subst e;rw[up_eq a2 b2 fun x=>?_];constructor
  ·intro hx;rcases List.mem_cons.1 ((h x).1 (by simp[hx])) with e | h'
   ·subst e;exact absurd (a1 x hx) (q60 x)
   ·exact h'
  ·intro hx;rcases List.mem_cons.1 ((h x).2 (by simp[hx])) with e | h'
   ·subst e;exact absurd (b1 x hx) (q60 x)
   ·exact h'
def jo (p:Pr):Pr:=(min p.1 p.2,max p.1 p.2)
def inN (l:List Pr)(p:Pr):Prop:=p.1 < p.2∧∃q ∈ l,jo q=p
structure q3t (l m:List Pr):Prop where
 up:Up m
 mem:∀p,p ∈ m↔inN l p
theorem qpk {l m m':List Pr}(h:q3t l m)(h':q3t l m'):m=m':=up_eq h.up h'.up fun p=>(h.mem p).trans (h'.mem p).symm
theorem qpl {l:List Pr}(h:Up l):l.Nodup:=h.imp fun {a b} hab e=>by subst e;exact q60 a hab
theorem q81 {α:Type}[DecidableEq α]:∀{l m:List α},l.Nodup→(∀x ∈ l,x ∈ m)→l.length≤m.length
 | [],_,_,_=>Nat.zero_le _
 | a :: l,m,h,hs=>by
  obtain⟨h1,h2⟩:=List.nodup_cons.1 h;have ha:a ∈ m:=hs a (by simp);have:=q81 (m:=m.erase a) h2 fun x hx=>by
   have hne:x≠a:=fun e=>h1 (e ▸ hx)
   exact (List.mem_erase_of_ne hne).2 (hs x (by simp[hx]))
  rw[List.length_erase_of_mem ha] at this;have hpos:0 < m.length:=List.length_pos_of_mem ha;simp only[List.length_cons];omega
theorem collect_in (F:Fence) (n:Nat) (h43:F.fn 292) (h51:F.fn 302) (hro:F.round=none) (hn:3≤n) (g:Nat) (lb:Array Value) (hFg:F.fn g) (eg:∀args w,(callFunc g args).run Tryz.prog w=.ok (.enter g args) w) (zs:List Int) (hlen:zs.length≤17592186043904) (w:World)
  (hseq:SeqStopsK F (n - 1 - 1) Tryz.prog g lb (fun x:Int=>#[Value.int .i64 x]) (Below w.heap.size) (fun ys=>ys=zs) (fun pre=>pre <+: zs) zs.length (w.alloc (.cells #[.slice none 0 0] 38))) :
  CallsIn F n Tryz.prog  292 #[.func (.func g) #[] lb] w fun e W'=>∃v,e=.returned v∧W'.ownsRow w.heap.size 3 1 v zs.length (zs.map (Value.int .i64))∧Below w.heap.size w W':=by
 refine callsIn_of_wp Tryz.func292 rfl h43 ?_ hro;simp only[Tryz.ntmps292,List.size_toArray,List.length_cons,List.length_nil,Nat.reduceAdd,Nat.reduceSub,Array.replicate_succ,Array.replicate_zero,List.push_toArray,List.append_toArray,List.nil_append,List.cons_append];have h1:1≤n:=by omega
 gi_wp2_with (gi_at_call 302;refine (qif F (n - 1) h51 hro (by omega) g lb hFg eg zs hlen _ hseq).mono ?_;rintro e w' ⟨v,rfl,hrow,hb⟩)
 go_ret
 exact⟨v,rfl,hrow,hb⟩
structure q92 (l m:List Int):Prop where
 up:m.Pairwise (· < ·)
 mem:∀x,x ∈ m↔x ∈ l
 len:m.length≤l.length
theorem qee (a:Option Addr)(len cap:Nat)(w:World):Calls Tryz.prog 272 #[.slice a len cap] w fun e w'=>e=.returned (.func (.func 293) #[] #[.pointer (some ⟨w.heap.size,0,none⟩)])∧w'=w.alloc (.cells #[.slice a len cap] 38) :=
 (callsIn_wide (n:=9)).1 (values_in Fence.wide 9 trivial rfl a len cap w)
theorem qcq (a:Option Addr)(c:Nat)(zs:List Int)(hlen:zs.length≤17592186043904)(w0:World)(hI:q2b w0 a zs)(w:World)(hw:w=w0.alloc (.cells #[.slice a zs.length c] 38)) :
  Calls Tryz.prog 292 #[.func (.func 293) #[] #[.pointer (some ⟨w0.heap.size,0,none⟩)]] w fun e W'=>∃v,e=.returned v∧W'.ownsRow w.heap.size 3 1 v zs.length (zs.map (Value.int .i64))∧Below w.heap.size w W':=by
 refine (callsIn_wide (n:=9)).1 (collect_in Fence.wide 9 trivial trivial rfl (by omega) 293 _ trivial (enters_of Tryz.func293 (by kernel_rfl) rfl) zs hlen w ?_);have hs:w.heap.size=w0.heap.size + 1:=by rw[hw];simp
 have hb:Below w0.heap.size w0 (w.alloc (.cells #[.slice none 0 0] 38)):=by rw[hw];exact (bRf.alloc (Nat.le_refl _) _).alloc (by simp) _
 refine values_stops Fence.wide _ trivial rfl (by omega) w0.heap.size w.heap.size a c zs (by omega) _ (by simp;omega) (by simp) ?_ ?_
 ·rw[World.cell?_of_block (w:=w) (a:=⟨w0.heap.size,0,none⟩) (Below.heap_alloc w _ w0.heap.size (by omega)),hw];exact World.cell?_alloc_new w0 _ _ 0
 ·intro i x hi;obtain⟨b,off,e,hc⟩:=hI i x hi;have hlt:=bLt hc;exact⟨b,off,e,by simp at hlt;omega,(hb.cell (p:=⟨b,off + i,none⟩) hlt).trans hc⟩
theorem qih (a:Option Addr)(c:Nat)(zs:List Int)(n:Nat)(hn:zs.length=n)(hlen:n≤17592186043904)(w0:World)(hI:q2b w0 a zs) :
  Calls Tryz.prog 271 #[.func (.func 293) #[] #[.pointer (some ⟨w0.heap.size,0,none⟩)]] (w0.alloc (.cells #[.slice a n c] 38)) fun e w'=>Below w0.heap.size w0 w'∧∃a2 c2,e=.returned (.slice a2 n c2)∧n≤c2 ∧
   ((n=0)∨∃g,a2=some ⟨g,0,none⟩∧w0.heap.size≤g∧Sort.Holds (Value.int .i64) w' g 0 (zs.mergeSort fun x y=>decide (x≤y)).toArray):=by
 obtain⟨w,hw⟩:=eXa (w0.alloc (.cells #[.slice a n c] 38));have hb0:Below w0.heap.size w0 w:=by rw[hw];exact bRf.alloc (Nat.le_refl _) _
 have C:Hid _:=qcq a c zs (by omega) w0 hI w (by rw[hw,hn]);have HB0:=hid hb0;have HN:=hid hn;rw[←hw];clear hw hb0 hI hn;go_enter Tryz.func271,Tryz.ntmps271;go_wp2_with fail;refine cMo C.out ?_;rintro e w1 ⟨v,rfl,ho,hb1⟩;rw[HN.out] at ho;have HB1:=bTr HB0 hb1;have hs0:w0.heap.size≤w.heap.size:=HB0.out.size
 by_cases h0:n=0
 ·subst h0;obtain⟨a2,c2,rfl,_,_,_⟩:=q80 ho;have S0:Hid _:=Tryz.slices_Sort_int_none a2 c2 w1;clear C ho hb1;go_wp2_with fail;refine cMo S0.out ?_;rintro e w2 ⟨rfl,hw2⟩;subst w2;clear S0
  go_wp2
  go_ret
  first | exact⟨HB1.out,a2,c2,rfl⟩ | exact⟨HB1.out,a2,c2,rfl,Nat.zero_le _,.inl rfl⟩
 ·obtain⟨g,cap,ev,hg,_⟩:=ho.form (by omega);subst ev;obtain⟨_,_,e1,hcap,_,_⟩:=q80 ho
  cases e1;have S1:Hid _:=q6o w1 w.heap.size n g cap zs HN.out hlen ho;clear C ho hb1;go_wp2_with fail;refine cMo S1.out ?_;rintro e w2 ⟨rfl,hb2,_,hH⟩;have HB2:Hid (Below w0.heap.size w0 w2):=HB1.out.trans (hb2.mono hs0);have HH:=hid hH;clear S1 hb2 hH
  go_wp2
  go_ret
  exact⟨HB2.out,_,_,rfl,hcap,.inr ⟨g,rfl,by omega,HH.out⟩⟩
theorem qfp (w:World)(a:Option Addr)(c:Nat)(l:List Int)(n:Nat)(hl:l.length=n)(hn:n≤17592186043904)(h:q2b w a l) :
  Calls Tryz.prog 253 #[.slice a n c] w fun e w'=>Below w.heap.size w w'∧∃a2 c2 m,e=.returned (.slice a2 m.length c2)∧q2b w' a2 m∧m.length≤c2∧q92 l m:=by
 have V:Hid _:=qee a n c w;have S:Hid _:=qih a c l n hl hn w h;have HL:=hid hl;clear hl h;go_enter Tryz.func253,Tryz.ntmps253;go_wp2_with fail;refine cMo V.out ?_;rintro e w1 ⟨rfl,hw1⟩;subst hw1;go_wp2_with fail;refine cMo S.out ?_;rintro e w2 ⟨hb2,a2,c2,rfl,hc2,hd⟩;have HB2:=hid hb2;clear V S hb2;rcases hd with h0 | ⟨g,rfl,hg,hH⟩
 ·subst h0;have C0:Hid _:=Tryz.slices_Compact_int_empty a2 c2 w2;go_wp2_with fail;refine cMo C0.out ?_;rintro e w3 ⟨rfl,hw3⟩;subst w3;clear C0
  go_wp2
  go_ret
  have he:l=[]:=List.eq_nil_of_length_eq_zero HL.out;refine⟨HB2.out,a2,c2,[],rfl,fun i x hi=>by simp at hi,Nat.zero_le _,⟨List.Pairwise.nil,by simp[he],by simp⟩⟩
 ·have hperm:(l.mergeSort fun x y=>decide (x≤y)).Perm l:=List.mergeSort_perm _ _;have hml:(l.mergeSort fun x y=>decide (x≤y)).length=n:=by rw[hperm.length_eq,HL.out]
  have C1:Hid _:=q4p w2 w.heap.size n g c2 (l.mergeSort fun x y=>decide (x≤y)) hml hn hc2 hg hH;have HO:Hid (q92 l (Lib.compact (l.mergeSort fun x y=>decide (x≤y)))):=by
   obtain⟨h1,h2⟩:=q2y (q5i l);exact⟨h1,fun x=>(h2 x).trans hperm.mem_iff,by have:=q2m (l.mergeSort fun x y=>decide (x≤y));rw[hml] at this;rw[HL.out];exact this⟩
  have hle:=q2m (l.mergeSort fun x y=>decide (x≤y));rw[hml] at hle;generalize Lib.compact (l.mergeSort fun x y=>decide (x≤y))=m at *;clear hH hperm;go_wp2_with fail;refine cMo C1.out ?_;rintro e w3 ⟨rfl,hb3,hI3⟩;have HB3:Hid (Below w.heap.size w w3):=HB2.out.trans hb3;have HI3:=hid hI3;clear C1 hb3 hI3
  go_wp2
  go_ret
  exact⟨HB3.out,_,_,m,rfl,HI3.out,by omega,HO.out⟩
structure q2c (l m:List Int):Prop where
 up:m.Pairwise (· < ·)
 mem:∀x,x ∈ m↔x ∈ l∧isV x=true
 le:m.length≤l.length
theorem q74 (w:World)(a:Option Addr)(n c:Nat)(l:List Int)(hl:l.length=n)(hn:n≤17592186043904)(hA:uj w a l)(hV:q1r tq isV w) :
  Calls Tryz.prog 180 #[.slice a n c,(q0r tq)] w fun e w'=>Below w.heap.size w w'∧∃a2 c2 m,e=.returned (.slice a2 m.length c2)∧uj w' a2 m∧m.length≤c2∧q2c (isV:=isV) l m:=by
 obtain⟨iN,hiN,iNz,iNs,iNb⟩:=info_parts q7l;have HA:=hid hA;have HL:=hid hl;have VA:=hid hV;obtain⟨N,hN⟩:=eXb w.heap.size;have HN:=hid hN;rw[hN];clear hA hl hN hV;unfold q0r;go_enter Tryz.func180,Tryz.ntmps180;go_wp2_with fail
 go_loopw [5,10] (fun v5 v10 wx=>∃j k:Nat,j≤n∧k≤j∧v10=.int .i64 j∧Hid (((l.take j).filter isV).length=k)∧Hid (wx.ownsRow N 3 1 v5 k (((l.take j).filter isV).map q5h))∧Hid (Below N w wx)) (fun _ v10 _=>n - (intOf v10).toNat)
 case atStart=>exact⟨0,0,Nat.zero_le _,Nat.zero_le _,rfl,rfl,World.ownsRow_nil _ _ _ _,bRf⟩
 case round =>
  obtain⟨j,k,hj,hkj,rfl,hK,hO,hB⟩:=hrel
  by_cases hlt:j < n
  ·have n1:(j:Int) < (n:Int):=by omega
   obtain⟨x,hx⟩:∃x,l[j]?=some x:=⟨_,gEq (by rw[HL.out];exact hlt)⟩;obtain⟨g,off,rfl,y0⟩:=(HA.out.under (by rw[HN.out];exact hB.out)) j x hx;have htk:l.take (j + 1)=l.take j++[x]:=by rw[List.take_add_one,hx];rfl
   have V1:Hid _:=VA.out wr x (by rw[HN.out];exact hB.out);have HNr:Hid (N≤wr.heap.size):=by have h1:=hB.out.size;have h2:=HN.out;show N≤_;omega
   cases e1:isV x with
   | false =>
    rw[e1] at V1;have hf:(l.take (j + 1)).filter isV=(l.take j).filter isV:=by rw[htk,List.filter_append];simp[e1]
    have K2:Hid (((l.take (j + 1)).filter isV).length=k):=by show _=_;rw[hf];exact hK.out
    have O2:Hid (wr.ownsRow N 3 1 u5 k (((l.take (j + 1)).filter isV).map q5h)):=by show World.ownsRow _ _ _ _ _ _ _;rw[hf];exact hO.out
    clear hf htk hx e1 hO hK;go_wp2_with fail;refine cMo V1.out ?_;rintro e w1 ⟨rfl,hb1⟩;have O3:Hid (w1.ownsRow N 3 1 u5 k (((l.take (j + 1)).filter isV).map q5h)):=S.M.qh O2.out (S.M.Ch.oB (X:=fun _=>False) hb1) fun _ _ e=>e
    have B1:Hid (Below N w w1):=hB.out.trans (hb1.mono HNr.out);clear hb1
    go_wp2
    exact⟨⟨j + 1,k,by omega,by omega,by go_num,K2.out,O3.out,B1.out⟩,by simp[intOf];omega⟩
   | true =>
    rw[e1] at V1;have hf:(l.take (j + 1)).filter isV=(l.take j).filter isV++[x]:=by rw[htk,List.filter_append];simp[e1]
    have K2:Hid (((l.take (j + 1)).filter isV).length=k + 1):=by show _=_;rw[hf,lAp,hK.out];rfl
    have HF:Hid (((l.take (j + 1)).filter isV).map q5h=((l.take j).filter isV).map q5h++[.int .i64 x]):=by show _=_;rw[hf,List.map_append];rfl
    clear hf htk hx e1 hK;go_wp2_with fail;refine cMo V1.out ?_;rintro e w1 ⟨rfl,hb1⟩;have HO1:Hid (w1.ownsRow N 3 1 u5 k (((l.take j).filter isV).map q5h)):=S.M.qh hO.out (S.M.Ch.oB (X:=fun _=>False) hb1) fun _ _ e=>e
    have HB1:Hid (Below N w w1):=hB.out.trans (hb1.mono HNr.out);have HN1:Hid (N≤w1.heap.size):=nLt HNr.out hb1.size;clear hb1 hO hB
    go_wp2_with (at_builtin;refine wpList_append_lies (w:=w1.alloc (.cells #[.int .i64 x] 3)) rfl _ _ 38 rfl N 3 iN _ 1 8 Tryz.underlying38 hiN iNz iNs iNb rfl (by decide) _ k (((l.take j).filter isV).map q5h) (by rfl) (S.M.zk HO1.out _) ⟨w1.heap.size,0,none⟩ 1 1 [.int .i64 x] (by rfl) (by rfl) (World.news_of_block (cs:=#[.int .i64 x]) (t:=3) (fr:=(0,0)) (heap_alloc_new w1 _)) (by simp[Value.oneCell']) (by omega) (by unfold maxLen;omega) (by omega) (nLt HN1.out (qo w1 _).size) _ rfl ?_;intro gg cap' w8 hown8 hgrow hat hlt8;have O8:Hid (w8.ownsRow N 3 1 (.slice (some ⟨gg,0,none⟩) (k + 1) cap') (k + 1) (((l.take (j + 1)).filter isV).map q5h)):=(by show World.ownsRow _ _ _ _ _ _ _;rw[HF.out];exact hown8);have B8:Hid (Below N w w8):=HB1.out.trans (((Below.refl _ w1).alloc HN1.out _).trans (bRf.grown hgrow (nLt HN1.out (qo w1 _).size) (S.M.zf HO1.out)));clear hown8 hgrow hat hlt8)
    exact⟨⟨j + 1,k + 1,by omega,by omega,by go_num,K2.out,O8.out,B8.out⟩,by simp[intOf];omega⟩
  ·have n1:¬(j:Int) < (n:Int):=by omega
   have hall:l.take j=l:=List.take_of_length_le (by rw[HL.out];omega);have hO2:=hO.out;have hK2:=hK.out;rw[hall] at hO2 hK2
   by_cases h0:k=0
   ·subst h0;obtain⟨a5,c5,rfl,_⟩:=ql hO2;have S1:Hid _:=Tryz.slices_Sort_int_none a5 c5 wr;have S2:Hid _:=Tryz.slices_Compact_int_empty a5 c5 wr;have HV:Hid (q2c (isV:=isV) l []):=by
     have he:l.filter isV=[]:=List.eq_nil_of_length_eq_zero hK2;refine⟨List.Pairwise.nil,fun x=>⟨(fun h=>by cases h),fun h=>?_⟩,Nat.zero_le _⟩;have hm:x ∈ l.filter isV:=List.mem_filter.2 h;rw[he] at hm;exact hm
    clear hO hO2 hK hK2 hall;go_wp2_with fail;refine cMo S1.out ?_;rintro e wz ⟨rfl,hwz⟩;subst wz;go_wp2_with fail;refine cMo S2.out ?_;rintro e wz ⟨rfl,hwz⟩;subst wz
    go_wp2
    go_ret
    exact⟨hB.out,a5,c5,[],rfl,(fun i x hi=>by simp at hi),Nat.zero_le _,HV.out⟩
   ·obtain⟨g,c5,rfl,hc5,hg5,_⟩:=S.M.q0h hO2 (by omega);obtain⟨ms,hms⟩:=eXb ((l.filter isV).mergeSort (fun x y=>decide (x≤y)));have hperm:ms.Perm (l.filter isV):=by rw[←hms];exact List.mergeSort_perm _ _
    have hml:ms.length=k:=by rw[hperm.length_eq,hK2]
    have S1:Hid _:=q6o wr N k g c5 (l.filter isV) hK2 (by omega) hO2;rw[hms] at S1;have HV:Hid (q2c (isV:=isV) l (Lib.compact ms)):=by
     obtain⟨h1,h2⟩:=q2y (q5i (l.filter isV));rw[hms] at h1 h2;refine⟨h1,fun x=>(h2 x).trans (hperm.mem_iff.trans List.mem_filter),?_⟩;have:=q2m ms
     rw[HL.out];omega
    have hle:=q2m ms;rw[hml] at hle;have HM:=hid hml;clear hO hO2 hK hK2 hall hms hperm hml;go_wp2_with fail;refine cMo S1.out ?_;rintro e w2 ⟨rfl,hb2,_,hH⟩;have B2:Hid (Below N w w2):=hB.out.trans hb2;have C1:Hid _:=q4p w2 N k g c5 ms HM.out (by omega) hc5 hg5 hH;clear S1 hb2 hH hB;generalize Lib.compact ms=m at *;go_wp2_with fail;refine cMo C1.out ?_;rintro e w3 ⟨rfl,hb3,hI⟩;have B3:Hid (Below N w w3):=B2.out.trans hb3;have HI:=hid hI;clear C1 hb3 hI;obtain⟨nm,hnm⟩:=eXb m.length;have HNM:Hid (m.length=nm∧nm≤c5):=⟨hnm,by omega⟩;rw[hnm];clear hnm hle
    go_wp2
    go_ret
    exact⟨B3.out,some ⟨g,0,none⟩,c5,m,by rw[HNM.out.1];rfl,HI.out,by rw[HNM.out.1];exact HNM.out.2,HV.out⟩
theorem q5j (w:World)(a:Option Addr)(n c:Nat)(l:List Int)(hl:l.length=n)(hn:n≤17592186043904)(hA:uj w a l)(hV:q1r tq isV w) :
  Calls Tryz.prog 126 #[.slice a n c,(q0r tq)] w fun e w'=>Below w.heap.size w w'∧∃a2 c2 m,e=.returned (.slice a2 m.length c2)∧uj w' a2 m∧m.length≤c2∧q2c (isV:=isV) l m:=by
 have P:Hid _:=q74 w a n c l hl hn hA hV;clear hA hV;unfold q0r at P ⊢;go_enter Tryz.func126,Tryz.ntmps126;go_wp2_with fail;refine cMo P.out ?_;rintro e w2 ⟨hb,a2,c2,m,rfl,h1,h2,h3⟩;have HB:Hid (Below w.heap.size w w2∧uj w2 a2 m∧m.length≤c2∧q2c (isV:=isV) l m):=⟨hb,h1,h2,h3⟩;clear hb h1 h2 h3 P;obtain⟨nm,hnm⟩:=eXb m.length;have HN:=hid hnm;rw[hnm];clear hnm
 go_wp2
 go_ret
 exact⟨HB.out.1,a2,c2,m,by rw[HN.out];rfl,HB.out.2.1,HB.out.2.2.1,HB.out.2.2.2⟩
def uw (l:List Sa)(e:List Int):Int:=match e with
 | []=>72
 | x :: r=>if isV x=true then 72 else if ((x :: r).any fun v=>isV v && (tyA l v).isNone)=true then 70 else 0
theorem qii {l:List Sa}{e m:List Int}(h:q2c (isV:=isV) e m):(e.any fun v=>isV v && (tyA l v).isNone)=m.any fun v=>(tyA l v).isNone:=by
 rw[Bool.eq_iff_iff,List.any_eq_true,List.any_eq_true];constructor
 ·rintro⟨v,hv,h1⟩;rw[Bool.and_eq_true] at h1;exact⟨v,(h.mem v).2 ⟨hv,h1.1⟩,h1.2⟩
 ·rintro⟨v,hv,h1⟩;obtain⟨h2,h3⟩:=(h.mem v).1 hv;exact⟨v,h2,by rw[h3,h1];rfl⟩
theorem qdd (w:World)(O:Nat→Prop)(P:Nat)(vS:Value)(xs:List ScC)(a:Option Addr)(n c:Nat)(e:List Int)(h:qw tq O w P vS xs)(hV:q1r tq isV w)(hx:xs.length≤1048576)(hl:e.length=n)(hn:n≤17592186043904)(hA:uj w a e)(hw:∀x ∈ e,wfN x) :
  Calls Tryz.prog 231 #[.pointer (some ⟨P,0,none⟩),.slice a n c] w fun ee w'=>ee=.returned (.int .i64 (uw (isV:=isV) (xs.map jm) e))∧Below w.heap.size w w':=by
 obtain⟨x0,x1⟩:=h.cells;unfold q0r at x0;have HS:=hid h;have VA:=hid hV;have EV:Hid (∀wx,Below w.heap.size w wx→Calls Tryz.prog 126 #[.slice a n c,.func (.func 70) #[.pointer (some ⟨tq,0,none⟩)] #[]] wx fun ee w'=>Below w.heap.size w w'∧∃a2 c2 m,ee=.returned (.slice a2 m.length c2)∧uj w' a2 m∧m.length≤c2∧q2c (isV:=isV) e m):=fun wx hb=>by
  have h1:=q5j wx a n c e hl hn (hA.under hb) (fun wy v hy=>hV wy v (hb.trans (hy.mono hb.size)));refine h1.mono ?_;rintro ee w' ⟨hb2,h2⟩;exact⟨hb.trans (hb2.mono hb.size),h2⟩
 have HL:Hid (e.length=n∧xs.length≤1048576∧∀x ∈ e,wfN x):=⟨hl,hx,hw⟩
 cases e with
 | nil =>
  have hn0:n=0:=hl.symm;subst hn0;clear h hl hA EV hV;go_enter Tryz.func231,Tryz.ntmps231;go_wp2_with fail
  go_quiet (fail)
  go_wp2
  go_ret
  exact⟨rfl,xu bRf _⟩
 | cons x r =>
  obtain⟨g,off,rfl,y0⟩:=hA 0 x rfl;rw[Nat.add_zero] at y0;have hn0:0 < n:=by rw[←hl];simp
  have n0:¬(n:Int)=0:=by omega
  have n00:((n:Int) == 0)=false:=by simp;omega
  have n1:(0:Int) < (n:Int):=by omega
  cases e1:isV x with
  | true =>
   have HE:Hid (uw (isV:=isV) (xs.map jm) (x :: r)=72):=by show _=_;unfold uw;dsimp only;rw[if_pos e1]
   have V1:Hid (∀wx,Below w.heap.size w wx→Calls Tryz.prog 70 #[.pointer (some ⟨tq,0,none⟩),.int .i64 x] wx fun e w'=>e=.returned (.bool true)∧w'.cell? ⟨P,0,none⟩=some (.func (.func 70) #[.pointer (some ⟨tq,0,none⟩)] #[])∧w'.cell? ⟨g,off,none⟩=some (.int .i64 x)∧Hid (Below w.heap.size w w')):=fun wx hb=>by
    have h:=VA.out wx x hb;rw[e1] at h;refine h.mono ?_;rintro e w' ⟨he,hw⟩;have hb2:=hb.trans (hw.mono hb.size);exact⟨he,(hb2.cell (p:=⟨P,0,none⟩) (bLt x0)).trans x0,(hb2.cell (p:=⟨g,off,none⟩) (bLt y0)).trans y0,hb2⟩
   clear h hl hA EV hV e1;go_enter Tryz.func231,Tryz.ntmps231;go_wp2_with fail
   go_region_held3 (fun w'=>w'.cell? ⟨P,0,none⟩=some (.func (.func 70) #[.pointer (some ⟨tq,0,none⟩)] #[])∧w'.cell? ⟨g,off,none⟩=some (.int .i64 x)∧Hid (Below w.heap.size w w')) (refine⟨?_,?_,?_⟩ <;> first | assumption | exact Below.drew (Below.refl _ w))
    (first | (refine (V1.out _ ?_).mono ?_;(first | assumption | exact (by assumption:_∧_∧Hid (Below w.heap.size w _)).2.2);rintro e w1 ⟨rfl,d1,d2,d3⟩))
   go_wp2
   go_ret
   exact⟨by rw[HE.out];rfl,d3.out⟩
  | false =>
   have V1:Hid (∀wx,Below w.heap.size w wx→Calls Tryz.prog 70 #[.pointer (some ⟨tq,0,none⟩),.int .i64 x] wx fun e w'=>e=.returned (.bool false)∧w'.cell? ⟨P,0,none⟩=some (.func (.func 70) #[.pointer (some ⟨tq,0,none⟩)] #[])∧w'.cell? ⟨g,off,none⟩=some (.int .i64 x)∧Hid (Below w.heap.size w w')):=fun wx hb=>by
    have h:=VA.out wx x hb;rw[e1] at h;refine h.mono ?_;rintro e w' ⟨he,hw⟩;have hb2:=hb.trans (hw.mono hb.size);exact⟨he,(hb2.cell (p:=⟨P,0,none⟩) (bLt x0)).trans x0,(hb2.cell (p:=⟨g,off,none⟩) (bLt y0)).trans y0,hb2⟩
   have HE:Hid (∀m,q2c (isV:=isV) (x :: r) m→uw (isV:=isV) (xs.map jm) (x :: r)=if (m.any fun v=>(tyA (xs.map jm) v).isNone)=true then 70 else 0):=fun m hm=>by
    unfold uw;dsimp only;rw[e1,if_neg (by simp),qii hm]
   clear h hl hA e1 hV;go_enter Tryz.func231,Tryz.ntmps231;go_wp2_with fail
   go_region_held3 (fun w'=>w'.cell? ⟨P,0,none⟩=some (.func (.func 70) #[.pointer (some ⟨tq,0,none⟩)] #[])∧w'.cell? ⟨g,off,none⟩=some (.int .i64 x)∧Hid (Below w.heap.size w w')) (refine⟨?_,?_,?_⟩ <;> first | assumption | exact Below.drew (Below.refl _ w))
    (first | (refine (V1.out _ ?_).mono ?_;(first | assumption | exact (by assumption:_∧_∧Hid (Below w.heap.size w _)).2.2);rintro e w1 ⟨rfl,d1,d2,d3⟩))
   have E1:Hid _:=EV.out w1 d3.out;clear EV VA V1 x0 x1 y0 d2;go_wp2_with fail;refine cMo E1.out ?_;rintro ee w2 ⟨hb2,a2,c2,m,rfl,hI,hc,hm⟩;have B2:=hid hb2;have HI:=hid hI;have HE2:=HE.out m hm;have HE3:=hid HE2;have HWF:Hid (∀v ∈ m,wfN v):=fun v hv=>HL.out.2.2 v ((hm.mem v).1 hv).1
   have hmb:m.length≤n:=by have h1:=hm.le;rw[HL.out.1] at h1;exact h1
   obtain⟨nm,hnm⟩:=eXb m.length;have HM:=hid hnm;rw[hnm] at hmb;rw[hnm];clear hb2 hI hm HE HE2 E1 hc hnm d1;go_wp2_with fail
   go_loopw [29] (fun i wx=>∃j:Nat,j≤nm∧i=.int .i64 j∧Hid (((m.take j).any fun v=>(tyA (xs.map jm) v).isNone)=false)∧Hid (Below w2.heap.size w2 wx)) (fun i _=>nm - (intOf i).toNat)
   case atStart=>exact⟨0,Nat.zero_le _,rfl,rfl,bRf⟩
   case round =>
    obtain⟨j,hj,rfl,hN,hB⟩:=hrel;have B3:Hid (Below w.heap.size w wr):=B2.out.trans (hB.out.mono B2.out.size)
    by_cases hlt:j < nm
    ·have j1:(j:Int) < (nm:Int):=by omega
     obtain⟨v,hv⟩:∃v,m[j]?=some v:=⟨_,gEq (by rw[HM.out];exact hlt)⟩;obtain⟨g2,o2,rfl,z0⟩:=(HI.out.under hB.out) j v hv;have TY:Hid _:=qav wr O P vS xs v (HS.out.below B3.out) HL.out.2.1 (HWF.out v (mGe hv));rw[qaa] at TY;have htk:m.take (j + 1)=m.take j++[v]:=by rw[List.take_add_one,hv];rfl
     cases ht:tyA (xs.map jm) v with
     | none =>
      rw[ht] at TY;have HF:Hid (uw (isV:=isV) (xs.map jm) (x :: r)=70):=by
       show _=_
       rw[HE3.out,if_pos];rw[List.any_eq_true];exact⟨v,mGe hv,by rw[ht];rfl⟩
      clear ht htk hv;go_wp2_with fail;refine cMo TY.out ?_;rintro e w5 ⟨rfl,hb5⟩;have B5:=bTr B3 hb5;clear hb5 TY
      go_wp2
      go_ret
      exact⟨by rw[HF.out];rfl,B5.out⟩
     | some t =>
      rw[ht] at TY;have HN2:Hid (((m.take (j + 1)).any fun v=>(tyA (xs.map jm) v).isNone)=false):=by
       show _=_
       rw[htk,List.any_append,hN.out];simp[ht]
      clear ht htk hv;go_wp2_with fail;refine cMo TY.out ?_;rintro e w5 ⟨rfl,hb5⟩;have B5:=bTr hB hb5;clear hb5 TY
      go_wp2
      exact⟨⟨j + 1,by omega,by go_num,HN2.out,B5.out⟩,by simp[intOf];omega⟩
    ·have j1:¬(j:Int) < (nm:Int):=by omega
     have HF:Hid (uw (isV:=isV) (xs.map jm) (x :: r)=0):=by
      show _=_
      have h:=hN.out;rw[List.take_of_length_le (by rw[HM.out];omega)] at h;rw[HE3.out,h,if_neg (by simp)]
     go_wp2
     go_ret
     exact⟨by rw[HF.out];rfl,B3.out⟩
def q4x (l:List Sa)(lab:ByteArray)(e:List Int):List Sa:=if uw (isV:=isV) l e=0 then q1c (fun a=>⟨a.hs++[⟨lab,false,-1,e⟩],a.ps⟩) l else l
theorem qpm (w:World)(O:Nat→Prop)(P:Nat)(vS:Value)(xs:List ScC)(lab:ByteArray)(a:Option Addr)(n c:Nat)(e:List Int)(h:qw tq O w P vS xs)(hV:q1r tq isV w)(h0:0 < xs.length)(hx:xs.length≤1048576)(hm:∀x ∈ xs,x.hs.length≤1048576)(hlab:lab.size≤281474976710656)(hl:e.length=n)(hn:n≤17592186043904)(hA:uj w a e)(hw:∀x ∈ e,wfN x) :
  Calls Tryz.prog 172 #[.pointer (some ⟨P,0,none⟩),.string lab,.slice a n c] w (Decl (tq:=tq) O w P (uw (isV:=isV) (xs.map jm) e) (q4x (isV:=isV) (xs.map jm) lab e)):=by
 have HS:=hid h;have JD:Hid _:=qdd w O P vS xs a n c e h hV hx hl hn hA hw;have HM:Hid (0 < xs.length∧xs.length≤1048576∧(∀x ∈ xs,x.hs.length≤1048576)∧lab.size≤281474976710656∧e.length=n∧uj w a e):=⟨h0,hx,hm,hlab,hl,hA⟩;clear h h0 hx hm hlab hl hA hw hV;obtain⟨E,hE⟩:=eXb (uw (isV:=isV) (xs.map jm) e);rw[hE] at JD ⊢
 by_cases e0:E=0
 ·subst e0;obtain⟨ys,x,hxs⟩:∃ys x,xs=ys++[x]:=⟨xs.dropLast,xs.getLast (List.ne_nil_of_length_pos HM.out.1),(List.dropLast_concat_getLast _).symm⟩;have HE:Hid (q4x (isV:=isV) (xs.map jm) lab e=ys.map jm++[⟨x.hs.map (·.h)++[⟨lab,false,-1,e⟩],x.ps⟩]):=by
   show _=_
   unfold q4x;rw[hE,if_pos rfl,hxs,List.map_append];exact q52 _ _ _
  clear hE;go_enter Tryz.func172,Tryz.ntmps172;go_wp2_with fail;refine cMo JD.out ?_;rintro ee w5 ⟨rfl,hb5⟩;have S5:=HS.out.below hb5;obtain⟨g,cc,cs,hvS,hcs,hcell⟩:=S5.shape HM.out.1;subst hxs;have hlen:(ys++[x]).length=ys.length + 1:=by rw[lAp];rfl
  rw[hlen] at hvS;subst hvS;have IN:Hid _:=q91 w5 O P g (ys.length + 1) cc (ys++[x]) hlen (by omega) (by have:=HM.out.2.1;omega) S5;rw[show (ys.length + 1 - 1) * 3=ys.length * 3 by omega] at IN;have hxat:(ys++[x])[ys.length]?=some x:=by simp
  have FL:Hid (∀q,Calls Tryz.prog 232 #[.pointer (some ⟨g,ys.length * 3,none⟩),.string lab,.slice a n c] (w5.drewN q) fun ee w'=>ee=.returned (.tuple #[])∧∃vl' ve,Put (w5.drewN q) w' g (ys.length * 3) cs x vl' ve ⟨lab,false,-1,e⟩ x.mn):=fun q =>
   qec (w5.drewN q) O g (ys.length * 3) cs x lab a n c e hcs (hcell ys.length 0 x hxat (by omega)) ((S5.below (xu bRf q)).each x (by simp)) (HM.out.2.2.1 x (by simp)) HM.out.2.2.2.1 HM.out.2.2.2.2.1 (by omega) (HM.out.2.2.2.2.2.under (xu hb5 q))
  have HS5:Hid (qw tq O w5 P (.slice (some ⟨g,0,none⟩) (ys.length + 1) cc) (ys++[x])∧w5.heap[g]?=some (.cells cs 225 (0,0))∧Below w.heap.size w w5):=⟨S5,hcs,hb5⟩;obtain⟨ny,hny⟩:=eXb ys.length;rw[hny] at IN FL;have HNY:=hid hny;clear S5 hcs hcell hb5 JD hlen hxat hny;go_wp2_with fail;refine cMo IN.out ?_;rintro ee wz ⟨rfl,q,hwz⟩;subst hwz;go_wp2_with fail;refine cMo (FL.out q) ?_;rintro ee w7 ⟨rfl,vl',ve,hp⟩;have FI:Hid (Decl (tq:=tq) O w P 0 (ys.map jm++[⟨x.hs.map (·.h)++[⟨lab,false,-1,e⟩],x.ps⟩]) (.returned (.int .i64 0)) w7):=by
   have S6:=HS5.out.1.below (xu bRf q);rw[←HNY.out] at hp;obtain⟨k1,k2⟩:=S6.put (g:=g) HS5.out.2.1 hp (by have:=(S6.each x (by simp)).mc;omega);have bq:Below w.heap.size w (w5.drewN q):=xu HS5.out.2.2 q;refine⟨rfl,_,_,k1.up (fun b hb=>?_) (fun b hb=>?_),?_,(S.M.Ch.oB bq).trans k2⟩
   ·rcases hb with hb | hb
    ·exact .inl hb
    ·exact .inr ⟨nLt bq.size hb.1,hb.2⟩
   ·rcases hb with hb | hb
    ·exact Nat.lt_of_lt_of_le (S6.lt b hb) k2.size
    ·exact hb.2
   ·simp[jm]
  clear hp IN FL
  go_wp2
  go_ret
  rw[HE.out];exact FI.out
 ·have z:(E == 0)=false:=by simp;exact e0
  have HE:Hid (q4x (isV:=isV) (xs.map jm) lab e=xs.map jm):=by show _=_;unfold q4x;rw[hE,if_neg e0]
  clear hE;go_enter Tryz.func172,Tryz.ntmps172;go_wp2_with fail;refine cMo JD.out ?_;rintro ee w5 ⟨rfl,hb5⟩;have B5:=hid hb5;clear hb5 JD
  go_wp2
  go_ret
  rw[HE.out];exact Decl.same HS.out B5.out
end F
end Go.Proofs.YtbancemhfjjmlaaGreatDoor
