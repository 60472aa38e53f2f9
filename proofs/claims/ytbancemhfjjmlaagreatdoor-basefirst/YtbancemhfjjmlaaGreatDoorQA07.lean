/- Laid together: YPure, YKinds, YSymMap, YShelf, YSymTab, YSymReads, YSymActive, YSymOpen, YSymLies. -/
import Derived.Test.YtbancemhfjjmlaaGreatDoorProg
import Derived.WalkKit
import Derived.WalkLawsBesides
import Derived.WalkSpells
import Derived.BigQuiet
import Derived.Deep.QuietTactic
import Derived.Maps.OwnSet
import Derived.Shelf.LaysM
import Derived.Shelf.Strconv.Clone
import Derived.Ground.Names2Prog
import Derived.Shelf.Slices.Clone
import Derived.Ground.SlgnProg
import Derived.Shelf.SlicesE.Clone
import Derived.Deep.AppendLies
set_option maxRecDepth 100000
set_option maxHeartbeats 32000000
namespace Go.Proofs.YtbancemhfjjmlaaGreatDoor
namespace Y
def tbl:List Int:=[0,0,0,0,0,0,0,0,0,1,1,0,1,1,0,0,0,0,0,0,0,0,0,0,0,0,0,0,0,0,0,0,1,3,3,3,2,3,3,3,3,3,3,3,3,4,4,3,4,4,4,4,4,4,4,4,4,4,3,3,3,3,3,3,3,4,4,4,4,4,4,4,4,4,4,4,4,4,4,4,4,4,4,4,4,4,4,4,4,4,4,3,3,3,3,4,3,4,4,4,4,4,4,4,4,4,4,4,4,4,4,4,4,4,4,4,4,4,4,4,4,4,4,3,3,3,3,0]
def xq (c:Int):Int:=if c < 128 then tbl.getD c.toNat 0 else 0
theorem q7o:∀i:Nat,i < 128→0≤tbl.getD i 0∧tbl.getD i 0≤4:=by decide
theorem q8i (c:Int)(h0:0≤c):0≤xq c∧xq c≤4:=by
 unfold xq
 split
 ·exact q7o c.toNat (by omega)
 ·omega
theorem take_snoc (s:ByteArray)(k:Nat)(h:k < s.size):s.data.toList.take (k + 1)=s.data.toList.take k++[s[k]]:=by
 rw[List.take_succ_eq_append_getElem (by simpa using h)];rfl
theorem q6w {p:UInt8→Bool}{s:ByteArray}{k:Nat}(h:k < s.size)(ha:(s.data.toList.take k).all p=true)(hp:p s[k]=true):(s.data.toList.take (k + 1)).all p=true:=by
 rw[take_snoc s k h];simp[ha,hp]
theorem q6x {p:UInt8→Bool}{s:ByteArray}{k:Nat}(h:s.size≤k)(ha:(s.data.toList.take k).all p=true):s.data.toList.all p=true:=by
 rwa [List.take_of_length_le (by simpa using h)] at ha
theorem q6y {p:UInt8→Bool}{s:ByteArray}{k:Nat}(h:k < s.size)(hp:p s[k]=false):s.data.toList.all p=false:=by
 rw[List.all_eq_false]
 refine⟨s[k],?_,by simp[hp]⟩
 have:s.data.toList[k]'(by simpa using h)=s[k]:=rfl
 rw[←this];exact List.getElem_mem _
def gy (s:ByteArray)(k:Int):Bool:=decide (1≤s.size) && decide (s.size≤32) && s.data.toList.all (fun b=>decide (k≤xq b.toNat))
theorem q8j (s:ByteArray)(k:Int)(h:s.size < 1):gy s k=false:=by
 unfold gy;rw[decide_eq_false (show ¬1≤s.size by omega)];rfl
theorem q9h (s:ByteArray)(k:Int)(h:32 < s.size):gy s k=false:=by
 unfold gy;rw[decide_eq_false (show ¬s.size≤32 by omega)];simp
theorem qdq (s:ByteArray)(k:Int)(h1:1≤s.size)(h2:s.size≤32):gy s k=s.data.toList.all (fun b=>decide (k≤xq b.toNat)):=by
 unfold gy;simp[h1,h2]
end Y
namespace Y
open Go.RowKit
def KB (w:World):Prop:=∀i:Nat,i < 128→w.cell? ⟨1,i,none⟩=some (.int .u8 (tbl.getD i 0))
theorem q58 {k:IntKind}{a b:Int}(h:a=b):Ending.returned (.int k a)=.returned (.int k b):=by rw[h]
theorem q26 {a b:Bool}(h:a=b):Ending.returned (.bool a)=.returned (.bool b):=by rw[h]
theorem q28 (c:Int)(w:World)(h0:0≤c)(h1:c < 256)(hk:KB w) :
  Calls Tryz.prog 120 #[.int .u8 c] w fun e w'=>e=.returned (.int .u8 (xq c))∧w'=w:=by
 by_cases hc:c < 128
 ·have hcell:=hk c.toNat (by omega)
  have hkf:Hid (xq c=tbl.getD c.toNat 0):=by unfold xq;rw[if_pos hc];rfl
  clear hk
  go_enter Tryz.func120,Tryz.ntmps120
  go_wp2
  go_ret
  exact⟨q58 (by rw[hkf.out];simp),rfl⟩
 ·have hkf:Hid (xq c=0):=by unfold xq;rw[if_neg hc];rfl
  clear hk
  go_enter Tryz.func120,Tryz.ntmps120
  go_wp2
  go_ret
  exact⟨q58 (by rw[hkf.out]),rfl⟩
theorem q66 (b:UInt8):((b.toNat:Nat):Int) < 256:=by have:=b.toNat_lt;omega
theorem q9n (s:ByteArray)(k:Int)(w:World)(hs:s.size≤maxLen)(_k0:0≤k)(_k1:k≤4)(hKB:KB w) :
  Calls Tryz.prog 213 #[.string s,.int .u8 k] w fun e w'=>e=.returned (.bool (gy s k))∧w'=w:=by
 unfold maxLen at hs
 by_cases h1:s.size < 1
 ·have hm:Hid (gy s k=false):=q8j s k h1
  clear hKB
  go_enter Tryz.func213,Tryz.ntmps213
  go_wp2
  go_ret
  exact⟨q26 (by rw[hm.out]),rfl⟩
 by_cases h2:32 < s.size
 ·have hm:Hid (gy s k=false):=q9h s k h2
  clear hKB
  go_enter Tryz.func213,Tryz.ntmps213
  go_wp2
  go_ret
  exact⟨q26 (by rw[hm.out]),rfl⟩
 have hm:Hid (gy s k=s.data.toList.all (fun b=>decide (k≤xq b.toNat))):=qdq s k (by omega) (by omega)
 go_enter Tryz.func213,Tryz.ntmps213
 go_wp2
 go_loop [16] (fun i=>∃n:Nat,n≤s.size∧i=.int .i64 n∧Hid ((s.data.toList.take n).all (fun b=>decide (k≤xq b.toNat))=true)) (fun i=>s.size - (intOf i).toNat)
 case atStart=>exact⟨0,Nat.zero_le _,rfl,rfl⟩
 case round =>
  obtain⟨n,hn,rfl,ha⟩:=hrel
  by_cases hlt:n < s.size
  ·go_wp2_with (go_at_call 120;refine (q28 _ _ (Int.natCast_nonneg _) (q66 _) hKB).mono ?_;rintro e w' ⟨rfl,rfl⟩)
   ·have hk:xq s[n].toNat < k:=by assumption
    go_ret
    exact⟨q26 (by rw[hm.out,q6y hlt (by simpa using hk)]),rfl⟩
   ·have hk:k≤xq s[n].toNat:=by assumption
    go_round
    case rel=>exact⟨n + 1,by omega,by go_num,q6w hlt ha.out (by simpa using hk)⟩
    case measure=>simp[intOf];omega
  ·go_wp2
   go_ret
   exact⟨q26 (by rw[hm.out,q6x (by omega) ha.out]),rfl⟩
theorem name_any (s:ByteArray)(w:World)(hs:s.size≤maxLen)(hKB:KB w) :
  Calls Tryz.prog 154 #[.string s] w fun e w'=>e=.returned (.bool (gy s 4))∧w'=w:=by
 go_enter Tryz.func154,Tryz.ntmps154
 go_wp2_with (go_at_call 213;refine (q9n _ _ _ hs (by omega) (by omega) hKB).mono ?_;rintro e w' ⟨rfl,rfl⟩)
 go_ret
 exact⟨rfl,rfl⟩
theorem q15 (s:ByteArray)(w:World)(hs:s.size≤maxLen)(hKB:KB w) :
  Calls Tryz.prog 158 #[.string s] w fun e w'=>e=.returned (.bool (gy s 3))∧w'=w:=by
 go_enter Tryz.func158,Tryz.ntmps158
 go_wp2_with (go_at_call 213;refine (q9n _ _ _ hs (by omega) (by omega) hKB).mono ?_;rintro e w' ⟨rfl,rfl⟩)
 go_ret
 exact⟨rfl,rfl⟩
end Y
namespace Y
open Go.Maps Go.RowKit Go.WideMaps
open Go.ChangeMaps (setBlock heap_setBlock_other)
theorem qmm:Keyed Tryz.prog 9:=string_keyed Tryz.underlying9
theorem zero3 (w:World):(zeroValue 3).run Tryz.prog w=.ok (.int .i64 0) w:=by kernel_rfl
def q73 (s:ByteArray):Lit:=.string s.data.toList
theorem qe1 {s t:ByteArray}(h:q73 s=q73 t):s=t:=by
 unfold q73 at h
 have h':s.data.toList=t.data.toList:=by simpa using h
 obtain⟨⟨a⟩⟩:=s
 obtain⟨⟨b⟩⟩:=t
 have:a=b:=h'
 rw[this]
theorem q95 {s:ByteArray}(hs:s.size≤maxLen):keyOf Tryz.prog 9 (.string s)=some (q73 s):=keyOf_string_mk Tryz.underlying9 hs
theorem qe2 (s:ByteArray):WideAt.IsKeyLit (q73 s):=by unfold q73;simp[WideAt.IsKeyLit]
def qmn:DataW Unit:=.lit (.int .i64 0)
def jd (W:World)(b n:Nat)(f:ByteArray→Option Nat):Prop :=
 ∃D:DataW Unit,W.ownsMap Tryz.prog 9 (plainElem Tryz.prog 3) b n D∧∀s,has D (q73 s)=(f s).isSome∧D.atKey (q73 s) qmn=.lit (.int .i64 ((f s).getD 0:Nat))
theorem jd.made (w:World):jd (w.alloc (.map #[] 0)) w.heap.size 0 (fun _=>none) :=
 ⟨.map [],World.ownsMap_made _ _ _ _,fun _=>⟨rfl,rfl⟩⟩
theorem jd.kept {W W':World}{b n:Nat}{f:ByteArray→Option Nat}(h:jd W b n f)(hb:W'.heap[b]?=W.heap[b]?):jd W' b n f:=by
 obtain⟨D,⟨es,clock,hh,hr⟩,hf⟩:=h
 exact⟨D,⟨es,clock,hb.trans hh,hr⟩,hf⟩
theorem jd.look {W:World}{b n:Nat}{f:ByteArray→Option Nat}(h:jd W b n f)(s:ByteArray)(hs:s.size≤maxLen) :
  (Instr.lookup 118 (.map (some b)) (.string s) true).run Tryz.prog W=.ok (.tuple #[.int .i64 ((f s).getD 0:Nat),.bool (f s).isSome]) W:=by
 obtain⟨D,hown,hf⟩:=h
 obtain⟨v,ps,hrun,hv⟩:=hown.look_ok qmm Tryz.underlying118 (zero3 W) (plainElem_int (H:=Unit) Tryz.underlying3 (by decide)) (q95 hs)
 obtain⟨c,rfl,hc,_⟩:=plainElem_int_inv Tryz.underlying3 hv
 have h1:D.atKey (q73 s) qmn=.lit (.int .i64 c):=congrArg Prod.fst hc
 rw[(hf s).2] at h1
 have e:(((f s).getD 0:Nat):Int)=c:=by simpa using h1
 rw[hrun,(hf s).1,e]
theorem jd.put {W:World}{b n:Nat}{f:ByteArray→Option Nat}(h:jd W b n f)(hn:n < maxLen)(s:ByteArray)(hs:s.size≤maxLen)(c:Nat)(hc:c≤4611686018427387904) :
  ∃W',(Instr.mapUpdate 118 (.map (some b)) (.string s) (.int .i64 c)).run Tryz.prog W=.ok () W'∧jd W' b (n + 1) (fun t=>if t=s then some c else f t)∧W.grownBy W' (some b):=by
 obtain⟨D,hown,hf⟩:=h
 obtain⟨W',hrun,hown',hg⟩:=hown.update qmm Tryz.underlying118 hn (q95 hs) (plainElem_int (H:=Unit) (q:=.i64) Tryz.underlying3 (a:=(c:Int)) (WalkArith.wf_i64 (by omega)))
 refine⟨W',hrun,⟨_,hown',fun t=>?_⟩,hg⟩
 have hM:IsMap D:=by
  obtain⟨es,e,_⟩:=hown.tidy qmm
  exact⟨es,e⟩
 dsimp only
 by_cases e:t=s
 ·subst e
  rw[if_pos rfl,has_put_same hM (qe2 t),atKey_put_same hM (qe2 t)]
  exact⟨rfl,rfl⟩
 ·have hne:q73 t≠q73 s:=fun h=>e (qe1 h)
  rw[if_neg e,has_put_other hne,atKey_put_other hne]
  exact hf t
theorem jd.del {W:World}{b n:Nat}{f:ByteArray→Option Nat}(h:jd W b n f)(s:ByteArray)(hs:s.size≤maxLen)(ty:TypeId) :
  ∃W',(Builtin.delete_ #[118,9] ty #[.map (some b),.string s]).run Tryz.prog W=.ok (.tuple #[]) W'∧jd W' b n (fun t=>if t=s then none else f t)∧W.grownBy W' (some b):=by
 obtain⟨D,hown,hf⟩:=h
 obtain⟨W',hrun,hown',es,clock,es',clock',hb,hW'⟩:=hown.drop qmm Tryz.underlying118 (q95 hs) ty
 refine⟨W',hrun,⟨_,hown',fun t=>?_⟩,?_⟩
 ·dsimp only
  by_cases e:t=s
  ·subst e
   rw[if_pos rfl,has_del_same,atKey_del_same]
   exact⟨rfl,rfl⟩
  ·have hne:q73 t≠q73 s:=fun h=>e (qe1 h)
   rw[if_neg e,has_del_other hne,atKey_del_other hne]
   exact hf t
 ·rw[hW']
  exact⟨rfl,rfl,rfl,by simp[setBlock],fun i _ hi=>heap_setBlock_other hb _ (fun e=>hi (by rw[e]))⟩
end Y
namespace Y
open Go.Shelf
def Tryz.q2t:Go.Shelf.Ren:=⟨fun | 316=>151 | n=>n,fun | 9=>9 | 3=>3 | 4=>4 | 37=>133 | 0=>0 | 127=>210 | 5=>5 | n=>n,fun | n=>n⟩
theorem Tryz.laysM316:Go.Proofs.LaysM.n316 Tryz.prog Tryz.q2t:={
 mixed:=by kernel_rfl
 f316:=Tryz.func151.trans (congrArg some (by kernel_rfl))
 t0:=Tryz.underlying0
 a0:=Tryz.isAgg0
 z0:=Tryz.sizeOf0
 v0:=Tryz.zeroValue0
 t3:=Tryz.underlying3
 a3:=Tryz.isAgg3
 z3:=Tryz.sizeOf3
 v3:=Tryz.zeroValue3
 t4:=Tryz.underlying4
 a4:=Tryz.isAgg4
 z4:=Tryz.sizeOf4
 v4:=Tryz.zeroValue4
 t9:=Tryz.underlying9
 a9:=Tryz.isAgg9
 z9:=Tryz.sizeOf9
 v9:=Tryz.zeroValue9
 t37:=Tryz.underlying133
 a37:=Tryz.isAgg133
 z37:=Tryz.sizeOf133
 v37:=Tryz.zeroValue133
 t127:=Tryz.underlying210
 a127:=Tryz.isAgg210
 z127:=Tryz.sizeOf210
 v127:=Tryz.zeroValue210
 t5:=Tryz.underlying5
 a5:=Tryz.isAgg5
 z5:=Tryz.sizeOf5
 v5:=Tryz.zeroValue5
 i0:=by kernel_rfl
 i3:=by kernel_rfl
 i4:=by kernel_rfl
 i5:=by kernel_rfl
 i9:=by kernel_rfl
 i37:=by kernel_rfl
 i127:=by kernel_rfl }
open Go.RowKit in
theorem Tryz.stringslite_Clone (s:ByteArray)(w:World)(hlim:s.size≤281474976710656) :
  Calls Tryz.prog 151 #[.string s] w fun e w'=>e=.returned (.string s)∧Below w.heap.size w w':=Any.stringslite_Clone Tryz.laysM316 s w hlim
end Y
namespace Y
open Go.RowKit
structure Tab where
 syms:List (ByteArray × Bool)
 act:List Nat
 scopes:List (List Nat)
 labels:List ByteArray
def qgf:Tab:=⟨[],[],[],[]⟩
def q0v (l:List (ByteArray × Bool)):List Value:=l.flatMap (fun p=>[.string p.1,.bool p.2])
def numOf (l:List (ByteArray × Bool))(s:ByteArray):Option Nat:=l.findIdx? (fun p=>p.1=s)
def uj (T:Tab)(s:ByteArray):Option Nat:=(numOf T.syms s).filter (fun n=>n ∈ T.act)
def q2a (l:List ByteArray)(s:ByteArray):Option Nat:=l.findIdx? (fun t=>t=s)
structure TabIs (W:World)(B k:Nat)(T:Tab)(vs vc vl:Value)(mk ma mt:Nat)(vars:List Value):Prop where
 block:W.heap[B]?=some (.cells #[vs,.map (some mk),.map (some ma),vc,vl,.map (some mt)] 191 (0,0))
 syms:W.ownsRow 0 183 2 vs T.syms.length (q0v T.syms)
 known:∃n,n≤k∧jd W mk n (numOf T.syms)
 active:∃n,n≤k∧jd W ma n (uj T)
 scopes:W.ownsRow 0 228 1 vc T.scopes.length vars
 inner:∀(i:Nat) (v:Value),vars[i]?=some v→∃l:List Nat,T.scopes[i]?=some l∧W.ownsRow 0 3 1 v l.length (l.map (fun n:Nat=>Value.int .i64 n))
 labels:W.ownsRow 0 9 1 vl T.labels.length (T.labels.map Value.string)
 taken:∃n,n≤k∧jd W mt n (q2a T.labels)
 apart:([B,mk,ma,mt]++([vs,vc,vl]++vars).filterMap Value.ownBlock).Nodup
def wo (B mk ma mt:Nat)(vs vc vl:Value)(vars:List Value):List Nat:=[B,mk,ma,mt]++([vs,vc,vl]++vars).filterMap Value.ownBlock
def TabAt (W:World)(bs:List Nat)(B k:Nat)(T:Tab):Prop:=∃vs vc vl mk ma mt vars,TabIs W B k T vs vc vl mk ma mt vars∧bs=wo B mk ma mt vs vc vl vars
structure Turned (bs:List Nat)(W W':World):Prop where
 os:W'.os=W.os
 tape:W'.tape=W.tape
 output:W'.output=W.output
 size:W.heap.size≤W'.heap.size
 block:∀i,i < W.heap.size→i ∉ bs→W'.heap[i]?=W.heap[i]?
theorem Turned.below {bs:List Nat}{W W':World}(h:Turned bs W W'){N:Nat}(hN:N≤W.heap.size)(hb:∀b ∈ bs,N≤b):Below N W W' :=
 ⟨h.os,h.tape,h.output,h.size,fun i hi=>h.block i (by omega) (fun hm=>by have:=hb i hm;omega)⟩
theorem TabIs.mem {W:World}{B k:Nat}{T:Tab}{vs vc vl:Value}{mk ma mt:Nat}{vars:List Value}(h:TabIs W B k T vs vc vl mk ma mt vars):∀b ∈ wo B mk ma mt vs vc vl vars,b < W.heap.size:=by
 have own:∀(v:Value) (base e size n:Nat) (xs:List Value) (g:Nat),W.ownsRow base e size v n xs→v.ownBlock=some g→g < W.heap.size:=by
  intro v base e size n xs g ho hg
  rcases ho.2 with ⟨rfl,_⟩ | ⟨g',cap,cur,rfl,_,hh,_⟩
  ·simp[Value.ownBlock] at hg
  ·have e':g'=g:=by simpa [Value.ownBlock] using hg
   subst e'
   exact (Array.getElem?_eq_some_iff.1 hh).1
 have mp:∀(b n:Nat) (f:ByteArray→Option Nat),jd W b n f→b < W.heap.size:=by
  rintro b n f ⟨D,⟨es,clock,hh,_⟩,_⟩
  exact (Array.getElem?_eq_some_iff.1 hh).1
 intro b hb
 rcases List.mem_append.1 hb with hb | hb
 ·simp only[List.mem_cons,List.not_mem_nil,or_false] at hb
  rcases hb with rfl | rfl | rfl | rfl
  ·exact (Array.getElem?_eq_some_iff.1 h.block).1
  ·obtain⟨n,_,hm⟩:=h.known;exact mp _ _ _ hm
  ·obtain⟨n,_,hm⟩:=h.active;exact mp _ _ _ hm
  ·obtain⟨n,_,hm⟩:=h.taken;exact mp _ _ _ hm
 ·obtain⟨v,hv,hg⟩:=List.mem_filterMap.1 hb
  rcases List.mem_append.1 hv with hv | hv
  ·simp only[List.mem_cons,List.not_mem_nil,or_false] at hv
   rcases hv with rfl | rfl | rfl
   ·exact own _ _ _ _ _ _ _ h.syms hg
   ·exact own _ _ _ _ _ _ _ h.scopes hg
   ·exact own _ _ _ _ _ _ _ h.labels hg
  ·obtain⟨i,hi⟩:=List.getElem?_of_mem hv
   obtain⟨l,_,ho⟩:=h.inner i v hi
   exact own _ _ _ _ _ _ _ ho hg
theorem new_any (w:World):Calls Tryz.prog 99 #[] w fun e w'=>e=.returned (.pointer (some ⟨w.heap.size + 3,0,none⟩))∧(∃bs,TabAt w' bs (w.heap.size + 3) 0 qgf∧∀b ∈ bs,w.heap.size≤b)∧Below w.heap.size w w':=by
 have hmm:=@run_makeMap Tryz.prog
 go_enter Tryz.func99,Tryz.ntmps99
 go_wp2
 go_ret
 refine⟨rfl,?_,((((Below.refl _ _).alloc (Nat.le_refl _) _).alloc (by simp) _).alloc (by simp;omega) _).alloc (by simp;omega) _⟩
 refine⟨_,⟨.slice none 0 0,.slice none 0 0,.slice none 0 0,w.heap.size,w.heap.size + 1,w.heap.size + 1 + 1,[],?_,rfl⟩,fun b hb=>by simp[wo,Value.ownBlock] at hb;omega⟩
 have m1:∀(A B C:Obj),jd ((((w.alloc (.map #[] 0)).alloc A).alloc B).alloc C) w.heap.size 0 (fun _=>none):=fun A B C =>
  (jd.made w).kept (by rw[Below.heap_alloc _ _ _ (by simp <;> omega),Below.heap_alloc _ _ _ (by simp <;> omega),Below.heap_alloc _ _ _ (by simp)])
 have m2:∀(A B C:Obj),jd ((((w.alloc A).alloc (.map #[] 0)).alloc B).alloc C) (w.heap.size + 1) 0 (fun _=>none):=fun A B C=>by
  have h:=jd.made (w.alloc A)
  rw[show (w.alloc A).heap.size=w.heap.size + 1 by simp] at h
  exact h.kept (by rw[Below.heap_alloc _ _ _ (by simp <;> omega),Below.heap_alloc _ _ _ (by simp)])
 have m3:∀(A B C:Obj),jd ((((w.alloc A).alloc B).alloc (.map #[] 0)).alloc C) (w.heap.size + 1 + 1) 0 (fun _=>none):=fun A B C=>by
  have h:=jd.made ((w.alloc A).alloc B)
  rw[show ((w.alloc A).alloc B).heap.size=w.heap.size + 1 + 1 by simp] at h
  exact h.kept (by rw[Below.heap_alloc _ _ _ (by simp)])
 have e0:(fun _=>none:ByteArray→Option Nat)=numOf qgf.syms:=by funext s;rfl
 have e1:(fun _=>none:ByteArray→Option Nat)=uj qgf:=by funext s;rfl
 have e2:(fun _=>none:ByteArray→Option Nat)=q2a qgf.labels:=by funext s;rfl
 refine⟨?_,World.ownsRow_nil _ _ _ _,⟨0,Nat.le_refl _,e0 ▸ m1 _ _ _⟩,⟨0,Nat.le_refl _,e1 ▸ m2 _ _ _⟩,World.ownsRow_nil _ _ _ _,fun i v h=>by simp at h,World.ownsRow_nil _ _ _ _,⟨0,Nat.le_refl _,e2 ▸ m3 _ _ _⟩,?_⟩
 ·have h:=heap_alloc_new (((w.alloc (.map #[] 0)).alloc (.map #[] 0)).alloc (.map #[] 0)) (Obj.cells #[.slice none 0 0,.map (some w.heap.size),.map (some (w.heap.size + 1)),.slice none 0 0,.slice none 0 0,.map (some (w.heap.size + 1 + 1))] 191)
  rw[show (((w.alloc (.map #[] 0)).alloc (.map #[] 0)).alloc (.map #[] 0)).heap.size=w.heap.size + 3 by simp] at h
  exact h
 ·simp[Value.ownBlock]
  exact⟨by omega,(List.nodup_nil:([]:List Nat).Nodup)⟩
end Y
namespace Y
open Go.RowKit
theorem jf {W:World}{base e size:Nat}{v:Value}{n:Nat}{xs:List Value}(h:W.ownsRow base e size v n xs):∃a cap,v=.slice a n cap:=by
 rcases h.2 with ⟨rfl,rfl⟩ | ⟨g,cap,cur,rfl,_⟩
 ·exact⟨_,_,rfl⟩
 ·exact⟨_,_,rfl⟩
theorem q0o {W:World}{B:Nat}{a b c d e f:Value}{t:TypeId}(h:W.heap[B]?=some (.cells #[a,b,c,d,e,f] t (0,0))) :
  W.cell? ⟨B,0,none⟩=some a∧W.cell? ⟨B,1,none⟩=some b∧W.cell? ⟨B,2,none⟩=some c∧W.cell? ⟨B,3,none⟩=some d∧W.cell? ⟨B,4,none⟩=some e∧W.cell? ⟨B,5,none⟩=some f:=by
 refine⟨?_,?_,?_,?_,?_,?_⟩ <;> simp[World.cell?,h]
theorem count_any (w:World)(bs:List Nat)(B k:Nat)(T:Tab)(h:TabAt w bs B k T):Calls Tryz.prog 73 #[.pointer (some ⟨B,0,none⟩)] w fun e w'=>e=.returned (.int .i64 T.syms.length)∧w'=w:=by
 obtain⟨vs,vc,vl,mk,ma,mt,vars,h,_⟩:=h
 obtain⟨a,cap,rfl⟩:=jf h.syms
 obtain⟨c0,_⟩:=q0o h.block
 clear h
 go_enter Tryz.func73,Tryz.ntmps73
 go_wp2
 go_ret
 exact⟨rfl,rfl⟩
theorem q41 (w:World)(bs:List Nat)(B k:Nat)(T:Tab)(h:TabAt w bs B k T):Calls Tryz.prog 156 #[.pointer (some ⟨B,0,none⟩)] w fun e w'=>e=.returned (.int .i64 T.scopes.length)∧w'=w:=by
 obtain⟨vs,vc,vl,mk,ma,mt,vars,h,_⟩:=h
 obtain⟨a,cap,rfl⟩:=jf h.scopes
 obtain⟨_,_,_,c3,_⟩:=q0o h.block
 clear h
 go_enter Tryz.func156,Tryz.ntmps156
 go_wp2
 go_ret
 exact⟨rfl,rfl⟩
theorem qmo (w:World)(bs:List Nat)(B k:Nat)(T:Tab)(s:ByteArray)(hs:s.size≤maxLen)(h:TabAt w bs B k T):Calls Tryz.prog 250 #[.pointer (some ⟨B,0,none⟩),.string s] w fun e w'=>e=.returned (.tuple #[.int .i64 ((uj T s).getD 0:Nat),.bool (uj T s).isSome])∧w'=w:=by
 obtain⟨vs,vc,vl,mk,ma,mt,vars,h,_⟩:=h
 obtain⟨_,_,c2,_⟩:=q0o h.block
 obtain⟨n,_,hm⟩:=h.active
 have hl:=hm.look s hs
 generalize uj T s=r at *
 clear h hm
 go_enter Tryz.func250,Tryz.ntmps250
 go_wp2
 refine bodyPost_ret (v:=.tuple #[.int .i64 (r.getD 0:Nat),.bool r.isSome]) (by simp[results,Tryz.results250,go_sem]) rfl ⟨rfl,rfl⟩
theorem zx {W:World}{base e size g n cap:Nat}{xs:List Value}(h:W.ownsRow base e size (.slice (some ⟨g,0,none⟩) n cap) n xs)(i:Nat)(u:Value)(hi:xs[i]?=some u):W.cell? ⟨g,i,none⟩=some u:=by
 rcases h.2 with ⟨e',_⟩ | ⟨g',cap',cur,hv,hg,hh,hn,hc,hsz,ht⟩
 ·cases e'
 ·simp only[Value.slice.injEq,Option.some.injEq,Addr.mk.injEq] at hv
  obtain⟨⟨rfl,_⟩,_,rfl⟩:=hv
  have hlt:i < n * size:=by have:=h.1;have:=(List.getElem?_eq_some_iff.1 hi).1;omega
  have:cur[i]?=some u:=by
   rw[←ht,List.getElem?_take,if_pos hlt] at hi
   simpa using hi
  simp[World.cell?,hh,this]
theorem q48 {W:World}{base e size:Nat}{v:Value}{n:Nat}{xs:List Value}(h:W.ownsRow base e size v n xs)(hn:0 < n):∃g cap,v=.slice (some ⟨g,0,none⟩) n cap:=by
 rcases h.2 with ⟨_,h0⟩ | ⟨g,cap,cur,rfl,_⟩
 ·omega
 ·exact⟨g,cap,rfl⟩
theorem q96:∀(l:List (ByteArray × Bool)) (i:Nat) (p:ByteArray × Bool),l[i]?=some p→(q0v l)[i * 2]?=some (.string p.1)∧(q0v l)[i * 2 + 1]?=some (.bool p.2):=by
 intro l
 induction l with
 | nil=>intro i p h;simp at h
 | cons a l ih =>
  intro i p h
  cases i with
  | zero =>
   simp only[List.getElem?_cons_zero,Option.some.injEq] at h
   subst h
   simp[q0v]
  | succ i =>
   have:=ih i p (by simpa using h)
   have e:∀j,(q0v (a :: l))[(i + 1) * 2 + j]?=(q0v l)[i * 2 + j]?:=fun j=>by
    rw[show (i + 1) * 2 + j=i * 2 + j + 1 + 1 by omega]
    simp[q0v]
   exact⟨by rw[show (i + 1) * 2=(i + 1) * 2 + 0 by omega,e 0];exact this.1,by rw[e 1];exact this.2⟩
def q4j (T:Tab)(n:Int):Option (ByteArray × Bool):=if 0≤n then T.syms[n.toNat]? else none
def nameOf (o:Option (ByteArray × Bool)):ByteArray:=(o.map (·.1)).getD ⟨#[]⟩
def varOf (o:Option (ByteArray × Bool)):Bool:=(o.map (·.2)).getD false
theorem qmp (w:World)(bs:List Nat)(B k:Nat)(T:Tab)(n:Int)(hT:T.syms.length≤4611686018427387904)(h:TabAt w bs B k T) :
  Calls Tryz.prog 125 #[.pointer (some ⟨B,0,none⟩),.int .i64 n] w fun e w'=>e=.returned (.tuple #[.agg #[.string (nameOf (q4j T n)),.bool (varOf (q4j T n))],.bool (q4j T n).isSome])∧Below w.heap.size w w':=by
 obtain⟨vs,vc,vl,mk,ma,mt,vars,h,_⟩:=h
 have hrow:=h.syms
 have hblk:=h.block
 have hBw:B < w.heap.size:=(Array.getElem?_eq_some_iff.1 hblk).1
 clear h
 have later:∀(O:Obj) (g i:Nat) (u:Value),w.cell? ⟨g,i,none⟩=some u→(w.alloc O).cell? ⟨g,i,none⟩=some u:=fun O g i u hc =>
  (World.cell?_of_block (w:=w) (a:=⟨g,i,none⟩) (Below.heap_alloc w O g (World.block_lt_of_cell? _ _ hc))).trans hc
 have Hl:Hid _:=later
 obtain⟨c0,_⟩:=q0o hblk
 by_cases hn:0≤n∧n < (T.syms.length:Int)
 ·obtain⟨i,rfl⟩:∃i:Nat,n=(i:Int):=⟨n.toNat,by omega⟩
  obtain⟨p,hp⟩:∃p,T.syms[i]?=some p:=⟨T.syms[i]'(by omega),List.getElem?_eq_getElem _⟩
  have hs:q4j T (i:Int)=some p:=by unfold q4j;rw[if_pos hn.1];simpa using hp
  rw[hs]
  obtain⟨g,cap,rfl⟩:=q48 hrow (by omega)
  obtain⟨y0,y1⟩:=q96 _ _ _ hp
  have q0:=zx hrow _ _ y0
  have q1:=zx hrow _ _ y1
  obtain⟨L,hL⟩:∃L,L=T.syms.length:=⟨_,rfl⟩
  rw[←hL] at c0 hn hT
  have a0:=later (.cells #[.string ⟨#[]⟩,.bool false] 183) _ _ _ c0
  have a1:=later (.cells #[.string ⟨#[]⟩,.bool false] 183) _ _ _ q0
  have a2:=later (.cells #[.string ⟨#[]⟩,.bool false] 183) _ _ _ q1
  have n1:(0:Int)≤(i:Int):=hn.1
  have n2:(i:Int) < (L:Int):=hn.2
  obtain⟨nm,vr⟩:=p
  clear later hrow hblk hp y0 y1 hL hs hn
  go_enter Tryz.func125,Tryz.ntmps125
  go_wp2
  exact bodyPost_ret (v:=.tuple #[.agg #[.string nm,.bool vr],.bool true]) (by simp[results,Tryz.results125,go_sem]) rfl ⟨rfl,(Below.refl _ _).alloc (Nat.le_refl _) _⟩
 ·have hs:q4j T n=none:=by
   unfold q4j
   split
   ·exact List.getElem?_eq_none (by omega)
   ·rfl
  rw[hs]
  obtain⟨a,cap,rfl⟩:=jf hrow
  obtain⟨L,hL⟩:∃L,L=T.syms.length:=⟨_,rfl⟩
  rw[←hL] at c0 hn hT
  have a0:=later (.cells #[.string ⟨#[]⟩,.bool false] 183) _ _ _ c0
  clear later hrow hblk hL hs
  by_cases hneg:n < 0
  ·clear hn
   go_enter Tryz.func125,Tryz.ntmps125
   go_wp2
   exact bodyPost_ret (v:=.tuple #[.agg #[.string ⟨#[]⟩,.bool false],.bool false]) (by simp[results,Tryz.results125,go_sem]) rfl ⟨rfl,(Below.refl _ _).alloc (Nat.le_refl _) _⟩
  ·have n1:0≤n:=by omega
   have n2:(L:Int)≤n:=by omega
   clear hn hneg
   go_enter Tryz.func125,Tryz.ntmps125
   go_wp2
   exact bodyPost_ret (v:=.tuple #[.agg #[.string ⟨#[]⟩,.bool false],.bool false]) (by simp[results,Tryz.results125,go_sem]) rfl ⟨rfl,(Below.refl _ _).alloc (Nat.le_refl _) _⟩
theorem name_of (w:World)(bs:List Nat)(B k:Nat)(T:Tab)(n:Int)(hT:T.syms.length≤4611686018427387904)(h:TabAt w bs B k T) :
  Calls Tryz.prog 74 #[.pointer (some ⟨B,0,none⟩),.int .i64 n] w fun e w'=>e=.returned (.string (nameOf (q4j T n)))∧Below w.heap.size w w':=by
 have A:=qmp w bs B k T n hT h
 generalize q4j T n=r at *
 replace A:=show Hid _ from A
 clear h
 go_enter Tryz.func74,Tryz.ntmps74
 go_wp2_with fail
 refine Calls.mono A.out ?_
 rintro e w1 ⟨rfl,hb⟩
 clear A
 go_wp2
 go_ret
 exact⟨rfl,hb.alloc hb.size _⟩
theorem isVar_of (w:World)(bs:List Nat)(B k:Nat)(T:Tab)(n:Int)(hT:T.syms.length≤4611686018427387904)(h:TabAt w bs B k T) :
  Calls Tryz.prog 70 #[.pointer (some ⟨B,0,none⟩),.int .i64 n] w fun e w'=>e=.returned (.bool (varOf (q4j T n)))∧Below w.heap.size w w':=by
 have A:=qmp w bs B k T n hT h
 generalize q4j T n=r at *
 replace A:=show Hid _ from A
 clear h
 go_enter Tryz.func70,Tryz.ntmps70
 go_wp2_with fail
 refine Calls.mono A.out ?_
 rintro e w1 ⟨rfl,hb⟩
 clear A
 go_wp2
 go_ret
 exact⟨rfl,hb.alloc hb.size _⟩
end Y
namespace Y
open Go.RowKit
end Y
namespace Y
open Go.RowKit
theorem info66:(Tryz.prog.info? 228).map (fun i=>(i.zero,i.size,i.bytes))=some (some (.agg #[.slice none 0 0]),1,24):=by kernel_rfl
theorem q7x {l:List Value}{hd:List Nat}(h:(hd++l.filterMap Value.ownBlock).Nodup) :
  (∀b ∈ hd,∀v ∈ l,v.ownBlock≠some b)∧l.Pairwise (fun a b=>∀g,a.ownBlock=some g→b.ownBlock≠some g):=by
 obtain⟨_,h2,h3⟩:=List.nodup_append.1 h
 refine⟨fun b hb v hv e=>h3 b hb b (List.mem_filterMap.2 ⟨v,hv,e⟩) rfl,?_⟩
 have h4:=List.pairwise_filterMap.1 h2
 exact h4.imp fun hab g hg hg'=>hab g hg g hg' rfl
theorem qj {W:World}{b o:Nat}{v:Value}{cs:Array Value}{t:TypeId}{fr:Nat × Nat}(h:W.heap[b]?=some (.cells cs t fr)):(W.setCell ⟨b,o,none⟩ v).heap[b]?=some (.cells (cs.setIfInBounds o v) t fr):=by
 obtain⟨hlt,hk⟩:=Array.getElem?_eq_some_iff.1 h
 show (W.heap.modify b _)[b]?=_
 rw[Array.getElem?_eq_getElem (by rw[Array.size_modify];exact hlt),Array.getElem_modify_self,hk]
 rfl
theorem q4k (v:Value)(l:List Value):(v :: l).filterMap Value.ownBlock=v.ownBlock.toList++l.filterMap Value.ownBlock:=by
 cases h:v.ownBlock <;> simp[h]
theorem qbm {l1 l2:List Nat}{x:Nat}(h:(l1++l2).Nodup)(hx:x ∉ l1++l2):(l1++x :: l2).Nodup:=(List.perm_middle.nodup_iff).2 (List.nodup_cons.2 ⟨hx,h⟩)
theorem jo {W:World}{base e size:Nat}{v:Value}{n:Nat}{xs:List Value}(h:W.ownsRow base e size v n xs):∀g,v.ownBlock=some g→g < W.heap.size:=by
 intro g hg
 rcases h.2 with ⟨rfl,_⟩ | ⟨g',cap,cur,rfl,_,hh,_⟩
 ·simp[Value.ownBlock] at hg
 ·have e':g'=g:=by simpa [Value.ownBlock] using hg
  subst e'
  exact (Array.getElem?_eq_some_iff.1 hh).1
theorem zo {W W':World}{base e size:Nat}{v:Value}{n:Nat}{xs:List Value}(h:W.ownsRow base e size v n xs)(hk:∀g,v.ownBlock=some g→W'.heap[g]?=W.heap[g]?):W'.ownsRow base e size v n xs:=by
 refine⟨h.1,?_⟩
 rcases h.2 with h0 | ⟨g,cap,cur,hv,hg,hh,hr⟩
 ·exact .inl h0
 ·exact .inr ⟨g,cap,cur,hv,hg,(hk g (by rw[hv];rfl)).trans hh,hr⟩
theorem q00 {W:World}{b n:Nat}{f:ByteArray→Option Nat}(h:jd W b n f):b < W.heap.size:=by
 obtain⟨D,⟨es,clock,hh,_⟩,_⟩:=h
 exact (Array.getElem?_eq_some_iff.1 hh).1
theorem qjz (w:World)(bs:List Nat)(B k:Nat)(T:Tab)(h:TabAt w bs B k T)(hd:16≤T.scopes.length):Calls Tryz.prog 104 #[.pointer (some ⟨B,0,none⟩)] w fun e w'=>e=.returned (.int .i64 23)∧w'=w:=by
 obtain⟨vs,vc,vl,mk,ma,mt,vars,h,_⟩:=h
 obtain⟨a,cap,rfl⟩:=jf h.scopes
 obtain⟨_,_,_,c3,_⟩:=q0o h.block
 have hd':(16:Int)≤(T.scopes.length:Int):=by omega
 clear h
 go_enter Tryz.func104,Tryz.ntmps104
 go_wp2
 go_ret
 exact⟨rfl,rfl⟩
theorem qk0 (w:World)(bs:List Nat)(B k:Nat)(T:Tab)(h:TabAt w bs B k T)(hd:T.scopes.length < 16) :
  Calls Tryz.prog 104 #[.pointer (some ⟨B,0,none⟩)] w fun e w'=>e=.returned (.int .i64 0)∧(∃bs',TabAt w' bs' B k { T with scopes:=T.scopes++[[]] }∧∀b ∈ bs',b ∈ bs∨w.heap.size≤b)∧Turned bs w w':=by
 obtain⟨vs,vc,vl,mk,ma,mt,vars,h,rfl⟩:=h
 have hlt:=h.mem
 obtain⟨n,hn⟩:∃n,n=T.scopes.length:=⟨_,rfl⟩
 have hsc:=h.scopes
 rw[←hn] at hd hsc
 obtain⟨a,cap,rfl⟩:=jf hsc
 obtain⟨i0,hi0,hz0,hz1,hz3⟩:=info_parts info66
 have H:Hid (TabIs w B k T vs (.slice a n cap) vl mk ma mt vars):=h
 have Hsc:Hid (w.ownsRow 0 228 1 (.slice a n cap) n vars):=hsc
 have Hlt:Hid _:=hlt
 have Hn:Hid (n=T.scopes.length):=hn
 obtain⟨_,_,_,c3,_⟩:=q0o h.block
 have hd':(n:Int) < 16:=by omega
 have hBw:B < w.heap.size:=(Array.getElem?_eq_some_iff.1 h.block).1
 obtain⟨ap1,ap2⟩:=q7x h.apart
 have Ap1:Hid _:=ap1
 have Ap2:Hid _:=ap2
 have hBc:(Value.slice a n cap).ownBlock≠some B:=ap1 B (by simp) _ (by simp)
 have HBc:Hid _:=hBc
 clear h hsc hlt hn ap1 ap2 hBc
 go_enter Tryz.func104,Tryz.ntmps104
 go_wp2_with (at_builtin;refine wpList_append_lies _ rfl _ _ _ rfl 0 228 i0 _ 1 24 Tryz.underlying189 hi0 hz0 hz1 hz3 rfl (by omega) _ n vars (by rfl) (by exact (Hsc.out.alloc _)) ⟨w.heap.size,0,none⟩ 1 1 [.slice none 0 0] (by rfl) (by rfl) (World.news_of_block (cs:=#[.slice none 0 0]) (t:=228) (fr:=(0,0)) (heap_alloc_new w _)) (by simp[Value.oneCell']) (by omega) (by unfold maxLen;omega) (by omega) (by simp) (w.heap.size + 1) (by simp) ?_;intro g2 cap2 w2 hown2 hgrow hat hlt2;have hB2:w2.heap[B]?=w.heap[B]?:=(hgrow.block B (by simp;omega) (fun e=>HBc.out e.symm)).trans (Below.heap_alloc w _ B hBw);have z3:w2.frozen? ⟨B,3,none⟩=false:=(World.frozen?_of_block (a:=⟨B,3,none⟩) hB2).trans (by simp[World.frozen?,H.out.block]);have d3:w2.cell? ⟨B,3,none⟩=some (.slice a n cap):=(World.cell?_of_block (a:=⟨B,3,none⟩) hB2).trans c3)
 go_ret
 have hT:=H.out
 replace hat:(Value.slice a n cap).ownBlock=some g2∨g2=w.heap.size + 1:=hat
 obtain⟨V,hV⟩:∃V,V=Value.slice (some ⟨g2,0,none⟩) (n + 1) cap2:=⟨_,rfl⟩
 have hVo:V.ownBlock=some g2:=by rw[hV];rfl
 rw[←hV] at hown2 ⊢
 have hsz:w.heap.size + 1≤w2.heap.size:=by have:=hgrow.size;simpa using this
 have keep:∀i,i < w.heap.size→i≠B→(Value.slice a n cap).ownBlock≠some i→(w2.setCell ⟨B,3,none⟩ V).heap[i]?=w.heap[i]?:=fun i hi hB hc =>
  (Below.heap_setCell _ _ _ i hB).trans ((hgrow.block i (by simp;omega) (fun e=>hc e.symm)).trans (Below.heap_alloc w _ i hi))
 have hg2B:g2≠B:=by
  rcases hat with e | e
  ·intro e';exact HBc.out (e'.symm ▸ e)
  ·omega
 have hvs:∀g,vs.ownBlock=some g→(Value.slice a n cap).ownBlock≠some g:=fun g hg=>(List.pairwise_cons.1 Ap2.out).1 _ (by simp) g hg
 have hrest:=(List.pairwise_cons.1 (List.pairwise_cons.1 Ap2.out).2).1
 have hB1:=Ap1.out B (by simp)
 have hmk:=Ap1.out mk (by simp)
 have hma:=Ap1.out ma (by simp)
 have hmt:=Ap1.out mt (by simp)
 have hnd:=hT.apart
 have hne:mk≠B∧ma≠B∧mt≠B:=by
  have h1:=(List.nodup_append.1 hnd).1
  simp at h1
  omega
 refine⟨rfl,⟨wo B mk ma mt vs V vl (vars++[.slice none 0 0]),⟨vs,V,vl,mk,ma,mt,vars++[.slice none 0 0],?_,rfl⟩,?_⟩,?_⟩
 ·refine⟨?_,?_,?_,?_,?_,?_,?_,?_,?_⟩
  ·rw[qj (hB2.trans hT.block)];rfl
  ·exact zo hT.syms fun g hg=>keep g (jo hT.syms g hg) (fun e=>hB1 vs (by simp) (e ▸ hg)) (hvs g hg)
  ·obtain⟨j,hj,hm⟩:=hT.known
   exact⟨j,hj,hm.kept (keep mk (q00 hm) hne.1 (hmk _ (by simp)))⟩
  ·obtain⟨j,hj,hm⟩:=hT.active
   exact⟨j,hj,hm.kept (keep ma (q00 hm) hne.2.1 (hma _ (by simp)))⟩
  ·have e:(T.scopes++[[]]).length=n + 1:=by rw[Hn.out];simp
   show World.ownsRow _ 0 228 1 V (T.scopes++[[]]).length _
   rw[e]
   exact zo hown2 fun g hg=>Below.heap_setCell _ _ _ g (by rw[hVo] at hg;cases hg;exact hg2B)
  ·intro i v hi
   by_cases hlt3:i < vars.length
   ·rw[List.getElem?_append_left hlt3] at hi
    obtain⟨l,hl,ho⟩:=hT.inner i v hi
    have hvm:v ∈ vars:=List.mem_of_getElem? hi
    refine⟨l,?_,zo ho fun g hg=>keep g (jo ho g hg) (fun e=>hB1 v (by simp[hvm]) (e ▸ hg)) (fun e=>hrest v (by simp[hvm]) g e hg)⟩
    show (T.scopes++[[]])[i]?=some l
    rw[List.getElem?_append_left (List.getElem?_eq_some_iff.1 hl).1];exact hl
   ·have hvl:vars.length=n:=by have:=Hsc.out.1;omega
    have hi':i=vars.length:=by
     have:=(List.getElem?_eq_some_iff.1 hi).1
     simp at this;omega
    subst hi'
    rw[List.getElem?_append_right (Nat.le_refl _)] at hi
    simp at hi
    subst hi
    refine⟨[],?_,World.ownsRow_nil _ _ _ _⟩
    show (T.scopes++[[]])[vars.length]?=some []
    rw[hvl,Hn.out];simp
  ·exact zo hT.labels fun g hg=>keep g (jo hT.labels g hg) (fun e=>hB1 vl (by simp) (e ▸ hg)) (fun e=>hrest vl (by simp) g e hg)
  ·obtain⟨j,hj,hm⟩:=hT.taken
   exact⟨j,hj,hm.kept (keep mt (q00 hm) hne.2.2 (hmt _ (by simp)))⟩
  ·have e1:([vs,V,vl]++(vars++[Value.slice none 0 0])).filterMap Value.ownBlock=vs.ownBlock.toList++g2 :: (vl :: vars).filterMap Value.ownBlock:=by
    have e0:[vs,V,vl]++(vars++[Value.slice none 0 0])=vs :: V :: ((vl :: vars)++[Value.slice none 0 0]):=by simp
    rw[e0,q4k,q4k,hVo,List.filterMap_append]
    simp[Value.ownBlock]
   have e2:([vs,Value.slice a n cap,vl]++vars).filterMap Value.ownBlock=vs.ownBlock.toList++((Value.slice a n cap).ownBlock.toList++(vl :: vars).filterMap Value.ownBlock):=by
    have e0:[vs,Value.slice a n cap,vl]++vars=vs :: Value.slice a n cap :: (vl :: vars):=by simp
    rw[e0,q4k,q4k]
   have hall:=Hlt.out
   unfold wo at hall
   rw[e2] at hnd hall
   rw[e1]
   rcases hat with e | e
   ·rw[e] at hnd;exact hnd
   ·rw[←List.append_assoc]
    refine qbm ?_ ?_
    ·rw[List.append_assoc]
     exact List.Nodup.sublist (List.Sublist.append (List.Sublist.refl _) (List.Sublist.append (List.Sublist.refl _) (List.sublist_append_right _ _))) hnd
    ·intro hm
     have:g2 < w.heap.size:=hall g2 (by
      rw[List.append_assoc] at hm
      rcases List.mem_append.1 hm with h | h
      ·exact List.mem_append_left _ h
      ·refine List.mem_append_right _ ?_
       rcases List.mem_append.1 h with h | h
       ·exact List.mem_append_left _ h
       ·exact List.mem_append_right _ (List.mem_append_right _ h))
     omega
 ·intro b hb
  unfold wo at hb ⊢
  rcases List.mem_append.1 hb with h | h
  ·exact .inl (List.mem_append_left _ h)
  ·obtain⟨v,hv,hg⟩:=List.mem_filterMap.1 h
   by_cases hvV:v=V
   ·rw[hvV,hVo] at hg
    cases hg
    rcases hat with e | e
    ·exact .inl (List.mem_append_right _ (List.mem_filterMap.2 ⟨Value.slice a n cap,by simp,e⟩))
    ·exact .inr (by omega)
   ·by_cases hvn:v=.slice none 0 0
    ·rw[hvn] at hg;simp[Value.ownBlock] at hg
    ·refine .inl (List.mem_append_right _ (List.mem_filterMap.2 ⟨v,?_,hg⟩))
     simp only[List.mem_append,List.mem_cons,List.not_mem_nil,or_false] at hv ⊢
     rcases hv with (h | h | h) | (h | h)
     ·exact .inl (.inl h)
     ·exact absurd h hvV
     ·exact .inl (.inr (.inr h))
     ·exact .inr h
     ·exact absurd h hvn
 ·refine⟨hgrow.os,hgrow.tape,hgrow.output,by show _≤(w2.setCell _ _).heap.size;simp[World.setCell];omega,fun i hi hni=>keep i hi (fun e=>hni (by rw[e];simp[wo])) (fun e=>hni ?_)⟩
  unfold wo
  exact List.mem_append_right _ (List.mem_filterMap.2 ⟨_,by simp,e⟩)
end Y
namespace Y
open Go.RowKit
structure Lies (W:World)(B k:Nat)(S:List (ByteArray × Bool))(fk fa ft:ByteArray→Option Nat)(C:List (List Nat))(L:List ByteArray)(vs vc vl:Value)(mk ma mt:Nat)(vars:List Value):Prop where
 block:W.heap[B]?=some (.cells #[vs,.map (some mk),.map (some ma),vc,vl,.map (some mt)] 191 (0,0))
 syms:W.ownsRow 0 183 2 vs S.length (q0v S)
 known:∃n,n≤k∧jd W mk n fk
 active:∃n,n≤k∧jd W ma n fa
 scopes:W.ownsRow 0 228 1 vc C.length vars
 inner:∀(i:Nat) (v:Value),vars[i]?=some v→∃l:List Nat,C[i]?=some l∧W.ownsRow 0 3 1 v l.length (l.map (fun n:Nat=>Value.int .i64 n))
 labels:W.ownsRow 0 9 1 vl L.length (L.map Value.string)
 taken:∃n,n≤k∧jd W mt n ft
 apart:([B,mk,ma,mt]++([vs,vc,vl]++vars).filterMap Value.ownBlock).Nodup
theorem TabIs.lies {W:World}{B k:Nat}{T:Tab}{vs vc vl:Value}{mk ma mt:Nat}{vars:List Value}(h:TabIs W B k T vs vc vl mk ma mt vars) :
  Lies W B k T.syms (numOf T.syms) (uj T) (q2a T.labels) T.scopes T.labels vs vc vl mk ma mt vars:=⟨h.block,h.syms,h.known,h.active,h.scopes,h.inner,h.labels,h.taken,h.apart⟩
theorem Lies.tab {W:World} {B k:Nat} {S:List (ByteArray × Bool)} {fk fa ft:ByteArray→Option Nat} {C:List (List Nat)} {L:List ByteArray} {vs vc vl:Value} {mk ma mt:Nat} {vars:List Value} (T:Tab)
  (h:Lies W B k S fk fa ft C L vs vc vl mk ma mt vars) (hS:S=T.syms) (hk:fk=numOf T.syms) (ha:fa=uj T) (ht:ft=q2a T.labels) (hC:C=T.scopes) (hL:L=T.labels):TabIs W B k T vs vc vl mk ma mt vars:=by
 subst hS hk ha ht hC hL
 exact⟨h.block,h.syms,h.known,h.active,h.scopes,h.inner,h.labels,h.taken,h.apart⟩
section
variable {W W':World} {B k k':Nat} {S S':List (ByteArray × Bool)} {fk fa ft f':ByteArray→Option Nat} {C:List (List Nat)} {L L':List ByteArray} {vs vc vl:Value} {mk ma mt:Nat} {vars:List Value}
theorem Lies.ne (h:Lies W B k S fk fa ft C L vs vc vl mk ma mt vars):B≠mk∧B≠ma∧B≠mt∧mk≠ma∧mk≠mt∧ma≠mt:=by
 have h1:=(List.nodup_append.1 h.apart).1
 simp at h1
 omega
theorem Lies.far (h:Lies W B k S fk fa ft C L vs vc vl mk ma mt vars):∀b ∈ [B,mk,ma,mt],∀v ∈ [vs,vc,vl]++vars,v.ownBlock≠some b:=(q7x h.apart).1
theorem Lies.pair (h:Lies W B k S fk fa ft C L vs vc vl mk ma mt vars):([vs,vc,vl]++vars).Pairwise (fun a b=>∀g,a.ownBlock=some g→b.ownBlock≠some g):=(q7x h.apart).2
theorem Lies.blt (h:Lies W B k S fk fa ft C L vs vc vl mk ma mt vars):B < W.heap.size:=(Array.getElem?_eq_some_iff.1 h.block).1
theorem Lies.mem (h:Lies W B k S fk fa ft C L vs vc vl mk ma mt vars):∀b ∈ wo B mk ma mt vs vc vl vars,b < W.heap.size:=by
 intro b hb
 rcases List.mem_append.1 hb with hb | hb
 ·simp only[List.mem_cons,List.not_mem_nil,or_false] at hb
  rcases hb with rfl | rfl | rfl | rfl
  ·exact h.blt
  ·obtain⟨n,_,hm⟩:=h.known;exact q00 hm
  ·obtain⟨n,_,hm⟩:=h.active;exact q00 hm
  ·obtain⟨n,_,hm⟩:=h.taken;exact q00 hm
 ·obtain⟨v,hv,hg⟩:=List.mem_filterMap.1 hb
  rcases List.mem_append.1 hv with hv | hv
  ·simp only[List.mem_cons,List.not_mem_nil,or_false] at hv
   rcases hv with rfl | rfl | rfl
   ·exact jo h.syms _ hg
   ·exact jo h.scopes _ hg
   ·exact jo h.labels _ hg
  ·obtain⟨i,hi⟩:=List.getElem?_of_mem hv
   obtain⟨l,_,ho⟩:=h.inner i v hi
   exact jo ho _ hg
theorem q2l {v:Value}{l:List Value}{hd:List Nat}{g:Nat}(hv:v ∈ l)(hg:v.ownBlock=some g):g ∈ hd++l.filterMap Value.ownBlock:=List.mem_append_right _ (List.mem_filterMap.2 ⟨v,hv,hg⟩)
theorem Lies.kept (h:Lies W B k S fk fa ft C L vs vc vl mk ma mt vars)(hk:∀b ∈ wo B mk ma mt vs vc vl vars,W'.heap[b]?=W.heap[b]?):Lies W' B k S fk fa ft C L vs vc vl mk ma mt vars:=by
 refine⟨(hk B (by simp[wo])).trans h.block,zo h.syms fun g e=>hk g (q2l (by simp) e),?_,?_,zo h.scopes fun g e=>hk g (q2l (by simp) e),?_,zo h.labels fun g e=>hk g (q2l (by simp) e),?_,h.apart⟩
 ·obtain⟨n,hn,hm⟩:=h.known;exact⟨n,hn,hm.kept (hk mk (by simp[wo]))⟩
 ·obtain⟨n,hn,hm⟩:=h.active;exact⟨n,hn,hm.kept (hk ma (by simp[wo]))⟩
 ·intro i v hi
  obtain⟨l,hl,ho⟩:=h.inner i v hi
  exact⟨l,hl,zo ho fun g e=>hk g (q2l (by have:=List.mem_of_getElem? hi;simp[this]) e)⟩
 ·obtain⟨n,hn,hm⟩:=h.taken;exact⟨n,hn,hm.kept (hk mt (by simp[wo]))⟩
theorem Lies.up (h:Lies W B k S fk fa ft C L vs vc vl mk ma mt vars)(hk:k≤k'):Lies W B k' S fk fa ft C L vs vc vl mk ma mt vars:=by
 refine⟨h.block,h.syms,?_,?_,h.scopes,h.inner,h.labels,?_,h.apart⟩
 ·obtain⟨n,hn,hm⟩:=h.known;exact⟨n,by omega,hm⟩
 ·obtain⟨n,hn,hm⟩:=h.active;exact⟨n,by omega,hm⟩
 ·obtain⟨n,hn,hm⟩:=h.taken;exact⟨n,by omega,hm⟩
theorem Lies.qgg (h:Lies W B k S fk fa ft C L vs vc vl mk ma mt vars)(m:Nat)(hmem:m ∈ [mk,ma,mt])(hg:∀i,i < W.heap.size→i≠m→W'.heap[i]?=W.heap[i]?) :
  W'.heap[B]?=W.heap[B]?∧(∀v ∈ [vs,vc,vl]++vars,∀g,g < W.heap.size→v.ownBlock=some g→W'.heap[g]?=W.heap[g]?):=by
 have ne:=h.ne
 have hmem':m ∈ [B,mk,ma,mt]:=List.mem_cons_of_mem _ hmem
 refine⟨hg B h.blt ?_,fun v hv g hlt e=>hg g hlt (fun e'=>h.far m hmem' v hv (e' ▸ e))⟩
 simp only[List.mem_cons,List.not_mem_nil,or_false] at hmem
 rcases hmem with rfl | rfl | rfl
 ·exact ne.1
 ·exact ne.2.1
 ·exact ne.2.2.1
theorem Lies.putA (h:Lies W B k S fk fa ft C L vs vc vl mk ma mt vars){n':Nat}(hm:jd W' ma n' f')(hn:n'≤k')(hk:k≤k')(hg:∀i,i < W.heap.size→i≠ma→W'.heap[i]?=W.heap[i]?) :
  Lies W' B k' S fk f' ft C L vs vc vl mk ma mt vars:=by
 have ne:=h.ne
 obtain⟨hB,hv⟩:=h.qgg ma (by simp) hg
 refine⟨hB.trans h.block,zo h.syms fun g e=>hv vs (by simp) g (jo h.syms g e) e,?_,⟨n',hn,hm⟩,zo h.scopes fun g e=>hv vc (by simp) g (jo h.scopes g e) e,?_,zo h.labels fun g e=>hv vl (by simp) g (jo h.labels g e) e,?_,h.apart⟩
 ·obtain⟨n,hn,hm⟩:=h.known;exact⟨n,by omega,hm.kept (hg mk (q00 hm) (by omega))⟩
 ·intro i v hi
  obtain⟨l,hl,ho⟩:=h.inner i v hi
  exact⟨l,hl,zo ho fun g e=>hv v (by have:=List.mem_of_getElem? hi;simp[this]) g (jo ho g e) e⟩
 ·obtain⟨n,hn,hm⟩:=h.taken;exact⟨n,by omega,hm.kept (hg mt (q00 hm) (by omega))⟩
theorem Lies.putK (h:Lies W B k S fk fa ft C L vs vc vl mk ma mt vars){n':Nat}(hm:jd W' mk n' f')(hn:n'≤k')(hk:k≤k')(hg:∀i,i < W.heap.size→i≠mk→W'.heap[i]?=W.heap[i]?) :
  Lies W' B k' S f' fa ft C L vs vc vl mk ma mt vars:=by
 have ne:=h.ne
 obtain⟨hB,hv⟩:=h.qgg mk (by simp) hg
 refine⟨hB.trans h.block,zo h.syms fun g e=>hv vs (by simp) g (jo h.syms g e) e,⟨n',hn,hm⟩,?_,zo h.scopes fun g e=>hv vc (by simp) g (jo h.scopes g e) e,?_,zo h.labels fun g e=>hv vl (by simp) g (jo h.labels g e) e,?_,h.apart⟩
 ·obtain⟨n,hn,hm⟩:=h.active;exact⟨n,by omega,hm.kept (hg ma (q00 hm) (by omega))⟩
 ·intro i v hi
  obtain⟨l,hl,ho⟩:=h.inner i v hi
  exact⟨l,hl,zo ho fun g e=>hv v (by have:=List.mem_of_getElem? hi;simp[this]) g (jo ho g e) e⟩
 ·obtain⟨n,hn,hm⟩:=h.taken;exact⟨n,by omega,hm.kept (hg mt (q00 hm) (by omega))⟩
theorem Lies.putT (h:Lies W B k S fk fa ft C L vs vc vl mk ma mt vars){n':Nat}(hm:jd W' mt n' f')(hn:n'≤k')(hk:k≤k')(hg:∀i,i < W.heap.size→i≠mt→W'.heap[i]?=W.heap[i]?) :
  Lies W' B k' S fk fa f' C L vs vc vl mk ma mt vars:=by
 have ne:=h.ne
 obtain⟨hB,hv⟩:=h.qgg mt (by simp) hg
 refine⟨hB.trans h.block,zo h.syms fun g e=>hv vs (by simp) g (jo h.syms g e) e,?_,?_,zo h.scopes fun g e=>hv vc (by simp) g (jo h.scopes g e) e,?_,zo h.labels fun g e=>hv vl (by simp) g (jo h.labels g e) e,⟨n',hn,hm⟩,h.apart⟩
 ·obtain⟨n,hn,hm⟩:=h.known;exact⟨n,by omega,hm.kept (hg mk (q00 hm) (by omega))⟩
 ·obtain⟨n,hn,hm⟩:=h.active;exact⟨n,by omega,hm.kept (hg ma (q00 hm) (by omega))⟩
 ·intro i v hi
  obtain⟨l,hl,ho⟩:=h.inner i v hi
  exact⟨l,hl,zo ho fun g e=>hv v (by have:=List.mem_of_getElem? hi;simp[this]) g (jo ho g e) e⟩
theorem qk1 {α:Type}{l:List α}{i:Nat}{v:α}(V:α)(hi:l[i]?=some v):l=l.take i++v :: l.drop (i + 1)∧l.set i V=l.take i++V :: l.drop (i + 1):=by
 obtain⟨hlt,rfl⟩:=List.getElem?_eq_some_iff.1 hi
 exact⟨by simp,by rw[List.set_eq_take_append_cons_drop,if_pos hlt]⟩
theorem q7y {hd:List Nat} {l:List Value} {i:Nat} {v V:Value} {g:Nat} (h:(hd++l.filterMap Value.ownBlock).Nodup) (hi:l[i]?=some v) (hV:V.ownBlock=some g)
  (hg:v.ownBlock=some g∨g ∉ hd++l.filterMap Value.ownBlock):(hd++(l.set i V).filterMap Value.ownBlock).Nodup:=by
 obtain⟨e1,e2⟩:=qk1 V hi
 rw[e2,List.filterMap_append,q4k,hV]
 rw[e1,List.filterMap_append,q4k] at h hg
 rcases hg with hg | hg
 ·rw[hg] at h;exact h
 ·rw[←List.append_assoc]
  refine qbm ?_ ?_
  ·rw[List.append_assoc]
   exact List.Nodup.sublist (List.Sublist.append (List.Sublist.refl _) (List.Sublist.append (List.Sublist.refl _) (List.sublist_append_right _ _))) h
  ·intro hm
   apply hg
   rw[List.append_assoc] at hm
   rcases List.mem_append.1 hm with h | h
   ·exact List.mem_append_left _ h
   ·refine List.mem_append_right _ ?_
    rcases List.mem_append.1 h with h | h
    ·exact List.mem_append_left _ h
    ·exact List.mem_append_right _ (List.mem_append_right _ h)
theorem qcr {hd:List Nat}{l:List Value}{i b:Nat}{V:Value}{g:Nat}(hV:V.ownBlock=some g)(hb:b ∈ hd++(l.set i V).filterMap Value.ownBlock):b ∈ hd++l.filterMap Value.ownBlock∨b=g:=by
 rcases List.mem_append.1 hb with h | h
 ·exact .inl (List.mem_append_left _ h)
 ·obtain⟨v,hv,hg⟩:=List.mem_filterMap.1 h
  rcases List.mem_or_eq_of_mem_set hv with h | rfl
  ·exact .inl (q2l h hg)
  ·rw[hV] at hg;cases hg;exact .inr rfl
theorem q74 {l:List Value}(h:l.Pairwise (fun a b=>∀g,a.ownBlock=some g→b.ownBlock≠some g)){i j:Nat}{a b:Value}(hi:l[i]?=some a)(hj:l[j]?=some b)(hij:i≠j):∀g,a.ownBlock=some g→b.ownBlock≠some g:=by
 obtain⟨hi',rfl⟩:=List.getElem?_eq_some_iff.1 hi
 obtain⟨hj',rfl⟩:=List.getElem?_eq_some_iff.1 hj
 rcases Nat.lt_or_gt_of_ne hij with hlt | hlt
 ·exact List.pairwise_iff_getElem.1 h i j hi' hj' hlt
 ·intro g hg hg'
  exact List.pairwise_iff_getElem.1 h j i hj' hi' hlt g hg' hg
theorem Lies.q3g (h:Lies W B k S fk fa ft C L vs vc vl mk ma mt vars) {V:Value} {g:Nat} (hV:V.ownBlock=some g) (hat:vs.ownBlock=some g∨W.heap.size≤g)
  (hown:W'.ownsRow 0 183 2 V S'.length (q0v S')) (hB:W'.heap[B]?=some (.cells #[V,.map (some mk),.map (some ma),vc,vl,.map (some mt)] 191 (0,0)))
  (hg:∀i,i < W.heap.size→i≠B→vs.ownBlock≠some i→W'.heap[i]?=W.heap[i]?):Lies W' B k S' fk fa ft C L V vc vl mk ma mt vars:=by
 have ne:=h.ne
 have keepM:∀m ∈ [mk,ma,mt],m≠B→m < W.heap.size→W'.heap[m]?=W.heap[m]?:=fun m hm hmB hlt=>hg m hlt hmB (h.far m (List.mem_cons_of_mem _ hm) vs (by simp))
 have keepV:∀(j:Nat) (v:Value),([vs,vc,vl]++vars)[j]?=some v→j≠0→∀g,g < W.heap.size→v.ownBlock=some g→W'.heap[g]?=W.heap[g]?:=fun j v hj hj0 g hlt e =>
  hg g hlt (fun e'=>h.far B (by simp) v (List.mem_of_getElem? hj) (e' ▸ e)) (fun e'=>q74 h.pair (i:=0) (j:=j) (a:=vs) rfl hj (Ne.symm hj0) g e' e)
 refine⟨hB,hown,?_,?_,zo h.scopes fun g e=>keepV 1 vc rfl (by omega) g (jo h.scopes g e) e,?_,zo h.labels fun g e=>keepV 2 vl rfl (by omega) g (jo h.labels g e) e,?_,?_⟩
 ·obtain⟨n,hn,hm⟩:=h.known;exact⟨n,hn,hm.kept (keepM mk (by simp) (by omega) (q00 hm))⟩
 ·obtain⟨n,hn,hm⟩:=h.active;exact⟨n,hn,hm.kept (keepM ma (by simp) (by omega) (q00 hm))⟩
 ·intro i v hi
  obtain⟨l,hl,ho⟩:=h.inner i v hi
  exact⟨l,hl,zo ho fun g e=>keepV (3 + i) v (by rw[List.getElem?_append_right (by simp)];simpa using hi) (by omega) g (jo ho g e) e⟩
 ·obtain⟨n,hn,hm⟩:=h.taken;exact⟨n,hn,hm.kept (keepM mt (by simp) (by omega) (q00 hm))⟩
 ·exact q7y (l:=[vs,vc,vl]++vars) (i:=0) (V:=V) h.apart rfl hV (hat.imp id fun hge hm=>by have:=h.mem g hm;omega)
theorem Lies.rowL (h:Lies W B k S fk fa ft C L vs vc vl mk ma mt vars) {V:Value} {g:Nat} (hV:V.ownBlock=some g) (hat:vl.ownBlock=some g∨W.heap.size≤g)
  (hown:W'.ownsRow 0 9 1 V L'.length (L'.map Value.string)) (hB:W'.heap[B]?=some (.cells #[vs,.map (some mk),.map (some ma),vc,V,.map (some mt)] 191 (0,0)))
  (hg:∀i,i < W.heap.size→i≠B→vl.ownBlock≠some i→W'.heap[i]?=W.heap[i]?):Lies W' B k S fk fa ft C L' vs vc V mk ma mt vars:=by
 have ne:=h.ne
 have keepM:∀m ∈ [mk,ma,mt],m≠B→m < W.heap.size→W'.heap[m]?=W.heap[m]?:=fun m hm hmB hlt=>hg m hlt hmB (h.far m (List.mem_cons_of_mem _ hm) vl (by simp))
 have keepV:∀(j:Nat) (v:Value),([vs,vc,vl]++vars)[j]?=some v→j≠2→∀g,g < W.heap.size→v.ownBlock=some g→W'.heap[g]?=W.heap[g]?:=fun j v hj hj0 g hlt e =>
  hg g hlt (fun e'=>h.far B (by simp) v (List.mem_of_getElem? hj) (e' ▸ e)) (fun e'=>q74 h.pair (i:=2) (j:=j) (a:=vl) rfl hj (Ne.symm hj0) g e' e)
 refine⟨hB,zo h.syms fun g e=>keepV 0 vs rfl (by omega) g (jo h.syms g e) e,?_,?_,zo h.scopes fun g e=>keepV 1 vc rfl (by omega) g (jo h.scopes g e) e,?_,hown,?_,?_⟩
 ·obtain⟨n,hn,hm⟩:=h.known;exact⟨n,hn,hm.kept (keepM mk (by simp) (by omega) (q00 hm))⟩
 ·obtain⟨n,hn,hm⟩:=h.active;exact⟨n,hn,hm.kept (keepM ma (by simp) (by omega) (q00 hm))⟩
 ·intro i v hi
  obtain⟨l,hl,ho⟩:=h.inner i v hi
  exact⟨l,hl,zo ho fun g e=>keepV (3 + i) v (by rw[List.getElem?_append_right (by simp)];simpa using hi) (by omega) g (jo ho g e) e⟩
 ·obtain⟨n,hn,hm⟩:=h.taken;exact⟨n,hn,hm.kept (keepM mt (by simp) (by omega) (q00 hm))⟩
 ·exact q7y (l:=[vs,vc,vl]++vars) (i:=2) (V:=V) h.apart rfl hV (hat.imp id fun hge hm=>by have:=h.mem g hm;omega)
theorem Lies.rowV (h:Lies W B k S fk fa ft C L vs vc vl mk ma mt vars) {j:Nat} {v V:Value} {g:Nat} {l':List Nat} (hj:vars[j]?=some v) (hV:V.ownBlock=some g) (hat:v.ownBlock=some g∨W.heap.size≤g)
  (hown:W'.ownsRow 0 3 1 V l'.length (l'.map (fun n:Nat=>Value.int .i64 n))) (hsc:W'.ownsRow 0 228 1 vc C.length (vars.set j V))
  (hg:∀i,i < W.heap.size→vc.ownBlock≠some i→v.ownBlock≠some i→W'.heap[i]?=W.heap[i]?):Lies W' B k S fk fa ft (C.set j l') L vs vc vl mk ma mt (vars.set j V):=by
 have ne:=h.ne
 have hv3:([vs,vc,vl]++vars)[3 + j]?=some v:=by rw[List.getElem?_append_right (by simp)];simpa using hj
 have hvm:v ∈ [vs,vc,vl]++vars:=List.mem_of_getElem? hv3
 have keepM:∀m ∈ [B,mk,ma,mt],m < W.heap.size→W'.heap[m]?=W.heap[m]?:=fun m hm hlt=>hg m hlt (h.far m hm vc (by simp)) (h.far m hm v hvm)
 have keepV:∀(i:Nat) (u:Value),([vs,vc,vl]++vars)[i]?=some u→i≠1→i≠3 + j→∀g,g < W.heap.size→u.ownBlock=some g→W'.heap[g]?=W.heap[g]?:=fun i u hi h1 h2 g hlt e =>
  hg g hlt (fun e'=>q74 h.pair (i:=1) (j:=i) (a:=vc) rfl hi (Ne.symm h1) g e' e) (fun e'=>q74 h.pair (i:=3 + j) (j:=i) (a:=v) hv3 hi (Ne.symm h2) g e' e)
 refine⟨(keepM B (by simp) h.blt).trans h.block,zo h.syms fun g e=>keepV 0 vs rfl (by omega) (by omega) g (jo h.syms g e) e,?_,?_,by rw[List.length_set];exact hsc,?_,zo h.labels fun g e=>keepV 2 vl rfl (by omega) (by omega) g (jo h.labels g e) e,?_,?_⟩
 ·obtain⟨n,hn,hm⟩:=h.known;exact⟨n,hn,hm.kept (keepM mk (by simp) (q00 hm))⟩
 ·obtain⟨n,hn,hm⟩:=h.active;exact⟨n,hn,hm.kept (keepM ma (by simp) (q00 hm))⟩
 ·intro i u hi
  obtain⟨l,hl,_⟩:=h.inner j v hj
  by_cases hij:i=j
  ·subst hij
   rw[List.getElem?_set_self (List.getElem?_eq_some_iff.1 hj).1] at hi
   cases hi
   exact⟨l',List.getElem?_set_self (List.getElem?_eq_some_iff.1 hl).1,hown⟩
  ·rw[List.getElem?_set_ne (Ne.symm hij)] at hi
   obtain⟨l,hl,ho⟩:=h.inner i u hi
   exact⟨l,by rw[List.getElem?_set_ne (Ne.symm hij)];exact hl,zo ho fun g e=>keepV (3 + i) u (by rw[List.getElem?_append_right (by simp)];simpa using hi) (by omega) (by omega) g (jo ho g e) e⟩
 ·obtain⟨n,hn,hm⟩:=h.taken;exact⟨n,hn,hm.kept (keepM mt (by simp) (q00 hm))⟩
 ·have:=q7y (l:=[vs,vc,vl]++vars) (i:=3 + j) (V:=V) h.apart hv3 hV (hat.imp id fun hge hm=>by have:=h.mem g hm;omega)
  rwa [List.set_append_right _ _ (by simp),show 3 + j - [vs,vc,vl].length=j by simp] at this
theorem Lies.pop (h:Lies W B k S fk fa ft C L vs vc vl mk ma mt vars) {V:Value} {n:Nat} (hn:C.length=n + 1) (hV:V.ownBlock=vc.ownBlock) (hown:W'.ownsRow 0 228 1 V n (vars.take n))
  (hB:W'.heap[B]?=some (.cells #[vs,.map (some mk),.map (some ma),V,vl,.map (some mt)] 191 (0,0))) (hg:∀i,i < W.heap.size→i≠B→W'.heap[i]?=W.heap[i]?) :
  Lies W' B k S fk fa ft (C.take n) L vs V vl mk ma mt (vars.take n):=by
 have ne:=h.ne
 have keepV:∀v ∈ [vs,vc,vl]++vars,∀g,g < W.heap.size→v.ownBlock=some g→W'.heap[g]?=W.heap[g]?:=fun v hv g hlt e=>hg g hlt (fun e'=>h.far B (by simp) v hv (e' ▸ e))
 refine⟨hB,zo h.syms fun g e=>keepV vs (by simp) g (jo h.syms g e) e,?_,?_,?_,?_,zo h.labels fun g e=>keepV vl (by simp) g (jo h.labels g e) e,?_,?_⟩
 ·obtain⟨n,hn,hm⟩:=h.known;exact⟨n,hn,hm.kept (hg mk (q00 hm) (by omega))⟩
 ·obtain⟨n,hn,hm⟩:=h.active;exact⟨n,hn,hm.kept (hg ma (q00 hm) (by omega))⟩
 ·rw[List.length_take,Nat.min_eq_left (by omega)];exact hown
 ·intro i u hi
  have hin:i < n:=by have:=(List.getElem?_eq_some_iff.1 hi).1;simp at this;omega
  rw[List.getElem?_take,if_pos hin] at hi
  obtain⟨l,hl,ho⟩:=h.inner i u hi
  exact⟨l,by rw[List.getElem?_take,if_pos hin];exact hl,zo ho fun g e=>keepV u (by have:=List.mem_of_getElem? hi;simp[this]) g (jo ho g e) e⟩
 ·obtain⟨n,hn,hm⟩:=h.taken;exact⟨n,hn,hm.kept (hg mt (q00 hm) (by omega))⟩
 ·refine List.Nodup.sublist (List.Sublist.append (List.Sublist.refl _) ?_) h.apart
  have e0:([vs,V,vl]++vars.take n).filterMap Value.ownBlock=([vs,vc,vl]++vars.take n).filterMap Value.ownBlock:=by
   simp only[List.cons_append,List.nil_append,q4k,hV]
  rw[e0]
  exact List.Sublist.filterMap _ (List.Sublist.append (List.Sublist.refl _) (List.take_sublist _ _))
end
structure Goes (bs:List Nat)(W:World)(bs':List Nat)(W':World):Prop where
 blocks:∀b ∈ bs',b ∈ bs∨W.heap.size≤b
 turned:Turned bs W W'
theorem Turned.refl (bs:List Nat)(W:World):Turned bs W W:=⟨rfl,rfl,rfl,Nat.le_refl _,fun _ _ _=>rfl⟩
theorem Goes.refl (bs:List Nat)(W:World):Goes bs W bs W:=⟨fun _ h=>.inl h,Turned.refl _ _⟩
theorem Goes.trans {bs bs' bs'':List Nat}{W W' W'':World}(h:Goes bs W bs' W')(g:Goes bs' W' bs'' W''):Goes bs W bs'' W'':=by
 refine⟨fun b hb=>?_,⟨g.turned.os.trans h.turned.os,g.turned.tape.trans h.turned.tape,g.turned.output.trans h.turned.output,Nat.le_trans h.turned.size g.turned.size,fun i hi hni=>?_⟩⟩
 ·rcases g.blocks b hb with hb | hb
  ·exact h.blocks b hb
  ·exact .inr (Nat.le_trans h.turned.size hb)
 ·refine (g.turned.block i (Nat.lt_of_lt_of_le hi h.turned.size) fun hm=>?_).trans (h.turned.block i hi hni)
  rcases h.blocks i hm with h1 | h1
  ·exact hni h1
  ·omega
theorem Goes.below {bs bs':List Nat}{W W':World}(h:Goes bs W bs' W'){N:Nat}(hN:N≤W.heap.size)(hb:∀b ∈ bs,N≤b):Below N W W'∧∀b ∈ bs',N≤b :=
 ⟨h.turned.below hN hb,fun b hm=>(h.blocks b hm).elim (hb b) fun h=>Nat.le_trans hN h⟩
theorem Goes.of_below {bs:List Nat}{W W':World}(h:Below W.heap.size W W'):Goes bs W bs W':=⟨fun _ h=>.inl h,⟨h.os,h.tape,h.output,h.size,fun i hi _=>h.block i hi⟩⟩
end Y
end Go.Proofs.YtbancemhfjjmlaaGreatDoor
