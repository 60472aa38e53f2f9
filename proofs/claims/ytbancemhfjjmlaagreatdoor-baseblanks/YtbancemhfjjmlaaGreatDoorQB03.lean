/- Laid together. -/
import Derived.Test.YtbancemhfjjmlaaGreatDoorTk
import Derived.Test.YtbancemhfjjmlaaGreatDoorProg
import Derived.WalkKit
import Derived.WalkLawsBesides
import Derived.WalkSpells
import Derived.BigQuiet
import Derived.Deep.QuietTactic
import Derived.Maps.OwnSet
import Derived.Shelf.LaysM
import Derived.Shelf.Strconv.Clone
import Derived.Ground.Names2Prog
import Derived.Shelf.Slices.Clone
import Derived.Ground.SlgnProg
import Derived.Shelf.SlicesE.Clone
import Derived.Deep.AppendLies
import Derived.RegionTactic
set_option maxRecDepth 100000
set_option maxHeartbeats 32000000
namespace Go.Proofs.YtbancemhfjjmlaaGreatDoor
namespace Y
def tbl:List Int:=[0,0,0,0,0,0,0,0,0,1,1,0,1,1,0,0,0,0,0,0,0,0,0,0,0,0,0,0,0,0,0,0,1,3,3,3,2,3,3,3,3,3,3,3,3,4,4,3,4,4,4,4,4,4,4,4,4,4,3,3,3,3,3,3,3,4,4,4,4,4,4,4,4,4,4,4,4,4,4,4,4,4,4,4,4,4,4,4,4,4,4,3,3,3,3,4,3,4,4,4,4,4,4,4,4,4,4,4,4,4,4,4,4,4,4,4,4,4,4,4,4,4,4,3,3,3,3,0]
def zy (c:Int):Int:=if c < 128 then tbl.getD c.toNat 0 else 0
theorem q8o:∀i:Nat,i < 128→0≤tbl.getD i 0∧tbl.getD i 0≤4:=by decide
theorem q9o (c:Int)(h0:0≤c):0≤zy c∧zy c≤4:=by
 unfold zy
 split
 ·exact q8o c.toNat (by omega)
 ·omega
theorem take_snoc (s:ByteArray)(k:Nat)(h:k < s.size):s.data.toList.take (k + 1)=s.data.toList.take k++[s[k]]:=by
 rw[List.take_succ_eq_append_getElem (by simpa using h)];rfl
theorem q7t {p:UInt8→Bool}{s:ByteArray}{k:Nat}(h:k < s.size)(ha:(s.data.toList.take k).all p=true)(hp:p s[k]=true):(s.data.toList.take (k + 1)).all p=true:=by
 rw[take_snoc s k h];simp[ha,hp]
theorem q7u {p:UInt8→Bool}{s:ByteArray}{k:Nat}(h:s.size≤k)(ha:(s.data.toList.take k).all p=true):s.data.toList.all p=true:=by
 rwa [List.take_of_length_le (by simpa using h)] at ha
theorem q7v {p:UInt8→Bool}{s:ByteArray}{k:Nat}(h:k < s.size)(hp:p s[k]=false):s.data.toList.all p=false:=by
 rw[List.all_eq_false];refine⟨s[k],?_,by simp[hp]⟩;have:s.data.toList[k]'(by simpa using h)=s[k]:=rfl
 rw[←this];exact List.getElem_mem _
def uz (s:ByteArray)(k:Int):Bool:=decide (1≤s.size) && decide (s.size≤32) && s.data.toList.all (fun b=>decide (k≤zy b.toNat))
theorem q9p (s:ByteArray)(k:Int)(h:s.size < 1):uz s k=false:=by
 unfold uz;rw[decide_eq_false (show ¬1≤s.size by omega)];rfl
theorem qan (s:ByteArray)(k:Int)(h:32 < s.size):uz s k=false:=by
 unfold uz;rw[decide_eq_false (show ¬s.size≤32 by omega)];simp
theorem qf7 (s:ByteArray)(k:Int)(h1:1≤s.size)(h2:s.size≤32):uz s k=s.data.toList.all (fun b=>decide (k≤zy b.toNat)):=by
 unfold uz;simp[h1,h2]
open Go.RowKit
def KB (w:World):Prop:=∀i:Nat,i < 128→w.cell? ⟨1,i,none⟩=some (.int .u8 (tbl.getD i 0))
theorem q5u {k:IntKind}{a b:Int}(h:a=b):Ending.returned (.int k a)=.returned (.int k b):=by rw[h]
theorem q2g {a b:Bool}(h:a=b):Ending.returned (.bool a)=.returned (.bool b):=by rw[h]
theorem q2j (c:Int)(w:World)(h0:0≤c)(h1:c < 256)(hk:KB w) :
  Calls Tryz.prog 120 #[.int .u8 c] w fun e w'=>e=.returned (.int .u8 (zy c))∧w'=w:=by
 by_cases hc:c < 128
 ·have hcell:=hk c.toNat (by omega);have hkf:Hid (zy c=tbl.getD c.toNat 0):=by unfold zy;rw[if_pos hc];rfl
  clear hk;go_enter Tryz.func120,Tryz.ntmps120
  go_wp2
  go_ret
  exact⟨q5u (by rw[hkf.out];simp),rfl⟩
 ·have hkf:Hid (zy c=0):=by unfold zy;rw[if_neg hc];rfl
  clear hk;go_enter Tryz.func120,Tryz.ntmps120
  go_wp2
  go_ret
  exact⟨q5u (by rw[hkf.out]),rfl⟩
theorem q72 (b:UInt8):((b.toNat:Nat):Int) < 256:=by have:=b.toNat_lt;omega
theorem qbf (s:ByteArray)(k:Int)(w:World)(hs:s.size≤maxLen)(_k0:0≤k)(_k1:k≤4)(hKB:KB w) :
  Calls Tryz.prog 213 #[.string s,.int .u8 k] w fun e w'=>e=.returned (.bool (uz s k))∧w'=w:=by
 unfold maxLen at hs
 by_cases h1:s.size < 1
 ·have hm:Hid (uz s k=false):=q9p s k h1;clear hKB;go_enter Tryz.func213,Tryz.ntmps213
  go_wp2
  go_ret
  exact⟨q2g (by rw[hm.out]),rfl⟩
 by_cases h2:32 < s.size
 ·have hm:Hid (uz s k=false):=qan s k h2;clear hKB;go_enter Tryz.func213,Tryz.ntmps213
  go_wp2
  go_ret
  exact⟨q2g (by rw[hm.out]),rfl⟩
 have hm:Hid (uz s k=s.data.toList.all (fun b=>decide (k≤zy b.toNat))):=qf7 s k (by omega) (by omega);go_enter Tryz.func213,Tryz.ntmps213
 go_wp2
 go_loop [16] (fun i=>∃n:Nat,n≤s.size∧i=.int .i64 n∧Hid ((s.data.toList.take n).all (fun b=>decide (k≤zy b.toNat))=true)) (fun i=>s.size - (intOf i).toNat)
 case atStart=>exact⟨0,Nat.zero_le _,rfl,rfl⟩
 case round =>
  obtain⟨n,hn,rfl,ha⟩:=hrel
  by_cases hlt:n < s.size
  ·go_wp2_with (go_at_call 120;refine (q2j _ _ (Int.natCast_nonneg _) (q72 _) hKB).mono ?_;rintro e w' ⟨rfl,rfl⟩)
   ·have hk:zy s[n].toNat < k:=by assumption
    go_ret
    exact⟨q2g (by rw[hm.out,q7v hlt (by simpa using hk)]),rfl⟩
   ·have hk:k≤zy s[n].toNat:=by assumption
    go_round
    case rel=>exact⟨n + 1,by omega,by go_num,q7t hlt ha.out (by simpa using hk)⟩
    case measure=>simp[intOf];omega
  ·go_wp2
   go_ret
   exact⟨q2g (by rw[hm.out,q7u (by omega) ha.out]),rfl⟩
theorem name_any (s:ByteArray)(w:World)(hs:s.size≤maxLen)(hKB:KB w) :
  Calls Tryz.prog 154 #[.string s] w fun e w'=>e=.returned (.bool (uz s 4))∧w'=w:=by
 go_enter Tryz.func154,Tryz.ntmps154
 go_wp2_with (go_at_call 213;refine (qbf _ _ _ hs (by omega) (by omega) hKB).mono ?_;rintro e w' ⟨rfl,rfl⟩)
 go_ret
 exact⟨rfl,rfl⟩
theorem q1g (s:ByteArray)(w:World)(hs:s.size≤maxLen)(hKB:KB w) :
  Calls Tryz.prog 158 #[.string s] w fun e w'=>e=.returned (.bool (uz s 3))∧w'=w:=by
 go_enter Tryz.func158,Tryz.ntmps158
 go_wp2_with (go_at_call 213;refine (qbf _ _ _ hs (by omega) (by omega) hKB).mono ?_;rintro e w' ⟨rfl,rfl⟩)
 go_ret
 exact⟨rfl,rfl⟩
open Go.Maps Go.RowKit Go.WideMaps
open Go.ChangeMaps (setBlock heap_setBlock_other)
theorem qpx:Keyed Tryz.prog 9:=string_keyed Tryz.underlying9
theorem zero3 (w:World):(zeroValue 3).run Tryz.prog w=.ok (.int .i64 0) w:=by kernel_rfl
def q83 (s:ByteArray):Lit:=.string s.data.toList
theorem qg1 {s t:ByteArray}(h:q83 s=q83 t):s=t:=by
 unfold q83 at h;have h':s.data.toList=t.data.toList:=by simpa using h
 obtain⟨⟨a⟩⟩:=s;obtain⟨⟨b⟩⟩:=t;have:a=b:=h'
 rw[this]
theorem qac {s:ByteArray}(hs:s.size≤maxLen):keyOf Tryz.prog 9 (.string s)=some (q83 s):=keyOf_string_mk Tryz.underlying9 hs
theorem qg2 (s:ByteArray):WideAt.IsKeyLit (q83 s):=by unfold q83;simp[WideAt.IsKeyLit]
def qpy:DataW Unit:=.lit (.int .i64 0)
def jg (W:World)(b n:Nat)(f:ByteArray→Option Nat):Prop :=
 ∃D:DataW Unit,W.ownsMap Tryz.prog 9 (plainElem Tryz.prog 3) b n D∧∀s,has D (q83 s)=(f s).isSome∧D.atKey (q83 s) qpy=.lit (.int .i64 ((f s).getD 0:Nat))
theorem jg.made (w:World):jg (w.alloc (.map #[] 0)) w.heap.size 0 (fun _=>none) :=
 ⟨.map [],World.ownsMap_made _ _ _ _,fun _=>⟨rfl,rfl⟩⟩
theorem jg.kept {W W':World}{b n:Nat}{f:ByteArray→Option Nat}(h:jg W b n f)(hb:W'.heap[b]?=W.heap[b]?):jg W' b n f:=by
 obtain⟨D,⟨es,clock,hh,hr⟩,hf⟩:=h;exact⟨D,⟨es,clock,hb.trans hh,hr⟩,hf⟩
theorem jg.look {W:World}{b n:Nat}{f:ByteArray→Option Nat}(h:jg W b n f)(s:ByteArray)(hs:s.size≤maxLen) :
  (Instr.lookup 118 (.map (some b)) (.string s) true).run Tryz.prog W=.ok (.tuple #[.int .i64 ((f s).getD 0:Nat),.bool (f s).isSome]) W:=by
 obtain⟨D,hown,hf⟩:=h;obtain⟨v,ps,hrun,hv⟩:=hown.look_ok qpx Tryz.underlying118 (zero3 W) (plainElem_int (H:=Unit) Tryz.underlying3 (by decide)) (qac hs);obtain⟨c,rfl,hc,_⟩:=plainElem_int_inv Tryz.underlying3 hv;have h1:D.atKey (q83 s) qpy=.lit (.int .i64 c):=congrArg Prod.fst hc;rw[(hf s).2] at h1;have e:(((f s).getD 0:Nat):Int)=c:=by simpa using h1
 rw[hrun,(hf s).1,e]
theorem jg.put {W:World}{b n:Nat}{f:ByteArray→Option Nat}(h:jg W b n f)(hn:n < maxLen)(s:ByteArray)(hs:s.size≤maxLen)(c:Nat)(hc:c≤4611686018427387904) :
  ∃W',(Instr.mapUpdate 118 (.map (some b)) (.string s) (.int .i64 c)).run Tryz.prog W=.ok () W'∧jg W' b (n + 1) (fun t=>if t=s then some c else f t)∧W.grownBy W' (some b):=by
 obtain⟨D,hown,hf⟩:=h;obtain⟨W',hrun,hown',hg⟩:=hown.update qpx Tryz.underlying118 hn (qac hs) (plainElem_int (H:=Unit) (q:=.i64) Tryz.underlying3 (a:=(c:Int)) (WalkArith.wf_i64 (by omega)));refine⟨W',hrun,⟨_,hown',fun t=>?_⟩,hg⟩;have hM:IsMap D:=by
  obtain⟨es,e,_⟩:=hown.tidy qpx;exact⟨es,e⟩
 dsimp only
 by_cases e:t=s
 ·subst e;rw[if_pos rfl,has_put_same hM (qg2 t),atKey_put_same hM (qg2 t)];exact⟨rfl,rfl⟩
 ·have hne:q83 t≠q83 s:=fun h=>e (qg1 h)
  rw[if_neg e,has_put_other hne,atKey_put_other hne];exact hf t
theorem jg.del {W:World}{b n:Nat}{f:ByteArray→Option Nat}(h:jg W b n f)(s:ByteArray)(hs:s.size≤maxLen)(ty:TypeId) :
  ∃W',(Builtin.delete_ #[118,9] ty #[.map (some b),.string s]).run Tryz.prog W=.ok (.tuple #[]) W'∧jg W' b n (fun t=>if t=s then none else f t)∧W.grownBy W' (some b):=by
 obtain⟨D,hown,hf⟩:=h;obtain⟨W',hrun,hown',es,clock,es',clock',hb,hW'⟩:=hown.drop qpx Tryz.underlying118 (qac hs) ty;refine⟨W',hrun,⟨_,hown',fun t=>?_⟩,?_⟩
 ·dsimp only
  by_cases e:t=s
  ·subst e;rw[if_pos rfl,has_del_same,atKey_del_same];exact⟨rfl,rfl⟩
  ·have hne:q83 t≠q83 s:=fun h=>e (qg1 h)
   rw[if_neg e,has_del_other hne,atKey_del_other hne];exact hf t
 ·rw[hW'];exact⟨rfl,rfl,rfl,by simp[setBlock],fun i _ hi=>heap_setBlock_other hb _ (fun e=>hi (by rw[e]))⟩
open Go.Shelf
def Tryz.q3j:Go.Shelf.Ren:=⟨fun | 316=>151 | n=>n,fun | 9=>9 | 3=>3 | 4=>4 | 37=>133 | 0=>0 | 127=>210 | 5=>5 | n=>n,fun | n=>n⟩
theorem Tryz.laysM316:Go.Proofs.LaysM.n316 Tryz.prog Tryz.q3j:={
 mixed:=by kernel_rfl
 f316:=Tryz.func151.trans (congrArg some (by kernel_rfl))
 t0:=Tryz.underlying0
 a0:=Tryz.isAgg0
 z0:=Tryz.sizeOf0
 v0:=Tryz.zeroValue0
 t3:=Tryz.underlying3
 a3:=Tryz.isAgg3
 z3:=Tryz.sizeOf3
 v3:=Tryz.zeroValue3
 t4:=Tryz.underlying4
 a4:=Tryz.isAgg4
 z4:=Tryz.sizeOf4
 v4:=Tryz.zeroValue4
 t9:=Tryz.underlying9
 a9:=Tryz.isAgg9
 z9:=Tryz.sizeOf9
 v9:=Tryz.zeroValue9
 t37:=Tryz.underlying133
 a37:=Tryz.isAgg133
 z37:=Tryz.sizeOf133
 v37:=Tryz.zeroValue133
 t127:=Tryz.underlying210
 a127:=Tryz.isAgg210
 z127:=Tryz.sizeOf210
 v127:=Tryz.zeroValue210
 t5:=Tryz.underlying5
 a5:=Tryz.isAgg5
 z5:=Tryz.sizeOf5
 v5:=Tryz.zeroValue5
 i0:=by kernel_rfl
 i3:=by kernel_rfl
 i4:=by kernel_rfl
 i5:=by kernel_rfl
 i9:=by kernel_rfl
 i37:=by kernel_rfl
 i127:=by kernel_rfl }
open Go.RowKit in
theorem Tryz.stringslite_Clone (s:ByteArray)(w:World)(hlim:s.size≤281474976710656) :
  Calls Tryz.prog 151 #[.string s] w fun e w'=>e=.returned (.string s)∧Below w.heap.size w w':=Any.stringslite_Clone Tryz.laysM316 s w hlim
structure Tab where
 syms:List (ByteArray × Bool)
 act:List Nat
 scopes:List (List Nat)
 labels:List ByteArray
def qit:Tab:=⟨[],[],[],[]⟩
def q19 (l:List (ByteArray × Bool)):List Value:=l.flatMap (fun p=>[.string p.1,.bool p.2])
def numOf (l:List (ByteArray × Bool))(s:ByteArray):Option Nat:=l.findIdx? (fun p=>p.1=s)
def q07 (T:Tab)(s:ByteArray):Option Nat:=(numOf T.syms s).filter (fun n=>n ∈ T.act)
def q2e (l:List ByteArray)(s:ByteArray):Option Nat:=l.findIdx? (fun t=>t=s)
structure TabIs (W:World)(B k:Nat)(T:Tab)(vs vc vl:Value)(mk ma mt:Nat)(vars:List Value):Prop where
 block:W.heap[B]?=some (.cells #[vs,.map (some mk),.map (some ma),vc,vl,.map (some mt)] 191 (0,0))
 syms:W.ownsRow 0 183 2 vs T.syms.length (q19 T.syms)
 known:∃n,n≤k∧jg W mk n (numOf T.syms)
 active:∃n,n≤k∧jg W ma n (q07 T)
 scopes:W.ownsRow 0 228 1 vc T.scopes.length vars
 inner:∀(i:Nat) (v:Value),vars[i]?=some v→∃l:List Nat,T.scopes[i]?=some l∧W.ownsRow 0 3 1 v l.length (l.map (fun n:Nat=>Value.int .i64 n))
 labels:W.ownsRow 0 9 1 vl T.labels.length (T.labels.map Value.string)
 taken:∃n,n≤k∧jg W mt n (q2e T.labels)
 apart:([B,mk,ma,mt]++([vs,vc,vl]++vars).filterMap Value.ownBlock).Nodup
def yh (B mk ma mt:Nat)(vs vc vl:Value)(vars:List Value):List Nat:=[B,mk,ma,mt]++([vs,vc,vl]++vars).filterMap Value.ownBlock
def TabAt (W:World)(bs:List Nat)(B k:Nat)(T:Tab):Prop:=∃vs vc vl mk ma mt vars,TabIs W B k T vs vc vl mk ma mt vars∧bs=yh B mk ma mt vs vc vl vars
structure Turned (bs:List Nat)(W W':World):Prop where
 os:W'.os=W.os
 tape:W'.tape=W.tape
 output:W'.output=W.output
 size:W.heap.size≤W'.heap.size
 block:∀i,i < W.heap.size→i ∉ bs→W'.heap[i]?=W.heap[i]?
theorem Turned.below {bs:List Nat}{W W':World}(h:Turned bs W W'){N:Nat}(hN:N≤W.heap.size)(hb:∀b ∈ bs,N≤b):Below N W W' :=
 ⟨h.os,h.tape,h.output,h.size,fun i hi=>h.block i (by omega) (fun hm=>by have:=hb i hm;omega)⟩
theorem TabIs.mem {W:World}{B k:Nat}{T:Tab}{vs vc vl:Value}{mk ma mt:Nat}{vars:List Value}(h:TabIs W B k T vs vc vl mk ma mt vars):∀b ∈ yh B mk ma mt vs vc vl vars,b < W.heap.size:=by
 have own:∀(v:Value) (base e size n:Nat) (xs:List Value) (g:Nat),W.ownsRow base e size v n xs→v.ownBlock=some g→g < W.heap.size:=by
  intro v base e size n xs g ho hg;rcases ho.2 with ⟨rfl,_⟩ | ⟨g',cap,cur,rfl,_,hh,_⟩
  ·simp[Value.ownBlock] at hg
  ·have e':g'=g:=by simpa [Value.ownBlock] using hg
   subst e';exact (aIx hh)
 have mp:∀(b n:Nat) (f:ByteArray→Option Nat),jg W b n f→b < W.heap.size:=by
  rintro b n f ⟨D,⟨es,clock,hh,_⟩,_⟩;exact (aIx hh)
 intro b hb;rcases mAp.1 hb with hb | hb
 ·simp only[List.mem_cons,List.not_mem_nil,or_false] at hb;rcases hb with rfl | rfl | rfl | rfl
  ·exact (aIx h.block)
  ·obtain⟨n,_,hm⟩:=h.known;exact mp _ _ _ hm
  ·obtain⟨n,_,hm⟩:=h.active;exact mp _ _ _ hm
  ·obtain⟨n,_,hm⟩:=h.taken;exact mp _ _ _ hm
 ·obtain⟨v,hv,hg⟩:=List.mem_filterMap.1 hb;rcases mAp.1 hv with hv | hv
  ·simp only[List.mem_cons,List.not_mem_nil,or_false] at hv;rcases hv with rfl | rfl | rfl
   ·exact own _ _ _ _ _ _ _ h.syms hg
   ·exact own _ _ _ _ _ _ _ h.scopes hg
   ·exact own _ _ _ _ _ _ _ h.labels hg
  ·obtain⟨i,hi⟩:=List.getElem?_of_mem hv;obtain⟨l,_,ho⟩:=h.inner i v hi;exact own _ _ _ _ _ _ _ ho hg
theorem new_any (w:World):Calls Tryz.prog 99 #[] w fun e w'=>e=.returned (.pointer (some ⟨w.heap.size + 3,0,none⟩))∧(∃bs,TabAt w' bs (w.heap.size + 3) 0 qit∧∀b ∈ bs,w.heap.size≤b)∧Below w.heap.size w w':=by
 have hmm:=@run_makeMap Tryz.prog;go_enter Tryz.func99,Tryz.ntmps99
 go_wp2
 go_ret
 refine⟨rfl,?_,(((bRf.alloc (Nat.le_refl _) _).alloc (by simp) _).alloc (by simp;omega) _).alloc (by simp;omega) _⟩;refine⟨_,⟨.slice none 0 0,.slice none 0 0,.slice none 0 0,w.heap.size,w.heap.size + 1,w.heap.size + 1 + 1,[],?_,rfl⟩,fun b hb=>by simp[yh,Value.ownBlock] at hb;omega⟩;have m1:∀(A B C:Obj),jg ((((w.alloc (.map #[] 0)).alloc A).alloc B).alloc C) w.heap.size 0 (fun _=>none):=fun A B C =>
  (jg.made w).kept (by rw[Below.heap_alloc _ _ _ (by simp <;> omega),Below.heap_alloc _ _ _ (by simp <;> omega),Below.heap_alloc _ _ _ (by simp)])
 have m2:∀(A B C:Obj),jg ((((w.alloc A).alloc (.map #[] 0)).alloc B).alloc C) (w.heap.size + 1) 0 (fun _=>none):=fun A B C=>by
  have h:=jg.made (w.alloc A);rw[show (w.alloc A).heap.size=w.heap.size + 1 by simp] at h;exact h.kept (by rw[Below.heap_alloc _ _ _ (by simp <;> omega),Below.heap_alloc _ _ _ (by simp)])
 have m3:∀(A B C:Obj),jg ((((w.alloc A).alloc B).alloc (.map #[] 0)).alloc C) (w.heap.size + 1 + 1) 0 (fun _=>none):=fun A B C=>by
  have h:=jg.made ((w.alloc A).alloc B);rw[show ((w.alloc A).alloc B).heap.size=w.heap.size + 1 + 1 by simp] at h;exact h.kept (by rw[Below.heap_alloc _ _ _ (by simp)])
 have e0:(fun _=>none:ByteArray→Option Nat)=numOf qit.syms:=by funext s;rfl
 have e1:(fun _=>none:ByteArray→Option Nat)=q07 qit:=by funext s;rfl
 have e2:(fun _=>none:ByteArray→Option Nat)=q2e qit.labels:=by funext s;rfl
 refine⟨?_,World.ownsRow_nil _ _ _ _,⟨0,Nat.le_refl _,e0 ▸ m1 _ _ _⟩,⟨0,Nat.le_refl _,e1 ▸ m2 _ _ _⟩,World.ownsRow_nil _ _ _ _,fun i v h=>by simp at h,World.ownsRow_nil _ _ _ _,⟨0,Nat.le_refl _,e2 ▸ m3 _ _ _⟩,?_⟩
 ·have h:=heap_alloc_new (((w.alloc (.map #[] 0)).alloc (.map #[] 0)).alloc (.map #[] 0)) (Obj.cells #[.slice none 0 0,.map (some w.heap.size),.map (some (w.heap.size + 1)),.slice none 0 0,.slice none 0 0,.map (some (w.heap.size + 1 + 1))] 191);rw[show (((w.alloc (.map #[] 0)).alloc (.map #[] 0)).alloc (.map #[] 0)).heap.size=w.heap.size + 3 by simp] at h;exact h
 ·simp[Value.ownBlock];exact⟨by omega,(List.nodup_nil:([]:List Nat).Nodup)⟩
theorem ji {W:World}{base e size:Nat}{v:Value}{n:Nat}{xs:List Value}(h:W.ownsRow base e size v n xs):∃a cap,v=.slice a n cap:=by
 rcases h.2 with ⟨rfl,rfl⟩ | ⟨g,cap,cur,rfl,_⟩
 ·exact⟨_,_,rfl⟩
 ·exact⟨_,_,rfl⟩
theorem q15 {W:World}{B:Nat}{a b c d e f:Value}{t:TypeId}(h:W.heap[B]?=some (.cells #[a,b,c,d,e,f] t (0,0))) :
  W.cell? ⟨B,0,none⟩=some a∧W.cell? ⟨B,1,none⟩=some b∧W.cell? ⟨B,2,none⟩=some c∧W.cell? ⟨B,3,none⟩=some d∧W.cell? ⟨B,4,none⟩=some e∧W.cell? ⟨B,5,none⟩=some f:=by
 refine⟨?_,?_,?_,?_,?_,?_⟩ <;> simp[World.cell?,h]
theorem count_any (w:World)(bs:List Nat)(B k:Nat)(T:Tab)(h:TabAt w bs B k T):Calls Tryz.prog 73 #[.pointer (some ⟨B,0,none⟩)] w fun e w'=>e=.returned (.int .i64 T.syms.length)∧w'=w:=by
 obtain⟨vs,vc,vl,mk,ma,mt,vars,h,_⟩:=h;obtain⟨a,cap,rfl⟩:=ji h.syms;obtain⟨c0,_⟩:=q15 h.block;clear h;go_enter Tryz.func73,Tryz.ntmps73
 go_wp2
 go_ret
 exact⟨rfl,rfl⟩
theorem q4i (w:World)(bs:List Nat)(B k:Nat)(T:Tab)(h:TabAt w bs B k T):Calls Tryz.prog 156 #[.pointer (some ⟨B,0,none⟩)] w fun e w'=>e=.returned (.int .i64 T.scopes.length)∧w'=w:=by
 obtain⟨vs,vc,vl,mk,ma,mt,vars,h,_⟩:=h;obtain⟨a,cap,rfl⟩:=ji h.scopes;obtain⟨_,_,_,c3,_⟩:=q15 h.block;clear h;go_enter Tryz.func156,Tryz.ntmps156
 go_wp2
 go_ret
 exact⟨rfl,rfl⟩
theorem qpz (w:World)(bs:List Nat)(B k:Nat)(T:Tab)(s:ByteArray)(hs:s.size≤maxLen)(h:TabAt w bs B k T):Calls Tryz.prog 250 #[.pointer (some ⟨B,0,none⟩),.string s] w fun e w'=>e=.returned (.tuple #[.int .i64 ((q07 T s).getD 0:Nat),.bool (q07 T s).isSome])∧w'=w:=by
 obtain⟨vs,vc,vl,mk,ma,mt,vars,h,_⟩:=h;obtain⟨_,_,c2,_⟩:=q15 h.block;obtain⟨n,_,hm⟩:=h.active;have hl:=hm.look s hs;generalize q07 T s=r at *;clear h hm;go_enter Tryz.func250,Tryz.ntmps250
 go_wp2
 refine bodyPost_ret (v:=.tuple #[.int .i64 (r.getD 0:Nat),.bool r.isSome]) (by simp[results,Tryz.results250,go_sem]) rfl ⟨rfl,rfl⟩
theorem xq {W:World}{base e size g n cap:Nat}{xs:List Value}(h:W.ownsRow base e size (.slice (some ⟨g,0,none⟩) n cap) n xs)(i:Nat)(u:Value)(hi:xs[i]?=some u):W.cell? ⟨g,i,none⟩=some u:=by
 rcases h.2 with ⟨e',_⟩ | ⟨g',cap',cur,hv,hg,hh,hn,hc,hsz,ht⟩
 ·cases e'
 ·simp only[Value.slice.injEq,Option.some.injEq,Addr.mk.injEq] at hv;obtain⟨⟨rfl,_⟩,_,rfl⟩:=hv;have hlt:i < n * size:=by have:=h.1;have:=(List.getElem?_eq_some_iff.1 hi).1;omega
  have:cur[i]?=some u:=by
   rw[←ht,List.getElem?_take,if_pos hlt] at hi
   simpa using hi
  simp[World.cell?,hh,this]
theorem q4r {W:World}{base e size:Nat}{v:Value}{n:Nat}{xs:List Value}(h:W.ownsRow base e size v n xs)(hn:0 < n):∃g cap,v=.slice (some ⟨g,0,none⟩) n cap:=by
 rcases h.2 with ⟨_,h0⟩ | ⟨g,cap,cur,rfl,_⟩
 ·omega
 ·exact⟨g,cap,rfl⟩
theorem qad:∀(l:List (ByteArray × Bool)) (i:Nat) (p:ByteArray × Bool),l[i]?=some p→(q19 l)[i * 2]?=some (.string p.1)∧(q19 l)[i * 2 + 1]?=some (.bool p.2):=by
 intro l
 induction l with
 | nil=>intro i p h;simp at h
 | cons a l ih =>
  intro i p h
  cases i with
  | zero =>
   simp only[List.getElem?_cons_zero,Option.some.injEq] at h;subst h;simp[q19]
  | succ i =>
   have:=ih i p (by simpa using h)
   have e:∀j,(q19 (a :: l))[(i + 1) * 2 + j]?=(q19 l)[i * 2 + j]?:=fun j=>by
    rw[show (i + 1) * 2 + j=i * 2 + j + 1 + 1 by omega];simp[q19]
   exact⟨by rw[show (i + 1) * 2=(i + 1) * 2 + 0 by omega,e 0];exact this.1,by rw[e 1];exact this.2⟩
def q31 (T:Tab)(n:Int):Option (ByteArray × Bool):=if 0≤n then T.syms[n.toNat]? else none
def nameOf (o:Option (ByteArray × Bool)):ByteArray:=(o.map (·.1)).getD ⟨#[]⟩
def varOf (o:Option (ByteArray × Bool)):Bool:=(o.map (·.2)).getD false
theorem qq0 (w:World)(bs:List Nat)(B k:Nat)(T:Tab)(n:Int)(hT:T.syms.length≤4611686018427387904)(h:TabAt w bs B k T) :
  Calls Tryz.prog 125 #[.pointer (some ⟨B,0,none⟩),.int .i64 n] w fun e w'=>e=.returned (.tuple #[.agg #[.string (nameOf (q31 T n)),.bool (varOf (q31 T n))],.bool (q31 T n).isSome])∧Below w.heap.size w w':=by
 obtain⟨vs,vc,vl,mk,ma,mt,vars,h,_⟩:=h;have hrow:=h.syms;have hblk:=h.block;have hBw:B < w.heap.size:=(aIx hblk);clear h;have later:∀(O:Obj) (g i:Nat) (u:Value),w.cell? ⟨g,i,none⟩=some u→(w.alloc O).cell? ⟨g,i,none⟩=some u:=fun O g i u hc =>
  (World.cell?_of_block (w:=w) (a:=⟨g,i,none⟩) (Below.heap_alloc w O g (bLt hc))).trans hc
 have Hl:Hid _:=later;obtain⟨c0,_⟩:=q15 hblk
 by_cases hn:0≤n∧n < (T.syms.length:Int)
 ·obtain⟨i,rfl⟩:∃i:Nat,n=(i:Int):=⟨n.toNat,by omega⟩;obtain⟨p,hp⟩:∃p,T.syms[i]?=some p:=⟨T.syms[i]'(by omega),gEq _⟩;have hs:q31 T (i:Int)=some p:=by unfold q31;rw[if_pos hn.1];simpa using hp
  rw[hs];obtain⟨g,cap,rfl⟩:=q4r hrow (by omega);obtain⟨y0,y1⟩:=qad _ _ _ hp;have q0:=xq hrow _ _ y0;have q1:=xq hrow _ _ y1;obtain⟨L,hL⟩:=eXa T.syms.length;rw[←hL] at c0 hn hT;have a0:=later (.cells #[.string ⟨#[]⟩,.bool false] 183) _ _ _ c0;have a1:=later (.cells #[.string ⟨#[]⟩,.bool false] 183) _ _ _ q0;have a2:=later (.cells #[.string ⟨#[]⟩,.bool false] 183) _ _ _ q1;have n1:(0:Int)≤(i:Int):=hn.1;have n2:(i:Int) < (L:Int):=hn.2;obtain⟨nm,vr⟩:=p;clear later hrow hblk hp y0 y1 hL hs hn;go_enter Tryz.func125,Tryz.ntmps125
  go_wp2
  exact bodyPost_ret (v:=.tuple #[.agg #[.string nm,.bool vr],.bool true]) (by simp[results,Tryz.results125,go_sem]) rfl ⟨rfl,bRf.alloc (Nat.le_refl _) _⟩
 ·have hs:q31 T n=none:=by
   unfold q31
   split
   ·exact List.getElem?_eq_none (by omega)
   ·rfl
  rw[hs];obtain⟨a,cap,rfl⟩:=ji hrow;obtain⟨L,hL⟩:=eXa T.syms.length;rw[←hL] at c0 hn hT;have a0:=later (.cells #[.string ⟨#[]⟩,.bool false] 183) _ _ _ c0;clear later hrow hblk hL hs
  by_cases hneg:n < 0
  ·clear hn;go_enter Tryz.func125,Tryz.ntmps125
   go_wp2
   exact bodyPost_ret (v:=.tuple #[.agg #[.string ⟨#[]⟩,.bool false],.bool false]) (by simp[results,Tryz.results125,go_sem]) rfl ⟨rfl,bRf.alloc (Nat.le_refl _) _⟩
  ·have n1:0≤n:=by omega
   have n2:(L:Int)≤n:=by omega
   clear hn hneg;go_enter Tryz.func125,Tryz.ntmps125
   go_wp2
   exact bodyPost_ret (v:=.tuple #[.agg #[.string ⟨#[]⟩,.bool false],.bool false]) (by simp[results,Tryz.results125,go_sem]) rfl ⟨rfl,bRf.alloc (Nat.le_refl _) _⟩
theorem name_of (w:World)(bs:List Nat)(B k:Nat)(T:Tab)(n:Int)(hT:T.syms.length≤4611686018427387904)(h:TabAt w bs B k T) :
  Calls Tryz.prog 74 #[.pointer (some ⟨B,0,none⟩),.int .i64 n] w fun e w'=>e=.returned (.string (nameOf (q31 T n)))∧Below w.heap.size w w':=by
 have A:=qq0 w bs B k T n hT h;generalize q31 T n=r at *;replace A:=show Hid _ from A;clear h;go_enter Tryz.func74,Tryz.ntmps74;go_wp2_with fail;refine cMo A.out ?_;rintro e w1 ⟨rfl,hb⟩;clear A
 go_wp2
 go_ret
 exact⟨rfl,hb.alloc hb.size _⟩
theorem isVar_of (w:World)(bs:List Nat)(B k:Nat)(T:Tab)(n:Int)(hT:T.syms.length≤4611686018427387904)(h:TabAt w bs B k T) :
  Calls Tryz.prog 70 #[.pointer (some ⟨B,0,none⟩),.int .i64 n] w fun e w'=>e=.returned (.bool (varOf (q31 T n)))∧Below w.heap.size w w':=by
 have A:=qq0 w bs B k T n hT h;generalize q31 T n=r at *;replace A:=show Hid _ from A;clear h;go_enter Tryz.func70,Tryz.ntmps70;go_wp2_with fail;refine cMo A.out ?_;rintro e w1 ⟨rfl,hb⟩;clear A
 go_wp2
 go_ret
 exact⟨rfl,hb.alloc hb.size _⟩
theorem info66:(Tryz.prog.info? 228).map (fun i=>(i.zero,i.size,i.bytes))=some (some (.agg #[.slice none 0 0]),1,24):=by kernel_rfl
theorem q94 {l:List Value}{hd:List Nat}(h:(hd++l.filterMap Value.ownBlock).Nodup) :
  (∀b ∈ hd,∀v ∈ l,v.ownBlock≠some b)∧l.Pairwise (fun a b=>∀g,a.ownBlock=some g→b.ownBlock≠some g):=by
 obtain⟨_,h2,h3⟩:=List.nodup_append.1 h;refine⟨fun b hb v hv e=>h3 b hb b (List.mem_filterMap.2 ⟨v,hv,e⟩) rfl,?_⟩;have h4:=List.pairwise_filterMap.1 h2;exact h4.imp fun hab g hg hg'=>hab g hg g hg' rfl
theorem qj {W:World}{b o:Nat}{v:Value}{cs:Array Value}{t:TypeId}{fr:Nat × Nat}(h:W.heap[b]?=some (.cells cs t fr)):(W.setCell ⟨b,o,none⟩ v).heap[b]?=some (.cells (cs.setIfInBounds o v) t fr):=by
 obtain⟨hlt,hk⟩:=Array.getElem?_eq_some_iff.1 h
 show (W.heap.modify b _)[b]?=_
 rw[Array.getElem?_eq_getElem (by rw[Array.size_modify];exact hlt),Array.getElem_modify_self,hk]
 rfl
theorem q53 (v:Value)(l:List Value):(v :: l).filterMap Value.ownBlock=v.ownBlock.toList++l.filterMap Value.ownBlock:=by
 cases h:v.ownBlock <;> simp[h]
theorem qdh {l1 l2:List Nat}{x:Nat}(h:(l1++l2).Nodup)(hx:x ∉ l1++l2):(l1++x :: l2).Nodup:=(List.perm_middle.nodup_iff).2 (List.nodup_cons.2 ⟨hx,h⟩)
theorem jy {W:World}{base e size:Nat}{v:Value}{n:Nat}{xs:List Value}(h:W.ownsRow base e size v n xs):∀g,v.ownBlock=some g→g < W.heap.size:=by
 intro g hg;rcases h.2 with ⟨rfl,_⟩ | ⟨g',cap,cur,rfl,_,hh,_⟩
 ·simp[Value.ownBlock] at hg
 ·have e':g'=g:=by simpa [Value.ownBlock] using hg
  subst e';exact (aIx hh)
theorem zu {W W':World}{base e size:Nat}{v:Value}{n:Nat}{xs:List Value}(h:W.ownsRow base e size v n xs)(hk:∀g,v.ownBlock=some g→W'.heap[g]?=W.heap[g]?):W'.ownsRow base e size v n xs:=by
 refine⟨h.1,?_⟩;rcases h.2 with h0 | ⟨g,cap,cur,hv,hg,hh,hr⟩
 ·exact .inl h0
 ·exact .inr ⟨g,cap,cur,hv,hg,(hk g (by rw[hv];rfl)).trans hh,hr⟩
theorem q0d {W:World}{b n:Nat}{f:ByteArray→Option Nat}(h:jg W b n f):b < W.heap.size:=by
 obtain⟨D,⟨es,clock,hh,_⟩,_⟩:=h;exact (aIx hh)
theorem qmq (w:World)(bs:List Nat)(B k:Nat)(T:Tab)(h:TabAt w bs B k T)(hd:16≤T.scopes.length):Calls Tryz.prog 104 #[.pointer (some ⟨B,0,none⟩)] w fun e w'=>e=.returned (.int .i64 23)∧w'=w:=by
 obtain⟨vs,vc,vl,mk,ma,mt,vars,h,_⟩:=h;obtain⟨a,cap,rfl⟩:=ji h.scopes;obtain⟨_,_,_,c3,_⟩:=q15 h.block;have hd':(16:Int)≤(T.scopes.length:Int):=by omega
 clear h;go_enter Tryz.func104,Tryz.ntmps104
 go_wp2
 go_ret
 exact⟨rfl,rfl⟩
theorem qmr (w:World)(bs:List Nat)(B k:Nat)(T:Tab)(h:TabAt w bs B k T)(hd:T.scopes.length < 16) :
  Calls Tryz.prog 104 #[.pointer (some ⟨B,0,none⟩)] w fun e w'=>e=.returned (.int .i64 0)∧(∃bs',TabAt w' bs' B k { T with scopes:=T.scopes++[[]] }∧∀b ∈ bs',b ∈ bs∨w.heap.size≤b)∧Turned bs w w':=by
 obtain⟨vs,vc,vl,mk,ma,mt,vars,h,rfl⟩:=h;have hlt:=h.mem;obtain⟨n,hn⟩:=eXa T.scopes.length;have hsc:=h.scopes;rw[←hn] at hd hsc;obtain⟨a,cap,rfl⟩:=ji hsc;obtain⟨i0,hi0,hz0,hz1,hz3⟩:=info_parts info66;have H:=hid h;have Hsc:=hid hsc;have Hlt:Hid _:=hlt;have Hn:=hid hn;obtain⟨_,_,_,c3,_⟩:=q15 h.block;have hd':(n:Int) < 16:=by omega
 have hBw:B < w.heap.size:=(aIx h.block);obtain⟨ap1,ap2⟩:=q94 h.apart;have Ap1:Hid _:=ap1;have Ap2:Hid _:=ap2;have hBc:(Value.slice a n cap).ownBlock≠some B:=ap1 B (by simp) _ (by simp);have HBc:Hid _:=hBc;clear h hsc hlt hn ap1 ap2 hBc;go_enter Tryz.func104,Tryz.ntmps104
 go_wp2_with (at_builtin;refine wpList_append_lies _ rfl _ _ _ rfl 0 228 i0 _ 1 24 Tryz.underlying189 hi0 hz0 hz1 hz3 rfl (by omega) _ n vars (by rfl) (by exact (Hsc.out.alloc _)) ⟨w.heap.size,0,none⟩ 1 1 [.slice none 0 0] (by rfl) (by rfl) (World.news_of_block (cs:=#[.slice none 0 0]) (t:=228) (fr:=(0,0)) (heap_alloc_new w _)) (by simp[Value.oneCell']) (by omega) (by unfold maxLen;omega) (by omega) (by simp) (w.heap.size + 1) (by simp) ?_;intro g2 cap2 w2 hown2 hgrow hat hlt2;have hB2:w2.heap[B]?=w.heap[B]?:=(hgrow.block B (by simp;omega) (fun e=>HBc.out e.symm)).trans (Below.heap_alloc w _ B hBw);have z3:w2.frozen? ⟨B,3,none⟩=false:=(World.frozen?_of_block (a:=⟨B,3,none⟩) hB2).trans (by simp[World.frozen?,H.out.block]);have d3:w2.cell? ⟨B,3,none⟩=some (.slice a n cap):=(World.cell?_of_block (a:=⟨B,3,none⟩) hB2).trans c3)
 go_ret
 have hT:=H.out;replace hat:(Value.slice a n cap).ownBlock=some g2∨g2=w.heap.size + 1:=hat;obtain⟨V,hV⟩:=eXa (Value.slice (some ⟨g2,0,none⟩) (n + 1) cap2);have hVo:V.ownBlock=some g2:=by rw[hV];rfl
 rw[←hV] at hown2 ⊢;have hsz:w.heap.size + 1≤w2.heap.size:=by have:=hgrow.size;simpa using this
 have keep:∀i,i < w.heap.size→i≠B→(Value.slice a n cap).ownBlock≠some i→(w2.setCell ⟨B,3,none⟩ V).heap[i]?=w.heap[i]?:=fun i hi hB hc =>
  (Below.heap_setCell _ _ _ i hB).trans ((hgrow.block i (by simp;omega) (fun e=>hc e.symm)).trans (Below.heap_alloc w _ i hi))
 have hg2B:g2≠B:=by
  rcases hat with e | e
  ·intro e';exact HBc.out (e'.symm ▸ e)
  ·omega
 have hvs:∀g,vs.ownBlock=some g→(Value.slice a n cap).ownBlock≠some g:=fun g hg=>(List.pairwise_cons.1 Ap2.out).1 _ (by simp) g hg
 have hrest:=(List.pairwise_cons.1 (List.pairwise_cons.1 Ap2.out).2).1;have hB1:=Ap1.out B (by simp);have hmk:=Ap1.out mk (by simp);have hma:=Ap1.out ma (by simp);have hmt:=Ap1.out mt (by simp);have hnd:=hT.apart;have hne:mk≠B∧ma≠B∧mt≠B:=by
  have h1:=(List.nodup_append.1 hnd).1;simp at h1;omega
 refine⟨rfl,⟨yh B mk ma mt vs V vl (vars++[.slice none 0 0]),⟨vs,V,vl,mk,ma,mt,vars++[.slice none 0 0],?_,rfl⟩,?_⟩,?_⟩
 ·refine⟨?_,?_,?_,?_,?_,?_,?_,?_,?_⟩
  ·rw[qj (hB2.trans hT.block)];rfl
  ·exact zu hT.syms fun g hg=>keep g (jy hT.syms g hg) (fun e=>hB1 vs (by simp) (e ▸ hg)) (hvs g hg)
  ·obtain⟨j,hj,hm⟩:=hT.known;exact⟨j,hj,hm.kept (keep mk (q0d hm) hne.1 (hmk _ (by simp)))⟩
  ·obtain⟨j,hj,hm⟩:=hT.active;exact⟨j,hj,hm.kept (keep ma (q0d hm) hne.2.1 (hma _ (by simp)))⟩
  ·have e:(T.scopes++[[]]).length=n + 1:=by rw[Hn.out];simp
   show World.ownsRow _ 0 228 1 V (T.scopes++[[]]).length _
   rw[e];exact zu hown2 fun g hg=>Below.heap_setCell _ _ _ g (by rw[hVo] at hg;cases hg;exact hg2B)
  ·intro i v hi
   by_cases hlt3:i < vars.length
   ·rw[List.getElem?_append_left hlt3] at hi;obtain⟨l,hl,ho⟩:=hT.inner i v hi;have hvm:v ∈ vars:=mGe hi;refine⟨l,?_,zu ho fun g hg=>keep g (jy ho g hg) (fun e=>hB1 v (by simp[hvm]) (e ▸ hg)) (fun e=>hrest v (by simp[hvm]) g e hg)⟩
    show (T.scopes++[[]])[i]?=some l
    rw[List.getElem?_append_left (List.getElem?_eq_some_iff.1 hl).1];exact hl
   ·have hvl:vars.length=n:=by have:=Hsc.out.1;omega
    have hi':i=vars.length:=by
     have:=(List.getElem?_eq_some_iff.1 hi).1
     simp at this;omega
    subst hi';rw[List.getElem?_append_right (Nat.le_refl _)] at hi;simp at hi;subst hi;refine⟨[],?_,World.ownsRow_nil _ _ _ _⟩
    show (T.scopes++[[]])[vars.length]?=some []
    rw[hvl,Hn.out];simp
  ·exact zu hT.labels fun g hg=>keep g (jy hT.labels g hg) (fun e=>hB1 vl (by simp) (e ▸ hg)) (fun e=>hrest vl (by simp) g e hg)
  ·obtain⟨j,hj,hm⟩:=hT.taken;exact⟨j,hj,hm.kept (keep mt (q0d hm) hne.2.2 (hmt _ (by simp)))⟩
  ·have e1:([vs,V,vl]++(vars++[Value.slice none 0 0])).filterMap Value.ownBlock=vs.ownBlock.toList++g2 :: (vl :: vars).filterMap Value.ownBlock:=by
    have e0:[vs,V,vl]++(vars++[Value.slice none 0 0])=vs :: V :: ((vl :: vars)++[Value.slice none 0 0]):=by simp
    rw[e0,q53,q53,hVo,List.filterMap_append];simp[Value.ownBlock]
   have e2:([vs,Value.slice a n cap,vl]++vars).filterMap Value.ownBlock=vs.ownBlock.toList++((Value.slice a n cap).ownBlock.toList++(vl :: vars).filterMap Value.ownBlock):=by
    have e0:[vs,Value.slice a n cap,vl]++vars=vs :: Value.slice a n cap :: (vl :: vars):=by simp
    rw[e0,q53,q53]
   have hall:=Hlt.out;unfold yh at hall;rw[e2] at hnd hall;rw[e1];rcases hat with e | e
   ·rw[e] at hnd;exact hnd
   ·rw[←List.append_assoc];refine qdh ?_ ?_
    ·rw[List.append_assoc];exact List.Nodup.sublist (List.Sublist.append (List.Sublist.refl _) (List.Sublist.append (List.Sublist.refl _) (List.sublist_append_right _ _))) hnd
    ·intro hm
     have:g2 < w.heap.size:=hall g2 (by
      rw[List.append_assoc] at hm
      rcases mAp.1 hm with h | h
      ·exact List.mem_append_left _ h
      ·refine List.mem_append_right _ ?_
       rcases mAp.1 h with h | h
       ·exact List.mem_append_left _ h
       ·exact List.mem_append_right _ (List.mem_append_right _ h))
     omega
 ·intro b hb;unfold yh at hb ⊢;rcases mAp.1 hb with h | h
  ·exact .inl (List.mem_append_left _ h)
  ·obtain⟨v,hv,hg⟩:=List.mem_filterMap.1 h
   by_cases hvV:v=V
   ·rw[hvV,hVo] at hg
    cases hg;rcases hat with e | e
    ·exact .inl (List.mem_append_right _ (List.mem_filterMap.2 ⟨Value.slice a n cap,by simp,e⟩))
    ·exact .inr (by omega)
   ·by_cases hvn:v=.slice none 0 0
    ·rw[hvn] at hg;simp[Value.ownBlock] at hg
    ·refine .inl (List.mem_append_right _ (List.mem_filterMap.2 ⟨v,?_,hg⟩));simp only[mAp,List.mem_cons,List.not_mem_nil,or_false] at hv ⊢;rcases hv with (h | h | h) | (h | h)
     ·exact .inl (.inl h)
     ·exact absurd h hvV
     ·exact .inl (.inr (.inr h))
     ·exact .inr h
     ·exact absurd h hvn
 ·refine⟨hgrow.os,hgrow.tape,hgrow.output,by show _≤(w2.setCell _ _).heap.size;simp[World.setCell];omega,fun i hi hni=>keep i hi (fun e=>hni (by rw[e];simp[yh])) (fun e=>hni ?_)⟩;unfold yh;exact List.mem_append_right _ (List.mem_filterMap.2 ⟨_,by simp,e⟩)
structure Lies (W:World)(B k:Nat)(S:List (ByteArray × Bool))(fk fa ft:ByteArray→Option Nat)(C:List (List Nat))(L:List ByteArray)(vs vc vl:Value)(mk ma mt:Nat)(vars:List Value):Prop where
 block:W.heap[B]?=some (.cells #[vs,.map (some mk),.map (some ma),vc,vl,.map (some mt)] 191 (0,0))
 syms:W.ownsRow 0 183 2 vs S.length (q19 S)
 known:∃n,n≤k∧jg W mk n fk
 active:∃n,n≤k∧jg W ma n fa
 scopes:W.ownsRow 0 228 1 vc C.length vars
 inner:∀(i:Nat) (v:Value),vars[i]?=some v→∃l:List Nat,C[i]?=some l∧W.ownsRow 0 3 1 v l.length (l.map (fun n:Nat=>Value.int .i64 n))
 labels:W.ownsRow 0 9 1 vl L.length (L.map Value.string)
 taken:∃n,n≤k∧jg W mt n ft
 apart:([B,mk,ma,mt]++([vs,vc,vl]++vars).filterMap Value.ownBlock).Nodup
theorem TabIs.lies {W:World}{B k:Nat}{T:Tab}{vs vc vl:Value}{mk ma mt:Nat}{vars:List Value}(h:TabIs W B k T vs vc vl mk ma mt vars) :
  Lies W B k T.syms (numOf T.syms) (q07 T) (q2e T.labels) T.scopes T.labels vs vc vl mk ma mt vars:=⟨h.block,h.syms,h.known,h.active,h.scopes,h.inner,h.labels,h.taken,h.apart⟩
theorem Lies.tab {W:World} {B k:Nat} {S:List (ByteArray × Bool)} {fk fa ft:ByteArray→Option Nat} {C:List (List Nat)} {L:List ByteArray} {vs vc vl:Value} {mk ma mt:Nat} {vars:List Value} (T:Tab)
  (h:Lies W B k S fk fa ft C L vs vc vl mk ma mt vars) (hS:S=T.syms) (hk:fk=numOf T.syms) (ha:fa=q07 T) (ht:ft=q2e T.labels) (hC:C=T.scopes) (hL:L=T.labels):TabIs W B k T vs vc vl mk ma mt vars:=by
 subst hS hk ha ht hC hL;exact⟨h.block,h.syms,h.known,h.active,h.scopes,h.inner,h.labels,h.taken,h.apart⟩
section
variable {W W':World} {B k k':Nat} {S S':List (ByteArray × Bool)} {fk fa ft f':ByteArray→Option Nat} {C:List (List Nat)} {L L':List ByteArray} {vs vc vl:Value} {mk ma mt:Nat} {vars:List Value}
theorem Lies.ne (h:Lies W B k S fk fa ft C L vs vc vl mk ma mt vars):B≠mk∧B≠ma∧B≠mt∧mk≠ma∧mk≠mt∧ma≠mt:=by
 have h1:=(List.nodup_append.1 h.apart).1;simp at h1;omega
theorem Lies.far (h:Lies W B k S fk fa ft C L vs vc vl mk ma mt vars):∀b ∈ [B,mk,ma,mt],∀v ∈ [vs,vc,vl]++vars,v.ownBlock≠some b:=(q94 h.apart).1
theorem Lies.pair (h:Lies W B k S fk fa ft C L vs vc vl mk ma mt vars):([vs,vc,vl]++vars).Pairwise (fun a b=>∀g,a.ownBlock=some g→b.ownBlock≠some g):=(q94 h.apart).2
theorem Lies.blt (h:Lies W B k S fk fa ft C L vs vc vl mk ma mt vars):B < W.heap.size:=(aIx h.block)
theorem Lies.mem (h:Lies W B k S fk fa ft C L vs vc vl mk ma mt vars):∀b ∈ yh B mk ma mt vs vc vl vars,b < W.heap.size:=by
 intro b hb;rcases mAp.1 hb with hb | hb
 ·simp only[List.mem_cons,List.not_mem_nil,or_false] at hb;rcases hb with rfl | rfl | rfl | rfl
  ·exact h.blt
  ·obtain⟨n,_,hm⟩:=h.known;exact q0d hm
  ·obtain⟨n,_,hm⟩:=h.active;exact q0d hm
  ·obtain⟨n,_,hm⟩:=h.taken;exact q0d hm
 ·obtain⟨v,hv,hg⟩:=List.mem_filterMap.1 hb;rcases mAp.1 hv with hv | hv
  ·simp only[List.mem_cons,List.not_mem_nil,or_false] at hv;rcases hv with rfl | rfl | rfl
   ·exact jy h.syms _ hg
   ·exact jy h.scopes _ hg
   ·exact jy h.labels _ hg
  ·obtain⟨i,hi⟩:=List.getElem?_of_mem hv;obtain⟨l,_,ho⟩:=h.inner i v hi;exact jy ho _ hg
theorem q36 {v:Value}{l:List Value}{hd:List Nat}{g:Nat}(hv:v ∈ l)(hg:v.ownBlock=some g):g ∈ hd++l.filterMap Value.ownBlock:=List.mem_append_right _ (List.mem_filterMap.2 ⟨v,hv,hg⟩)
theorem Lies.kept (h:Lies W B k S fk fa ft C L vs vc vl mk ma mt vars)(hk:∀b ∈ yh B mk ma mt vs vc vl vars,W'.heap[b]?=W.heap[b]?):Lies W' B k S fk fa ft C L vs vc vl mk ma mt vars:=by
 refine⟨(hk B (by simp[yh])).trans h.block,zu h.syms fun g e=>hk g (q36 (by simp) e),?_,?_,zu h.scopes fun g e=>hk g (q36 (by simp) e),?_,zu h.labels fun g e=>hk g (q36 (by simp) e),?_,h.apart⟩
 ·obtain⟨n,hn,hm⟩:=h.known;exact⟨n,hn,hm.kept (hk mk (by simp[yh]))⟩
 ·obtain⟨n,hn,hm⟩:=h.active;exact⟨n,hn,hm.kept (hk ma (by simp[yh]))⟩
 ·intro i v hi;obtain⟨l,hl,ho⟩:=h.inner i v hi;exact⟨l,hl,zu ho fun g e=>hk g (q36 (by have:=mGe hi;simp[this]) e)⟩
 ·obtain⟨n,hn,hm⟩:=h.taken;exact⟨n,hn,hm.kept (hk mt (by simp[yh]))⟩
theorem Lies.up (h:Lies W B k S fk fa ft C L vs vc vl mk ma mt vars)(hk:k≤k'):Lies W B k' S fk fa ft C L vs vc vl mk ma mt vars:=by
 refine⟨h.block,h.syms,?_,?_,h.scopes,h.inner,h.labels,?_,h.apart⟩
 ·obtain⟨n,hn,hm⟩:=h.known;exact⟨n,by omega,hm⟩
 ·obtain⟨n,hn,hm⟩:=h.active;exact⟨n,by omega,hm⟩
 ·obtain⟨n,hn,hm⟩:=h.taken;exact⟨n,by omega,hm⟩
theorem Lies.qiu (h:Lies W B k S fk fa ft C L vs vc vl mk ma mt vars)(m:Nat)(hmem:m ∈ [mk,ma,mt])(hg:∀i,i < W.heap.size→i≠m→W'.heap[i]?=W.heap[i]?) :
  W'.heap[B]?=W.heap[B]?∧(∀v ∈ [vs,vc,vl]++vars,∀g,g < W.heap.size→v.ownBlock=some g→W'.heap[g]?=W.heap[g]?):=by
 have ne:=h.ne;have hmem':m ∈ [B,mk,ma,mt]:=List.mem_cons_of_mem _ hmem;refine⟨hg B h.blt ?_,fun v hv g hlt e=>hg g hlt (fun e'=>h.far m hmem' v hv (e' ▸ e))⟩;simp only[List.mem_cons,List.not_mem_nil,or_false] at hmem;rcases hmem with rfl | rfl | rfl
 ·exact ne.1
 ·exact ne.2.1
 ·exact ne.2.2.1
theorem Lies.putA (h:Lies W B k S fk fa ft C L vs vc vl mk ma mt vars){n':Nat}(hm:jg W' ma n' f')(hn:n'≤k')(hk:k≤k')(hg:∀i,i < W.heap.size→i≠ma→W'.heap[i]?=W.heap[i]?) :
  Lies W' B k' S fk f' ft C L vs vc vl mk ma mt vars:=by
 have ne:=h.ne;obtain⟨hB,hv⟩:=h.qiu ma (by simp) hg;refine⟨hB.trans h.block,zu h.syms fun g e=>hv vs (by simp) g (jy h.syms g e) e,?_,⟨n',hn,hm⟩,zu h.scopes fun g e=>hv vc (by simp) g (jy h.scopes g e) e,?_,zu h.labels fun g e=>hv vl (by simp) g (jy h.labels g e) e,?_,h.apart⟩
 ·obtain⟨n,hn,hm⟩:=h.known;exact⟨n,by omega,hm.kept (hg mk (q0d hm) (by omega))⟩
 ·intro i v hi;obtain⟨l,hl,ho⟩:=h.inner i v hi;exact⟨l,hl,zu ho fun g e=>hv v (by have:=mGe hi;simp[this]) g (jy ho g e) e⟩
 ·obtain⟨n,hn,hm⟩:=h.taken;exact⟨n,by omega,hm.kept (hg mt (q0d hm) (by omega))⟩
theorem Lies.putK (h:Lies W B k S fk fa ft C L vs vc vl mk ma mt vars){n':Nat}(hm:jg W' mk n' f')(hn:n'≤k')(hk:k≤k')(hg:∀i,i < W.heap.size→i≠mk→W'.heap[i]?=W.heap[i]?) :
  Lies W' B k' S f' fa ft C L vs vc vl mk ma mt vars:=by
 have ne:=h.ne;obtain⟨hB,hv⟩:=h.qiu mk (by simp) hg;refine⟨hB.trans h.block,zu h.syms fun g e=>hv vs (by simp) g (jy h.syms g e) e,⟨n',hn,hm⟩,?_,zu h.scopes fun g e=>hv vc (by simp) g (jy h.scopes g e) e,?_,zu h.labels fun g e=>hv vl (by simp) g (jy h.labels g e) e,?_,h.apart⟩
 ·obtain⟨n,hn,hm⟩:=h.active;exact⟨n,by omega,hm.kept (hg ma (q0d hm) (by omega))⟩
 ·intro i v hi;obtain⟨l,hl,ho⟩:=h.inner i v hi;exact⟨l,hl,zu ho fun g e=>hv v (by have:=mGe hi;simp[this]) g (jy ho g e) e⟩
 ·obtain⟨n,hn,hm⟩:=h.taken;exact⟨n,by omega,hm.kept (hg mt (q0d hm) (by omega))⟩
theorem Lies.putT (h:Lies W B k S fk fa ft C L vs vc vl mk ma mt vars){n':Nat}(hm:jg W' mt n' f')(hn:n'≤k')(hk:k≤k')(hg:∀i,i < W.heap.size→i≠mt→W'.heap[i]?=W.heap[i]?) :
  Lies W' B k' S fk fa f' C L vs vc vl mk ma mt vars:=by
 have ne:=h.ne;obtain⟨hB,hv⟩:=h.qiu mt (by simp) hg;refine⟨hB.trans h.block,zu h.syms fun g e=>hv vs (by simp) g (jy h.syms g e) e,?_,?_,zu h.scopes fun g e=>hv vc (by simp) g (jy h.scopes g e) e,?_,zu h.labels fun g e=>hv vl (by simp) g (jy h.labels g e) e,⟨n',hn,hm⟩,h.apart⟩
 ·obtain⟨n,hn,hm⟩:=h.known;exact⟨n,by omega,hm.kept (hg mk (q0d hm) (by omega))⟩
 ·obtain⟨n,hn,hm⟩:=h.active;exact⟨n,by omega,hm.kept (hg ma (q0d hm) (by omega))⟩
 ·intro i v hi;obtain⟨l,hl,ho⟩:=h.inner i v hi;exact⟨l,hl,zu ho fun g e=>hv v (by have:=mGe hi;simp[this]) g (jy ho g e) e⟩
theorem qms {α:Type}{l:List α}{i:Nat}{v:α}(V:α)(hi:l[i]?=some v):l=l.take i++v :: l.drop (i + 1)∧l.set i V=l.take i++V :: l.drop (i + 1):=by
 obtain⟨hlt,rfl⟩:=List.getElem?_eq_some_iff.1 hi;exact⟨by simp,by rw[List.set_eq_take_append_cons_drop,if_pos hlt]⟩
theorem q95 {hd:List Nat} {l:List Value} {i:Nat} {v V:Value} {g:Nat} (h:(hd++l.filterMap Value.ownBlock).Nodup) (hi:l[i]?=some v) (hV:V.ownBlock=some g)
  (hg:v.ownBlock=some g∨g ∉ hd++l.filterMap Value.ownBlock):(hd++(l.set i V).filterMap Value.ownBlock).Nodup:=by
 obtain⟨e1,e2⟩:=qms V hi;rw[e2,List.filterMap_append,q53,hV];rw[e1,List.filterMap_append,q53] at h hg;rcases hg with hg | hg
 ·rw[hg] at h;exact h
 ·rw[←List.append_assoc];refine qdh ?_ ?_
  ·rw[List.append_assoc];exact List.Nodup.sublist (List.Sublist.append (List.Sublist.refl _) (List.Sublist.append (List.Sublist.refl _) (List.sublist_append_right _ _))) h
  ·intro hm
   apply hg
   rw[List.append_assoc] at hm;rcases mAp.1 hm with h | h
   ·exact List.mem_append_left _ h
   ·refine List.mem_append_right _ ?_;rcases mAp.1 h with h | h
    ·exact List.mem_append_left _ h
    ·exact List.mem_append_right _ (List.mem_append_right _ h)
theorem qei {hd:List Nat}{l:List Value}{i b:Nat}{V:Value}{g:Nat}(hV:V.ownBlock=some g)(hb:b ∈ hd++(l.set i V).filterMap Value.ownBlock):b ∈ hd++l.filterMap Value.ownBlock∨b=g:=by
 rcases mAp.1 hb with h | h
 ·exact .inl (List.mem_append_left _ h)
 ·obtain⟨v,hv,hg⟩:=List.mem_filterMap.1 h;rcases List.mem_or_eq_of_mem_set hv with h | rfl
  ·exact .inl (q36 h hg)
  ·rw[hV] at hg;cases hg;exact .inr rfl
theorem q84 {l:List Value}(h:l.Pairwise (fun a b=>∀g,a.ownBlock=some g→b.ownBlock≠some g)){i j:Nat}{a b:Value}(hi:l[i]?=some a)(hj:l[j]?=some b)(hij:i≠j):∀g,a.ownBlock=some g→b.ownBlock≠some g:=by
 obtain⟨hi',rfl⟩:=List.getElem?_eq_some_iff.1 hi;obtain⟨hj',rfl⟩:=List.getElem?_eq_some_iff.1 hj;rcases Nat.lt_or_gt_of_ne hij with hlt | hlt
 ·exact List.pairwise_iff_getElem.1 h i j hi' hj' hlt
 ·intro g hg hg';exact List.pairwise_iff_getElem.1 h j i hj' hi' hlt g hg' hg
theorem Lies.q42 (h:Lies W B k S fk fa ft C L vs vc vl mk ma mt vars) {V:Value} {g:Nat} (hV:V.ownBlock=some g) (hat:vs.ownBlock=some g∨W.heap.size≤g)
  (hown:W'.ownsRow 0 183 2 V S'.length (q19 S')) (hB:W'.heap[B]?=some (.cells #[V,.map (some mk),.map (some ma),vc,vl,.map (some mt)] 191 (0,0)))
  (hg:∀i,i < W.heap.size→i≠B→vs.ownBlock≠some i→W'.heap[i]?=W.heap[i]?):Lies W' B k S' fk fa ft C L V vc vl mk ma mt vars:=by
 have ne:=h.ne;have keepM:∀m ∈ [mk,ma,mt],m≠B→m < W.heap.size→W'.heap[m]?=W.heap[m]?:=fun m hm hmB hlt=>hg m hlt hmB (h.far m (List.mem_cons_of_mem _ hm) vs (by simp))
 have keepV:∀(j:Nat) (v:Value),([vs,vc,vl]++vars)[j]?=some v→j≠0→∀g,g < W.heap.size→v.ownBlock=some g→W'.heap[g]?=W.heap[g]?:=fun j v hj hj0 g hlt e =>
  hg g hlt (fun e'=>h.far B (by simp) v (mGe hj) (e' ▸ e)) (fun e'=>q84 h.pair (i:=0) (j:=j) (a:=vs) rfl hj (Ne.symm hj0) g e' e)
 refine⟨hB,hown,?_,?_,zu h.scopes fun g e=>keepV 1 vc rfl (by omega) g (jy h.scopes g e) e,?_,zu h.labels fun g e=>keepV 2 vl rfl (by omega) g (jy h.labels g e) e,?_,?_⟩
 ·obtain⟨n,hn,hm⟩:=h.known;exact⟨n,hn,hm.kept (keepM mk (by simp) (by omega) (q0d hm))⟩
 ·obtain⟨n,hn,hm⟩:=h.active;exact⟨n,hn,hm.kept (keepM ma (by simp) (by omega) (q0d hm))⟩
 ·intro i v hi;obtain⟨l,hl,ho⟩:=h.inner i v hi;exact⟨l,hl,zu ho fun g e=>keepV (3 + i) v (by rw[List.getElem?_append_right (by simp)];simpa using hi) (by omega) g (jy ho g e) e⟩
 ·obtain⟨n,hn,hm⟩:=h.taken;exact⟨n,hn,hm.kept (keepM mt (by simp) (by omega) (q0d hm))⟩
 ·exact q95 (l:=[vs,vc,vl]++vars) (i:=0) (V:=V) h.apart rfl hV (hat.imp id fun hge hm=>by have:=h.mem g hm;omega)
theorem Lies.rowL (h:Lies W B k S fk fa ft C L vs vc vl mk ma mt vars) {V:Value} {g:Nat} (hV:V.ownBlock=some g) (hat:vl.ownBlock=some g∨W.heap.size≤g)
  (hown:W'.ownsRow 0 9 1 V L'.length (L'.map Value.string)) (hB:W'.heap[B]?=some (.cells #[vs,.map (some mk),.map (some ma),vc,V,.map (some mt)] 191 (0,0)))
  (hg:∀i,i < W.heap.size→i≠B→vl.ownBlock≠some i→W'.heap[i]?=W.heap[i]?):Lies W' B k S fk fa ft C L' vs vc V mk ma mt vars:=by
 have ne:=h.ne;have keepM:∀m ∈ [mk,ma,mt],m≠B→m < W.heap.size→W'.heap[m]?=W.heap[m]?:=fun m hm hmB hlt=>hg m hlt hmB (h.far m (List.mem_cons_of_mem _ hm) vl (by simp))
 have keepV:∀(j:Nat) (v:Value),([vs,vc,vl]++vars)[j]?=some v→j≠2→∀g,g < W.heap.size→v.ownBlock=some g→W'.heap[g]?=W.heap[g]?:=fun j v hj hj0 g hlt e =>
  hg g hlt (fun e'=>h.far B (by simp) v (mGe hj) (e' ▸ e)) (fun e'=>q84 h.pair (i:=2) (j:=j) (a:=vl) rfl hj (Ne.symm hj0) g e' e)
 refine⟨hB,zu h.syms fun g e=>keepV 0 vs rfl (by omega) g (jy h.syms g e) e,?_,?_,zu h.scopes fun g e=>keepV 1 vc rfl (by omega) g (jy h.scopes g e) e,?_,hown,?_,?_⟩
 ·obtain⟨n,hn,hm⟩:=h.known;exact⟨n,hn,hm.kept (keepM mk (by simp) (by omega) (q0d hm))⟩
 ·obtain⟨n,hn,hm⟩:=h.active;exact⟨n,hn,hm.kept (keepM ma (by simp) (by omega) (q0d hm))⟩
 ·intro i v hi;obtain⟨l,hl,ho⟩:=h.inner i v hi;exact⟨l,hl,zu ho fun g e=>keepV (3 + i) v (by rw[List.getElem?_append_right (by simp)];simpa using hi) (by omega) g (jy ho g e) e⟩
 ·obtain⟨n,hn,hm⟩:=h.taken;exact⟨n,hn,hm.kept (keepM mt (by simp) (by omega) (q0d hm))⟩
 ·exact q95 (l:=[vs,vc,vl]++vars) (i:=2) (V:=V) h.apart rfl hV (hat.imp id fun hge hm=>by have:=h.mem g hm;omega)
theorem Lies.rowV (h:Lies W B k S fk fa ft C L vs vc vl mk ma mt vars) {j:Nat} {v V:Value} {g:Nat} {l':List Nat} (hj:vars[j]?=some v) (hV:V.ownBlock=some g) (hat:v.ownBlock=some g∨W.heap.size≤g)
  (hown:W'.ownsRow 0 3 1 V l'.length (l'.map (fun n:Nat=>Value.int .i64 n))) (hsc:W'.ownsRow 0 228 1 vc C.length (vars.set j V))
  (hg:∀i,i < W.heap.size→vc.ownBlock≠some i→v.ownBlock≠some i→W'.heap[i]?=W.heap[i]?):Lies W' B k S fk fa ft (C.set j l') L vs vc vl mk ma mt (vars.set j V):=by
 have ne:=h.ne;have hv3:([vs,vc,vl]++vars)[3 + j]?=some v:=by rw[List.getElem?_append_right (by simp)];simpa using hj
 have hvm:v ∈ [vs,vc,vl]++vars:=mGe hv3;have keepM:∀m ∈ [B,mk,ma,mt],m < W.heap.size→W'.heap[m]?=W.heap[m]?:=fun m hm hlt=>hg m hlt (h.far m hm vc (by simp)) (h.far m hm v hvm)
 have keepV:∀(i:Nat) (u:Value),([vs,vc,vl]++vars)[i]?=some u→i≠1→i≠3 + j→∀g,g < W.heap.size→u.ownBlock=some g→W'.heap[g]?=W.heap[g]?:=fun i u hi h1 h2 g hlt e =>
  hg g hlt (fun e'=>q84 h.pair (i:=1) (j:=i) (a:=vc) rfl hi (Ne.symm h1) g e' e) (fun e'=>q84 h.pair (i:=3 + j) (j:=i) (a:=v) hv3 hi (Ne.symm h2) g e' e)
 refine⟨(keepM B (by simp) h.blt).trans h.block,zu h.syms fun g e=>keepV 0 vs rfl (by omega) (by omega) g (jy h.syms g e) e,?_,?_,by rw[List.length_set];exact hsc,?_,zu h.labels fun g e=>keepV 2 vl rfl (by omega) (by omega) g (jy h.labels g e) e,?_,?_⟩
 ·obtain⟨n,hn,hm⟩:=h.known;exact⟨n,hn,hm.kept (keepM mk (by simp) (q0d hm))⟩
 ·obtain⟨n,hn,hm⟩:=h.active;exact⟨n,hn,hm.kept (keepM ma (by simp) (q0d hm))⟩
 ·intro i u hi;obtain⟨l,hl,_⟩:=h.inner j v hj
  by_cases hij:i=j
  ·subst hij;rw[List.getElem?_set_self (List.getElem?_eq_some_iff.1 hj).1] at hi
   cases hi;exact⟨l',List.getElem?_set_self (List.getElem?_eq_some_iff.1 hl).1,hown⟩
  ·rw[List.getElem?_set_ne (Ne.symm hij)] at hi;obtain⟨l,hl,ho⟩:=h.inner i u hi;exact⟨l,by rw[List.getElem?_set_ne (Ne.symm hij)];exact hl,zu ho fun g e=>keepV (3 + i) u (by rw[List.getElem?_append_right (by simp)];simpa using hi) (by omega) (by omega) g (jy ho g e) e⟩
 ·obtain⟨n,hn,hm⟩:=h.taken;exact⟨n,hn,hm.kept (keepM mt (by simp) (q0d hm))⟩
 ·have:=q95 (l:=[vs,vc,vl]++vars) (i:=3 + j) (V:=V) h.apart hv3 hV (hat.imp id fun hge hm=>by have:=h.mem g hm;omega)
  rwa [List.set_append_right _ _ (by simp),show 3 + j - [vs,vc,vl].length=j by simp] at this
theorem Lies.pop (h:Lies W B k S fk fa ft C L vs vc vl mk ma mt vars) {V:Value} {n:Nat} (hn:C.length=n + 1) (hV:V.ownBlock=vc.ownBlock) (hown:W'.ownsRow 0 228 1 V n (vars.take n))
  (hB:W'.heap[B]?=some (.cells #[vs,.map (some mk),.map (some ma),V,vl,.map (some mt)] 191 (0,0))) (hg:∀i,i < W.heap.size→i≠B→W'.heap[i]?=W.heap[i]?) :
  Lies W' B k S fk fa ft (C.take n) L vs V vl mk ma mt (vars.take n):=by
 have ne:=h.ne;have keepV:∀v ∈ [vs,vc,vl]++vars,∀g,g < W.heap.size→v.ownBlock=some g→W'.heap[g]?=W.heap[g]?:=fun v hv g hlt e=>hg g hlt (fun e'=>h.far B (by simp) v hv (e' ▸ e))
 refine⟨hB,zu h.syms fun g e=>keepV vs (by simp) g (jy h.syms g e) e,?_,?_,?_,?_,zu h.labels fun g e=>keepV vl (by simp) g (jy h.labels g e) e,?_,?_⟩
 ·obtain⟨n,hn,hm⟩:=h.known;exact⟨n,hn,hm.kept (hg mk (q0d hm) (by omega))⟩
 ·obtain⟨n,hn,hm⟩:=h.active;exact⟨n,hn,hm.kept (hg ma (q0d hm) (by omega))⟩
 ·rw[List.length_take,Nat.min_eq_left (by omega)];exact hown
 ·intro i u hi;have hin:i < n:=by have:=(List.getElem?_eq_some_iff.1 hi).1;simp at this;omega
  rw[List.getElem?_take,if_pos hin] at hi;obtain⟨l,hl,ho⟩:=h.inner i u hi;exact⟨l,by rw[List.getElem?_take,if_pos hin];exact hl,zu ho fun g e=>keepV u (by have:=mGe hi;simp[this]) g (jy ho g e) e⟩
 ·obtain⟨n,hn,hm⟩:=h.taken;exact⟨n,hn,hm.kept (hg mt (q0d hm) (by omega))⟩
 ·refine List.Nodup.sublist (List.Sublist.append (List.Sublist.refl _) ?_) h.apart;have e0:([vs,V,vl]++vars.take n).filterMap Value.ownBlock=([vs,vc,vl]++vars.take n).filterMap Value.ownBlock:=by
   simp only[List.cons_append,List.nil_append,q53,hV]
  rw[e0];exact List.Sublist.filterMap _ (List.Sublist.append (List.Sublist.refl _) (List.take_sublist _ _))
end
structure Goes (bs:List Nat)(W:World)(bs':List Nat)(W':World):Prop where
 blocks:∀b ∈ bs',b ∈ bs∨W.heap.size≤b
 turned:Turned bs W W'
theorem Turned.refl (bs:List Nat)(W:World):Turned bs W W:=⟨rfl,rfl,rfl,Nat.le_refl _,fun _ _ _=>rfl⟩
theorem Goes.refl (bs:List Nat)(W:World):Goes bs W bs W:=⟨fun _ h=>.inl h,Turned.refl _ _⟩
theorem Goes.trans {bs bs' bs'':List Nat}{W W' W'':World}(h:Goes bs W bs' W')(g:Goes bs' W' bs'' W''):Goes bs W bs'' W'':=by
 refine⟨fun b hb=>?_,⟨g.turned.os.trans h.turned.os,g.turned.tape.trans h.turned.tape,g.turned.output.trans h.turned.output,nLt h.turned.size g.turned.size,fun i hi hni=>?_⟩⟩
 ·rcases g.blocks b hb with hb | hb
  ·exact h.blocks b hb
  ·exact .inr (nLt h.turned.size hb)
 ·refine (g.turned.block i (Nat.lt_of_lt_of_le hi h.turned.size) fun hm=>?_).trans (h.turned.block i hi hni);rcases h.blocks i hm with h1 | h1
  ·exact hni h1
  ·omega
theorem Goes.below {bs bs':List Nat}{W W':World}(h:Goes bs W bs' W'){N:Nat}(hN:N≤W.heap.size)(hb:∀b ∈ bs,N≤b):Below N W W'∧∀b ∈ bs',N≤b :=
 ⟨h.turned.below hN hb,fun b hm=>(h.blocks b hm).elim (hb b) fun h=>nLt hN h⟩
theorem Goes.of_below {bs:List Nat}{W W':World}(h:Below W.heap.size W W'):Goes bs W bs W':=⟨fun _ h=>.inl h,⟨h.os,h.tape,h.output,h.size,fun i hi _=>h.block i hi⟩⟩
def q96 (T:Tab)(n:Nat):Tab:={ T with act:=n :: T.act,scopes:=T.scopes.set (T.scopes.length - 1) (T.scopes.getD (T.scopes.length - 1) []++[n]) }
theorem q5m {l:List (ByteArray × Bool)}{s:ByteArray}{m:Nat}(h:numOf l s=some m):∃b,l[m]?=some (s,b):=by
 unfold numOf at h;obtain⟨hlt,hp,_⟩:=List.findIdx?_eq_some_iff_getElem.1 h;have e:l[m].1=s:=by simpa using hp
 exact⟨l[m].2,by rw[gEq hlt,←e]⟩
theorem q85 {l:List (ByteArray × Bool)}{n:Nat}{p:ByteArray × Bool}(hnd:(l.map (·.1)).Nodup)(h:l[n]?=some p):numOf l p.1=some n:=by
 unfold numOf;obtain⟨hlt,rfl⟩:=List.getElem?_eq_some_iff.1 h;refine List.findIdx?_eq_some_iff_getElem.2 ⟨hlt,by simp,fun j hj=>?_⟩;have:=List.pairwise_iff_getElem.1 hnd j n (by simp;omega) (by simpa using hlt) hj
 simpa using this
theorem qdi (T:Tab)(n:Nat)(p:ByteArray × Bool)(hnd:(T.syms.map (·.1)).Nodup)(h:T.syms[n]?=some p):(fun t=>if t=p.1 then some n else q07 T t)=q07 (q96 T n):=by
 funext t
 unfold q07 q96;dsimp only
 by_cases e:t=p.1
 ·rw[if_pos e,e,q85 hnd h];simp[Option.filter]
 ·rw[if_neg e]
  cases hm:numOf T.syms t with
  | none=>rfl
  | some m =>
   obtain⟨b,hb⟩:=q5m hm;have hmn:m≠n:=by
    rintro rfl;rw[h] at hb;exact e (by rw[Option.some.inj hb])
   simp[Option.filter,hmn]
theorem qiv {W:World}{base e size g n cap:Nat}{xs:List Value}(h:W.ownsRow base e size (.slice (some ⟨g,0,none⟩) n cap) n xs)(i:Nat):W.frozen? ⟨g,i,none⟩=false:=by
 rcases h.2 with ⟨e',_⟩ | ⟨g',cap',cur,hv,hg,hh,_⟩
 ·cases e'
 ·simp only[Value.slice.injEq,Option.some.injEq,Addr.mk.injEq] at hv;obtain⟨⟨rfl,_⟩,_,rfl⟩:=hv;simp[World.frozen?,hh]
theorem own_set {W:World}{base e g n cap q:Nat}{xs:List Value}{V:Value}(h:W.ownsRow base e 1 (.slice (some ⟨g,0,none⟩) n cap) n xs)(_hq:q < n):(W.setCell ⟨g,q,none⟩ V).ownsRow base e 1 (.slice (some ⟨g,0,none⟩) n cap) n (xs.set q V):=by
 refine⟨by rw[List.length_set];exact h.1,.inr ?_⟩;rcases h.2 with ⟨e',_⟩ | ⟨g',cap',cur,hv,hg,hh,h1,h2,h3,h4⟩
 ·cases e'
 ·simp only[Value.slice.injEq,Option.some.injEq,Addr.mk.injEq] at hv;obtain⟨⟨rfl,_⟩,_,rfl⟩:=hv;refine⟨g,cap,cur.setIfInBounds q V,rfl,hg,qj hh,h1,h2,by rw[Array.size_setIfInBounds];exact h3,?_⟩;rw[Array.toList_setIfInBounds,List.take_set,h4]
theorem qej (w:World)(bs:List Nat)(B k:Nat)(T:Tab)(n:Nat)(p:ByteArray × Bool)(hnd:(T.syms.map (·.1)).Nodup)(hp:T.syms[n]?=some p)(hsz:p.1.size≤maxLen)(hS:T.syms.length≤512)(hk:k < 17592186044416)(h:TabAt w bs B k T)(h0:T.scopes=[]) :
  Calls Tryz.prog 159 #[.pointer (some ⟨B,0,none⟩),.int .i64 n] w fun e w'=>e=.returned (.tuple #[])∧∃bs',TabAt w' bs' B (k + 1) (q96 T n)∧Goes bs w bs' w':=by
 obtain⟨vs,vc,vl,mk,ma,mt,vars,h,rfl⟩:=h;obtain⟨j,hj,hm⟩:=h.active;have hrow:=h.syms;have hlt:n < T.syms.length:=(List.getElem?_eq_some_iff.1 hp).1;obtain⟨g,cap,rfl⟩:=q4r hrow (by omega);obtain⟨y0,_⟩:=qad _ _ _ hp;have q0:=xq hrow _ _ y0;have hmd:jg w.drew ma j (q07 T):=hm.kept rfl;obtain⟨W1,hmu,hm1,hg1⟩:=hmd.put (by unfold maxLen;omega) p.1 hsz n (by omega);obtain⟨c0,_,c2,c3,_⟩:=q15 h.block;have hBlt:=h.lies.blt;have hmaB:=h.lies.ne.2.1;have hB1:W1.heap[B]?=w.heap[B]?:=hg1.block B hBlt (by simp;exact hmaB);obtain⟨av,capv,hvc⟩:=ji h.scopes;have d3:W1.cell? ⟨B,3,none⟩=some (.slice av 0 capv):=by
  rw[World.cell?_of_block (w:=w) (a:=⟨B,3,none⟩) hB1,c3,hvc,h0];rfl
 have n1:(n:Int) < (T.syms.length:Int):=by omega
 generalize hL:T.syms.length=len at *;have H:=hid h;have Hm1:Hid _:=hm1;have Hg1:Hid _:=hg1;have HL:=hid hL;have H0:=hid h0;obtain⟨nm,vr⟩:=p;have Hp:=hid hp;clear h hm hrow y0 hmd hm1 hg1 hB1 c3 hL h0 hp hvc;go_enter Tryz.func159,Tryz.ntmps159;go_wp2_with fail
 go_region
 all_goals go_wp2
 all_goals go_end0
 refine⟨rfl,_,⟨_,_,_,_,_,_,_,(H.out.lies.putA (k':=k + 1) Hm1.out (by omega) (by omega) (fun i hi hne=>Hg1.out.block i hi (by simpa using hne))).tab (q96 T n) rfl rfl (qdi T n (nm,vr) hnd Hp.out) rfl ?_ rfl,rfl⟩,⟨fun b hb=>.inl hb,⟨Hg1.out.os,Hg1.out.tape,Hg1.out.output,Hg1.out.size,fun i hi hni=>Hg1.out.block i hi (fun e=>hni ?_)⟩⟩⟩
 ·show T.scopes=T.scopes.set _ _
  rw[H0.out];rfl
 ·rw[Option.some.inj e];simp[yh]
theorem qg3 (w:World)(bs:List Nat)(B k:Nat)(T:Tab)(n:Nat)(p:ByteArray × Bool)(hnd:(T.syms.map (·.1)).Nodup)(hp:T.syms[n]?=some p)(hsz:p.1.size≤maxLen)(hS:T.syms.length≤512)(hk:k < 17592186044415)(hC:T.scopes.length≤16)(hI:∀l ∈ T.scopes,l.length≤k)(h:TabAt w bs B k T)(h0:0 < T.scopes.length) :
  Calls Tryz.prog 159 #[.pointer (some ⟨B,0,none⟩),.int .i64 n] w fun e w'=>e=.returned (.tuple #[])∧∃bs',TabAt w' bs' B (k + 1) (q96 T n)∧Goes bs w bs' w':=by
 obtain⟨vs,vc,vl,mk,ma,mt,vars,h,rfl⟩:=h;obtain⟨j,hj,hm⟩:=h.active;have hrow:=h.syms;have hlt:n < T.syms.length:=(List.getElem?_eq_some_iff.1 hp).1;obtain⟨g,cap,rfl⟩:=q4r hrow (by omega);obtain⟨y0,_⟩:=qad _ _ _ hp;have q0:=xq hrow _ _ y0;have hmd:jg w.drew ma j (q07 T):=hm.kept rfl;obtain⟨W1,hmu,hm1,hg1⟩:=hmd.put (by unfold maxLen;omega) p.1 hsz n (by omega);obtain⟨c0,_,c2,c3,_⟩:=q15 h.block;have hBlt:=h.lies.blt;have hmaB:=h.lies.ne.2.1;have hB1:W1.heap[B]?=w.heap[B]?:=hg1.block B hBlt (by simp;exact hmaB);have L1:=h.lies.putA (k':=k + 1) hm1 (by omega) (by omega) (fun i hi hne=>hg1.block i hi (by simpa using hne));obtain⟨q,hq⟩:∃q,T.scopes.length=q + 1:=⟨T.scopes.length - 1,by omega⟩;obtain⟨gc,capc,rfl⟩:=q4r h.scopes (by omega);have hsc1:=L1.scopes;have hvl:vars.length=q + 1:=by have:=hsc1.1;omega
 obtain⟨v,hv⟩:∃v,vars[q]?=some v:=⟨vars[q]'(by omega),gEq _⟩;obtain⟨l,hl,hin1⟩:=L1.inner q v hv;have hll:l.length≤k:=hI l (mGe hl);have d3:W1.cell? ⟨B,3,none⟩=some (.slice (some ⟨gc,0,none⟩) (q + 1:Nat) capc):=by
  rw[World.cell?_of_block (w:=w) (a:=⟨B,3,none⟩) hB1,c3,hq]
 rw[hq] at hsc1;have dq:W1.cell? ⟨gc,q,none⟩=some v:=xq hsc1 q v hv;have gclt:gc < W1.heap.size:=jy hsc1 gc rfl;obtain⟨i0,hi0,hz0,hz1,hz3⟩:=info_parts (show (Tryz.prog.info? 3).map (fun i=>(i.zero,i.size,i.bytes))=some (some (.int .i64 0),1,8) by kernel_rfl);have n1:(n:Int) < (T.syms.length:Int):=by omega
 generalize hL:T.syms.length=len at *;have hgcv:v.ownBlock≠some gc:=fun e=>q84 L1.pair (i:=1) (j:=3 + q) rfl (by rw[List.getElem?_append_right (by simp)];simpa using hv) (by omega) gc rfl e
 have hq16:q < 16:=by omega
 generalize hlen:l.length=ll at *;have LL:=hid L1;have Hg1:Hid _:=hg1;have HL:=hid hL;have Hq:=hid hq;have Hlen:=hid hlen;have Hin:=hid hin1;have Hsc:=hid hsc1;have Hgcv:=hid hgcv;have Hv:=hid hv;have Hl:=hid hl;obtain⟨av,capv,hva⟩:=ji hin1;obtain⟨nm,vr⟩:=p;have Hp:=hid hp;have Hva:=hid hva;rw[hva] at dq;have ne1:∀i:Nat,i=q→i < q + 1:=fun i h=>by omega
 clear h hm hrow y0 hmd hm1 hg1 hB1 c3 hL hp hva L1 hsc1 hin1 hgcv hv hl hlen hq hI h0 hC ne1;go_enter Tryz.func159,Tryz.ntmps159;go_wp2_with fail
 go_region
 go_wp2_with fail
 go_quiet (fail)
 go_wp2_with (at_builtin;refine wpList_append_lies _ rfl _ _ _ rfl 0 3 i0 _ 1 8 Tryz.underlying38 hi0 hz0 hz1 hz3 rfl (by omega) _ ll (l.map (fun n:Nat=>Value.int .i64 n)) (by rfl) (by rw[←Hva.out];exact (Hin.out.alloc _)) ⟨W1.heap.size,0,none⟩ 1 1 [.int .i64 n] (by rfl) (by rfl) (by exact World.news_of_block (cs:=#[.int .i64 n]) (t:=3) (fr:=(0,0)) (heap_alloc_new W1 _)) (by simp[Value.oneCell']) (by omega) (by unfold maxLen;omega) (by omega) (by simp) (W1.heap.size + 1) (by simp) ?_;rw[←Hva.out];intro g2 cap2 w2 hown2 hgrow hat hlt2;have hgc2:w2.heap[gc]?=W1.heap[gc]?:=(hgrow.block gc (by simp;omega) (fun e=>Hgcv.out e.symm)).trans (Below.heap_alloc W1 _ gc gclt);have z3:w2.frozen? ⟨gc,q,none⟩=false:=(World.frozen?_of_block (w:=W1) (a:=⟨gc,q,none⟩) hgc2).trans (qiv Hsc.out q);have e3:w2.cell? ⟨gc,q,none⟩=some (.slice av ll capv):=(World.cell?_of_block (w:=W1) (a:=⟨gc,q,none⟩) hgc2).trans dq)
 go_end0
 replace hat:v.ownBlock=some g2∨g2=W1.heap.size + 1:=hat;replace hgrow:((W1.alloc (.cells #[.int .i64 n] 3)).drewN nq).grownBy w2 v.ownBlock:=hgrow;obtain⟨V,hV⟩:=eXa (Value.slice (some ⟨g2,0,none⟩) (ll + 1) cap2);have hVo:V.ownBlock=some g2:=by rw[hV];rfl
 rw[←hV] at hown2 ⊢;have hgg:gc≠g2:=by
  rcases hat with e | e
  ·intro e';exact Hgcv.out (e'.symm ▸ e)
  ·omega
 have hsz1:W1.heap.size + 1≤w2.heap.size:=by have:=hgrow.size;simpa using this
 have keep:∀i,i < W1.heap.size→i≠gc→v.ownBlock≠some i→(w2.setCell ⟨gc,q,none⟩ V).heap[i]?=W1.heap[i]?:=fun i hi hB hc =>
  (Below.heap_setCell _ _ _ i hB).trans ((hgrow.block i (by simp;omega) (fun e=>hc e.symm)).trans (Below.heap_alloc W1 _ i hi))
 have LV:=LL.out.rowV (W':=w2.setCell ⟨gc,q,none⟩ V) (V:=V) (g:=g2) (l':=l++[n]) Hv.out hVo (hat.imp id fun e=>by omega)
  (by
    rw[lAp,Hlen.out,List.map_append]
    exact zu hown2 fun g' e=>Below.heap_setCell _ _ _ g' (by rw[hVo] at e;cases e;exact Ne.symm hgg))
  (by
    rw[Hq.out]
    exact own_set (zu Hsc.out fun g' e=>by cases e;exact hgc2) (by omega))
  (fun i hi h1 h2=>keep i hi (fun e=>h1 (by rw[e];rfl)) h2)
 refine⟨rfl,_,⟨_,_,_,_,_,_,_,LV.tab (q96 T n) rfl rfl (qdi T n (nm,vr) hnd Hp.out) rfl ?_ rfl,rfl⟩,⟨fun b hb=>?_,⟨?_,?_,?_,?_,fun i hi hni=>?_⟩⟩⟩
 ·show T.scopes.set q (l++[n])=T.scopes.set (T.scopes.length - 1) _
  rw[Hq.out,Nat.add_sub_cancel,List.getD,Hl.out];rfl
 ·unfold yh at hb ⊢;have e0:[Value.slice (some ⟨g,0,none⟩) len cap,Value.slice (some ⟨gc,0,none⟩) T.scopes.length capc,vl]++vars.set q V=([Value.slice (some ⟨g,0,none⟩) len cap,Value.slice (some ⟨gc,0,none⟩) T.scopes.length capc,vl]++vars).set (3 + q) V:=by
   rw[List.set_append_right _ _ (by simp)];simp
  rw[e0] at hb;rcases qei hVo hb with h | h
  ·exact .inl h
  ·rcases hat with e | e
   ·exact .inl (q36 (by have:=mGe Hv.out;simp[this]) (h ▸ e))
   ·have:=Hg1.out.size
    exact .inr (by rw[h,e];show w.drew.heap.size≤_;omega)
 ·exact hgrow.os.trans Hg1.out.os
 ·exact hgrow.tape.trans Hg1.out.tape
 ·exact hgrow.output.trans Hg1.out.output
 ·have:=Hg1.out.size
  show w.drew.heap.size≤(w2.setCell _ _).heap.size
  simp only[World.setCell,Array.size_modify];omega
 ·have h1:i < W1.heap.size:=Nat.lt_of_lt_of_le hi Hg1.out.size;refine (keep i h1 (fun e=>hni ?_) (fun e=>hni ?_)).trans (Hg1.out.block i hi (fun e=>hni ?_))
  ·exact q36 (v:=Value.slice (some ⟨gc,0,none⟩) T.scopes.length capc) (by simp) (by rw[e];rfl)
  ·exact q36 (v:=v) (by have:=mGe Hv.out;simp[this]) e
  ·rw[Option.some.inj e];simp[yh]
theorem q86 (w:World)(bs:List Nat)(B k:Nat)(T:Tab)(n:Nat)(p:ByteArray × Bool)(hnd:(T.syms.map (·.1)).Nodup)(hp:T.syms[n]?=some p)(hsz:p.1.size≤maxLen)(hS:T.syms.length≤512)(hk:k < 17592186044415)(hC:T.scopes.length≤16)(hI:∀l ∈ T.scopes,l.length≤k)(h:TabAt w bs B k T) :
  Calls Tryz.prog 159 #[.pointer (some ⟨B,0,none⟩),.int .i64 n] w fun e w'=>e=.returned (.tuple #[])∧∃bs',TabAt w' bs' B (k + 1) (q96 T n)∧Goes bs w bs' w':=by
 by_cases h0:T.scopes=[]
 ·exact qej w bs B k T n p hnd hp hsz hS (by omega) h h0
 ·exact qg3 w bs B k T n p hnd hp hsz hS hk hC hI h (List.length_pos_iff.2 h0)
theorem clone_any (s:ByteArray)(w:World)(hs:s.size≤281474976710656):Calls Tryz.prog 100 #[.string s] w fun e w'=>e=.returned (.string s)∧Below w.heap.size w w':=by
 have A:Hid _:=Tryz.stringslite_Clone s w hs;go_enter Tryz.func100,Tryz.ntmps100;go_wp2_with fail;refine cMo A.out ?_;rintro e w' ⟨rfl,hb⟩
 go_wp2
 go_ret
 exact⟨rfl,hb⟩
def qa5 (T:Tab)(s:ByteArray)(v:Bool):Tab:={ T with syms:=T.syms++[(s,v)] }
theorem q97 (l:List (ByteArray × Bool))(s:ByteArray)(v:Bool)(h:numOf l s=none):(fun t=>if t=s then some l.length else numOf l t)=numOf (l++[(s,v)]):=by
 funext t
 unfold numOf at h ⊢;rw[List.findIdx?_append]
 by_cases e:t=s
 ·subst e;rw[if_pos rfl,h];simp
 ·rw[if_neg e]
  cases hm:l.findIdx? (fun p=>p.1=t) with
  | some m=>rfl
  | none =>
   have:¬s=t:=fun h=>e h.symm
   simp[this]
theorem qmt (T:Tab)(s:ByteArray)(v:Bool)(h:numOf T.syms s=none)(hlt:∀n ∈ T.act,n < T.syms.length):q07 T=q07 (qa5 T s v):=by
 funext t
 unfold q07 qa5;dsimp only;rw[←q97 T.syms s v h];dsimp only
 by_cases e:t=s
 ·subst e;rw[if_pos rfl,h];have:T.syms.length ∉ T.act:=fun hm=>by have:=hlt _ hm;omega
  simp[Option.filter,this]
 ·rw[if_neg e]
theorem qa6 (l:List (ByteArray × Bool))(s:ByteArray)(v:Bool):q19 (l++[(s,v)])=q19 l++[.string s,.bool v]:=by simp[q19]
theorem info61:(Tryz.prog.info? 183).map (fun i=>(i.zero,i.size,i.bytes))=some (some (.agg #[.string ⟨#[]⟩,.bool false]),2,24):=by kernel_rfl
theorem qek (w:World)(bs:List Nat)(B k:Nat)(T:Tab)(s:ByteArray)(v:Bool)(hS:512≤T.syms.length)(h:TabAt w bs B k T) :
  Calls Tryz.prog 160 #[.pointer (some ⟨B,0,none⟩),.string s,.bool v] w fun e w'=>e=.returned (.tuple #[.int .i64 0,.int .i64 22])∧w'=w:=by
 obtain⟨vs,vc,vl,mk,ma,mt,vars,h,_⟩:=h;obtain⟨a,cap,rfl⟩:=ji h.syms;obtain⟨c0,_⟩:=q15 h.block;have hS':(512:Int)≤(T.syms.length:Int):=by omega
 clear h;go_enter Tryz.func160,Tryz.ntmps160
 go_wp2
 exact bodyPost_ret (v:=.tuple #[.int .i64 0,.int .i64 22]) (by simp[results,Tryz.results160,go_sem]) rfl ⟨rfl,rfl⟩
theorem qg4 (w:World)(bs:List Nat)(B k:Nat)(T:Tab)(s:ByteArray)(v:Bool)(hs:s.size≤281474976710656)(hnd:(T.syms.map (·.1)).Nodup)(hno:numOf T.syms s=none)(hlt:∀n ∈ T.act,n < T.syms.length)(hS:T.syms.length < 512)(hk:k < 17592186044414)(hC:T.scopes.length≤16)(hI:∀l ∈ T.scopes,l.length≤k)(h:TabAt w bs B k T) :
  Calls Tryz.prog 160 #[.pointer (some ⟨B,0,none⟩),.string s,.bool v] w fun e w'=>e=.returned (.tuple #[.int .i64 T.syms.length,.int .i64 0])∧∃bs',TabAt w' bs' B (k + 2) (q96 (qa5 T s v) T.syms.length)∧Goes bs w bs' w':=by
 obtain⟨vs,vc,vl,mk,ma,mt,vars,h,rfl⟩:=h;obtain⟨a,cap,hva⟩:=ji h.syms;obtain⟨c0,_⟩:=q15 h.block;rw[hva] at c0;have hBw:=h.lies.blt;generalize hn:T.syms.length=n at *;have CL:Hid _:=clone_any s w hs;have H:=hid h;have Hn:=hid hn;have Hva:=hid hva;have hvB:vs.ownBlock≠some B:=h.lies.far B (by simp) vs (by simp);have HvB:Hid _:=hvB;obtain⟨i0,hi0,hz0,hz1,hz3⟩:=info_parts info61;have Hrow:Hid (w.ownsRow 0 183 2 vs n (q19 T.syms)):=by have:=h.syms;rw[hn] at this;exact this
 have hn512:(n:Int) < 512:=by omega
 have Hlt:Hid _:=hlt;have Hno:Hid _:=hno;have HI:Hid _:=hI;clear h hn hva hvB hlt hno hI;go_enter Tryz.func160,Tryz.ntmps160;go_wp2_with fail;refine cMo CL.out ?_;rintro e w1 ⟨rfl,hb⟩;obtain⟨hc,hf⟩:=(show (∀b o,b < w.heap.size→w1.cell? ⟨b,o,none⟩=w.cell? ⟨b,o,none⟩)∧(∀b o,b < w.heap.size→w1.frozen? ⟨b,o,none⟩=w.frozen? ⟨b,o,none⟩) from ⟨fun b o h=>hb.cell (p:=⟨b,o,none⟩) h,fun b o h=>hb.frozen (p:=⟨b,o,none⟩) h⟩);have L1:Hid (Lies w1 B k T.syms (numOf T.syms) (q07 T) (q2e T.labels) T.scopes T.labels vs vc vl mk ma mt vars):=H.out.lies.kept fun b hb'=>hb.block b (H.out.lies.mem b hb')
 have d0:w1.cell? ⟨B,0,none⟩=some (.slice a n cap):=by rw[hc B 0 hBw,c0]
 have Hb:Hid _:=hb;clear hc hf CL hb;have hBw1:B < w1.heap.size:=L1.out.blt;have Hrow1:Hid (w1.ownsRow 0 183 2 (.slice a n cap) n (q19 T.syms)):=by have:=L1.out.syms;rw[Hn.out,Hva.out] at this;exact this
 have HvB1:Hid ((Value.slice a n cap).ownBlock≠some B):=by rw[←Hva.out];exact HvB.out
 have step:Hid (∀(g2 cap2:Nat) (w2:World),w2.ownsRow 0 183 2 (.slice (some ⟨g2,0,none⟩) (n + 1) cap2) (n + 1) (q19 T.syms++[.string s,.bool v])→(w1.alloc (.cells #[.string s,.bool v] 183)).grownBy w2 (Value.slice a n cap).ownBlock→((Value.slice a n cap).ownBlock=some g2∨g2=w1.heap.size + 1) →
   w2.cell? ⟨B,0,none⟩=some (.slice a n cap)∧w2.cell? ⟨B,1,none⟩=some (.map (some mk))∧w2.frozen? ⟨B,0,none⟩=false∧∃W4,(Instr.mapUpdate 118 (.map (some mk)) (.string s) (.int .i64 n)).run Tryz.prog (w2.setCell ⟨B,0,none⟩ (.slice (some ⟨g2,0,none⟩) (n + 1) cap2))=.ok () W4 ∧
    ∃bs',TabAt W4 bs' B (k + 1) (qa5 T s v)∧Goes (yh B mk ma mt vs vc vl vars) w1 bs' W4):=by
  intro g2 cap2 w2 hown2 hgrow hat;rw[←Hva.out] at hgrow hat;have hB2:w2.heap[B]?=w1.heap[B]?:=(hgrow.block B (by simp;omega) (fun e=>HvB.out e.symm)).trans (Below.heap_alloc w1 _ B hBw1);obtain⟨_,c1,_⟩:=q15 (hB2.trans L1.out.block);have c0':w2.cell? ⟨B,0,none⟩=some (.slice a n cap):=by rw[←Hva.out];exact (q15 (hB2.trans L1.out.block)).1
  refine⟨c0',c1,by simp[World.frozen?,hB2.trans L1.out.block],?_⟩;obtain⟨V,hV⟩:=eXa (Value.slice (some ⟨g2,0,none⟩) (n + 1) cap2);have hVo:V.ownBlock=some g2:=by rw[hV];rfl
  rw[←hV] at hown2 ⊢;have hg2B:g2≠B:=by
   rcases hat with e | e
   ·intro e';exact HvB.out (e'.symm ▸ e)
   ·omega
  have hsz:w1.heap.size + 1≤w2.heap.size:=by have:=hgrow.size;simpa using this
  have keep:∀i,i < w1.heap.size→i≠B→vs.ownBlock≠some i→(w2.setCell ⟨B,0,none⟩ V).heap[i]?=w1.heap[i]?:=fun i hi hB hc =>
   (Below.heap_setCell _ _ _ i hB).trans ((hgrow.block i (by simp;omega) (fun e=>hc e.symm)).trans (Below.heap_alloc w1 _ i hi))
  have L3:=L1.out.q42 (W':=w2.setCell ⟨B,0,none⟩ V) (S':=T.syms++[(s,v)]) hVo (hat.imp id fun e=>by omega)
   (by
     rw[qa6,lAp,Hn.out]
     exact zu hown2 fun g e=>Below.heap_setCell _ _ _ g (by rw[hVo] at e;cases e;exact hg2B))
   (by rw[qj (hB2.trans L1.out.block)];rfl) keep
  obtain⟨m,hm,hk3⟩:=L3.known;obtain⟨W4,hmu,hm4,hg4⟩:=hk3.put (by unfold maxLen;omega) s (by unfold maxLen;omega) n (by omega);have L4:=L3.putK (k':=k + 1) hm4 (by omega) (by omega) (fun i hi hne=>hg4.block i hi (by simpa using hne));refine⟨W4,hmu,_,⟨_,_,_,_,_,_,_,L4.tab (qa5 T s v) rfl ?_ ?_ rfl rfl rfl,rfl⟩,⟨fun b hb=>?_,⟨hg4.os.trans hgrow.os,hg4.tape.trans hgrow.tape,hg4.output.trans hgrow.output,?_,fun i hi hni=>?_⟩⟩⟩
  ·rw[←Hn.out];exact q97 T.syms s v Hno.out
  ·exact qmt T s v Hno.out (by rw[Hn.out];exact Hlt.out)
  ·rcases qei (l:=[vs,vc,vl]++vars) (i:=0) hVo hb with h | h
   ·exact .inl h
   ·rcases hat with e | e
    ·exact .inl (q36 (v:=vs) (by simp) (h ▸ e))
    ·exact .inr (by omega)
  ·have h4:=hg4.size;simp only[World.setCell,Array.size_modify] at h4;omega
  ·refine (hg4.block i (by simp[World.setCell];omega) (fun e=>hni ?_)).trans (keep i hi (fun e=>hni ?_) (fun e=>hni ?_))
   ·rw[Option.some.inj e];simp[yh]
   ·rw[e];simp[yh]
   ·exact q36 (v:=vs) (by simp) e
 go_wp2_with (at_builtin;refine wpList_append_lies _ rfl _ _ _ rfl 0 183 i0 _ 2 24 Tryz.underlying188 hi0 hz0 hz1 hz3 rfl (by omega) _ n (q19 T.syms) (by rfl) (by exact (Hrow1.out.alloc _)) ⟨w1.heap.size,0,none⟩ 1 1 [.string s,.bool v] (by rfl) (by rfl) (World.news_of_block (cs:=#[.string s,.bool v]) (t:=183) (fr:=(0,0)) (heap_alloc_new w1 _)) (by simp[Value.oneCell']) (by omega) (by unfold maxLen;omega) (by omega) (by simp) (w1.heap.size + 1) (by simp) ?_;intro g2 cap2 w2 hown2 hgrow hat hlt2;obtain⟨e0,e1,ez,W4,hmu,hrest⟩:=step.out g2 cap2 w2 hown2 hgrow hat;have Hrest:Hid _:=hrest;clear hrest hown2 hgrow hat)
 obtain⟨bs',hT4,hG4⟩:=Hrest.out;refine cMo (q86 W4 bs' B (k + 1) (qa5 T s v) n (s,v) ?_ ?_ (by unfold maxLen;dsimp only;omega) ?_ (by omega) hC (fun l hl=>Nat.le_succ_of_le (HI.out l hl)) hT4) ?_
 ·show ((T.syms++[(s,v)]).map (·.1)).Nodup
  rw[List.map_append];refine List.nodup_append.2 ⟨hnd,by simp,fun x hx y hy=>?_⟩;simp only[List.map_cons,List.map_nil,List.mem_cons,List.not_mem_nil,or_false] at hy;subst hy;rintro rfl;obtain⟨q,hq,e⟩:=List.mem_map.1 hx;have:=Hno.out
  unfold numOf at this;rw[List.findIdx?_eq_none_iff] at this;have:=this q hq
  simp[e] at this
 ·show (T.syms++[(s,v)])[n]?=some (s,v)
  rw[←Hn.out];simp
 ·show (T.syms++[(s,v)]).length≤512
  rw[lAp,Hn.out];simp;omega
 ·rintro e w5 ⟨rfl,hrest⟩;have Hr5:Hid _:=hrest;clear hrest
  go_wp2
  obtain⟨bs5,hT5,hG5⟩:=Hr5.out;exact bodyPost_ret (v:=.tuple #[.int .i64 n,.int .i64 0]) (by simp[results,Tryz.results160,go_sem]) rfl ⟨rfl,bs5,hT5,(Goes.of_below Hb.out).trans (hG4.trans hG5)⟩
theorem qmu (w:World)(B:Nat)(s:ByteArray)(hs:s.size≤maxLen)(hKB:KB w)(hn:uz s 4=false) :
  Calls Tryz.prog 103 #[.pointer (some ⟨B,0,none⟩),.string s] w fun e w'=>e=.returned (.int .i64 21)∧w'=w:=by
 have A:=name_any s w hs hKB;rw[hn] at A;replace A:=show Hid _ from A;go_enter Tryz.func103,Tryz.ntmps103;go_wp2_with fail;refine cMo A.out ?_;rintro e w' ⟨rfl,rfl⟩
 go_wp2
 go_ret
 exact⟨rfl,rfl⟩
theorem qg5 (w:World)(bs:List Nat)(B k:Nat)(T:Tab)(s:ByteArray)(hs:s.size≤maxLen)(hKB:KB w)(hn:uz s 4=true)(h:TabAt w bs B k T)(hl:(q2e T.labels s).isSome=true) :
  Calls Tryz.prog 103 #[.pointer (some ⟨B,0,none⟩),.string s] w fun e w'=>e=.returned (.int .i64 20)∧w'=w:=by
 have A:=name_any s w hs hKB;rw[hn] at A;replace A:=show Hid _ from A;obtain⟨vs,vc,vl,mk,ma,mt,vars,h,_⟩:=h;obtain⟨_,_,_,_,_,c5⟩:=q15 h.block;obtain⟨n,_,hm⟩:=h.taken;have hk:=hm.look s hs;rw[hl] at hk;generalize (q2e T.labels s).getD 0=r at hk;clear h hm hl;go_enter Tryz.func103,Tryz.ntmps103;go_wp2_with fail;refine cMo A.out ?_;rintro e w' ⟨rfl,rfl⟩
 go_wp2
 go_ret
 exact⟨rfl,rfl⟩
theorem qiw (w:World)(bs:List Nat)(B k:Nat)(T:Tab)(s:ByteArray)(hs:s.size≤maxLen)(hKB:KB w)(hn:uz s 4=true)(h:TabAt w bs B k T)(hl:(q2e T.labels s).isSome=false)(h4:1024≤T.labels.length) :
  Calls Tryz.prog 103 #[.pointer (some ⟨B,0,none⟩),.string s] w fun e w'=>e=.returned (.int .i64 22)∧w'=w:=by
 have A:=name_any s w hs hKB;rw[hn] at A;replace A:=show Hid _ from A;obtain⟨vs,vc,vl,mk,ma,mt,vars,h,_⟩:=h;obtain⟨_,_,_,_,c4,c5⟩:=q15 h.block;obtain⟨a,cap,rfl⟩:=ji h.labels;obtain⟨n,_,hm⟩:=h.taken;have hk:=hm.look s hs;rw[hl] at hk;generalize (q2e T.labels s).getD 0=r at hk;have h4':(1024:Int)≤(T.labels.length:Int):=by omega
 clear h hm hl;go_enter Tryz.func103,Tryz.ntmps103;go_wp2_with fail;refine cMo A.out ?_;rintro e w' ⟨rfl,rfl⟩
 go_wp2
 go_ret
 exact⟨rfl,rfl⟩
theorem qix (w:World)(bs:List Nat)(B k:Nat)(T:Tab)(h:TabAt w bs B k T)(hd:T.scopes.length=0):Calls Tryz.prog 106 #[.pointer (some ⟨B,0,none⟩)] w fun e w'=>e=.returned (.int .i64 23)∧w'=w:=by
 obtain⟨vs,vc,vl,mk,ma,mt,vars,h,_⟩:=h;obtain⟨a,cap,rfl⟩:=ji h.scopes;obtain⟨_,_,_,c3,_⟩:=q15 h.block;rw[hd] at c3;clear h;go_enter Tryz.func106,Tryz.ntmps106
 go_wp2
 go_ret
 exact⟨rfl,rfl⟩
theorem qg6 (w:World)(bs:List Nat)(B k:Nat)(T:Tab)(s:ByteArray)(h:TabAt w bs B k T)(hd:0 < T.scopes.length):Calls Tryz.prog 157 #[.pointer (some ⟨B,0,none⟩),.string s] w fun e w'=>e=.returned (.tuple #[.int .i64 0,.int .i64 23])∧w'=w:=by
 obtain⟨vs,vc,vl,mk,ma,mt,vars,h,_⟩:=h;obtain⟨a,cap,rfl⟩:=ji h.scopes;obtain⟨_,_,_,c3,_⟩:=q15 h.block;have hd':(0:Int) < (T.scopes.length:Int):=by omega
 clear h;go_enter Tryz.func157,Tryz.ntmps157
 go_wp2
 exact bodyPost_ret (v:=.tuple #[.int .i64 0,.int .i64 23]) (by simp[results,Tryz.results157,go_sem]) rfl ⟨rfl,rfl⟩
theorem qmv (w:World)(bs:List Nat)(B k:Nat)(T:Tab)(s:ByteArray)(hs:s.size≤maxLen)(hKB:KB w)(hn:uz s 3=false)(h:TabAt w bs B k T)(hd:T.scopes.length=0) :
  Calls Tryz.prog 157 #[.pointer (some ⟨B,0,none⟩),.string s] w fun e w'=>e=.returned (.tuple #[.int .i64 0,.int .i64 21])∧w'=w:=by
 have A:=q1g s w hs hKB;rw[hn] at A;replace A:=show Hid _ from A;obtain⟨vs,vc,vl,mk,ma,mt,vars,h,_⟩:=h;obtain⟨a,cap,rfl⟩:=ji h.scopes;obtain⟨_,_,_,c3,_⟩:=q15 h.block;rw[hd] at c3;clear h;go_enter Tryz.func157,Tryz.ntmps157;go_wp2_with fail;refine cMo A.out ?_;rintro e w' ⟨rfl,rfl⟩
 go_wp2
 exact bodyPost_ret (v:=.tuple #[.int .i64 0,.int .i64 21]) (by simp[results,Tryz.results157,go_sem]) rfl ⟨rfl,rfl⟩
theorem qg7 (w:World)(bs:List Nat)(B k:Nat)(T:Tab)(s:ByteArray)(hs:s.size≤maxLen)(hKB:KB w)(hn:uz s 3=true)(h:TabAt w bs B k T)(hd:T.scopes.length=0)(ho:(numOf T.syms s).isSome=true) :
  Calls Tryz.prog 157 #[.pointer (some ⟨B,0,none⟩),.string s] w fun e w'=>e=.returned (.tuple #[.int .i64 0,.int .i64 20])∧w'=w:=by
 have A:=q1g s w hs hKB;rw[hn] at A;replace A:=show Hid _ from A;obtain⟨vs,vc,vl,mk,ma,mt,vars,h,_⟩:=h;obtain⟨a,cap,rfl⟩:=ji h.scopes;obtain⟨_,c1,_,c3,_⟩:=q15 h.block;obtain⟨n,_,hm⟩:=h.known;have hk:=hm.look s hs;rw[ho] at hk;generalize (numOf T.syms s).getD 0=r at hk;rw[hd] at c3;clear h hm ho;go_enter Tryz.func157,Tryz.ntmps157;go_wp2_with fail;refine cMo A.out ?_;rintro e w' ⟨rfl,rfl⟩
 go_wp2
 exact bodyPost_ret (v:=.tuple #[.int .i64 0,.int .i64 20]) (by simp[results,Tryz.results157,go_sem]) rfl ⟨rfl,rfl⟩
theorem var_bad (w:World)(B:Nat)(s:ByteArray)(hs:s.size≤maxLen)(hKB:KB w)(hn:uz s 3=false) :
  Calls Tryz.prog 110 #[.pointer (some ⟨B,0,none⟩),.string s] w fun e w'=>e=.returned (.tuple #[.int .i64 0,.int .i64 21])∧w'=w:=by
 have A:=q1g s w hs hKB;rw[hn] at A;replace A:=show Hid _ from A;go_enter Tryz.func110,Tryz.ntmps110;go_wp2_with fail;refine cMo A.out ?_;rintro e w' ⟨rfl,rfl⟩
 go_wp2
 exact bodyPost_ret (v:=.tuple #[.int .i64 0,.int .i64 21]) (by simp[results,Tryz.results110,go_sem]) rfl ⟨rfl,rfl⟩
theorem qmw (w:World)(bs:List Nat)(B k:Nat)(T:Tab)(s:ByteArray)(hs:s.size≤maxLen)(hKB:KB w)(hn:uz s 3=true)(h:TabAt w bs B k T)(ho:(q07 T s).isSome=true) :
  Calls Tryz.prog 110 #[.pointer (some ⟨B,0,none⟩),.string s] w fun e w'=>e=.returned (.tuple #[.int .i64 0,.int .i64 20])∧w'=w:=by
 have A:=q1g s w hs hKB;rw[hn] at A;replace A:=show Hid _ from A;obtain⟨vs,vc,vl,mk,ma,mt,vars,h,_⟩:=h;obtain⟨_,_,c2,_⟩:=q15 h.block;obtain⟨n,_,hm⟩:=h.active;have hk:=hm.look s hs;rw[ho] at hk;generalize (q07 T s).getD 0=r at hk;clear h hm ho;go_enter Tryz.func110,Tryz.ntmps110;go_wp2_with fail;refine cMo A.out ?_;rintro e w' ⟨rfl,rfl⟩
 go_wp2
 exact bodyPost_ret (v:=.tuple #[.int .i64 0,.int .i64 20]) (by simp[results,Tryz.results110,go_sem]) rfl ⟨rfl,rfl⟩
def labT (T:Tab)(s:ByteArray):Tab:={ T with labels:=T.labels++[s] }
theorem qmx (l:List ByteArray)(s:ByteArray)(h:q2e l s=none):(fun t=>if t=s then some l.length else q2e l t)=q2e (l++[s]):=by
 funext t
 unfold q2e at h ⊢;rw[List.findIdx?_append]
 by_cases e:t=s
 ·subst e;rw[if_pos rfl,h];simp
 ·rw[if_neg e]
  cases hm:l.findIdx? (fun p=>p=t) with
  | some m=>rfl
  | none =>
   have:¬s=t:=fun h=>e h.symm
   simp[this]
theorem info9:(Tryz.prog.info? 9).map (fun i=>(i.zero,i.size,i.bytes))=some (some (.string ⟨#[]⟩),1,16):=by kernel_rfl
theorem qmy (w:World)(bs:List Nat)(B k:Nat)(T:Tab)(s:ByteArray)(hs:s.size≤281474976710656)(hKB:KB w)(hnm:uz s 4=true)(hno:q2e T.labels s=none)(hS:T.labels.length < 1024)(hk:k < 17592186044414)(h:TabAt w bs B k T) :
  Calls Tryz.prog 103 #[.pointer (some ⟨B,0,none⟩),.string s] w fun e w'=>e=.returned (.int .i64 0)∧∃bs',TabAt w' bs' B (k + 1) (labT T s)∧Goes bs w bs' w':=by
 have A:=name_any s w (by unfold maxLen;omega) hKB;rw[hnm] at A;replace A:=show Hid _ from A;obtain⟨vs,vc,vl,mk,ma,mt,vars,h,rfl⟩:=h;obtain⟨a,cap,hva⟩:=ji h.labels;obtain⟨_,_,_,_,c4,c5⟩:=q15 h.block;rw[hva] at c4;have hBw:=h.lies.blt;obtain⟨m0,hm0,hm⟩:=h.taken;have hlk:=hm.look s (by unfold maxLen;omega);rw[hno] at hlk;replace hlk:(Instr.lookup 118 (.map (some mt)) (.string s) true).run Tryz.prog w=.ok (.tuple #[.int .i64 0,.bool false]) w:=hlk;generalize hn:T.labels.length=n at *;have CL:Hid _:=clone_any s w hs;have H:=hid h;have Hn:=hid hn;have Hva:=hid hva;have HvB:Hid (vl.ownBlock≠some B):=h.lies.far B (by simp) vl (by simp);obtain⟨i0,hi0,hz0,hz1,hz3⟩:=info_parts info9;have hn4:(n:Int) < 1024:=by omega
 have Hno:Hid _:=hno;have Hnm:Hid _:=hnm;clear h hn hva hno hnm hm;go_enter Tryz.func103,Tryz.ntmps103;go_wp2_with fail;refine cMo A.out ?_;rintro e w' ⟨rfl,rfl⟩;go_wp2_with fail;refine cMo CL.out ?_;rintro e w1 ⟨rfl,hb⟩;have L1:Hid (Lies w1 B k T.syms (numOf T.syms) (q07 T) (q2e T.labels) T.scopes T.labels vs vc vl mk ma mt vars):=H.out.lies.kept fun b hb'=>hb.block b (H.out.lies.mem b hb')
 have hB1:w1.heap[B]?=w'.heap[B]?:=hb.block B hBw;have d4:w1.cell? ⟨B,4,none⟩=some (.slice a n cap):=(World.cell?_of_block (a:=⟨B,4,none⟩) hB1).trans c4;have d5:w1.cell? ⟨B,5,none⟩=some (.map (some mt)):=(World.cell?_of_block (a:=⟨B,5,none⟩) hB1).trans c5;have Hb:Hid _:=hb;have hBw1:B < w1.heap.size:=L1.out.blt;obtain⟨m1,hm1,hmt1⟩:=L1.out.taken;obtain⟨W2,hmu,hm2,hg2⟩:=(show jg w1.drew mt m1 _ from hmt1.kept rfl).put (by unfold maxLen;omega) s (by unfold maxLen;omega) n (by omega);have L2:Hid (Lies W2 B (k + 1) T.syms (numOf T.syms) (q07 T) (fun t=>if t=s then some n else q2e T.labels t) T.scopes T.labels vs vc vl mk ma mt vars):=L1.out.putT hm2 (by omega) (by omega) (fun i hi hne=>hg2.block i hi (by simpa using hne));have f4:W2.cell? ⟨B,4,none⟩=some (.slice a n cap):=by
  rw[World.cell?_of_block (w:=w1) (a:=⟨B,4,none⟩) (hg2.block B hBw1 (fun e=>L1.out.ne.2.2.1 (Option.some.inj e))),d4]
 have Hg2:Hid _:=hg2;have hBw2:B < W2.heap.size:=L2.out.blt;have Hrow2:Hid (W2.ownsRow 0 9 1 (.slice a n cap) n (T.labels.map Value.string)):=by have:=L2.out.labels;rw[Hn.out,Hva.out] at this;exact this
 clear CL hb hB1 hmt1 hm2 hg2 A
 have step:Hid (∀(g2 cap2:Nat) (w2:World),w2.ownsRow 0 9 1 (.slice (some ⟨g2,0,none⟩) (n + 1) cap2) (n + 1) (T.labels.map Value.string++[.string s])→(W2.alloc (.cells #[.string s] 9)).grownBy w2 (Value.slice a n cap).ownBlock→((Value.slice a n cap).ownBlock=some g2∨g2=W2.heap.size + 1) →
   w2.cell? ⟨B,4,none⟩=some (.slice a n cap)∧w2.frozen? ⟨B,4,none⟩=false ∧
    ∃bs',TabAt (w2.setCell ⟨B,4,none⟩ (.slice (some ⟨g2,0,none⟩) (n + 1) cap2)) bs' B (k + 1) (labT T s)∧Goes (yh B mk ma mt vs vc vl vars) w1 bs' (w2.setCell ⟨B,4,none⟩ (.slice (some ⟨g2,0,none⟩) (n + 1) cap2))):=by
  intro g2 cap2 w2 hown2 hgrow hat;rw[←Hva.out] at hgrow hat;have hB2:w2.heap[B]?=W2.heap[B]?:=(hgrow.block B (by simp;omega) (fun e=>HvB.out e.symm)).trans (Below.heap_alloc W2 _ B hBw2);have c0':w2.cell? ⟨B,4,none⟩=some (.slice a n cap):=(World.cell?_of_block (a:=⟨B,4,none⟩) hB2).trans f4;refine⟨c0',by simp[World.frozen?,hB2.trans L2.out.block],?_⟩;obtain⟨V,hV⟩:=eXa (Value.slice (some ⟨g2,0,none⟩) (n + 1) cap2);have hVo:V.ownBlock=some g2:=by rw[hV];rfl
  rw[←hV] at hown2 ⊢;have hg2B:g2≠B:=by
   rcases hat with e | e
   ·intro e';exact HvB.out (e'.symm ▸ e)
   ·omega
  have hsz:W2.heap.size + 1≤w2.heap.size:=by have:=hgrow.size;simpa using this
  have keep:∀i,i < W2.heap.size→i≠B→vl.ownBlock≠some i→(w2.setCell ⟨B,4,none⟩ V).heap[i]?=W2.heap[i]?:=fun i hi hB hc =>
   (Below.heap_setCell _ _ _ i hB).trans ((hgrow.block i (by simp;omega) (fun e=>hc e.symm)).trans (Below.heap_alloc W2 _ i hi))
  have L3:=L2.out.rowL (W':=w2.setCell ⟨B,4,none⟩ V) (L':=T.labels++[s]) hVo (hat.imp id fun e=>by omega)
   (by
     rw[List.map_append,lAp,Hn.out]
     exact zu hown2 fun g e=>Below.heap_setCell _ _ _ g (by rw[hVo] at e;cases e;exact hg2B))
   (by rw[qj (hB2.trans L2.out.block)];rfl) keep
  have hg1:=Hg2.out;have hs1:w1.heap.size≤W2.heap.size:=hg1.size;refine⟨_,⟨_,_,_,_,_,_,_,L3.tab (labT T s) rfl rfl rfl ?_ rfl rfl,rfl⟩,⟨fun b hb=>?_,⟨hgrow.os.trans hg1.os,hgrow.tape.trans hg1.tape,hgrow.output.trans hg1.output,?_,fun i hi hni=>?_⟩⟩⟩
  ·rw[←Hn.out];exact qmx T.labels s Hno.out
  ·rcases qei (l:=[vs,vc,vl]++vars) (i:=2) hVo hb with h | h
   ·exact .inl h
   ·rcases hat with e | e
    ·exact .inl (q36 (v:=vl) (by simp) (h ▸ e))
    ·exact .inr (by omega)
  ·simp only[World.setCell,Array.size_modify];omega
  ·refine (keep i (by omega) (fun e=>hni ?_) (fun e=>hni ?_)).trans (hg1.block i hi (fun e=>hni ?_))
   ·rw[e];simp[yh]
   ·exact q36 (v:=vl) (by simp) e
   ·rw[Option.some.inj e];simp[yh]
 go_wp2_with fail
 go_region
 go_wp2_with (at_builtin;refine wpList_append_lies _ rfl _ _ _ rfl 0 9 i0 _ 1 16 Tryz.underlying84 hi0 hz0 hz1 hz3 rfl (by omega) _ n (T.labels.map Value.string) (by rfl) (by exact (Hrow2.out.alloc _)) ⟨W2.heap.size,0,none⟩ 1 1 [.string s] (by rfl) (by rfl) (World.news_of_block (cs:=#[.string s]) (t:=9) (fr:=(0,0)) (heap_alloc_new W2 _)) (by simp[Value.oneCell']) (by omega) (by unfold maxLen;omega) (by omega) (by simp) (W2.heap.size + 1) (by simp) ?_;intro g2 cap2 w2 hown2 hgrow hat hlt2;obtain⟨e0,ez,hrest⟩:=step.out g2 cap2 w2 hown2 hgrow hat;have Hrest:Hid _:=hrest;clear hrest hown2 hgrow hat)
 obtain⟨bs',hT4,hG4⟩:=Hrest.out
 go_ret
 exact⟨rfl,bs',hT4,(Goes.of_below Hb.out).trans hG4⟩
def nameAt (S:List (ByteArray × Bool))(n:Nat):ByteArray:=nameOf S[n]?
def qg8 (S:List (ByteArray × Bool))(f:ByteArray→Option Nat)(l:List Nat):ByteArray→Option Nat:=l.foldl (fun f n=>fun t=>if t=nameAt S n then none else f t) f
theorem qmz (S:List (ByteArray × Bool))(f:ByteArray→Option Nat)(l:List Nat)(n:Nat):qg8 S f (l++[n])=fun t=>if t=nameAt S n then none else qg8 S f l t:=by simp[qg8]
theorem dels_is (S:List (ByteArray × Bool)):∀(l:List Nat) (f:ByteArray→Option Nat) (t:ByteArray),((∃n ∈ l,nameAt S n=t)→qg8 S f l t=none)∧((∀n ∈ l,nameAt S n≠t)→qg8 S f l t=f t):=by
 intro l
 induction l with
 | nil=>intro f t;exact⟨fun ⟨n,h,_⟩=>by simp at h,fun _=>rfl⟩
 | cons a l ih =>
  intro f t;obtain⟨i1,i2⟩:=ih (fun t=>if t=nameAt S a then none else f t) t;refine⟨fun ⟨n,hn,e⟩=>?_,fun h=>?_⟩
  ·by_cases h2:∃n ∈ l,nameAt S n=t
   ·exact i1 h2
   ·have hna:n=a:=by
     rcases List.mem_cons.1 hn with h | h
     ·exact h
     ·exact absurd ⟨n,h,e⟩ h2
    refine (i2 fun m hm e'=>h2 ⟨m,hm,e'⟩).trans ?_;subst hna;exact if_pos e.symm
  ·exact (i2 fun m hm=>h m (List.mem_cons_of_mem _ hm)).trans (if_neg fun e=>h a (by simp) e.symm)
def q98 (T:Tab):Tab:={ T with act:=T.act.filter (fun n=>decide (n ∉ T.scopes.getD (T.scopes.length - 1) [])),scopes:=T.scopes.take (T.scopes.length - 1) }
theorem qg9 (T:Tab)(l:List Nat)(hl:T.scopes.getD (T.scopes.length - 1) []=l)(hnd:(T.syms.map (·.1)).Nodup)(hin:∀n ∈ l,n < T.syms.length):qg8 T.syms (q07 T) l=q07 (q98 T):=by
 funext t
 obtain⟨i1,i2⟩:=dels_is T.syms l (q07 T) t;have e2:q07 (q98 T) t=(numOf T.syms t).filter (fun n=>decide (n ∈ T.act.filter (fun n=>decide (n ∉ l)))):=by
  rw[←hl];rfl
 have e1:q07 T t=(numOf T.syms t).filter (fun n=>decide (n ∈ T.act)):=rfl;rw[e2]
 cases hm:numOf T.syms t with
 | none =>
  rw[hm] at e1
  by_cases h:∃n ∈ l,nameAt T.syms n=t
  ·rw[i1 h];rfl
  ·rw[i2 fun n hn e=>h ⟨n,hn,e⟩,e1];rfl
 | some m =>
  obtain⟨b,hb⟩:=q5m hm;rw[hm] at e1;have key:(∃n ∈ l,nameAt T.syms n=t)↔m ∈ l:=by
   constructor
   ·intro h;obtain⟨n,hn,e⟩:=h;have hlt:=hin n hn;have e':T.syms[n].1=t:=by
     unfold nameAt nameOf at e;rw[gEq hlt] at e
     simpa using e
    have:=q85 hnd (gEq hlt)
    rw[e',hm] at this
    cases this;exact hn
   ·intro h;exact⟨m,h,by unfold nameAt nameOf;rw[hb];rfl⟩
  by_cases h2:m ∈ l
  ·rw[i1 (key.2 h2)];simp[Option.filter,h2]
  ·rw[i2 (fun n hn e=>h2 (key.1 ⟨n,hn,e⟩)),e1];simp[Option.filter,h2]
theorem close_some (w:World)(bs:List Nat)(B k:Nat)(T:Tab)(hnd:(T.syms.map (·.1)).Nodup)(hsy:∀p ∈ T.syms,p.1.size≤maxLen)(hS:T.syms.length≤512)(hk:k < 17592186044414)(hC:T.scopes.length≤16)(hI:∀l ∈ T.scopes,l.length≤k)(hin:∀l ∈ T.scopes,∀n ∈ l,n < T.syms.length)(h:TabAt w bs B k T)(h0:0 < T.scopes.length) :
  Calls Tryz.prog 106 #[.pointer (some ⟨B,0,none⟩)] w fun e w'=>e=.returned (.int .i64 0)∧∃bs',TabAt w' bs' B k (q98 T)∧Goes bs w bs' w':=by
 obtain⟨vs,vc,vl,mk,ma,mt,vars,h,rfl⟩:=h;have L0:=h.lies;obtain⟨q,hq⟩:∃q,T.scopes.length=q + 1:=⟨T.scopes.length - 1,by omega⟩;obtain⟨gc,capc,rfl⟩:=q4r h.scopes (by omega);have hsc:=L0.scopes;rw[hq] at hsc;have hvl:vars.length=q + 1:=by have:=hsc.1;omega
 obtain⟨v,hv⟩:∃v,vars[q]?=some v:=⟨vars[q]'(by omega),gEq _⟩;obtain⟨l,hl,hrow⟩:=L0.inner q v hv;have hlm:l ∈ T.scopes:=mGe hl;have hll:l.length≤k:=hI l hlm;obtain⟨_,_,_,c3,_⟩:=q15 h.block;have dq:w.cell? ⟨gc,q,none⟩=some v:=xq hsc q v hv;rw[hq] at c3;obtain⟨av,capv,hva⟩:=ji hrow;rw[hva] at dq;have HL0:Hid _:=L0;have Hv:=hid hv;have Hl:=hid hl;have Hva:=hid hva;have Hq:=hid hq;have Hin:Hid (∀n ∈ l,n < T.syms.length):=hin l hlm;have Hsy:Hid _:=hsy;have Hvl:=hid hvl;have hq16:q < 16:=by omega
 generalize hll':l.length=ll at *;have Hll:=hid hll';clear h L0 hsc hv hl hva hq hin hsy hI h0 hC hlm hrow hvl hll';go_enter Tryz.func106,Tryz.ntmps106;go_wp2_with fail
 go_loopw [27] (fun i wx=>∃j:Nat,j≤ll∧i=.int .i64 j∧Hid (Lies wx B k T.syms (numOf T.syms) (qg8 T.syms (q07 T) (l.take j)) (q2e T.labels) T.scopes T.labels vs (.slice (some ⟨gc,0,none⟩) T.scopes.length capc) vl mk ma mt vars)∧Hid (w.grownBy wx (some ma))) (fun i _=>ll - (intOf i).toNat)
 case atStart=>exact⟨0,Nat.zero_le _,rfl,HL0.out,⟨rfl,rfl,rfl,Nat.le_refl _,fun _ _ _=>rfl⟩⟩
 case round =>
  obtain⟨j,hj,rfl,hL,hG⟩:=hrel;have hBw:B < wr.heap.size:=hL.out.blt;obtain⟨c0,_,c2,c3,_⟩:=q15 hL.out.block;rw[Hq.out] at c3
  by_cases hlt:j < ll
  ·obtain⟨n,hn⟩:∃n,l[j]?=some n:=⟨l[j]'(by rw[Hll.out];exact hlt),gEq _⟩;have hnS:n < T.syms.length:=Hin.out n (mGe hn);obtain⟨l2,hl2,hrow2⟩:=hL.out.inner q v Hv.out;have e2:l2=l:=Option.some.inj (hl2.symm.trans Hl.out);subst e2;rw[Hll.out] at hrow2;obtain⟨ga,capa,hva⟩:=q4r hrow2 (by omega);have hva':av=some ⟨ga,0,none⟩:=by have:=Hva.out;rw[hva] at this;cases this;rfl
   subst hva';have hcap:capv=capa:=by have:=Hva.out;rw[hva] at this;cases this;rfl
   subst hcap;rw[hva] at hrow2;have cj:wr.cell? ⟨ga,j,none⟩=some (.int .i64 n):=xq hrow2 j _ (by rw[List.getElem?_map,hn];rfl);obtain⟨gs,caps,hvs⟩:=q4r hL.out.syms (by omega);have hrs:=hL.out.syms;rw[hvs] at hrs c0;obtain⟨p,hp⟩:∃p,T.syms[n]?=some p:=⟨T.syms[n],gEq hnS⟩;have q0:=xq hrs _ _ (qad _ _ _ hp).1;obtain⟨m,hm,hact⟩:=hL.out.active;obtain⟨W1,hmu,hm1,hg1⟩:=(show jg wr.drew ma m _ from hact.kept rfl).del p.1 (Hsy.out p (mGe hp)) 0;have n1:(n:Int) < (T.syms.length:Int):=by omega
   have n2:(j:Int) < (ll:Int):=by omega
   have hnm:nameAt T.syms n=p.1:=by unfold nameAt nameOf;rw[hp];rfl
   have Hnext:Hid (Lies W1 B k T.syms (numOf T.syms) (qg8 T.syms (q07 T) (l2.take (j + 1))) (q2e T.labels) T.scopes T.labels vs (.slice (some ⟨gc,0,none⟩) T.scopes.length capc) vl mk ma mt vars):=by
    have:=hL.out.putA (k':=k) hm1 hm (Nat.le_refl _) (fun i hi hne=>hg1.block i hi (by simpa using hne))
    rw[List.take_add_one,hn,Option.toList_some,qmz,hnm];exact this
   have HG1:Hid (w.grownBy W1 (some ma)):=⟨hg1.os.trans hG.out.os,hg1.tape.trans hG.out.tape,hg1.output.trans hG.out.output,nLt hG.out.size hg1.size,fun i hi hne=>(hg1.block i (Nat.lt_of_lt_of_le hi hG.out.size) hne).trans (hG.out.block i hi hne)⟩;generalize T.syms.length=len at *;clear hm1 hg1 hact hrs hrow2 hL hp hn hnm hva hvs;go_wp2_with fail
   go_region
   go_wp2
   go_roundw
   case rel=>exact⟨j + 1,by omega,by go_num,Hnext,HG1⟩
   case measure=>simp[intOf];omega
  ·have hj':j=ll:=by omega
   subst hj';have z3:wr.frozen? ⟨B,3,none⟩=false:=by simp[World.frozen?,hL.out.block]
   have hcap:q + 1≤capc:=by
    rcases hL.out.scopes.2 with ⟨e,_⟩ | ⟨g',cap',cur,e,_,_,hn,_⟩
    ·cases e
    ·cases e;rw[Hq.out] at hn;exact hn
   have hcap1:(q:Int)≤(capc:Int):=by omega
   have hcap2:q≤capc:=by omega
   have hcap3:¬capc=0:=by omega
   go_wp2
   go_ret
   obtain⟨V,hV⟩:=eXa (Value.slice (some ⟨gc,0,none⟩) q capc);rw[←hV];have hLL:=hL.out;rw[List.take_of_length_le (by rw[Hll.out];exact Nat.le_refl _)] at hLL;have hgB:gc≠B:=fun e=>hLL.far B (by simp) (.slice (some ⟨gc,0,none⟩) T.scopes.length capc) (by simp) (by rw[e];rfl)
   have keep:∀i,i≠B→(wr.setCell ⟨B,3,none⟩ V).heap[i]?=wr.heap[i]?:=fun i hB=>Below.heap_setCell _ _ _ i hB
   have hrow:(wr.setCell ⟨B,3,none⟩ V).ownsRow 0 228 1 V q (vars.take q):=by
    refine⟨by rw[List.length_take,Hvl.out];omega,.inr ?_⟩;rcases hLL.scopes.2 with ⟨e,_⟩ | ⟨g',cap',cur,e,hg,hh,hn,hc,hsz,ht⟩
    ·cases e
    ·cases e;refine⟨gc,capc,cur,hV,hg,(keep gc hgB).trans hh,by omega,hc,hsz,?_⟩;rw[←ht,List.take_take,Nat.min_eq_left (by rw[Hq.out];omega)];rw[Nat.mul_one]
   have LP:=hLL.pop (W':=wr.setCell ⟨B,3,none⟩ V) (V:=V) (n:=q) Hq.out (by rw[hV];rfl) hrow (by rw[qj hLL.block];rfl) (fun i _ hB=>keep i hB);have hgd:T.scopes.getD (T.scopes.length - 1) []=l:=by rw[Hq.out,Nat.add_sub_cancel,List.getD,Hl.out];rfl
   refine⟨rfl,_,⟨_,_,_,_,_,_,_,LP.tab (q98 T) rfl rfl (qg9 T l hgd hnd Hin.out) rfl ?_ rfl,rfl⟩,⟨fun b hb=>.inl ?_,⟨hG.out.os,hG.out.tape,hG.out.output,?_,fun i hi hni=>?_⟩⟩⟩
   ·show T.scopes.take q=T.scopes.take (T.scopes.length - 1)
    rw[Hq.out,Nat.add_sub_cancel]
   ·rw[hV] at hb;rcases mAp.1 hb with h | h
    ·exact List.mem_append_left _ h
    ·refine List.mem_append_right _ ?_;simp only[List.cons_append,List.nil_append,q53] at h ⊢;rcases mAp.1 h with h | h
     ·exact List.mem_append_left _ h
     ·refine List.mem_append_right _ ?_;rcases mAp.1 h with h | h
      ·exact List.mem_append_left _ h
      ·refine List.mem_append_right _ ?_;rcases mAp.1 h with h | h
       ·exact List.mem_append_left _ h
       ·exact List.mem_append_right _ ((List.Sublist.filterMap _ (List.take_sublist _ _)).subset h)
   ·have:=hG.out.size
    simp only[World.setCell,Array.size_modify];exact this
   ·refine (keep i (fun e=>hni (by rw[e];simp[yh]))).trans (hG.out.block i hi (fun e=>hni ?_));rw[Option.some.inj e];simp[yh]
structure Tab.Ok (T:Tab)(k:Nat):Prop where
 syms:T.syms.length≤512
 labels:T.labels.length≤1024
 scopes:T.scopes.length≤16
 names:∀p ∈ T.syms,uz p.1 3=true
 nodup:(T.syms.map (·.1)).Nodup
 acts:∀n ∈ T.act,n < T.syms.length
 lens:∀l ∈ T.scopes,l.length≤k
 inner:∀l ∈ T.scopes,∀n ∈ l,n < T.syms.length
theorem made_size {s:ByteArray}{k:Int}(h:uz s k=true):s.size≤32:=by
 unfold uz at h;simp at h;exact h.1.2
theorem Tab.Ok.sizes {T:Tab}{k:Nat}(h:T.Ok k):∀p ∈ T.syms,p.1.size≤maxLen:=fun p hp=>by
 have:=made_size (h.names p hp)
 unfold maxLen;omega
def jf (T:Tab):Nat × Tab:=if 16≤T.scopes.length then (23,T) else (0,{ T with scopes:=T.scopes++[[]] })
def xk (T:Tab):Nat × Tab:=if T.scopes.length=0 then (23,T) else (0,q98 T)
def q1v (T:Tab)(s:ByteArray)(v:Bool):Nat × Nat × Tab:=if 512≤T.syms.length then (0,22,T) else (T.syms.length,0,q96 (qa5 T s v) T.syms.length)
def q0b (T:Tab)(s:ByteArray):Nat × Nat × Tab:=if 0 < T.scopes.length then (0,23,T) else if uz s 3=false then (0,21,T) else if (numOf T.syms s).isSome then (0,20,T) else q1v T s false
def q3g (T:Tab)(s:ByteArray):Nat × Nat × Tab:=if uz s 3=false then (0,21,T) else if (q07 T s).isSome then (0,20,T) else match numOf T.syms s with | some n=>(n,0,q96 T n) | none=>q1v T s true
def zh (T:Tab)(s:ByteArray):Nat × Tab:=if uz s 4=false then (21,T) else if (q2e T.labels s).isSome then (20,T) else if 1024≤T.labels.length then (22,T) else (0,labT T s)
theorem TabAt.up {w:World}{bs:List Nat}{B k k':Nat}{T:Tab}(h:TabAt w bs B k T)(hk:k≤k'):TabAt w bs B k' T:=by
 obtain⟨vs,vc,vl,mk,ma,mt,vars,h,e⟩:=h;exact⟨vs,vc,vl,mk,ma,mt,vars,(h.lies.up hk).tab T rfl rfl rfl rfl rfl rfl,e⟩
theorem TabAt.kept {w w':World}{bs:List Nat}{B k:Nat}{T:Tab}(h:TabAt w bs B k T)(hk:∀b ∈ bs,w'.heap[b]?=w.heap[b]?):TabAt w' bs B k T:=by
 obtain⟨vs,vc,vl,mk,ma,mt,vars,h,rfl⟩:=h;exact⟨vs,vc,vl,mk,ma,mt,vars,(h.lies.kept hk).tab T rfl rfl rfl rfl rfl rfl,rfl⟩
theorem TabAt.low {w:World}{bs:List Nat}{B k:Nat}{T:Tab}(h:TabAt w bs B k T):∀b ∈ bs,b < w.heap.size:=by
 obtain⟨vs,vc,vl,mk,ma,mt,vars,h,rfl⟩:=h;exact h.lies.mem
theorem TabAt.below {w w':World}{bs:List Nat}{B k:Nat}{T:Tab}(h:TabAt w bs B k T)(hb:Below w.heap.size w w'):TabAt w' bs B k T:=h.kept fun b hm=>hb.block b (h.low b hm)
theorem TabAt.own {w:World}{bs:List Nat}{B k:Nat}{T:Tab}(h:TabAt w bs B k T):B ∈ bs:=by
 obtain⟨vs,vc,vl,mk,ma,mt,vars,h,rfl⟩:=h;simp[yh]
def Now (bs:List Nat)(w:World)(B k:Nat)(T':Tab)(w':World):Prop:=∃bs',TabAt w' bs' B (k + 2) T'∧Goes bs w bs' w'
theorem Now.same {bs:List Nat}{w:World}{B k:Nat}{T:Tab}(h:TabAt w bs B k T):Now bs w B k T w:=⟨bs,h.up (by omega),Goes.refl _ _⟩
theorem Now.one {bs:List Nat}{w w':World}{B k:Nat}{T:Tab}(h:∃bs',TabAt w' bs' B (k + 1) T∧Goes bs w bs' w'):Now bs w B k T w':=by
 obtain⟨bs',h,g⟩:=h;exact⟨bs',h.up (by omega),g⟩
theorem Now.zero {bs:List Nat}{w w':World}{B k:Nat}{T:Tab}(h:∃bs',TabAt w' bs' B k T∧Goes bs w bs' w'):Now bs w B k T w':=by
 obtain⟨bs',h,g⟩:=h;exact⟨bs',h.up (by omega),g⟩
theorem open_any (w:World)(bs:List Nat)(B k:Nat)(T:Tab)(h:TabAt w bs B k T) :
  Calls Tryz.prog 104 #[.pointer (some ⟨B,0,none⟩)] w fun e w'=>e=.returned (.int .i64 ((jf T).1:Nat))∧Now bs w B k (jf T).2 w':=by
 unfold jf
 by_cases hd:16≤T.scopes.length
 ·rw[if_pos hd];refine (qmq w bs B k T h hd).mono ?_;rintro e w' ⟨rfl,rfl⟩;exact⟨rfl,Now.same h⟩
 ·rw[if_neg hd];refine (qmr w bs B k T h (by omega)).mono ?_;rintro e w' ⟨rfl,⟨bs',h1,h2⟩,h3⟩;exact⟨rfl,Now.zero ⟨bs',h1,h2,h3⟩⟩
theorem close_any (w:World)(bs:List Nat)(B k:Nat)(T:Tab)(hT:T.Ok k)(hk:k < 17592186044414)(h:TabAt w bs B k T) :
  Calls Tryz.prog 106 #[.pointer (some ⟨B,0,none⟩)] w fun e w'=>e=.returned (.int .i64 ((xk T).1:Nat))∧Now bs w B k (xk T).2 w':=by
 unfold xk
 by_cases hd:T.scopes.length=0
 ·rw[if_pos hd];refine (qix w bs B k T h hd).mono ?_;rintro e w' ⟨rfl,rfl⟩;exact⟨rfl,Now.same h⟩
 ·rw[if_neg hd];refine (close_some w bs B k T hT.nodup hT.sizes hT.syms hk hT.scopes hT.lens hT.inner h (by omega)).mono ?_;rintro e w' ⟨rfl,hn⟩;exact⟨rfl,Now.zero hn⟩
theorem q9v (w:World)(bs:List Nat)(B k:Nat)(T:Tab)(s:ByteArray)(v:Bool)(hT:T.Ok k)(hk:k < 17592186044414)(hs:s.size≤281474976710656)(hno:numOf T.syms s=none)(h:TabAt w bs B k T) :
  Calls Tryz.prog 160 #[.pointer (some ⟨B,0,none⟩),.string s,.bool v] w fun e w'=>e=.returned (.tuple #[.int .i64 ((q1v T s v).1:Nat),.int .i64 ((q1v T s v).2.1:Nat)])∧Now bs w B k (q1v T s v).2.2 w':=by
 unfold q1v
 by_cases hd:512≤T.syms.length
 ·rw[if_pos hd];refine (qek w bs B k T s v hd h).mono ?_;rintro e w' ⟨rfl,rfl⟩;exact⟨rfl,Now.same h⟩
 ·rw[if_neg hd];exact (qg4 w bs B k T s v hs hT.nodup hno hT.acts (by omega) hk hT.scopes hT.lens h).mono fun e w' ⟨he,hn⟩=>⟨he,hn⟩
theorem qiy (w:World)(bs:List Nat)(B k:Nat)(T:Tab)(s:ByteArray)(hT:T.Ok k)(hk:k < 17592186044414)(hs:s.size≤maxLen)(hKB:KB w)(hn:uz s 3=true)(h:TabAt w bs B k T)(hd:T.scopes.length=0)(ho:numOf T.syms s=none) :
  Calls Tryz.prog 157 #[.pointer (some ⟨B,0,none⟩),.string s] w fun e w'=>e=.returned (.tuple #[.int .i64 ((q1v T s false).1:Nat),.int .i64 ((q1v T s false).2.1:Nat)])∧Now bs w B k (q1v T s false).2.2 w':=by
 have A:=q1g s w hs hKB;rw[hn] at A;replace A:=show Hid _ from A;have h32:=made_size hn;have D:=q9v w bs B k T s false hT hk (by omega) ho h;generalize q1v T s false=r at *;replace D:=show Hid _ from D;obtain⟨vs,vc,vl,mk,ma,mt,vars,h,_⟩:=h;obtain⟨a,cap,rfl⟩:=ji h.scopes;obtain⟨_,c1,_,c3,_⟩:=q15 h.block;obtain⟨n,_,hm⟩:=h.known;have hl:=hm.look s hs;rw[ho] at hl;replace hl:(Instr.lookup 118 (.map (some mk)) (.string s) true).run Tryz.prog w=.ok (.tuple #[.int .i64 0,.bool false]) w:=hl;rw[hd] at c3;clear h hm ho hT;go_enter Tryz.func157,Tryz.ntmps157;go_wp2_with fail;refine cMo A.out ?_;rintro e w' ⟨rfl,rfl⟩;go_wp2_with fail;refine cMo D.out ?_;rintro e w1 ⟨rfl,hnow⟩;have Hnow:Hid _:=hnow;clear hnow D
 go_wp2
 exact bodyPost_ret (v:=.tuple #[.int .i64 (r.1:Nat),.int .i64 (r.2.1:Nat)]) (by simp[results,Tryz.results157,go_sem]) rfl ⟨rfl,Hnow.out⟩
theorem qn0 (w:World)(bs:List Nat)(B k:Nat)(T:Tab)(s:ByteArray)(hT:T.Ok k)(hk:k < 17592186044414)(hs:s.size≤maxLen)(hKB:KB w)(h:TabAt w bs B k T) :
  Calls Tryz.prog 157 #[.pointer (some ⟨B,0,none⟩),.string s] w fun e w'=>e=.returned (.tuple #[.int .i64 ((q0b T s).1:Nat),.int .i64 ((q0b T s).2.1:Nat)])∧Now bs w B k (q0b T s).2.2 w':=by
 have hs':=hs;unfold q0b
 by_cases hd:0 < T.scopes.length
 ·rw[if_pos hd];refine (qg6 w bs B k T s h hd).mono ?_;rintro e w' ⟨rfl,rfl⟩;exact⟨rfl,Now.same h⟩
 ·rw[if_neg hd]
  by_cases hn:uz s 3=false
  ·rw[if_pos hn];refine (qmv w bs B k T s hs' hKB hn h (by omega)).mono ?_;rintro e w' ⟨rfl,rfl⟩;exact⟨rfl,Now.same h⟩
  ·rw[if_neg hn];have hn':uz s 3=true:=by simpa using hn
   by_cases ho:(numOf T.syms s).isSome
   ·rw[if_pos ho];refine (qg7 w bs B k T s hs' hKB hn' h (by omega) ho).mono ?_;rintro e w' ⟨rfl,rfl⟩;exact⟨rfl,Now.same h⟩
   ·rw[if_neg ho];exact qiy w bs B k T s hT hk hs hKB hn' h (by omega) (by simpa using ho)
theorem qq1 (w:World)(bs:List Nat)(B k:Nat)(T:Tab)(s:ByteArray)(hT:T.Ok k)(hk:k < 17592186044414)(hs:s.size≤maxLen)(hKB:KB w)(hn:uz s 3=true)(h:TabAt w bs B k T)(hd:q07 T s=none)(ho:numOf T.syms s=none) :
  Calls Tryz.prog 110 #[.pointer (some ⟨B,0,none⟩),.string s] w fun e w'=>e=.returned (.tuple #[.int .i64 ((q1v T s true).1:Nat),.int .i64 ((q1v T s true).2.1:Nat)])∧Now bs w B k (q1v T s true).2.2 w':=by
 have A:=q1g s w hs hKB;rw[hn] at A;replace A:=show Hid _ from A;have h32:=made_size hn;have D:=q9v w bs B k T s true hT hk (by omega) ho h;generalize q1v T s true=r at *;replace D:=show Hid _ from D;obtain⟨vs,vc,vl,mk,ma,mt,vars,h,_⟩:=h;obtain⟨_,c1,c2,_⟩:=q15 h.block;obtain⟨n,_,hm⟩:=h.known;have hl:=hm.look s hs;rw[ho] at hl;replace hl:(Instr.lookup 118 (.map (some mk)) (.string s) true).run Tryz.prog w=.ok (.tuple #[.int .i64 0,.bool false]) w:=hl;obtain⟨n2,_,hm2⟩:=h.active;have hl2:=hm2.look s hs;rw[hd] at hl2;replace hl2:(Instr.lookup 118 (.map (some ma)) (.string s) true).run Tryz.prog w=.ok (.tuple #[.int .i64 0,.bool false]) w:=hl2;clear h hm hm2 ho hd hT;go_enter Tryz.func110,Tryz.ntmps110;go_wp2_with fail;refine cMo A.out ?_;rintro e w' ⟨rfl,rfl⟩;go_wp2_with fail;refine cMo D.out ?_;rintro e w1 ⟨rfl,hnow⟩;have Hnow:Hid _:=hnow;clear hnow D
 go_wp2
 exact bodyPost_ret (v:=.tuple #[.int .i64 (r.1:Nat),.int .i64 (r.2.1:Nat)]) (by simp[results,Tryz.results110,go_sem]) rfl ⟨rfl,Hnow.out⟩
theorem qq3 (w:World)(bs:List Nat)(B k:Nat)(T:Tab)(s:ByteArray)(hT:T.Ok k)(hk:k < 17592186044414)(hs:s.size≤maxLen)(hKB:KB w)(hn:uz s 3=true)(h:TabAt w bs B k T)(hd:q07 T s=none)(m:Nat)(ho:numOf T.syms s=some m) :
  Calls Tryz.prog 110 #[.pointer (some ⟨B,0,none⟩),.string s] w fun e w'=>e=.returned (.tuple #[.int .i64 m,.int .i64 0])∧Now bs w B k (q96 T m) w':=by
 have A:=q1g s w hs hKB;rw[hn] at A;replace A:=show Hid _ from A;obtain⟨b,hb⟩:=q5m ho;have D:Hid _:=q86 w bs B k T m (s,b) hT.nodup hb hs hT.syms (by omega) hT.scopes hT.lens h;obtain⟨vs,vc,vl,mk,ma,mt,vars,h,_⟩:=h;obtain⟨_,c1,c2,_⟩:=q15 h.block;obtain⟨n,_,hm⟩:=h.known;have hl:=hm.look s hs;rw[ho] at hl;replace hl:(Instr.lookup 118 (.map (some mk)) (.string s) true).run Tryz.prog w=.ok (.tuple #[.int .i64 m,.bool true]) w:=hl;obtain⟨n2,_,hm2⟩:=h.active;have hl2:=hm2.look s hs;rw[hd] at hl2;replace hl2:(Instr.lookup 118 (.map (some ma)) (.string s) true).run Tryz.prog w=.ok (.tuple #[.int .i64 0,.bool false]) w:=hl2;clear h hm hm2 ho hd hT hb;go_enter Tryz.func110,Tryz.ntmps110;go_wp2_with fail;refine cMo A.out ?_;rintro e w' ⟨rfl,rfl⟩;go_wp2_with fail;refine cMo D.out ?_;rintro e w1 ⟨rfl,hnow⟩;have Hnow:Hid _:=hnow;clear hnow D
 go_wp2
 exact bodyPost_ret (v:=.tuple #[.int .i64 m,.int .i64 0]) (by simp[results,Tryz.results110,go_sem]) rfl ⟨rfl,Now.one Hnow.out⟩
theorem var_any (w:World)(bs:List Nat)(B k:Nat)(T:Tab)(s:ByteArray)(hT:T.Ok k)(hk:k < 17592186044414)(hs:s.size≤maxLen)(hKB:KB w)(h:TabAt w bs B k T) :
  Calls Tryz.prog 110 #[.pointer (some ⟨B,0,none⟩),.string s] w fun e w'=>e=.returned (.tuple #[.int .i64 ((q3g T s).1:Nat),.int .i64 ((q3g T s).2.1:Nat)])∧Now bs w B k (q3g T s).2.2 w':=by
 have hs':=hs;unfold q3g
 by_cases hn:uz s 3=false
 ·rw[if_pos hn];refine (var_bad w B s hs' hKB hn).mono ?_;rintro e w' ⟨rfl,rfl⟩;exact⟨rfl,Now.same h⟩
 ·rw[if_neg hn];have hn':uz s 3=true:=by simpa using hn
  by_cases ho:(q07 T s).isSome
  ·rw[if_pos ho];refine (qmw w bs B k T s hs' hKB hn' h ho).mono ?_;rintro e w' ⟨rfl,rfl⟩;exact⟨rfl,Now.same h⟩
  ·rw[if_neg ho];have ho':q07 T s=none:=by simpa using ho
   cases hm:numOf T.syms s with
   | some m=>exact qq3 w bs B k T s hT hk hs hKB hn' h ho' m hm
   | none=>exact qq1 w bs B k T s hT hk hs hKB hn' h ho' hm
theorem qn1 (w:World)(bs:List Nat)(B k:Nat)(T:Tab)(s:ByteArray)(hk:k < 17592186044414)(hs:s.size≤maxLen)(hKB:KB w)(h:TabAt w bs B k T) :
  Calls Tryz.prog 103 #[.pointer (some ⟨B,0,none⟩),.string s] w fun e w'=>e=.returned (.int .i64 ((zh T s).1:Nat))∧Now bs w B k (zh T s).2 w':=by
 have hs':=hs;unfold zh
 by_cases hn:uz s 4=false
 ·rw[if_pos hn];refine (qmu w B s hs' hKB hn).mono ?_;rintro e w' ⟨rfl,rfl⟩;exact⟨rfl,Now.same h⟩
 ·rw[if_neg hn];have hn':uz s 4=true:=by simpa using hn
  by_cases ho:(q2e T.labels s).isSome
  ·rw[if_pos ho];refine (qg5 w bs B k T s hs' hKB hn' h ho).mono ?_;rintro e w' ⟨rfl,rfl⟩;exact⟨rfl,Now.same h⟩
  ·rw[if_neg ho]
   by_cases h4:1024≤T.labels.length
   ·rw[if_pos h4];refine (qiw w bs B k T s hs' hKB hn' h (by simpa using ho) h4).mono ?_;rintro e w' ⟨rfl,rfl⟩;exact⟨rfl,Now.same h⟩
   ·rw[if_neg h4];refine (qmy w bs B k T s (by have:=made_size hn';omega) hKB hn' (by simpa using ho) (by omega) hk h).mono ?_;rintro e w' ⟨rfl,hn⟩;exact⟨rfl,Now.one hn⟩
theorem Tab.Ok.up {T:Tab}{k k':Nat}(h:T.Ok k)(hk:k≤k'):T.Ok k':=⟨h.syms,h.labels,h.scopes,h.names,h.nodup,h.acts,fun l hl=>nLt (h.lens l hl) hk,h.inner⟩
theorem ok_open {T:Tab}{k:Nat}(h:T.Ok k):(jf T).2.Ok k:=by
 unfold jf
 split
 ·exact h
 ·refine⟨h.syms,h.labels,by simp;omega,h.names,h.nodup,h.acts,fun l hl=>?_,fun l hl=>?_⟩ <;>
  ·rcases mAp.1 hl with hl | hl
   ·first | exact h.lens l hl | exact h.inner l hl
   ·simp at hl;subst hl;simp
theorem qqb {T:Tab}{k:Nat}(h:T.Ok k):(xk T).2.Ok k:=by
 unfold xk
 split
 ·exact h
 ·exact⟨h.syms,h.labels,by simp[q98];have:=h.scopes;omega,h.names,h.nodup,fun n hn=>h.acts n (List.mem_filter.1 hn).1,fun l hl=>h.lens l (List.mem_of_mem_take hl),fun l hl=>h.inner l (List.mem_of_mem_take hl)⟩
theorem qqc {T:Tab}{k n:Nat}(h:T.Ok k)(hn:n < T.syms.length):(q96 T n).Ok (k + 1):=by
 have hd:∀x ∈ T.scopes.getD (T.scopes.length - 1) [],x < T.syms.length:=by
  intro x hx;rw[List.getD] at hx
  cases e:T.scopes[T.scopes.length - 1]? with
  | none=>rw[e] at hx;simp at hx
  | some l=>rw[e] at hx;exact h.inner l (mGe e) x (by simpa using hx)
 have hl:(T.scopes.getD (T.scopes.length - 1) []).length≤k:=by
  rw[List.getD]
  cases e:T.scopes[T.scopes.length - 1]? with
  | none=>simp
  | some l=>exact h.lens l (mGe e)
 refine⟨h.syms,h.labels,by simp[q96];exact h.scopes,h.names,h.nodup,fun m hm=>?_,fun l hl'=>?_,fun l hl' m hm=>?_⟩
 ·rcases List.mem_cons.1 hm with rfl | hm
  ·exact hn
  ·exact h.acts m hm
 ·rcases List.mem_or_eq_of_mem_set hl' with h1 | rfl
  ·exact Nat.le_succ_of_le (h.lens l h1)
  ·simp only[lAp,List.length_cons,List.length_nil];omega
 ·rcases List.mem_or_eq_of_mem_set hl' with h1 | rfl
  ·exact h.inner l h1 m hm
  ·rcases mAp.1 hm with h1 | h1
   ·exact hd m h1
   ·simp at h1;subst h1;exact hn
theorem qnc {l:List (ByteArray × Bool)}{s:ByteArray}{v:Bool}(hnd:(l.map (·.1)).Nodup)(hno:numOf l s=none):((l++[(s,v)]).map (·.1)).Nodup:=by
 rw[List.map_append];refine List.nodup_append.2 ⟨hnd,by simp,fun x hx y hy=>?_⟩;simp only[List.map_cons,List.map_nil,List.mem_cons,List.not_mem_nil,or_false] at hy;subst hy;rintro rfl;obtain⟨q,hq,e⟩:=List.mem_map.1 hx;unfold numOf at hno;rw[List.findIdx?_eq_none_iff] at hno;have:=hno q hq
 simp[e] at this
theorem ok_add {T:Tab}{k:Nat}{s:ByteArray}{v:Bool}(h:T.Ok k)(hno:numOf T.syms s=none)(hs:uz s 3=true)(hl:T.syms.length < 512):(qa5 T s v).Ok k:=by
 refine⟨by simp[qa5];omega,h.labels,h.scopes,fun p hp=>?_,qnc h.nodup hno,fun n hn=>?_,h.lens,fun l hl' n hn=>?_⟩
 ·rcases mAp.1 hp with hp | hp
  ·exact h.names p hp
  ·simp at hp;subst hp;exact hs
 ·have:=h.acts n hn
  simp[qa5];omega
 ·have:=h.inner l hl' n hn
  simp[qa5];omega
theorem ql2 {T:Tab}{k:Nat}{s:ByteArray}{v:Bool}(h:T.Ok k)(hno:numOf T.syms s=none)(hs:uz s 3=true):(q1v T s v).2.2.Ok (k + 2):=by
 unfold q1v
 split
 ·exact h.up (by omega)
 ·exact (qqc (ok_add (v:=v) h hno hs (by omega)) (by simp[qa5])).up (by omega)
theorem qgq {T:Tab}{k:Nat}(s:ByteArray)(h:T.Ok k):(q0b T s).2.2.Ok (k + 2):=by
 unfold q0b
 split
 ·exact h.up (by omega)
 ·split
  ·exact h.up (by omega)
  ·split
   ·exact h.up (by omega)
   ·exact ql2 h (by simpa using ‹¬(numOf T.syms s).isSome=true›) (by simpa using ‹¬uz s 3=false›)
theorem qqd {T:Tab}{k:Nat}(s:ByteArray)(h:T.Ok k):(q3g T s).2.2.Ok (k + 2):=by
 unfold q3g
 split
 ·exact h.up (by omega)
 ·split
  ·exact h.up (by omega)
  ·split
   ·rename_i m hm
    obtain⟨b,hb⟩:=q5m hm;exact (qqc h (List.getElem?_eq_some_iff.1 hb).1).up (by omega)
   ·exact ql2 h (by assumption) (by simpa using ‹¬uz s 3=false›)
theorem qqe {T:Tab}{k:Nat}(s:ByteArray)(h:T.Ok k):(zh T s).2.Ok k:=by
 unfold zh
 split
 ·exact h
 ·split
  ·exact h
  ·split
   ·exact h
   ·exact⟨h.syms,by simp[labT];omega,h.scopes,h.names,h.nodup,h.acts,h.lens,h.inner⟩
theorem KB.kept {w w':World}(h:KB w)(hb:w'.heap[1]?=w.heap[1]?):KB w':=fun i hi=>(World.cell?_of_block (a:=⟨1,i,none⟩) hb).trans (h i hi)
theorem KB.pos {w:World}(h:KB w):1 < w.heap.size:=bLt (h 0 (by omega))
theorem KB.below {N:Nat}{w w':World}(h:KB w)(hb:Below N w w')(hN:1 < N):KB w':=h.kept (hb.block 1 hN)
end Y
end Go.Proofs.YtbancemhfjjmlaaGreatDoor
