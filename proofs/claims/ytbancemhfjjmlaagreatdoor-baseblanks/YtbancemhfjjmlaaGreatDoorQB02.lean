/- Laid together. -/
import Derived.Test.YtbancemhfjjmlaaGreatDoorQB01
import Derived.RangeFuncNested
import Derived.RangeFuncBound
import Derived.RangeFuncCalls
import Derived.RangeFuncLeaves
import Derived.Shelf.Abstract
import Derived.Shelf.RegionOpen
import Derived.OwnWalkIn
import Derived.TacticsInMore
import Derived.LoopNIn
import Derived.LoopIn
set_option maxRecDepth 100000
set_option maxHeartbeats 32000000
namespace Go.Proofs.YtbancemhfjjmlaaGreatDoor
namespace S.K
open Go.RowKit Go.Shelf
attribute [local go_sem] Oper.semAt_some
structure Turn (B:Nat)(A A':World):Prop where
 os:A'.os=A.os
 tape:A'.tape=A.tape
 output:A'.output=A.output
 size:A.heap.size≤A'.heap.size
 block:∀k,k < A.heap.size→k≠B→k≠B + 1→A'.heap[k]?=A.heap[k]?
theorem Turn.refl (B:Nat)(A:World):Turn B A A:=⟨rfl,rfl,rfl,Nat.le_refl _,fun _ _ _ _=>rfl⟩
theorem Turn.trans {B:Nat}{A A' A'':World}(h:Turn B A A')(k:Turn B A' A''):Turn B A A'' :=
 ⟨k.os.trans h.os,k.tape.trans h.tape,k.output.trans h.output,nLt h.size k.size,fun i hi h1 h2=>(k.block i (Nat.lt_of_lt_of_le hi h.size) h1 h2).trans (h.block i hi h1 h2)⟩
theorem Turn.alloc (B:Nat)(A:World)(O:Obj):Turn B A (A.alloc O):=⟨rfl,rfl,rfl,by simp,fun k hk _ _=>Below.heap_alloc A O k hk⟩
theorem Turn.drew (B:Nat)(A:World):Turn B A A.drew:=⟨rfl,rfl,rfl,Nat.le_refl _,fun _ _ _ _=>rfl⟩
theorem Turn.set1 (B:Nat)(A:World)(v:Value):Turn B A (A.setCell ⟨B,0,none⟩ v):=⟨rfl,rfl,rfl,by simp[World.setCell],fun k _ h1 _=>Below.heap_setCell _ _ _ k h1⟩
theorem Turn.set2 (B:Nat)(A:World)(v:Value):Turn B A (A.setCell ⟨B + 1,0,none⟩ v):=⟨rfl,rfl,rfl,by simp[World.setCell],fun k _ _ h2=>Below.heap_setCell _ _ _ k h2⟩
theorem KB.keep {W W':World}(h:KB W)(hb:W'.heap[1]?=W.heap[1]?):KB W':=fun i hi=>(World.cell?_of_block (a:=⟨1,i,none⟩) hb).trans (h i hi)
theorem qly (s:ByteArray)(k:Nat)(h:k < s.size):q6e s k=q1x k s[k]:=by
 unfold q6e q1x;rw[getD_byte s k h]
theorem qkf {k:Nat}{c:UInt8}(h:q1x k c=0)(hk:k≤65536):k + 1≤65536:=by
 unfold q1x at h
 by_cases e:k=65536
 ·rw[if_pos e] at h;cases h
 ·omega
def q8r (B R:Nat)(J Jx:List (Tok × Int)→World→Prop)(pre:List (Tok × Int))(x:Tok × Int)(W:World):Ending→World→Prop:=fun e W' =>
 (e=.returned (.bool true)∧J (pre++[x]) W'∧Keeps (B + 2) R W W')∨(e=.returned (.bool false)∧Jx (pre++[x]) W')
theorem q8r.out {B R:Nat}{J Jx:List (Tok × Int)→World→Prop}{pre:List (Tok × Int)}{x:Tok × Int}{W:World}{e:Ending}{W':World}(h:q8r B R J Jx pre x W e W') :
  ∃b:Bool,e=.returned (.bool b)∧Hid ((b=true→J (pre++[x]) W'∧Keeps (B + 2) R W W')∧(b=false→Jx (pre++[x]) W')):=by
 rcases h with ⟨rfl,h1,h2⟩ | ⟨rfl,h1⟩
 ·exact⟨true,rfl,⟨fun _=>⟨h1,h2⟩,fun h=>by cases h⟩⟩
 ·exact⟨false,rfl,⟨fun h=>(by cases h),fun _=>h1⟩⟩
theorem iter_in (F:Fence) (hFw:Hid (F=Fence.wide)) (hro:F.round=none) (h34:F.fn 117) (h35:F.fn 118) (h36:F.fn 119) (h37:F.fn 120) (n l T B R:Nat) (hn:1≤n) (s:ByteArray) (J Jx:List (Tok × Int)→World→Prop)
  (hJ:∀pre A A',J pre A→Turn B A A'→J pre A')
  (hY:∀pre x W,J pre W→x.1.text.size≤65536→B + 2≤W.heap.size→YieldAt F (n - 1) Tryz.prog l #[zo x.1,.int .i64 x.2] W (q8r B R J Jx pre x W))
  (W:World) (hB:W.heap.size=B) (hTB:T < B) (_hT0:T≠1) (hTR:T≠R) (hR0:R≠1) (hRB:R < B) (hs:s.size≤281474976710656)
  (hT:Boxed W T 9 (.string s)) (hKB:KB W) (h0:J [] W) :
  CallsIn F n Tryz.prog  117 #[.func (.yield l) #[] #[],.pointer (some ⟨T,0,none⟩)] W fun e W'=>(∃v,e=.returned v)∧(J (events s) W'∨∃pre,pre <+: events s∧Jx pre W'):=by
 have hFe:=hFw.out;subst hFe;have hK1:1 < B:=by
  have h:=bLt (hKB 0 (by omega));rw[hB] at h;exact h
 have lift:∀{m f:Nat} {args:Array Value} {w:World} {Q:Ending→World→Prop},Calls Tryz.prog f args w Q→CallsIn Fence.wide m Tryz.prog f args w Q:=fun h=>callsIn_wide.2 h
 replace lift:=show Hid _ from @lift;refine callsIn_of_wp Tryz.func117 rfl h34 ?_ hro;simp only[Tryz.ntmps117,List.size_toArray,List.length_cons,List.length_nil,Nat.reduceAdd,Nat.reduceSub,Array.replicate_succ,Array.replicate_zero,List.push_toArray,List.append_toArray,List.nil_append,List.cons_append];have hTc:=hT.cell
 gi_wp2
 gi_loopw [5,12] (fun st kk wr=>∃(k start line ls:Nat) (pre:List (Tok × Int)),kk=.int .i64 k∧st=.int .i64 start∧start≤k∧k≤s.size∧k≤65536∧ls≤start∧line≤k + 1∧Hid (events s=pre++evs s (s.data.toList.drop k) k start line ls)∧Hid (J pre wr)∧Boxed wr B 3 (.int .i64 line)∧Boxed wr (B + 1) 3 (.int .i64 ls)∧Boxed wr T 9 (.string s)∧KB wr∧B + 2≤wr.heap.size) (fun _ kk _=>s.size - (intOf kk).toNat)
 case atStart =>
  have b0:=Boxed.new W 3 (.int .i64 1);rw[hB] at b0;have b1:=Boxed.new (W.alloc (.cells #[.int .i64 1] 3)) 3 (.int .i64 0);rw[World.size_alloc,hB] at b1;exact⟨0,0,1,0,[],rfl,rfl,by omega,by omega,by omega,by omega,by omega,rfl,hJ [] _ _ h0 ((Turn.alloc B W _).trans (Turn.alloc B _ _)),b0.alloc _,b1,(hT.alloc _).alloc _,hKB.keep ((Below.heap_alloc _ _ 1 (by simp;omega)).trans (Below.heap_alloc W _ 1 (by omega))),by simp;omega⟩
 case round =>
  obtain⟨k,start,line,ls,pre,rfl,rfl,hsk,hks,hk6,hls,hln,hev,hJp,bB,bB1,bT,hKBr,hsz⟩:=hrel;have cT:=bT.cell;have cTa:=q6c cT;have cB:=bB.cell;have cB1:=bB1.cell
  by_cases hlt:k < s.size
  ·obtain⟨C,hC⟩:=eXa (q1x k s[k]);have HC:Hid (q6e s k=C):=by show _=_;rw[hC];exact qly s k hlt
   by_cases hC0:C=0
   ·subst hC0;have hC':=hid hC.symm;clear hC;obtain⟨q,hq⟩:=eXa (zy s[k].toNat);have Hq:=hid hq.symm;clear hq
    by_cases hq1:q=1
    ·subst hq1;have hk7:k + 1≤65536:=qkf hC'.out hk6;have hEb:=qap s k start line ls hlt hC'.out Hq.out;have hmx:Tryz.prog.follows .mixedOrders=true:=by kernel_rfl
     by_cases hst:start < k
     ·rw[if_pos hst] at hEb;have hEv:Hid (events s=pre++([(wordAt s start k line ls,0)]++evs s (s.data.toList.drop (k + 1)) (k + 1) (k + 1) (if s[k]=10 then line + 1 else line) (if s[k]=10 then k + 1 else ls))):=by show _=_;rw[hev.out,hEb]
      clear hEb;have hst1:(start:Int) < (k:Int):=by omega
      have hst0:(0:Int)≤(start:Int):=by omega
      have hk0:(k:Int)≤(s.size:Int):=by omega
      obtain⟨fn,tmps,assign,body,hy,hR⟩:=hY pre (wordAt s start k line ls,0) ((wr.alloc (.cells #[.int .i64 start,.int .i64 line,.int .i64 (start - ls + 1)] 28)).drew) (hJ _ _ _ hJp.out ((Turn.alloc B wr _).trans (Turn.drew B _))) (by show (s.extract start k).size≤65536;rw[ByteArray.size_extract];omega) (by show B + 2≤(wr.alloc _).heap.size;simp;omega);unfold zo wordAt at hy;dsimp only at hy
      gi_wp2_with fail
      refine (lift.out (q41 s k _ hlt hs hKBr)).mono ?_;rintro e w' ⟨rfl,hw⟩;have hw':=hw.symm;subst hw';rw[HC.out]
      gi_wp2_with fail
      refine (lift.out (q2j _ _ (Int.natCast_nonneg _) (q72 _) hKBr)).mono ?_;rintro e w' ⟨rfl,hw⟩;have hw':=hw.symm;subst hw';rw[Hq.out]
      gi_wp2_with fail
      refine wpIn_region_any (by assumption) ?_
      change wpAnyIn _ _ _ _ _ _ _ _ _ (World.drew _)
      refine wpAnyIn_take (i:=0) (v:=.int .i64 start) rfl rfl (by kernel_rfl) (by kernel_rfl) (by kernel_rfl) (fun _ _ _ h=>h) ⟨Or.inl ⟨by kernel_rfl,fun w=>by kernel_rfl⟩,fun _=>by kernel_rfl⟩ ?_;refine wpAnyIn_take (i:=1) (v:=.int .i64 k) rfl rfl (by kernel_rfl) (by kernel_rfl) (by kernel_rfl) (fun _ _ _ h=>h) ⟨Or.inl ⟨by kernel_rfl,fun w=>by kernel_rfl⟩,fun _=>by kernel_rfl⟩ ?_;refine wpAnyIn_take (i:=2) (v:=.bool true) rfl rfl (by kernel_rfl) (by kernel_rfl) (by kernel_rfl) (fun _ _ _ h=>h) ⟨Or.inl ⟨by kernel_rfl,fun w=>by go_simp⟩,fun _=>by kernel_rfl⟩ ?_;refine wpAnyIn_take (i:=3) (v:=.bool true) rfl rfl (by kernel_rfl) (by kernel_rfl) (by kernel_rfl) (fun _ _ _ h=>h) ⟨Or.inl ⟨by kernel_rfl,fun w=>by kernel_rfl⟩,fun _=>by kernel_rfl⟩ ?_;refine wpAnyIn_take (i:=4) (v:=.func (.yield l) #[] #[]) rfl rfl (by kernel_rfl) (by kernel_rfl) (by kernel_rfl) (fun _ _ _ h=>h) ⟨Or.inl ⟨by kernel_rfl,fun w=>by kernel_rfl⟩,fun _=>by kernel_rfl⟩ ?_;refine wpAnyIn_take (i:=6) (v:=.int .i64 start) rfl rfl (by kernel_rfl) (by kernel_rfl) (by kernel_rfl) (fun _ _ _ h=>h) ⟨Or.inl ⟨by kernel_rfl,fun w=>by kernel_rfl⟩,fun _=>by kernel_rfl⟩ ?_;refine wpAnyIn_take (i:=7) (v:=.int .i64 k) rfl rfl (by kernel_rfl) (by kernel_rfl) (by kernel_rfl) (fun _ _ _ h=>h) ⟨Or.inl ⟨by kernel_rfl,fun w=>by kernel_rfl⟩,fun _=>by kernel_rfl⟩ ?_;refine wpAnyIn_take (i:=9) (v:=.func (.func 118) #[] #[.pointer (some ⟨B,0,none⟩),.pointer (some ⟨B + 1,0,none⟩)]) rfl rfl (by kernel_rfl) (by kernel_rfl) (by kernel_rfl) (fun _ _ _ h=>h) ⟨Or.inl ⟨by kernel_rfl,fun w=>by kernel_rfl⟩,fun _=>by kernel_rfl⟩ ?_;refine wpAnyIn_take (i:=10) (v:=.int .i64 start) rfl rfl (by kernel_rfl) (by kernel_rfl) (by kernel_rfl) (fun _ _ _ h=>h) ⟨Or.inl ⟨by kernel_rfl,fun w=>by kernel_rfl⟩,fun _=>by kernel_rfl⟩ ?_;refine wpAnyIn_ready (rs:=[5,11]) (by kernel_rfl) (by simp) ?_;refine AllReadyIn.cons rfl (fun K hK=>?_) (AllReadyIn.cons rfl (fun K hK=>?_) AllReadyIn.nil)
      case' refine_1 =>
       go_simp;refine hK _ _ ?_;clear hK K;refine wpAnyIn_take (i:=8) (v:=.string (s.extract start k)) rfl rfl (by kernel_rfl) (by kernel_rfl) (by kernel_rfl) (fun _ _ _ h=>h) ⟨Or.inl ⟨by kernel_rfl,fun w=>by go_simp⟩,fun _=>by kernel_rfl⟩ ?_;refine wpAnyIn_ready (rs:=[11]) (by kernel_rfl) (by simp) ?_;refine AllReadyIn.cons rfl (fun K hK=>?_) AllReadyIn.nil;go_simp;refine (lift.out (q44 start line ls B (B + 1) _ (by omega) (by omega) (by omega) (by omega) (by exact cB) (by exact cB1))).mono ?_;rintro e w' ⟨rfl,hw⟩;subst hw;go_simp;refine hK _ _ ?_;clear hK K
      case' refine_2 =>
       go_simp;refine (lift.out (q44 start line ls B (B + 1) _ (by omega) (by omega) (by omega) (by omega) (by exact cB) (by exact cB1))).mono ?_;rintro e w' ⟨rfl,hw⟩;subst hw;go_simp;refine hK _ _ ?_;clear hK K;refine wpAnyIn_ready (rs:=[5]) (by kernel_rfl) (by simp) ?_;refine AllReadyIn.cons rfl (fun K hK=>?_) AllReadyIn.nil;go_simp;refine hK _ _ ?_;clear hK K;refine wpAnyIn_take (i:=8) (v:=.string (s.extract start k)) rfl rfl (by kernel_rfl) (by kernel_rfl) (by kernel_rfl) (fun _ _ _ h=>h) ⟨Or.inl ⟨by kernel_rfl,fun w=>by go_simp⟩,fun _=>by kernel_rfl⟩ ?_
      all_goals
       refine wpAnyIn_take (i:=12) (v:=.agg #[.string (s.extract start k),.int .i64 start,.int .i64 line,.int .i64 (start - ls + 1)]) rfl rfl (by kernel_rfl) (by kernel_rfl) (by kernel_rfl) (fun _ _ _ h=>h) ⟨Or.inl ⟨by kernel_rfl,fun w=>by go_simp⟩,fun _=>by kernel_rfl⟩ ?_;refine wpAnyIn_ready (rs:=[13]) (by kernel_rfl) (by simp) ?_;refine AllReadyIn.cons rfl (fun K hK=>?_) AllReadyIn.nil;go_simp;refine RoundIn.mono hR ?_;rintro e W3 hp;obtain⟨b,rfl,hb⟩:=hp.out;go_simp;refine hK _ _ ?_;clear hK K;refine wpAnyIn_take (i:=14) (v:=.bool (!b)) rfl rfl (by kernel_rfl) (by kernel_rfl) (by kernel_rfl) (fun _ _ _ h=>h) ⟨Or.inl ⟨by kernel_rfl,fun w=>by go_simp⟩,fun _=>by kernel_rfl⟩ ?_;refine wpAnyIn_take (i:=15) (v:=.bool (!b)) rfl rfl (by kernel_rfl) (by kernel_rfl) (by kernel_rfl) (fun _ _ _ h=>h) ⟨Or.inl ⟨by kernel_rfl,fun w=>by go_simp⟩,fun _=>by kernel_rfl⟩ ?_;refine wpAnyIn_done (by kernel_rfl) ?_ _
       cases b with
       | false =>
        have hJx3:=hb.out.2 rfl;clear hb
        gi_wp2
        refine bodyPost_ret (results_none rfl _ _ _) rfl ?_;exact⟨⟨_,rfl⟩,.inr ⟨_,by rw[hEv.out,←List.append_assoc];exact List.prefix_append _ _,hJx3⟩⟩
       | true =>
        obtain⟨hJ3,hk3⟩:=hb.out.1 rfl;clear hb;have bB3:Boxed W3 B 3 (.int .i64 line):=(hk3.block B (by omega) (by omega)).trans (bB.alloc _);have bB13:Boxed W3 (B + 1) 3 (.int .i64 ls):=(hk3.block (B + 1) (by omega) (by omega)).trans (bB1.alloc _);have bT3:Boxed W3 T 9 (.string s):=(hk3.block T (by omega) hTR).trans (bT.alloc _);have hKB3:KB W3:=hKBr.keep ((hk3.block 1 (by omega) (by omega)).trans (Below.heap_alloc wr _ 1 (by omega)));have hsz3:B + 2≤W3.heap.size:=by have:=hk3.size;simp at this;omega
        have cT3:=bT3.cell;have cB3:=bB3.cell;have fB3:=bB3.frozen;have cB13:=bB13.cell;have fB13:=bB13.frozen;have HJ3:=hid hJ3;clear hJ3
        gi_wp2
        ·have hb10:(((s[k].toNat:Nat):Int) == 10)=true:=by assumption
         have hb':s[k]=10:=(q5c _).1 (by simpa using hb10)
         go_roundw
         case rel=>exact⟨k + 1,k + 1,line + 1,k + 1,pre++[(wordAt s start k line ls,0)],by go_num,by go_num,by omega,by omega,hk7,by omega,by omega,(by show _=_;rw[hEv.out,if_pos hb',if_pos hb',List.append_assoc]),hJ _ _ _ HJ3.out ((Turn.set1 B W3 _).trans (Turn.set2 B _ _)),(by push_cast;exact (bB3.set _).other (by omega) _),(by push_cast;exact (bB13.other (by omega) _).set _),(bT3.other (by omega) _).other (by omega) _,hKB3.keep ((Below.heap_setCell _ _ _ 1 (by simp;omega)).trans (Below.heap_setCell _ _ _ 1 (by simp;omega))),by simp[World.setCell];omega⟩
         case measure=>simp[intOf];omega
        ·have hb10:(((s[k].toNat:Nat):Int) == 10)=false:=by assumption
         have hb':¬s[k]=10:=fun e=>by rw[(q5c _).2 e] at hb10;simp at hb10
         go_roundw
         case rel=>exact⟨k + 1,k + 1,line,ls,pre++[(wordAt s start k line ls,0)],by go_num,by go_num,by omega,by omega,hk7,by omega,by omega,(by show _=_;rw[hEv.out,if_neg hb',if_neg hb',List.append_assoc]),HJ3,bB3,bB13,bT3,hKB3,hsz3⟩
         case measure=>simp[intOf];omega
     ·rw[if_neg hst] at hEb;have hEv:Hid (events s=pre++([]++evs s (s.data.toList.drop (k + 1)) (k + 1) (k + 1) (if s[k]=10 then line + 1 else line) (if s[k]=10 then k + 1 else ls))):=by show _=_;rw[hev.out,hEb]
      clear hEb;have hst1:decide ((start:Int) < (k:Int))=false:=by simp;omega
      have HJ3:Hid (J pre wr.drew):=hJ _ _ _ hJp.out (Turn.drew B wr);have fB:=bB.frozen;have fB1:=bB1.frozen;have bBd:Boxed wr.drew B 3 (.int .i64 line):=bB;have bB1d:Boxed wr.drew (B + 1) 3 (.int .i64 ls):=bB1;have bTd:Boxed wr.drew T 9 (.string s):=bT;have hKBd:KB wr.drew:=hKBr;have hszd:B + 2≤wr.drew.heap.size:=hsz
      gi_wp2_with fail
      refine (lift.out (q41 s k _ hlt hs hKBr)).mono ?_;rintro e w' ⟨rfl,hw⟩;have hw':=hw.symm;subst hw';rw[HC.out]
      gi_wp2_with fail
      refine (lift.out (q2j _ _ (Int.natCast_nonneg _) (q72 _) hKBr)).mono ?_;rintro e w' ⟨rfl,hw⟩;have hw':=hw.symm;subst hw';rw[Hq.out]
      gi_wp2_with fail
      refine wpIn_region_any (by assumption) ?_
      change wpAnyIn _ _ _ _ _ _ _ _ _ (World.drew _)
      refine wpAnyIn_take (i:=0) (v:=.int .i64 start) rfl rfl (by kernel_rfl) (by kernel_rfl) (by kernel_rfl) (fun _ _ _ h=>h) ⟨Or.inl ⟨by kernel_rfl,fun w=>by kernel_rfl⟩,fun _=>by kernel_rfl⟩ ?_;refine wpAnyIn_take (i:=1) (v:=.int .i64 k) rfl rfl (by kernel_rfl) (by kernel_rfl) (by kernel_rfl) (fun _ _ _ h=>h) ⟨Or.inl ⟨by kernel_rfl,fun w=>by kernel_rfl⟩,fun _=>by kernel_rfl⟩ ?_;refine wpAnyIn_take (i:=2) (v:=.bool false) rfl rfl (by kernel_rfl) (by kernel_rfl) (by kernel_rfl) (fun _ _ _ h=>h) ⟨Or.inl ⟨by kernel_rfl,fun w=>by go_simp⟩,fun _=>by kernel_rfl⟩ ?_;refine wpAnyIn_take (i:=3) (v:=.bool false) rfl rfl (by kernel_rfl) (by kernel_rfl) (by kernel_rfl) (fun _ _ _ h=>h) ⟨Or.inl ⟨by kernel_rfl,fun w=>by kernel_rfl⟩,fun _=>by kernel_rfl⟩ ?_;refine wpAnyIn_take (i:=4) (v:=undef) rfl rfl (by kernel_rfl) (by kernel_rfl) (by kernel_rfl) (fun _ _ _ h=>h) ⟨Or.inr ⟨by kernel_rfl,rfl⟩,fun _=>by kernel_rfl⟩ ?_;refine wpAnyIn_take (i:=5) (v:=undef) rfl rfl (by kernel_rfl) (by kernel_rfl) (by kernel_rfl) (fun _ _ _ h=>h) ⟨Or.inr ⟨by kernel_rfl,rfl⟩,fun _=>by kernel_rfl⟩ ?_;refine wpAnyIn_take (i:=6) (v:=undef) rfl rfl (by kernel_rfl) (by kernel_rfl) (by kernel_rfl) (fun _ _ _ h=>h) ⟨Or.inr ⟨by kernel_rfl,rfl⟩,fun _=>by kernel_rfl⟩ ?_;refine wpAnyIn_take (i:=7) (v:=undef) rfl rfl (by kernel_rfl) (by kernel_rfl) (by kernel_rfl) (fun _ _ _ h=>h) ⟨Or.inr ⟨by kernel_rfl,rfl⟩,fun _=>by kernel_rfl⟩ ?_;refine wpAnyIn_take (i:=8) (v:=undef) rfl rfl (by kernel_rfl) (by kernel_rfl) (by kernel_rfl) (fun _ _ _ h=>h) ⟨Or.inr ⟨by kernel_rfl,rfl⟩,fun _=>by kernel_rfl⟩ ?_;refine wpAnyIn_take (i:=9) (v:=undef) rfl rfl (by kernel_rfl) (by kernel_rfl) (by kernel_rfl) (fun _ _ _ h=>h) ⟨Or.inr ⟨by kernel_rfl,rfl⟩,fun _=>by kernel_rfl⟩ ?_;refine wpAnyIn_take (i:=10) (v:=undef) rfl rfl (by kernel_rfl) (by kernel_rfl) (by kernel_rfl) (fun _ _ _ h=>h) ⟨Or.inr ⟨by kernel_rfl,rfl⟩,fun _=>by kernel_rfl⟩ ?_;refine wpAnyIn_take (i:=11) (v:=undef) rfl rfl (by kernel_rfl) (by kernel_rfl) (by kernel_rfl) (fun _ _ _ h=>h) ⟨Or.inr ⟨by kernel_rfl,rfl⟩,fun _=>by kernel_rfl⟩ ?_
      refine wpAnyIn_take (i:=12) (v:=undef) rfl rfl (by kernel_rfl) (by kernel_rfl) (by kernel_rfl) (fun _ _ _ h=>h) ⟨Or.inr ⟨by kernel_rfl,rfl⟩,fun _=>by kernel_rfl⟩ ?_;refine wpAnyIn_take (i:=13) (v:=undef) rfl rfl (by kernel_rfl) (by kernel_rfl) (by kernel_rfl) (fun _ _ _ h=>h) ⟨Or.inr ⟨by kernel_rfl,rfl⟩,fun _=>by kernel_rfl⟩ ?_;refine wpAnyIn_take (i:=14) (v:=undef) rfl rfl (by kernel_rfl) (by kernel_rfl) (by kernel_rfl) (fun _ _ _ h=>h) ⟨Or.inr ⟨by kernel_rfl,rfl⟩,fun _=>by kernel_rfl⟩ ?_;refine wpAnyIn_ready (rs:=[15]) (by kernel_rfl) (by simp) ?_;refine AllReadyIn.cons rfl (fun K hK=>?_) AllReadyIn.nil;go_simp;refine hK _ _ ?_;clear hK K;refine wpAnyIn_done (by kernel_rfl) ?_ _
      gi_wp2
      ·have hb10:(((s[k].toNat:Nat):Int) == 10)=true:=by assumption
       have hb':s[k]=10:=(q5c _).1 (by simpa using hb10)
       go_roundw
       case rel=>exact⟨k + 1,k + 1,line + 1,k + 1,pre,by go_num,by go_num,by omega,by omega,hk7,by omega,by omega,(by show _=_;rw[hEv.out,if_pos hb',if_pos hb',List.nil_append]),hJ _ _ _ HJ3.out ((Turn.set1 B wr.drew _).trans (Turn.set2 B _ _)),(by push_cast;exact (bBd.set _).other (by omega) _),(by push_cast;exact (bB1d.other (by omega) _).set _),(bTd.other (by omega) _).other (by omega) _,hKBd.keep ((Below.heap_setCell _ _ _ 1 (by simp;omega)).trans (Below.heap_setCell _ _ _ 1 (by simp;omega))),by simp[World.setCell];omega⟩
       case measure=>simp[intOf];omega
      ·have hb10:(((s[k].toNat:Nat):Int) == 10)=false:=by assumption
       have hb':¬s[k]=10:=fun e=>by rw[(q5c _).2 e] at hb10;simp at hb10
       go_roundw
       case rel=>exact⟨k + 1,k + 1,line,ls,pre,by go_num,by go_num,by omega,by omega,hk7,by omega,by omega,(by show _=_;rw[hEv.out,if_neg hb',if_neg hb',List.nil_append]),HJ3,bBd,bB1d,bTd,hKBd,hszd⟩
       case measure=>simp[intOf];omega
    ·have hq2:(q != 1)=true:=by simpa using hq1
     have hE:Hid (events s=pre++evs s (s.data.toList.drop (k + 1)) (k + 1) start line ls):=by show _=_;rw[hev.out,qe3 s k start line ls hlt hC'.out (by rw[Hq.out];exact hq1)]
     have hk7:k + 1≤65536:=qkf hC'.out hk6;clear hq1
     gi_wp2_with fail
     refine (lift.out (q41 s k _ hlt hs hKBr)).mono ?_;rintro e w' ⟨rfl,hw⟩;have hw':=hw.symm;subst hw';rw[HC.out]
     gi_wp2_with fail
     refine (lift.out (q2j _ _ (Int.natCast_nonneg _) (q72 _) hKBr)).mono ?_;rintro e w' ⟨rfl,hw⟩;have hw':=hw.symm;subst hw';rw[Hq.out]
     gi_wp2
     go_roundw
     case rel=>exact⟨k + 1,start,line,ls,pre,by go_num,rfl,by omega,by omega,hk7,by omega,by omega,hE,hJp,bB,bB1,bT,hKBr,hsz⟩
     case measure=>simp[intOf];omega
   ·have hne:(C != 0)=true:=by simpa using hC0
    have hE:Hid (events s=pre++[(⟨⟨#[]⟩,k,line,k - ls + 1⟩,C)]):=by show _=_;rw[hev.out,qfc s k start line ls hlt (by rw[←hC];exact hC0),hC]
    clear hC;obtain⟨fn,tmps,assign,body,hy,hR⟩:=hY pre (⟨⟨#[]⟩,k,line,k - ls + 1⟩,C) (wr.alloc (.cells #[.int .i64 k,.int .i64 line,.int .i64 (k - ls + 1)] 28)) (hJ _ _ _ hJp.out (Turn.alloc B wr _)) (by show (0:Nat)≤65536;omega) (by simp;omega);unfold zo at hy;dsimp only at hy
    gi_wp2_with fail
    refine (lift.out (q41 s k _ hlt hs hKBr)).mono ?_;rintro e w' ⟨rfl,hw⟩;have hw':=hw.symm;subst hw';rw[HC.out]
    gi_wp2_with fail
    refine (lift.out (q44 k line ls B (B + 1) _ (by omega) (by omega) (by omega) (by omega) cB cB1)).mono ?_;rintro e w' ⟨rfl,hw⟩;subst hw
    gi_wp2
    refine hR.mono ?_;rintro e W3 (⟨rfl,hJ3,hk3⟩ | ⟨rfl,hJx3⟩)
    ·gi_wp2
     refine bodyPost_ret (results_none rfl _ _ _) rfl ?_;exact⟨⟨_,rfl⟩,.inl (by rw[hE.out];exact hJ3)⟩
    ·gi_wp2
     refine bodyPost_ret (results_none rfl _ _ _) rfl ?_;exact⟨⟨_,rfl⟩,.inr ⟨_,by rw[hE.out];exact List.prefix_rfl,hJx3⟩⟩
  ·have hkk:k=s.size:=by omega
   have hEe:=qoz s k start line ls (by omega)
   by_cases hst:start < k
   ·rw[if_pos hst] at hEe;have hEv:Hid (events s=pre++[(wordAt s start s.size line ls,0)]):=by show _=_;rw[hev.out,hEe,hkk]
    have hst1:(start:Int) < (s.size:Int):=by omega
    have hst0:(0:Int)≤(start:Int):=by omega
    have hst2:start≤65536:=by omega
    have hst4:¬s.size < start:=by omega
    have hst3:s.size≤65536:=by omega
    have hmx:Tryz.prog.follows .mixedOrders=true:=by kernel_rfl
    have hnk:¬k < s.size:=by omega
    clear hEe hst hkk hev;obtain⟨fn,tmps,assign,body,hy,hR⟩:=hY pre (wordAt s start s.size line ls,0) ((wr.alloc (.cells #[.int .i64 start,.int .i64 line,.int .i64 (start - ls + 1)] 28)).drew) (hJ _ _ _ hJp.out ((Turn.alloc B wr _).trans (Turn.drew B _))) (by show (s.extract start s.size).size≤65536;rw[ByteArray.size_extract];omega) (by show B + 2≤(wr.alloc _).heap.size;simp;omega);unfold zo wordAt at hy;dsimp only at hy
    gi_wp2_with fail
    refine wpIn_region_any (by assumption) ?_
    change wpAnyIn _ _ _ _ _ _ _ _ _ (World.drew _)
    refine wpAnyIn_take (i:=0) (v:=.func (.yield l) #[] #[]) rfl rfl (by kernel_rfl) (by kernel_rfl) (by kernel_rfl) (fun _ _ _ h=>h) ⟨Or.inl ⟨by kernel_rfl,fun w=>by kernel_rfl⟩,fun _=>by kernel_rfl⟩ ?_;refine wpAnyIn_take (i:=2) (v:=.int .i64 start) rfl rfl (by kernel_rfl) (by kernel_rfl) (by kernel_rfl) (fun _ _ _ h=>h) ⟨Or.inl ⟨by kernel_rfl,fun w=>by kernel_rfl⟩,fun _=>by kernel_rfl⟩ ?_;refine wpAnyIn_take (i:=4) (v:=.func (.func 118) #[] #[.pointer (some ⟨B,0,none⟩),.pointer (some ⟨B + 1,0,none⟩)]) rfl rfl (by kernel_rfl) (by kernel_rfl) (by kernel_rfl) (fun _ _ _ h=>h) ⟨Or.inl ⟨by kernel_rfl,fun w=>by kernel_rfl⟩,fun _=>by kernel_rfl⟩ ?_;refine wpAnyIn_take (i:=5) (v:=.int .i64 start) rfl rfl (by kernel_rfl) (by kernel_rfl) (by kernel_rfl) (fun _ _ _ h=>h) ⟨Or.inl ⟨by kernel_rfl,fun w=>by kernel_rfl⟩,fun _=>by kernel_rfl⟩ ?_;refine wpAnyIn_ready (rs:=[1,6]) (by kernel_rfl) (by simp) ?_;refine AllReadyIn.cons rfl (fun K hK=>?_) (AllReadyIn.cons rfl (fun K hK=>?_) AllReadyIn.nil)
    case' refine_1 =>
     go_simp;refine hK _ _ ?_;clear hK K;refine wpAnyIn_take (i:=3) (v:=.string (s.extract start s.size)) rfl rfl (by kernel_rfl) (by kernel_rfl) (by kernel_rfl) (fun _ _ _ h=>h) ⟨Or.inl ⟨by kernel_rfl,fun w=>by go_simp⟩,fun _=>by kernel_rfl⟩ ?_;refine wpAnyIn_ready (rs:=[6]) (by kernel_rfl) (by simp) ?_;refine AllReadyIn.cons rfl (fun K hK=>?_) AllReadyIn.nil;go_simp;refine (lift.out (q44 start line ls B (B + 1) _ (by omega) (by omega) (by omega) (by omega) (by exact cB) (by exact cB1))).mono ?_;rintro e w' ⟨rfl,hw⟩;subst hw;go_simp;refine hK _ _ ?_;clear hK K
    case' refine_2 =>
     go_simp;refine (lift.out (q44 start line ls B (B + 1) _ (by omega) (by omega) (by omega) (by omega) (by exact cB) (by exact cB1))).mono ?_;rintro e w' ⟨rfl,hw⟩;subst hw;go_simp;refine hK _ _ ?_;clear hK K;refine wpAnyIn_ready (rs:=[1]) (by kernel_rfl) (by simp) ?_;refine AllReadyIn.cons rfl (fun K hK=>?_) AllReadyIn.nil;go_simp;refine hK _ _ ?_;clear hK K;refine wpAnyIn_take (i:=3) (v:=.string (s.extract start s.size)) rfl rfl (by kernel_rfl) (by kernel_rfl) (by kernel_rfl) (fun _ _ _ h=>h) ⟨Or.inl ⟨by kernel_rfl,fun w=>by go_simp⟩,fun _=>by kernel_rfl⟩ ?_
    all_goals
     refine wpAnyIn_take (i:=7) (v:=.agg #[.string (s.extract start s.size),.int .i64 start,.int .i64 line,.int .i64 (start - ls + 1)]) rfl rfl (by kernel_rfl) (by kernel_rfl) (by kernel_rfl) (fun _ _ _ h=>h) ⟨Or.inl ⟨by kernel_rfl,fun w=>by go_simp⟩,fun _=>by kernel_rfl⟩ ?_;refine wpAnyIn_ready (rs:=[8]) (by kernel_rfl) (by simp) ?_;refine AllReadyIn.cons rfl (fun K hK=>?_) AllReadyIn.nil;go_simp;refine RoundIn.mono hR ?_;rintro e W3 hp;obtain⟨b,rfl,hb⟩:=hp.out;go_simp;refine hK _ _ ?_;clear hK K;refine wpAnyIn_done (by kernel_rfl) ?_ _
     gi_wp2
     go_end0
     refine⟨⟨_,rfl⟩,?_⟩
     cases b with
     | true=>exact .inl (by rw[hEv.out];exact (hb.out.1 rfl).1)
     | false=>exact .inr ⟨_,by rw[hEv.out];exact List.prefix_rfl,hb.out.2 rfl⟩
   ·rw[if_neg hst] at hEe;have hEv:Hid (events s=pre):=by show _=_;rw[hev.out,hEe,List.append_nil]
    have hst1:¬(start:Int) < (s.size:Int):=by omega
    have hnk:¬k < s.size:=by omega
    clear hEe hst hkk hev
    gi_wp2
    go_end0
    exact⟨⟨_,rfl⟩,.inl (by rw[hEv.out];exact hJp.out)⟩
end S.K
namespace S.K
open Go.RowKit Go.Shelf
structure Aside (D:Nat)(A A':World):Prop where
 os:A'.os=A.os
 tape:A'.tape=A.tape
 output:A'.output=A.output
 size:A.heap.size≤A'.heap.size
 block:∀k,k < A.heap.size→(k < D∨D + 4≤k)→A'.heap[k]?=A.heap[k]?
theorem Aside.put (D:Nat)(A:World)(j:Nat)(O:Obj)(h1:D≤j)(h2:j < D + 4):Aside D A (A.putObj j O) :=
 ⟨rfl,rfl,rfl,by simp,fun k _ hk=>World.putObj_heap_other (by omega)⟩
theorem Aside.of_turn {D:Nat}{A A':World}(h:Turn (D + 2) A A'):Aside D A A':=⟨h.os,h.tape,h.output,h.size,fun k hk hd=>h.block k hk (by omega) (by omega)⟩
theorem Aside.alloc (D:Nat)(A:World)(O:Obj):Aside D A (A.alloc O):=⟨rfl,rfl,rfl,by simp,fun k hk _=>Below.heap_alloc A O k hk⟩
theorem Keeps.put {base R:Nat}{A B:World}(h:Keeps base R A B){j:Nat}(O:Obj)(hj:B.heap[j]?=A.heap[j]?)(hO:A.heap[j]?=some O):Keeps base R A (B.putObj j O) :=
 ⟨h.os,h.tape,h.output,by simpa using h.size,fun k hk hr=>by
  by_cases e:k=j
  ·subst e
   rw[hO] at hj
   rw[World.putObj_heap_same (aIx hj),hO]
  ·rw[World.putObj_heap_other e];exact h.block k hk hr⟩
def qlz (D R:Nat)(I Ix:List (Tok × Int)→World→Prop)(xs:List (Tok × Int))(W:World):Exit→Act→World→Prop
 | .normal,_,W'=>Keeps (D + 4) R W W'∧I xs W'
 | .ret,_,W'=>W'.heap[D + 1]?=W.heap[D + 1]?∧W'.heap[D]?=W.heap[D]?∧Ix xs W'
 | _,_,_=>False
theorem qi1 {g:Operand} {ps:Array Tmp} {assign body:Code} {Q:Exit→Act→World→Prop} {a:Act} {w:World} {n:Nat} (hn:3≤n) (s:ByteArray) (T R D:Nat) (hD:w.heap.size=D)
  (hg:a.eval g=.func (.func 117) #[] #[.pointer (some ⟨T,0,none⟩)]) (hps:ps.size=2) (hTD:T < D) (hT0:T≠1) (hTR:T≠R) (hR0:R≠1) (hRD:R < D) (hs:s.size≤281474976710656)
  (hT:Boxed w T 9 (.string s)) (hKB:KB w) (I Ix:List (Tok × Int)→World→Prop)
  (hI:∀pre A A',I pre A→Aside D A A'→I pre A') (hIx:∀pre A A',Ix pre A→Aside D A A'→Ix pre A') (h0:I [] w)
  (hround:∀pre x W,I pre W→x.1.text.size≤65536→D + 4≤W.heap.size →
    assign.wpIn (Fence.wide.inRound (D + 1)) (n - 1 - 1) Tryz.prog (Exit.then (fun a₁ w₁=>Keeps (D + 4) R W w₁∧∀O,body.wpIn (Fence.wide.inRound (D + 1)) (n - 1 - 1) Tryz.prog (qlz D R I Ix (pre++[x]) (w₁.putObj (D + 1) O)) a₁ (w₁.putObj (D + 1) O)) (fun _ _ _=>False))
     { tmps:=(ps.zip #[zo x.1,.int .i64 x.2]).foldl (fun t (p,v)=>t.setIfInBounds p v) a.tmps,defers:=[] } W)
  (hdone:∀W,I (events s) W→W.heap[D]?=some (.deferred (some []))→Q .normal { a with defers:={ target:=.collected D,args:=#[] } :: a.defers } W)
  (hstop:∀pre W,pre <+: events s→Ix pre W→W.heap[D]?=some (.deferred (some []))→Code.ret.wpIn Fence.wide n Tryz.prog Q { a with defers:={ target:=.collected D,args:=#[] } :: a.defers } W) :
  (Code.rangeFunc g ps assign body).wpIn Fence.wide n Tryz.prog Q a w:=by
 refine wpIn_rangeFunc ?_;intro fn hfn;obtain⟨rec,hrec⟩:∃rec:LoopState→Option Code→Loop,rec=fun st pe=>{ state:=st,pending:=pe,fn,tmps:=a.tmps,params:=ps,assign,body,defers:=w.heap.size }:=⟨_,rfl⟩
 obtain⟨W1,hW1⟩:=eXa ((w.alloc (.deferred (some []))).alloc (.loop (rec .ready none)));have hs1:W1.heap.size=D + 2:=by rw[hW1];simp[hD]
 have hl1:W1.heap[D + 1]?=some (.loop (rec .ready none)):=by
  have:=World.alloc_heap_new (w.alloc (.deferred (some []))) (.loop (rec .ready none))
  rw[World.size_alloc,hD] at this;rw[hW1];exact this
 have hd1:W1.heap[D]?=some (.deferred (some [])):=by
  rw[hW1,←hD];exact (Below.heap_alloc _ _ _ (by simp)).trans (World.alloc_heap_new w _)
 have hb1:∀k,k < D→W1.heap[k]?=w.heap[k]?:=fun k hk=>by
  rw[hW1];exact (Below.heap_alloc _ _ k (by simp;omega)).trans (Below.heap_alloc w _ k (by omega))
 have hI1:I [] W1:=by rw[hW1];exact hI _ _ _ (hI _ _ _ h0 (Aside.alloc D w _)) (Aside.alloc D _ _)
 have eg:∀args w,(callFunc 117 args).run Tryz.prog w=.ok (.enter 117 args) w:=enters_of Tryz.func117 (by kernel_rfl) rfl;refine⟨D + 1,[{ target:=.collected D,args:=#[] }],W1,{ target:=.fn (.func 117) #[.pointer (some ⟨T,0,none⟩)],args:=#[.func (.yield (D + 1)) #[] #[]] },W1,117,#[.func (.yield (D + 1)) #[] #[],.pointer (some ⟨T,0,none⟩)],W1,?_,?_,?_,?_,fun _=>by omega,?_⟩
 ·have:=run_enterLoop_outer (P:=Tryz.prog) (w:=w) fn a.tmps ps assign body
  rw[hW1,hrec];rw[hD] at this ⊢;exact this
 ·simp only[resolve,hg];simp[go_sem]
 ·intro f' _;trivial
 ·simp[invoke,go_sem,eg]
 ·refine (iter_in Fence.wide rfl rfl trivial trivial trivial trivial (n - 1) (D + 1) T (D + 2) R (by omega) s
   (fun pre W=>I pre W∧W.heap[D + 1]?=some (.loop (rec .ready none))∧W.heap[D]?=some (.deferred (some [])))
   (fun pre W=>Ix pre W∧W.heap[D + 1]?=some (.loop (rec .done (some .ret)))∧W.heap[D]?=some (.deferred (some [])))
   ?_ ?_ W1 hs1 (by omega) hT0 hTR hR0 (by omega) hs ((hb1 T hTD).trans hT) (hKB.keep (hb1 1 (by have h:=bLt (hKB 0 (by omega));simp only at h;omega))) ⟨hI1,hl1,hd1⟩).mono ?_
  ·rintro pre A A' ⟨hi,hl,hd⟩ ht;exact⟨hI _ _ _ hi (Aside.of_turn ht),(ht.block _ (aIx hl) (by omega) (by omega)).trans hl,(ht.block _ (aIx hd) (by omega) (by omega)).trans hd⟩
  ·rintro pre x W ⟨hi,hl,hd⟩ hx hsz;have hy:=run_yield (P:=Tryz.prog) (args:=#[zo x.1,.int .i64 x.2]) hl (by rw[hrec];exact hps.symm);rw[hrec] at hy;refine⟨fn,_,assign,body,hy,roundIn_of_wpIn hfn ?_⟩;refine wpIn_mono (hround pre x W hi hx (by omega)) ?_;rintro e a1 W2 hp
   cases e with
   | normal =>
    obtain⟨hk2,hbody⟩:=hp;have hl2:W2.heap[D + 1]?=some (.loop (rec .ready none)):=(hk2.block _ (by omega) (by omega)).trans hl;have hd2:W2.heap[D]?=some (.deferred (some [])):=(hk2.block _ (by omega) (by omega)).trans hd;refine⟨_,run_beginRound hl2 (by rw[hrec]),?_⟩;have hl3:(W2.putObj (D + 1) (.loop { rec .ready none with state:=.busy })).heap[D + 1]?=some (.loop { rec .ready none with state:=.busy }):=World.putObj_heap_same (aIx hl2);have hd3:(W2.putObj (D + 1) (.loop { rec .ready none with state:=.busy })).heap[D]?=some (.deferred (some [])):=(World.putObj_heap_other (by omega)).trans hd2;refine wpIn_mono (hbody (.loop { rec .ready none with state:=.busy })) ?_;rintro e a3 W3 hq
    cases e with
    | normal =>
     obtain⟨hk3,hi3⟩:=hq;have hl4:W3.heap[D + 1]?=some (.loop { rec .ready none with state:=.busy }):=(hk3.block _ (by omega) (by omega)).trans hl3;have hend:=run_endRound (P:=Tryz.prog) none hl4;refine⟨_,_,hend,.inl ⟨rfl,⟨hI _ _ _ hi3 (Aside.put D W3 _ _ (by omega) (by omega)),?_,?_⟩,?_⟩⟩
     ·rw[hrec];exact World.putObj_heap_same (aIx hl4)
     ·exact (World.putObj_heap_other (by omega)).trans ((hk3.block _ (by omega) (by omega)).trans hd3)
     ·refine⟨hk3.os.trans hk2.os,hk3.tape.trans hk2.tape,hk3.output.trans hk2.output,?_,fun k hk hr=>?_⟩
      ·have e1:=hk2.size;have e2:=hk3.size;simp at e2 ⊢;omega
      ·by_cases e:k=D + 1
       ·subst e;rw[hl,World.putObj_heap_same (aIx hl4),hrec];rfl
       ·rw[World.putObj_heap_other e,hk3.block k hk hr,World.putObj_heap_other e];exact hk2.block k hk hr
    | ret =>
     obtain⟨hl3',hd3',hi3⟩:=hq;have hl4:=hl3'.trans hl3;have hend:=run_endRound (P:=Tryz.prog) (some .ret) hl4;refine⟨_,_,hend,.inr ⟨rfl,hIx _ _ _ hi3 (Aside.put D W3 _ _ (by omega) (by omega)),?_,?_⟩⟩
     ·rw[hrec];exact World.putObj_heap_same (aIx hl4)
     ·exact (World.putObj_heap_other (by omega)).trans (hd3'.trans hd3)
    | exit id=>exact hq.elim
    | goto t=>exact hq.elim
    | panic ch=>exact hq.elim
    | outgrown=>exact hq.elim
   | ret=>exact hp.elim
   | exit id=>exact hp.elim
   | goto t=>exact hp.elim
   | panic ch=>exact hp.elim
   | outgrown=>exact hp.elim
  ·rintro e W2 ⟨⟨v,rfl⟩,(⟨hi,hl,hd⟩ | ⟨pre,hpre,hi,hl,hd⟩)⟩
   ·have hend:=run_endLoop (P:=Tryz.prog) hl (by rw[hrec];simp);exact⟨_,_,(by rw[hrec] at hend;exact hend),hdone _ (hI _ _ _ hi (Aside.put D W2 (D + 1) _ (by omega) (by omega))) ((World.putObj_heap_other (by omega)).trans hd)⟩
   ·have hend:=run_endLoop (P:=Tryz.prog) hl (by rw[hrec];simp);exact⟨some .ret,_,(by rw[hrec] at hend;exact hend),hstop pre _ hpre (hIx _ _ _ hi (Aside.put D W2 (D + 1) _ (by omega) (by omega))) ((World.putObj_heap_other (by omega)).trans hd)⟩
end S.K
namespace S.K
open Go.RowKit Go.Shelf
attribute [local go_sem] Oper.semAt_some
theorem qm0 (s:ByteArray)(w:World) :
  Calls Tryz.prog 60 #[.string s] w fun e w'=>e=.returned (.func (.func 117) #[] #[.pointer (some ⟨w.heap.size,0,none⟩)])∧w'=w.alloc (.cells #[.string s] 9):=by
 go_enter Tryz.func60,Tryz.ntmps60
 go_wp2
 go_ret
 exact⟨rfl,rfl⟩
def qe4 (s:ByteArray)(N:Nat)(v fv:Value)(W:World):Prop :=
 W.ownsRow N 36 4 v (yt s).1.length (rowOf (yt s).1) ∧
 match (yt s).2 with
 | none=>fv=.pointer none
 | some f=>∃Bf,fv=.pointer (some ⟨Bf,0,none⟩)∧N≤Bf∧q5v W Bf f.1 f.2
def q4n (s:ByteArray)(w:World):Ending→World→Prop:=fun e w'=>∃v fv,e=.returned (.tuple #[v,fv])∧qe4 s w.heap.size v fv w'∧Below w.heap.size w w'
def qp3 (w:World)(pre:List (Tok × Int))(W:World):Prop:=∃r,wu rd0 pre=(r,none)∧r.told.length≤16384∧r.opn.text.size≤65536∧q2x W (w.heap.size + 8) (w.heap.size + 2) r ∧
 W.heap[w.heap.size]?=some (.cells #[.slice none 0 0] 32 (0,0))∧W.heap[w.heap.size + 1]?=some (.cells #[.pointer none] 23 (0,0))∧Below w.heap.size w W
def qkg (w:World)(pre:List (Tok × Int))(W:World):Prop:=∃r f v Bf,wu rd0 pre=(r,some f)∧W.heap[w.heap.size]?=some (.cells #[v] 32 (0,0))∧W.heap[w.heap.size + 1]?=some (.cells #[.pointer (some ⟨Bf,0,none⟩)] 23 (0,0)) ∧
 W.ownsRow (w.heap.size + 8) 36 4 v r.told.length (rowOf r.told)∧w.heap.size + 8≤Bf∧q5v W Bf f.1 f.2∧Below w.heap.size w W
theorem owns_block {W W':World}{base e size:Nat}{v:Value}{n:Nat}{xs:List Value}(h:W.ownsRow base e size v n xs)(hb:∀g,g < W.heap.size→base≤g→W'.heap[g]?=W.heap[g]?):W'.ownsRow base e size v n xs:=by
 refine⟨h.1,?_⟩;rcases h.2 with h0 | ⟨g,cap,cur,hv,hg,hh,hr⟩
 ·exact .inl h0
 ·exact .inr ⟨g,cap,cur,hv,hg,(hb g (aIx hh) hg).trans hh,hr⟩
theorem qp {W:World}{base base' e size:Nat}{v:Value}{n:Nat}{xs:List Value}(h:W.ownsRow base e size v n xs)(hb:base'≤base):W.ownsRow base' e size v n xs:=by
 refine⟨h.1,?_⟩;rcases h.2 with h0 | ⟨g,cap,cur,hv,hg,hr⟩
 ·exact .inl h0
 ·exact .inr ⟨g,cap,cur,hv,by omega,hr⟩
theorem q9r {w A A':World}{D:Nat}(h:Below w.heap.size w A)(ha:Aside D A A')(hD:w.heap.size≤D):Below w.heap.size w A' :=
 h.trans ⟨ha.os,ha.tape,ha.output,ha.size,fun k hk=>ha.block k (by have:=h.size;omega) (.inl (by omega))⟩
theorem q9s {w A A':World}{base R:Nat}(h:Below w.heap.size w A)(ha:Keeps base R A A')(hD:w.heap.size≤base)(hR:w.heap.size≤R):Below w.heap.size w A' :=
 h.trans ⟨ha.os,ha.tape,ha.output,ha.size,fun k hk=>ha.block k (by omega) (by omega)⟩
theorem q6f (w:World)(pre:List (Tok × Int))(A A':World)(h:qp3 w pre A)(ha:Aside (w.heap.size + 4) A A'):qp3 w pre A':=by
 obtain⟨r,h1,h2,h3,⟨v,hRd,hown⟩,h5,h6,h7⟩:=h;refine⟨r,h1,h2,h3,⟨v,(ha.block _ hRd.lt (.inl (by omega))).trans hRd,owns_block hown fun g hg hb=>ha.block g hg (.inr (by omega))⟩,?_,?_,q9r h7 ha (by omega)⟩
 ·exact (ha.block _ (aIx h5) (.inl (by omega))).trans h5
 ·exact (ha.block _ (aIx h6) (.inl (by omega))).trans h6
theorem qfd (w:World)(pre:List (Tok × Int))(A A':World)(h:qkg w pre A)(ha:Aside (w.heap.size + 4) A A'):qkg w pre A':=by
 obtain⟨r,f,v,Bf,h1,h2,h3,h4,h5,h6,h7⟩:=h;refine⟨r,f,v,Bf,h1,?_,?_,owns_block h4 fun g hg hb=>ha.block g hg (.inr (by omega)),h5,?_,q9r h7 ha (by omega)⟩
 ·exact (ha.block _ (aIx h2) (.inl (by omega))).trans h2
 ·exact (ha.block _ (aIx h3) (.inl (by omega))).trans h3
 ·exact (ha.block _ (aIx h6) (.inr (by omega))).trans h6
theorem rd0_is (W:World)(base R:Nat)(h:W.heap[R]?=some (.cells #[.slice none 0 0,.string ⟨#[]⟩,.int .i64 0,.int .i64 0,.int .i64 0] 110 (0,0))):q2x W base R rd0 :=
 ⟨.slice none 0 0,h,World.ownsRow_nil W base 36 4⟩
theorem runF_ok {pre:List (Tok × Int)}{r:Rd}{t:Tok}(h:wu rd0 pre=(r,none))(hC:(qm r t).1=0):wu rd0 (pre++[(t,0)])=((qm r t).2,none):=by
 rw[q43,h];simp[wu,hC]
theorem qp4 {pre:List (Tok × Int)}{r:Rd}{t:Tok}(h:wu rd0 pre=(r,none))(hC:¬(qm r t).1=0):wu rd0 (pre++[(t,0)])=((qm r t).2,some (t,(qm r t).1)):=by
 rw[q43,h];simp[wu,hC]
theorem qm1 {pre:List (Tok × Int)}{r:Rd}{t:Tok}{c:Int}(h:wu rd0 pre=(r,none))(hc:¬c=0):wu rd0 (pre++[(t,c)])=(r,some (t,c)):=by
 rw[q43,h];simp[wu,hc]
theorem qi2 (s:ByteArray)(pre:List (Tok × Int))(r:Rd)(f:Tok × Int)(hp:pre <+: events s)(h:wu rd0 pre=(r,some f)):yt s=(r.told,some f):=by
 obtain⟨t,ht⟩:=hp;unfold yt;rw[←ht,q43,h]
theorem qi3 (s:ByteArray)(r:Rd)(h:wu rd0 (events s)=(r,none))(hc:q3k r=true):yt s=(r.told,some (r.opn,12)):=by
 unfold yt;rw[h];simp only[hc,if_true]
theorem qaq (s:ByteArray)(r:Rd)(h:wu rd0 (events s)=(r,none))(hc:q3k r=false):yt s=(r.told,none):=by
 unfold yt;rw[h];simp[hc]
theorem heap_put {W:World}{j k:Nat}{O O':Obj}(h:W.heap[k]?=some O')(hne:k≠j):(W.putObj j O).heap[k]?=some O':=(World.putObj_heap_other hne).trans h
theorem cell_of_heap {W:World}{b:Nat}{v:Value}{t:TypeId}(h:W.heap[b]?=some (.cells #[v] t (0,0))):W.cell? ⟨b,0,none⟩=some v:=by simp[World.cell?,h]
theorem q2q {W:World}{b:Nat}{v:Value}{t:TypeId}(h:W.heap[b]?=some (.cells #[v] t (0,0))):W.frozen? ⟨b,0,none⟩=false:=by simp[World.frozen?,h]
theorem q8s {w W:World}{j:Nat}{O:Obj}(h:Below w.heap.size w W)(hj:w.heap.size≤j):Below w.heap.size w (W.putObj j O) :=
 h.trans ⟨rfl,rfl,rfl,by simp,fun k hk=>World.putObj_heap_other (by omega)⟩
theorem two_stores {W:World}{N:Nat}{v0 f0:Value}(v fv:Value)(h5:W.heap[N]?=some (.cells #[v0] 32 (0,0)))(h6:W.heap[N + 1]?=some (.cells #[f0] 23 (0,0))) :
  ((W.setCell ⟨N,0,none⟩ v).setCell ⟨N + 1,0,none⟩ fv).heap[N]?=some (.cells #[v] 32 (0,0))∧((W.setCell ⟨N,0,none⟩ v).setCell ⟨N + 1,0,none⟩ fv).heap[N + 1]?=some (.cells #[fv] 23 (0,0)) ∧
  (∀k,k≠N→k≠N + 1→((W.setCell ⟨N,0,none⟩ v).setCell ⟨N + 1,0,none⟩ fv).heap[k]?=W.heap[k]?)∧((W.setCell ⟨N,0,none⟩ v).setCell ⟨N + 1,0,none⟩ fv).heap.size=W.heap.size:=by
 refine⟨?_,?_,fun k h1 h2=>?_,by simp[World.setCell]⟩
 ·rw[Below.heap_setCell _ _ _ N (by simp)];exact qj h5
 ·exact qj ((Below.heap_setCell _ _ _ (N + 1) (by simp)).trans h6)
 ·rw[Below.heap_setCell _ _ _ k (by simpa using h2),Below.heap_setCell _ _ _ k (by simpa using h1)]
theorem q5w {w W:World}(v fv:Value)(h:Below w.heap.size w W):Below w.heap.size w ((W.setCell ⟨w.heap.size,0,none⟩ v).setCell ⟨w.heap.size + 1,0,none⟩ fv) :=
 (h.setCell (Nat.le_refl _) _).setCell (by simp) _
theorem q45 {N:Nat}{W w2:World}{v0 f0 u0:Value}(hbel:Below W.drew.heap.size W.drew w2)(hlt:N + 2 < W.heap.size)(c0:W.cell? ⟨N,0,none⟩=some v0)(z0:W.frozen? ⟨N,0,none⟩=false)(c1:W.cell? ⟨N + 1,0,none⟩=some f0)(z1:W.frozen? ⟨N + 1,0,none⟩=false)(r0:W.cell? ⟨N + 2,0,none⟩=some u0) :
  w2.cell? ⟨N,0,none⟩=some v0∧w2.frozen? ⟨N,0,none⟩=false∧w2.cell? ⟨N + 1,0,none⟩=some f0∧w2.frozen? ⟨N + 1,0,none⟩=false∧w2.cell? ⟨N + 2,0,none⟩=some u0:=by
 have hz:W.drew.heap.size=W.heap.size:=rfl;exact⟨(hbel.cell (p:=⟨N,0,none⟩) (by simp only[hz];omega)).trans c0,(hbel.frozen (p:=⟨N,0,none⟩) (by simp only[hz];omega)).trans z0,(hbel.cell (p:=⟨N + 1,0,none⟩) (by simp only[hz];omega)).trans c1,(hbel.frozen (p:=⟨N + 1,0,none⟩) (by simp only[hz];omega)).trans z1,(hbel.cell (p:=⟨N + 2,0,none⟩) (by simp only[hz];omega)).trans r0⟩
theorem q6g {s:ByteArray}{w W:World}{told:List Tok}{f:Tok × Int}{v:Value}{Bf:Nat}(hF:yt s=(told,some f))(hown:W.ownsRow (w.heap.size + 8) 36 4 v told.length (rowOf told))(hB:w.heap.size≤Bf)(hf:q5v W Bf f.1 f.2)(hb:Below w.heap.size w W) :
  q4n s w (.returned (.tuple #[v,.pointer (some ⟨Bf,0,none⟩)])) W :=
 ⟨_,_,rfl,by unfold qe4;rw[hF];exact⟨qp hown (by omega),Bf,rfl,hB,hf⟩,hb⟩
theorem qck {s:ByteArray}{w W:World}{told:List Tok}{v:Value}(hF:yt s=(told,none))(hown:W.ownsRow (w.heap.size + 8) 36 4 v told.length (rowOf told))(hb:Below w.heap.size w W) :
  q4n s w (.returned (.tuple #[v,.pointer none])) W :=
 ⟨_,_,rfl,by unfold qe4;rw[hF];exact⟨qp hown (by omega),rfl⟩,hb⟩
theorem qar {w X w2 W2:World} {pre:List (Tok × Int)} {r:Rd} {f:Tok × Int} {v v0 f0:Value} {Bf:Nat} (hrun:wu rd0 pre=(r,some f)) (hown:X.ownsRow (w.heap.size + 8) 36 4 v r.told.length (rowOf r.told))
  (h5:X.heap[w.heap.size]?=some (.cells #[v0] 32 (0,0))) (h6:X.heap[w.heap.size + 1]?=some (.cells #[f0] 23 (0,0))) (h7:Below w.heap.size w X) (hz:w.heap.size + 8≤X.heap.size)
  (hbel:Below X.drew.heap.size X.drew w2) (hBf:X.drew.heap.size≤Bf) (hFa:q5v w2 Bf f.1 f.2) (hd:X.heap[w.heap.size + 4]?=W2.heap[w.heap.size + 4]?) (hl:X.heap[w.heap.size + 4 + 1]?=W2.heap[w.heap.size + 4 + 1]?) :
  ((w2.setCell ⟨w.heap.size,0,none⟩ v).setCell ⟨w.heap.size + 1,0,none⟩ (.pointer (some ⟨Bf,0,none⟩))).heap[w.heap.size + 4 + 1]?=W2.heap[w.heap.size + 4 + 1]? ∧
  ((w2.setCell ⟨w.heap.size,0,none⟩ v).setCell ⟨w.heap.size + 1,0,none⟩ (.pointer (some ⟨Bf,0,none⟩))).heap[w.heap.size + 4]?=W2.heap[w.heap.size + 4]? ∧
  qkg w pre ((w2.setCell ⟨w.heap.size,0,none⟩ v).setCell ⟨w.heap.size + 1,0,none⟩ (.pointer (some ⟨Bf,0,none⟩))):=by
 have hb:∀k,k < X.heap.size→w2.heap[k]?=X.heap[k]?:=fun k hk=>hbel.block k hk
 have hBf':X.heap.size≤Bf:=hBf;obtain⟨g0,g1,g2,g3⟩:=two_stores v (.pointer (some ⟨Bf,0,none⟩)) ((hb _ (by omega)).trans h5) ((hb _ (by omega)).trans h6);refine⟨(g2 _ (by omega) (by omega)).trans ((hb _ (by omega)).trans hl),(g2 _ (by omega) (by omega)).trans ((hb _ (by omega)).trans hd),r,f,v,Bf,hrun,g0,g1,?_,by omega,(g2 Bf (by omega) (by omega)).trans hFa,q5w _ _ (h7.trans ⟨hbel.os,hbel.tape,hbel.output,hbel.size,fun k hk=>hb k (by omega)⟩)⟩;exact owns_block hown fun g hg hb'=>(g2 g (by omega) (by omega)).trans (hb g hg)
theorem scan_in (s:ByteArray)(w:World)(m:Int)(hs:s.size≤281474976710656)(hKB:KB w)(hm:w.cell? ⟨2,0,none⟩=some (.int .i64 m)) :
  CallsIn Fence.wide 6 Tryz.prog  11 #[.string s] w (q4n s w):=by
 have lift:∀{m f:Nat} {args:Array Value} {w:World} {Q:Ending→World→Prop},Calls Tryz.prog f args w Q→CallsIn Fence.wide m Tryz.prog f args w Q:=fun h=>callsIn_wide.2 h
 replace lift:=show Hid _ from @lift;have f25:Fence.wide.fn 60:=trivial;have f26:Fence.wide.fn 61:=trivial;have f27:Fence.wide.fn 62:=trivial;have f28:Fence.wide.fn 63:=trivial;have f34:Fence.wide.fn 117:=trivial;have hw1:2 < w.heap.size:=bLt hm;refine callsIn_of_wp_marks Tryz.func11 rfl trivial ?_ rfl;simp only[Tryz.ntmps11,List.size_toArray,List.length_cons,List.length_nil,Nat.reduceAdd,Nat.reduceSub,Array.replicate_succ,Array.replicate_zero,List.push_toArray,List.append_toArray,List.nil_append,List.cons_append]
 gi_wp2_with fail
 refine (lift.out (qm0 s _)).mono ?_;rintro e w' ⟨rfl,hw⟩;subst hw
 gi_wp2_with fail
 obtain⟨W0,hW0⟩:=eXa ((((w.alloc (.cells #[.slice none 0 0] 32)).alloc (.cells #[.pointer none] 23)).alloc (.cells #[.slice none 0 0,.string ⟨#[]⟩,.int .i64 0,.int .i64 0,.int .i64 0] 110)).alloc (.cells #[.string s] 9));have hs0:W0.heap.size=w.heap.size + 4:=by rw[hW0];simp
 have k0:W0.heap[w.heap.size]?=some (.cells #[.slice none 0 0] 32 (0,0)):=by
  rw[hW0];exact (Below.heap_alloc _ _ _ (by simp;omega)).trans ((Below.heap_alloc _ _ _ (by simp;omega)).trans ((Below.heap_alloc _ _ _ (by simp)).trans (q5d w _)))
 have k1:W0.heap[w.heap.size + 1]?=some (.cells #[.pointer none] 23 (0,0)):=by
  have:=q5d (w.alloc (.cells #[.slice none 0 0] 32)) (.cells #[.pointer none] 23)
  rw[World.size_alloc] at this;rw[hW0];exact (Below.heap_alloc _ _ _ (by simp)).trans ((Below.heap_alloc _ _ _ (by simp)).trans this)
 have k2:W0.heap[w.heap.size + 2]?=some (.cells #[.slice none 0 0,.string ⟨#[]⟩,.int .i64 0,.int .i64 0,.int .i64 0] 110 (0,0)):=by
  have:=q5d ((w.alloc (.cells #[.slice none 0 0] 32)).alloc (.cells #[.pointer none] 23)) (.cells #[.slice none 0 0,.string ⟨#[]⟩,.int .i64 0,.int .i64 0,.int .i64 0] 110)
  simp only[World.size_alloc] at this;rw[hW0];exact (Below.heap_alloc _ _ _ (by simp)).trans this
 have k3:Boxed W0 (w.heap.size + 3) 9 (.string s):=by
  have:=q5d (((w.alloc (.cells #[.slice none 0 0] 32)).alloc (.cells #[.pointer none] 23)).alloc (.cells #[.slice none 0 0,.string ⟨#[]⟩,.int .i64 0,.int .i64 0,.int .i64 0] 110)) (.cells #[.string s] 9)
  simp only[World.size_alloc] at this;rw[hW0];exact this
 have hb0:Below w.heap.size w W0:=by rw[hW0];exact ((((Below.refl _ w).alloc (Nat.le_refl _) _).alloc (by simp) _).alloc (by simp;omega) _).alloc (by simp;omega) _
 rw[←hW0];clear hW0;refine qi1 (by omega) s (w.heap.size + 3) (w.heap.size + 2) (w.heap.size + 4) hs0 rfl rfl (by omega) (by omega) (by omega) (by omega) (by omega) hs k3 (hKB.keep (hb0.block 1 (by omega))) (qp3 w) (qkg w) (q6f w) (qfd w)
  ⟨rd0,rfl,by decide,by decide,rd0_is W0 _ _ k2,k0,k1,hb0⟩ ?round ?done ?stop
 case done =>
  rintro W ⟨r,h1,h2,h3,⟨v,hRd,hown⟩,h5,h6,h7⟩ hd;have IC:=q28 (w.heap.size + 2) v r.opn W hRd;obtain⟨va,vc,hv,hvg⟩:=slice_form hown;have c0:=cell_of_heap h5;have z0:=q2q h5;have c1:=cell_of_heap h6;have z1:=q2q h6;have rc:=hRd.cells;subst hv;obtain⟨r0,r1,r2,r3,r4⟩:=rc
  cases hc:q3k r with
  | true =>
   have hF:=qi3 s r h1 hc;have hc':(!r.opn.text.toList.isEmpty)=true:=hc;rw[hc'] at IC;replace IC:=show Hid _ from IC;have FA:=fun wx=>q6d r.opn 12 wx h3
   unfold zo at FA;replace FA:=show Hid _ from FA;have hmx:Tryz.prog.follows .mixedOrders=true:=by kernel_rfl
   have hlt:=hRd.lt;clear hc hc' h1
   gi_wp2_with fail
   refine (lift.out IC.out).mono ?_;rintro e w' ⟨rfl,hw⟩;have hw':=hw.symm;subst hw'
   gi_wp2_with fail
   refine wpIn_mono ?_ NoPanic.imp;refine wpIn_region_any (by assumption) ?_
   change wpAnyIn _ _ _ _ _ _ _ _ _ (World.drew _)
   refine wpAnyIn_take (i:=0) (v:=.pointer (some ⟨w.heap.size + 1 + 1,0,none⟩)) rfl rfl (by kernel_rfl) (by kernel_rfl) (by kernel_rfl) (fun _ _ _ h=>h) ⟨Or.inl ⟨by kernel_rfl,fun w=>by kernel_rfl⟩,fun _=>by kernel_rfl⟩ ?_;refine wpAnyIn_take (i:=2) (v:=.pointer (some ⟨w.heap.size + 1 + 1,1,none⟩)) rfl rfl (by kernel_rfl) (by kernel_rfl) (by kernel_rfl) (fun _ _ _ h=>h) ⟨Or.inl ⟨by kernel_rfl,fun w=>by go_simp⟩,fun _=>by kernel_rfl⟩ ?_;refine wpAnyIn_ready (rs:=[1,3]) (by kernel_rfl) (by simp) ?_;refine AllReadyIn.cons rfl (fun K hK=>?_) (AllReadyIn.cons rfl (fun K hK=>?_) AllReadyIn.nil)
   case' refine_1 =>
    go_simp;refine hK _ _ ?_;clear hK K;refine wpAnyIn_ready (rs:=[3]) (by kernel_rfl) (by simp) ?_;refine AllReadyIn.cons rfl (fun K hK=>?_) AllReadyIn.nil;go_simp;refine hK _ _ ?_;clear hK K;refine wpAnyIn_ready (rs:=[4]) (by kernel_rfl) (by simp) ?_;refine AllReadyIn.cons rfl (fun K hK=>?_) AllReadyIn.nil;go_simp;refine (lift.out (FA.out _)).mono ?_;rintro e w2 ⟨Bf,rfl,hBf,hFa,hbel⟩;obtain⟨c0b,z0b,c1b,z1b,r0b⟩:=q45 hbel hlt c0 z0 c1 z1 r0;go_simp;refine hK _ _ ?_;clear hK K
   case' refine_2 =>
    go_simp;refine hK _ _ ?_;clear hK K;refine wpAnyIn_ready (rs:=[1,4]) (by kernel_rfl) (by simp) ?_;refine AllReadyIn.cons rfl (fun K hK=>?_) (AllReadyIn.cons rfl (fun K hK=>?_) AllReadyIn.nil)
   case' refine_2.refine_1 =>
    go_simp;refine hK _ _ ?_;clear hK K;refine wpAnyIn_ready (rs:=[4]) (by kernel_rfl) (by simp) ?_;refine AllReadyIn.cons rfl (fun K hK=>?_) AllReadyIn.nil;go_simp;refine (lift.out (FA.out _)).mono ?_;rintro e w2 ⟨Bf,rfl,hBf,hFa,hbel⟩;obtain⟨c0b,z0b,c1b,z1b,r0b⟩:=q45 hbel hlt c0 z0 c1 z1 r0;go_simp;refine hK _ _ ?_;clear hK K
   case' refine_2.refine_2 =>
    go_simp;refine (lift.out (FA.out _)).mono ?_;rintro e w2 ⟨Bf,rfl,hBf,hFa,hbel⟩;obtain⟨c0b,z0b,c1b,z1b,r0b⟩:=q45 hbel hlt c0 z0 c1 z1 r0;go_simp;refine hK _ _ ?_;clear hK K;refine wpAnyIn_ready (rs:=[1]) (by kernel_rfl) (by simp) ?_;refine AllReadyIn.cons rfl (fun K hK=>?_) AllReadyIn.nil;go_simp;refine hK _ _ ?_;clear hK K
   all_goals
    refine wpAnyIn_ready (rs:=[5]) (by kernel_rfl) (by simp) ?_;refine AllReadyIn.cons rfl (fun K hK=>?_) AllReadyIn.nil;go_simp;refine hK _ _ ?_;clear hK K;refine wpAnyIn_ready (rs:=[6]) (by kernel_rfl) (by simp) ?_;refine AllReadyIn.cons rfl (fun K hK=>?_) AllReadyIn.nil;go_simp;refine hK _ _ ?_;clear hK K;refine wpAnyIn_done (by kernel_rfl) ?_ _;refine NoPanic.normal ?_;have hdl:=(aIx hd);have hz2:W.heap.size≤w2.heap.size:=hbel.size;have hBf':W.heap.size≤Bf:=hBf;have e5:=(hbel.block w.heap.size (by show _ < W.heap.size;omega)).trans h5;have e6:=(hbel.block (w.heap.size + 1) (by show _ < W.heap.size;omega)).trans h6;have ed:=(hbel.block (w.heap.size + 4) (by show _ < W.heap.size;omega)).trans hd;obtain⟨g0,g1,g2,g3⟩:=two_stores (.slice va r.told.length vc) (.pointer (some ⟨Bf,0,none⟩)) e5 e6;have q0:=cell_of_heap (heap_put (O:=.deferred none) (j:=w.heap.size + 4) g0 (by omega));have q1:=cell_of_heap (heap_put (O:=.deferred none) (j:=w.heap.size + 4) g1 (by omega));have hd2:=(g2 (w.heap.size + 4) (by omega) (by omega)).trans ed;have hb2:Below w.heap.size w w2:=h7.trans (show Below w.heap.size W w2 from ⟨hbel.os,hbel.tape,hbel.output,hbel.size,fun k hk=>hbel.block k (by show _ < W.heap.size;omega)⟩);have hfin:q4n s w (.returned (.tuple #[.slice va r.told.length vc,.pointer (some ⟨Bf,0,none⟩)])) (((w2.setCell ⟨w.heap.size,0,none⟩ (.slice va r.told.length vc)).setCell ⟨w.heap.size + 1,0,none⟩ (.pointer (some ⟨Bf,0,none⟩))).putObj (w.heap.size + 4) (.deferred none)) :=
     q6g hF (owns_block hown fun g hg hb=>(World.putObj_heap_other (by omega)).trans ((g2 g (by omega) (by omega)).trans (hbel.block g hg))) (by omega) (((World.putObj_heap_other (by omega)).trans (g2 Bf (by omega) (by omega))).trans hFa) (q8s (q5w _ _ hb2) (by omega))
    replace hfin:=show Hid _ from hfin;clear g0 g1 g2 g3 e5 e6 ed hb2
    gi_wp2
    refine⟨by simp,.inl ⟨_,_,rfl,run_takeDeferred hd2,?_⟩⟩;refine⟨.tuple #[.slice va r.told.length vc,.pointer (some ⟨Bf,0,none⟩)],?_,hfin.out⟩;simp[results,Tryz.results11,go_sem,q0,q1]
  | false =>
   have hF:=qaq s r h1 hc;have hc':(!r.opn.text.toList.isEmpty)=false:=hc;rw[hc'] at IC;replace IC:=show Hid _ from IC;clear hc hc' h1
   gi_wp2_with fail
   refine (lift.out IC.out).mono ?_;rintro e w' ⟨rfl,hw⟩;have hw':=hw.symm;subst hw';obtain⟨g0,g1,g2,g3⟩:=two_stores (.slice va r.told.length vc) (.pointer none) h5 h6;have q0:=cell_of_heap (heap_put (O:=.deferred none) (j:=w.heap.size + 4) g0 (by omega));have q1:=cell_of_heap (heap_put (O:=.deferred none) (j:=w.heap.size + 4) g1 (by omega));have hd2:=(g2 (w.heap.size + 4) (by omega) (by omega)).trans hd;have hfin:q4n s w (.returned (.tuple #[.slice va r.told.length vc,.pointer none])) (((W.setCell ⟨w.heap.size,0,none⟩ (.slice va r.told.length vc)).setCell ⟨w.heap.size + 1,0,none⟩ (.pointer none)).putObj (w.heap.size + 4) (.deferred none)) :=
    qck hF (owns_block hown fun g _ hb=>(World.putObj_heap_other (by omega)).trans (g2 g (by omega) (by omega))) (q8s (q5w _ _ h7) (by omega))
   replace hfin:=show Hid _ from hfin;clear g0 g1 g2 g3
   gi_wp2
   refine⟨by simp,.inl ⟨_,_,rfl,run_takeDeferred hd2,?_⟩⟩;refine⟨.tuple #[.slice va r.told.length vc,.pointer none],?_,hfin.out⟩;simp[results,Tryz.results11,go_sem,q0,q1]
 case stop =>
  rintro pre W hpre ⟨r,f,v,Bf,h1,h2,h3,h4,h5,h6,h7⟩ hd;have hF:=qi2 s pre r f hpre h1;have q2:=heap_put (O:=.deferred none) (j:=w.heap.size + 4) h2 (by omega);have q3:=heap_put (O:=.deferred none) (j:=w.heap.size + 4) h3 (by omega);have q6:=heap_put (O:=.deferred none) (j:=w.heap.size + 4) h6 (by omega);have q4:(W.putObj (w.heap.size + 4) (.deferred none)).ownsRow (w.heap.size + 8) 36 4 v r.told.length (rowOf r.told):=owns_block h4 fun g _ hb=>World.putObj_heap_other (by omega)
  obtain⟨va,vc,hv,_⟩:=slice_form h4;have c2:=cell_of_heap q2;have c3:=cell_of_heap q3;have hfin:=q6g hF q4 (by omega) q6 (q8s h7 (by omega));replace hfin:=show Hid _ from hfin;rw[hv] at c2 hfin;clear h1 h2 h3 h4 h5 h6 h7 q2 q3 q4 q6 hv hF hpre
  gi_wp2
  refine⟨by simp,.inl ⟨_,_,rfl,run_takeDeferred hd,?_⟩⟩;refine⟨.tuple #[.slice va r.told.length vc,.pointer (some ⟨Bf,0,none⟩)],?_,hfin.out⟩;simp[results,Tryz.results11,go_sem,c2,c3]
 case round =>
  rintro pre ⟨t,c⟩ W hi hx hsz;have g26:(Fence.wide.inRound (w.heap.size + 4 + 1)).fn 61:=trivial;have g27:(Fence.wide.inRound (w.heap.size + 4 + 1)).fn 62:=trivial;have hmx:Tryz.prog.follows .mixedOrders=true:=by kernel_rfl
  dsimp only at hx;unfold zo
  gi_wp2
  refine⟨Keeps.alloc (by omega) _,fun O=>?_⟩;have hi2:=q6f w pre _ _ (q6f w pre _ _ hi (Aside.alloc (w.heap.size + 4) W (.cells #[.string t.text,.int .i64 t.off,.int .i64 t.line,.int .i64 t.col] 36))) (Aside.put (w.heap.size + 4) _ (w.heap.size + 4 + 1) O (by omega) (by omega));have bx:=heap_put (O:=O) (j:=w.heap.size + 4 + 1) (q5d W (.cells #[.string t.text,.int .i64 t.off,.int .i64 t.line,.int .i64 t.col] 36)) (by omega);have hz2:((W.alloc (.cells #[.string t.text,.int .i64 t.off,.int .i64 t.line,.int .i64 t.col] 36)).putObj (w.heap.size + 4 + 1) O).heap.size=W.heap.size + 1:=by simp
  obtain⟨W2,hW2⟩:=eXa ((W.alloc (.cells #[.string t.text,.int .i64 t.off,.int .i64 t.line,.int .i64 t.col] 36)).putObj (w.heap.size + 4 + 1) O);rw[←hW2] at hi2 bx hz2 ⊢;obtain⟨Bx,hBx⟩:=eXa W.heap.size;rw[←hBx] at bx hz2 hsz ⊢;clear hW2 hi hBx;obtain⟨r,h1,h2,h3,hRI,h5,h6,h7⟩:=hi2;have b0:W2.cell? ⟨Bx,0,none⟩=some (.string t.text):=by simp[World.cell?,bx]
  have b1:W2.cell? ⟨Bx,1,none⟩=some (.int .i64 t.off):=by simp[World.cell?,bx]
  have b2:W2.cell? ⟨Bx,2,none⟩=some (.int .i64 t.line):=by simp[World.cell?,bx]
  have b3:W2.cell? ⟨Bx,3,none⟩=some (.int .i64 t.col):=by simp[World.cell?,bx]
  by_cases hc:c=0
  ·subst hc;have hm2:W2.cell? ⟨2,0,none⟩=some (.int .i64 m):=(h7.cell (p:=⟨2,0,none⟩) hw1).trans hm;have TK:=take_any (w.heap.size + 2) (w.heap.size + 8) r t m W2 hRI (by omega) (by omega) hx hm2 h2;unfold zo at TK;replace TK:=show Hid _ from TK
   gi_wp2_with fail
   refine (CallsIn.inRound _ (lift.out TK.out)).mono ?_;rintro e w3 ⟨rfl,hR3,hk3,hg3'⟩
   by_cases hC:(qm r t).1=0
   ·rw[hC]
    gi_wp2
    exact⟨hk3,(qm r t).2,runF_ok h1 hC,qlx r t h2,qlw r t h3 hx,hR3,(hk3.block _ (by omega) (by omega)).trans h5,(hk3.block _ (by omega) (by omega)).trans h6,q9s h7 hk3 (by omega) (by omega)⟩
   ·have hg3:=hg3' hC;have q5:=(hk3.block w.heap.size (by omega) (by omega)).trans h5;have q6:=(hk3.block (w.heap.size + 1) (by omega) (by omega)).trans h6;have q7:=q9s h7 hk3 (by omega) (by omega);have hBx:=(hg3.block Bx (by omega) (by intro e;cases e;omega)).trans bx;have d0:w3.cell? ⟨Bx,0,none⟩=some (.string t.text):=by simp[World.cell?,hBx]
    have d1:w3.cell? ⟨Bx,1,none⟩=some (.int .i64 t.off):=by simp[World.cell?,hBx]
    have d2:w3.cell? ⟨Bx,2,none⟩=some (.int .i64 t.line):=by simp[World.cell?,hBx]
    have d3:w3.cell? ⟨Bx,3,none⟩=some (.int .i64 t.col):=by simp[World.cell?,hBx]
    have hrun:=qp4 h1 hC;obtain⟨v,hRd,hown⟩:=hR3;obtain⟨va,vc,hv,_⟩:=slice_form hown;subst hv;obtain⟨C,hCC⟩:=eXa ((qm r t).1);obtain⟨L,hLL⟩:=eXa ((qm r t).2.told.length);have r0:=hRd.cells.1;have hlt:=hRd.lt;have c0:=cell_of_heap q5;have z0:=q2q q5;have c1:=cell_of_heap q6;have z1:=q2q q6;have e1:=hk3.block (w.heap.size + 4) (by omega) (by omega);have e2:=hk3.block (w.heap.size + 4 + 1) (by omega) (by omega);have hz3:w.heap.size + 8≤w3.heap.size:=by have:=hk3.size;omega
    have fin:=fun w2 Bf hbel hBf hFa=>qar (w:=w) (X:=w3) (w2:=w2) (W2:=W2) (Bf:=Bf) hrun hown q5 q6 q7 hz3 hbel hBf hFa e1 e2
    rw[←hCC] at hC fin ⊢;rw[←hLL] at r0 fin;have hC1:(C != 0)=true:=by simpa using hC
    have FA:=fun wx=>q6d t C wx hx
    unfold zo at FA;replace FA:=show Hid _ from FA;replace fin:=show Hid _ from fin;clear hrun hCC hLL hg3 hg3' hBx hC hown hRd bx h1 h2 h3 h5 h6 h7 TK q5 q6 q7 e1 e2 b0 b1 b2 b3 hk3 hRI hm2
    gi_wp2_with fail
    gi_region_with_o (gi_at_call 62;refine (CallsIn.inRound _ (lift.out (FA.out _))).mono ?_;rintro e w2 ⟨Bf,rfl,hBf,hFa,hbel⟩;obtain⟨c0b,z0b,c1b,z1b,r0b⟩:=q45 hbel hlt c0 z0 c1 z1 r0)
    all_goals gi_wp2
    all_goals exact fin.out w2 Bf hbel hBf hFa
  ·have hc1:(c != 0)=true:=by simpa using hc
   have hc2:(c == 0)=false:=by simpa using hc
   have hrun:=qm1 (t:=t) h1 hc;obtain⟨v,hRd,hown⟩:=hRI;obtain⟨va,vc,hv,_⟩:=slice_form hown;subst hv;obtain⟨L,hLL⟩:=eXa r.told.length;have r0:=hRd.cells.1;have hlt:=hRd.lt;have c0:=cell_of_heap h5;have z0:=q2q h5;have c1:=cell_of_heap h6;have z1:=q2q h6;have hz3:w.heap.size + 8≤W2.heap.size:=by omega
   have fin:=fun w2 Bf hbel hBf hFa=>qar (w:=w) (X:=W2) (w2:=w2) (W2:=W2) (Bf:=Bf) hrun hown h5 h6 h7 hz3 hbel hBf hFa rfl rfl
   rw[←hLL] at r0 fin;have FA:=fun wx=>q6d t c wx hx
   unfold zo at FA;replace FA:=show Hid _ from FA;replace fin:=show Hid _ from fin;clear hrun hLL hc hown hRd bx h1 h2 h3 h5 h6 h7
   gi_wp2_with fail
   gi_region_with_o (gi_at_call 62;refine (CallsIn.inRound _ (lift.out (FA.out _))).mono ?_;rintro e w2 ⟨Bf,rfl,hBf,hFa,hbel⟩;obtain⟨c0b,z0b,c1b,z1b,r0b⟩:=q45 hbel hlt c0 z0 c1 z1 r0)
   all_goals gi_wp2
   all_goals exact fin.out w2 Bf hbel hBf hFa
theorem q3s (r:Rd):q3k r=!r.opn.text.data.toList.isEmpty:=by
 unfold q3k;rw[ByteArray.toList_eq]
def q8t (s:ByteArray)(i:Nat)(p:Int→Prop):Prop:=∀h:i < s.size,p (zy (s[i]'h).toNat)
structure q5x (s:ByteArray)(t:Tok)(n m:Nat):Prop where
 off:t.off=n
 lt:n < m
 le:m≤s.size
 le6:m≤65536
 text:t.text=s.extract n m
 line:t.line=q3e (s.data.toList.take n)
 col:t.col=q7i (s.data.toList.take n)
 word:∀i,n≤i→i < m→q8t s i (2≤·)
 ahead:0 < n→q8t s (n - 1) (·=1)
 behind:q8t s m (·=1)
structure qkh (s:ByteArray)(t:Tok)(c:Int)(n:Nat):Prop where
 text:t.text=⟨#[]⟩
 off:t.off=n
 lt:n < s.size
 line:t.line=q3e (s.data.toList.take n)
 col:t.col=q7i (s.data.toList.take n)
 code:c=13∧n=65536∨c=10∧n < 65536∧q8t s n (·=0)
inductive Chain (s:ByteArray):Nat→List (Tok × Int)→Prop
 | done {p:Nat}:s.size≤65536→Chain s p []
 | word {p n m:Nat} {t:Tok} {es:List (Tok × Int)}:p≤n→q5x s t n m→Chain s (m + 1) es→Chain s p ((t,0) :: es)
 | fault {p n:Nat} {t:Tok} {c:Int}:p≤n→qkh s t c n→Chain s p [(t,c)]
theorem Chain.less {s:ByteArray}{p q:Nat}{es:List (Tok × Int)}(h:Chain s p es)(hq:q≤p):Chain s q es:=by
 cases h with
 | done h=>exact .done h
 | word a b c=>exact .word (nLt hq a) b c
 | fault a b=>exact .fault (nLt hq a) b
theorem qm2 (s:ByteArray):∀(j k start:Nat) (line ls:Nat),k + j=s.size→k≤65536→start≤k→line=q3e (s.data.toList.take k)→line=q3e (s.data.toList.take start) →
  (q7i (s.data.toList.take k):Int)=k - ls + 1→(q7i (s.data.toList.take start):Int)=start - ls + 1→(∀i,start≤i→i < k→q8t s i (2≤·))→(0 < start→q8t s (start - 1) (·=1)) →
  Chain s start (evs s (s.data.toList.drop k) k start line ls):=by
 intro j
 induction j with
 | zero =>
  intro k start line ls hk hK hs hl1 hl2 hc1 hc2 hw ha;rw[qoz s k start line ls (by omega)]
  by_cases h:start < k
  ·rw[if_pos h];exact .word (Nat.le_refl _) ⟨rfl,h,by omega,by omega,rfl,by show (line:Int)=_;omega,hc2.symm,hw,ha,fun hx=>by omega⟩ (.done (by omega))
  ·rw[if_neg h];exact .done (by omega)
 | succ j ih =>
  intro k start line ls hk hK hs hl1 hl2 hc1 hc2 hw ha;have hlt:k < s.size:=by omega
  have hr:=q9o (s[k].toNat:Int) (by omega)
  by_cases hc:q1x k s[k]=0
  ·have hk6:k≠65536:=by intro e;unfold q1x at hc;rw[if_pos e] at hc;omega
   have hk0:zy s[k].toNat≠0:=by intro e;unfold q1x at hc;rw[if_neg hk6,if_pos e] at hc;omega
   by_cases hb:zy s[k].toNat=1
   ·rw[qap s k start line ls hlt hc hb];have hC:Chain s (k + 1) (evs s (s.data.toList.drop (k + 1)) (k + 1) (k + 1) (if s[k]=10 then line + 1 else line) (if s[k]=10 then k + 1 else ls)):=by
     have e1:(if s[k]=10 then line + 1 else line)=q3e (s.data.toList.take (k + 1)):=by
      rw[take_snoc s k hlt,qao,←hl1] <;> split <;> rfl
     have e2:(q7i (s.data.toList.take (k + 1)):Int)=((k + 1:Nat):Int) - ((if s[k]=10 then k + 1 else ls:Nat):Int) + 1:=by
      rw[take_snoc s k hlt,q8p]
      by_cases e:s[k]=10
      ·rw[if_pos e,if_pos e];omega
      ·rw[if_neg e,if_neg e];omega
     refine ih (k + 1) (k + 1) _ _ (by omega) (by omega) (Nat.le_refl _) e1 e1 e2 e2 (fun i h1 h2=>by omega) (fun _ h=>?_)
     simpa using hb
    by_cases h:start < k
    ·rw[if_pos h];exact .word (Nat.le_refl _) ⟨rfl,h,by omega,by omega,rfl,by show (line:Int)=_;omega,hc2.symm,hw,ha,fun _=>hb⟩ hC
    ·rw[if_neg h];exact hC.less (by omega)
   ·rw[qe3 s k start line ls hlt hc hb];have hn:s[k]≠10:=by intro e;rw[e] at hb;exact hb (by decide)
    refine ih (k + 1) start line ls (by omega) (by omega) (by omega) ?_ hl2 ?_ hc2 (fun i h1 h2=>?_) ha
    ·rw[take_snoc s k hlt,qao,if_neg hn];omega
    ·rw[take_snoc s k hlt,q8p,if_neg hn];omega
    ·by_cases e:i=k
     ·subst e;intro _;show (2:Int)≤_;omega
     ·exact hw i h1 (by omega)
  ·rw[qfc s k start line ls hlt hc];refine .fault (n:=k) hs ⟨rfl,rfl,hlt,by show (line:Int)=_;omega,hc1.symm,?_⟩;unfold q1x
   by_cases e:k=65536
   ·rw[if_pos e];exact .inl ⟨rfl,e⟩
   ·rw[if_neg e]
    by_cases e0:zy s[k].toNat=0
    ·rw[if_pos e0];exact .inr ⟨rfl,by omega,fun _=>e0⟩
    ·exact absurd (by unfold q1x;rw[if_neg e,if_neg e0]) hc
theorem qe5 (s:ByteArray):Chain s 0 (events s):=by
 unfold events;have:=qm2 s s.size 0 0 1 0 (by omega) (by omega) (Nat.le_refl _) rfl rfl (by rfl) (by rfl) (fun i h1 h2=>by omega) (fun h=>by omega)
 simpa using this
inductive ToldTo (s:ByteArray):Nat→List Tok→Prop
 | nil {q:Nat}:ToldTo s q []
 | snoc {p q n m:Nat} {l:List Tok} {t:Tok}:ToldTo s p l→p≤n→q5x s t n m→isOpen t.text=false→q2v t.text=false→m < q→ToldTo s q (l++[t])
theorem ToldTo.more {s:ByteArray}{p q:Nat}{l:List Tok}(h:ToldTo s p l)(hq:p≤q):ToldTo s q l:=by
 cases h with
 | nil=>exact .nil
 | snoc a b c d e f=>exact .snoc a b c d e (Nat.lt_of_lt_of_le f hq)
theorem ToldTo.last {s:ByteArray}{q:Nat}{l:List Tok}(h:ToldTo s q l)(t:Tok)(ht:l[l.length - 1]?=some t):∃n m,q5x s t n m∧m < q:=by
 cases h with
 | nil=>simp at ht
 | snoc a b c d e f =>
  simp only[lAp,List.length_singleton,Nat.add_sub_cancel,List.getElem?_concat_length,Option.some.injEq] at ht;subst ht;exact⟨_,_,c,f⟩
theorem ToldTo.at {s:ByteArray}{q:Nat}{l:List Tok}(h:ToldTo s q l):∀(i:Nat) (t:Tok),l[i]?=some t →
  ∃n m,q5x s t n m∧isOpen t.text=false∧q2v t.text=false∧∀t',0 < i→l[i - 1]?=some t'→∃n' m',q5x s t' n' m'∧m' < n:=by
 induction h with
 | nil=>intro i t h;simp at h
 | @snoc p q n m l x a b c d e f ih =>
  intro i t ht
  by_cases hi:i < l.length
  ·rw[List.getElem?_append_left hi] at ht;obtain⟨n,m,h1,h2,h3,h4⟩:=ih i t ht;refine⟨n,m,h1,h2,h3,fun t' h0 ht'=>h4 t' h0 ?_⟩
   rwa [List.getElem?_append_left (by omega)] at ht'
  ·have hi':i=l.length:=by
    have:=(List.getElem?_eq_some_iff.1 ht).1
    simp only[lAp,List.length_singleton] at this;omega
   subst hi';simp only[List.getElem?_concat_length,Option.some.injEq] at ht;subst ht;refine⟨n,m,c,d,e,fun t' h0 ht'=>?_⟩;rw[List.getElem?_append_left (by omega)] at ht';obtain⟨n',m',h1,h2⟩:=a.last t' ht';exact⟨n',m',h1,by omega⟩
def qki (s:ByteArray)(told:List Tok)(t:Tok)(c:Int):Prop :=
 (∃q n,ToldTo s q told∧q≤n∧qkh s t c n)∨∃q n m,ToldTo s q told∧q≤n∧q5x s t n m∧(c=11∨c=12∧isOpen t.text=true∨c=13∧told.length=16384)
def qp5 (s:ByteArray)(r:Rd):Prop:=q3k r=true→isOpen r.opn.text=true∧∃q n m,ToldTo s q r.told∧q≤n∧q5x s r.opn n m
theorem qi4 (o t:Tok):(takeC o t).1=0∨(takeC o t).1=11:=by
 unfold takeC;split
 ·exact .inl rfl
 ·split
  ·exact .inr rfl
  ·exact .inl rfl
theorem qm3 (o t:Tok):(takeC o t).2=o∨(takeC o t).2=q0x:=by
 unfold takeC;split
 ·exact .inr rfl
 ·split
  ·exact .inl rfl
  ·exact .inl rfl
theorem qm4 (s:ByteArray):∀(es:List (Tok × Int)) (p:Nat) (r:Rd),Chain s p es→ToldTo s p r.told→qp5 s r →
  (∃q,ToldTo s q (wu r es).1.told)∧qp5 s (wu r es).1∧((wu r es).2=none→s.size≤65536)∧∀t c,(wu r es).2=some (t,c)→qki s (wu r es).1.told t c:=by
 intro es
 induction es with
 | nil =>
  intro p r hC hT hO
  cases hC with
  | done h=>exact⟨⟨p,hT⟩,hO,fun _=>h,fun t c h=>by cases h⟩
 | cons e es ih =>
  intro p r hC hT hO
  cases hC with
  | fault hpn hf =>
   rename_i n t c
   have hne:c≠0:=by rcases hf.code with ⟨h,_⟩ | ⟨h,_⟩ <;> omega
   simp only[wu,if_neg hne];exact⟨⟨p,hT⟩,hO,fun h=>(by cases h),fun t' c' h=>by cases h;exact .inl ⟨p,n,hT,hpn,hf⟩⟩
  | word hp hs hC =>
   rename_i n m t
   simp only[wu,if_true];have hnm:=hs.lt
   by_cases hin:q3k r=true
   ·have e1:qm r t=((takeC r.opn t).1,{ r with opn:=(takeC r.opn t).2 }):=by unfold qm;rw[if_pos hin]
    have hO':qp5 s { r with opn:=(takeC r.opn t).2 }:=by
     intro h;rcases qm3 r.opn t with e | e
     ·simp only[e];exact hO hin
     ·simp only[q3s,e] at h;exact absurd h (by decide)
    rw[e1]
    by_cases hc:(takeC r.opn t).1=0
    ·simp only[hc,if_true];exact ih _ _ hC (hT.more (by omega)) hO'
    ·simp only[if_neg hc];have h11:(takeC r.opn t).1=11:=(qi4 r.opn t).resolve_left hc;exact⟨⟨p,hT⟩,hO',fun h=>(by cases h),fun t' c' h=>by cases h;exact .inr ⟨p,n,m,hT,hp,hs,.inl h11⟩⟩
   ·by_cases ho:isOpen t.text=true
    ·have e1:qm r t=(0,{ r with opn:=t }):=by unfold qm;rw[if_neg hin,if_pos ho]
     rw[e1];simp only[if_true];exact ih _ _ hC (hT.more (by omega)) (fun _=>⟨ho,p,n,m,hT,hp,hs⟩)
    ·by_cases hsh:q2v t.text=true
     ·have e1:qm r t=(11,r):=by unfold qm;rw[if_neg hin,if_neg ho,if_pos hsh]
      rw[e1];simp only[show ¬(11:Int)=0 by omega,if_false];exact⟨⟨p,hT⟩,hO,fun h=>(by cases h),fun t' c' h=>by cases h;exact .inr ⟨p,n,m,hT,hp,hs,.inl rfl⟩⟩
     ·by_cases hl:r.told.length=16384
      ·have e1:qm r t=(13,r):=by unfold qm;rw[if_neg hin,if_neg ho,if_neg hsh,if_pos hl]
       rw[e1];simp only[show ¬(13:Int)=0 by omega,if_false];exact⟨⟨p,hT⟩,hO,fun h=>(by cases h),fun t' c' h=>by cases h;exact .inr ⟨p,n,m,hT,hp,hs,.inr (.inr ⟨rfl,hl⟩)⟩⟩
      ·have e1:qm r t=(0,{ r with told:=r.told++[t] }):=by unfold qm;rw[if_neg hin,if_neg ho,if_neg hsh,if_neg hl]
       rw[e1];simp only[if_true];exact ih _ _ hC (.snoc hT hp hs (by simpa using ho) (by simpa using hsh) (Nat.lt_succ_self m)) (fun h=>absurd h hin)
theorem q6h (s:ByteArray):(∃q,ToldTo s q (yt s).1)∧((yt s).2=none→s.size≤65536)∧∀t c,(yt s).2=some (t,c)→qki s (yt s).1 t c:=by
 obtain⟨h1,h2,h3,h4⟩:=qm4 s (events s) 0 rd0 (qe5 s) .nil (fun h=>absurd h (by rw[q3s];decide));unfold yt;generalize hR:wu rd0 (events s)=R at h1 h2 h3 h4 ⊢;obtain⟨r,f⟩:=R
 cases f with
 | some f=>exact⟨h1,fun h=>(by cases h),h4⟩
 | none =>
  refine⟨h1,fun _=>h3 rfl,fun t c h=>?_⟩;simp only at h
  by_cases hin:q3k r=true
  ·rw[if_pos hin] at h
   cases h;obtain⟨ho,q,n,m,hT,hp,hs⟩:=h2 hin;exact .inr ⟨q,n,m,hT,hp,hs,.inr (.inl ⟨rfl,ho⟩)⟩
  ·rw[if_neg hin] at h;cases h
theorem qas (r:Rd)(t:Tok)(h:r.told.length≤16384):(qm r t).2.told.length≤16384:=by
 unfold qm
 split
 ·exact h
 ·split
  ·exact h
  ·split
   ·exact h
   ·split
    ·exact h
    ·simp;omega
theorem qd1:∀(es:List (Tok × Int)) (r:Rd),r.told.length≤16384→(wu r es).1.told.length≤16384
 | [],r,h=>h
 | (t,c) :: es,r,h=>by
  unfold wu
  split
  ·split
   ·exact qd1 es _ (qas r t h)
   ·exact qas r t h
  ·exact h
theorem qm5 (s:ByteArray):(yt s).1.length≤16384:=by
 have h:=qd1 (events s) rd0 (by decide);unfold yt;generalize wu rd0 (events s)=R at h ⊢;obtain⟨r,f⟩:=R
 cases f <;> exact h
open Go.RowKit
theorem qfe (s:ByteArray)(off:Nat)(w:World)(hs:s.size≤281474976710656)(ho:off≤s.size) :
  Calls Tryz.prog 58 #[.string s,.int .i64 off] w fun e w'=>e=.returned (.tuple #[qhz s off,.bool true])∧Below w.heap.size w w':=by
 have h0:(0:Int)≤off:=by omega
 have h1:(off:Int)≤s.size:=by omega
 have hlast:=qhy (s.extract 0 off) 10 (s.extract 0 off).size;rw[size_ext s off ho] at hlast;have hx:(s.extract 0 off).size < 4611686018427387904:=by rw[size_ext s off ho];omega
 have hl:=qe2 s off;have hle:Hid (((Lib.countByte (s.extract 0 off).data.toList 10:Nat):Int) + 1=q3e (s.data.toList.take off)):=qoy s off;have hce:Hid ((off:Int) - (Lib.lastIndexByte (s.extract 0 off) 10 + 1) + 1=q7i (s.data.toList.take off)):=col_ext s off ho;obtain⟨C,hC⟩:∃C:Nat,C=Lib.countByte (s.extract 0 off).data.toList 10:=⟨_,rfl⟩;obtain⟨D,hD⟩:∃D:Int,D=Lib.lastIndexByte (s.extract 0 off) 10:=⟨_,rfl⟩;have hD0:-1≤D∧D < off:=by rw[hD];unfold Lib.lastIndexByte;rw[size_ext s off ho];exact hlast
 have hC0:(C:Int)≤off:=by have:=hle.out;rw[←hC] at this;omega
 rw[←hC] at hle;rw[←hD] at hce;have HC:=hid hC;have HD:=hid hD;clear hC hD hlast hl;obtain⟨hD1,hD2⟩:=hD0;go_enter Tryz.func58,Tryz.ntmps58;go_wp2_with fail;refine (Tryz.strings_Count_one _ _ _).mono ?_;rintro e w1 ⟨rfl,hw1⟩;subst hw1;rw[←HC.out];go_wp2_with fail;refine (Tryz.strings_LastIndexByte _ _ hx _).mono ?_;rintro e w1 ⟨rfl,hw1⟩;subst hw1;rw[←HD.out]
 go_wp2
 refine bodyPost_ret (v:=.tuple #[qhz s off,.bool true]) ?_ rfl ⟨rfl,bRf.alloc (Nat.le_refl _) _⟩;unfold qhz;rw[←hle.out,←hce.out];simp[results,Tryz.results58,go_sem]
end S.K
namespace S
open Go.RowKit
def toT (t:K.Tok):Tok:=⟨t.text,t.off,t.line,t.col⟩
def q0e (s:ByteArray):List Tok:=(K.yt s).1.map toT
theorem qd2 (l:List K.Tok):K.rowOf l=rowT (l.map toT):=by
 unfold K.rowOf rowT;rw[List.flatMap_map]
 rfl
def runT:PS→List Tok→PS × Option (Tok × Int)
 | P,[]=>(P,none)
 | P,t :: ts=>if (qm P t).1=0 then runT (qm P t).2 ts else ((qm P t).2,some (t,(qm P t).1))
def ps0:PS:=⟨[],false,q2i⟩
def q3l (s:ByteArray):Tok:=⟨⟨#[]⟩,s.size,K.q3e (s.data.toList.take s.size),K.q7i (s.data.toList.take s.size)⟩
def je (s:ByteArray):PS × Option (Tok × Int) :=
 match runT ps0 (q0e s) with
 | (P,some f)=>(P,some f)
 | (P,none)=>match (K.yt s).2 with
  | some f=>(P,some (toT f.1,f.2))
  | none=>if (P.opn || wtB P.wt)=true then (P,some (q3l s,63)) else (P,none)
theorem q8u:∀(ts:List Tok) (P:PS) (t:Tok) (Q:PS),runT P ts=(Q,none)→runT P (ts++[t])=if (qm Q t).1=0 then ((qm Q t).2,none) else ((qm Q t).2,some (t,(qm Q t).1))
 | [],P,t,Q,h=>by
  cases h
  rfl
 | u :: ts,P,t,Q,h=>by
  unfold runT at h;rw[List.cons_append];unfold runT
  by_cases hc:(qm P u).1=0
  ·rw[if_pos hc] at h ⊢;exact q8u ts _ t Q h
  ·rw[if_neg hc] at h
   cases h
theorem qd3:∀(ts us:List Tok) (P Q:PS) (f:Tok × Int),runT P ts=(Q,some f)→runT P (ts++us)=(Q,some f)
 | [],us,P,Q,f,h=>by cases h
 | u :: ts,us,P,Q,f,h=>by
  unfold runT at h;rw[List.cons_append];unfold runT
  by_cases hc:(qm P u).1=0
  ·rw[if_pos hc] at h ⊢;exact qd3 ts us _ Q f h
  ·rw[if_neg hc] at h ⊢;exact h
def q47 (s:Stm)(j:Nat):Prop:=s.words.length≤j∧s.proof.length≤j
def q6i (P:PS)(j:Nat):Prop:=P.l.length≤j∧∀s ∈ P.l,q47 s j
theorem q47.up {s:Stm}{j:Nat}(h:q47 s j):q47 s (j + 1):=⟨Nat.le_succ_of_le h.1,Nat.le_succ_of_le h.2⟩
theorem qi5 {s:Stm}{t:Tok}{j:Nat}(h:q47 s j):q47 (q69 s t).2 (j + 1):=by
 unfold q69
 split
 ·exact⟨h.up.1,by simp;exact h.2⟩
 ·split
  ·exact h.up
  ·exact⟨by simp;exact h.1,h.up.2⟩
theorem qi6 {s:Stm}{j:Nat}(h:q47 s j):q47 (q5t s).2 (j + 1):=by
 unfold q5t
 split
 ·split
  ·exact h.up
  ·split
   ·exact h.up
   ·exact h.up
 ·exact h.up
theorem qi7 {s:Stm}{t:Tok}{j:Nat}(h:q47 s j):q47 (q3f s t).2 (j + 1):=by
 unfold q3f
 split
 ·exact h.up
 ·split
  ·exact h.up
  ·exact h.up
theorem qcl {s:Stm}{t:Tok}{j:Nat}(h:q47 s j):q47 (yu s t).2.1 (j + 1):=by
 unfold yu
 split
 ·exact qi5 h
 ·split
  ·exact qi6 h
  ·split
   ·exact qi7 h
   ·exact h.up
theorem q6j {P:PS}{t:Tok}{j:Nat}(h:q6i P j):q6i (qm P t).2 (j + 1):=by
 have up:q6i P (j + 1):=⟨Nat.le_succ_of_le h.1,fun s hs=>(h.2 s hs).up⟩;unfold qm
 split
 ·cases hl:P.l.getLast? with
  | none=>exact up
  | some s =>
   have hm:s ∈ P.l:=List.mem_of_getLast? hl;refine⟨?_,fun u hu=>?_⟩
   ·have h1:=h.1;simp only[lAp,List.length_dropLast,List.length_singleton];omega
   ·rcases mAp.1 hu with hu | hu
    ·exact up.2 u (List.dropLast_subset _ hu)
    ·rw[mSg.1 hu];exact qcl (h.2 s hm)
 ·unfold q0p
  split
  ·split
   ·exact up
   ·exact up
  ·split
   ·exact up
   ·split
    ·exact up
    ·refine⟨by simp;exact h.1,fun u hu=>?_⟩;rcases mAp.1 hu with hu | hu
     ·exact up.2 u hu
     ·rw[mSg.1 hu];unfold newS
      split <;> exact⟨Nat.zero_le _,Nat.zero_le _⟩
theorem q8v (s:ByteArray):(q0e s).length≤16384:=by
 unfold q0e;rw[lMa];exact K.qm5 s
theorem qat (s:ByteArray):∀t ∈ q0e s,t.text.size≤65536:=fun t ht=>by
 unfold q0e at ht;obtain⟨u,hu,rfl⟩:=List.mem_map.1 ht;obtain⟨⟨q,hq⟩,_⟩:=K.q6h s;obtain⟨i,hi⟩:=List.getElem?_of_mem hu;obtain⟨n,m,hS,_⟩:=hq.at i u hi
 show u.text.size≤65536
 rw[hS.text,ByteArray.size_extract];have:=hS.le6
 omega
structure RdW (w:World):Prop where
 kb:K.KB w
 mx:∃m,w.cell? ⟨2,0,none⟩=some (.int .i64 m)
 sh:gy w
theorem RdW.under {w w':World}(h:RdW w)(hb:Below w.heap.size w w'):RdW w':=by
 obtain⟨m,hm⟩:=h.mx;have h3:2 < w.heap.size:=bLt hm;exact⟨h.kb.keep (hb.block 1 (by omega)),⟨m,(hb.cell (p:=⟨2,0,none⟩) h3).trans hm⟩,h.sh.under hb⟩
structure q8w (w w':World)(v fv:Value)(its:List Itm)(P:PS)(f:Option (Tok × Int)):Prop where
 own:w'.ownsRow w.heap.size 95 16 v its.length (q42 its)
 all:∀x ∈ its,q0f w' w.heap.size x
 ap:∀x ∈ its,∀b,blk x b→v.ownBlock≠some b
 pw:its.Pairwise fun x y=>∀b,blk x b→¬blk y b
 l:its.map (·.s)=P.l
 ft:match f with
  | none=>fv=.pointer none
  | some f=>∃B,fv=.pointer (some ⟨B,0,none⟩)∧w.heap.size≤B∧w'.heap[B]?=some (.cells #[.int .i64 f.1.off,.int .i64 f.1.line,.int .i64 f.1.col,.string f.1.text,.int .i64 f.2] 31 (0,0))
 bel:Below w.heap.size w w'
theorem q5e {w W W':World} {N R:Nat} {vb vo v fv:Value} {its:List Itm} {wt:Tok} {P:PS} {f:Option (Tok × Int)} (h:RSt N R W vb vo its wt) (hl:its.map (·.s)=P.l) (hN:w.heap.size≤N) (hW:Below w.heap.size w W) (hb:Below W.heap.size W W') (ho:W'.ownsRow W.heap.size 95 16 v its.length (q42 its))
  (hf:match f with
  | none=>fv=.pointer none
  | some f=>∃B,fv=.pointer (some ⟨B,0,none⟩)∧w.heap.size≤B∧W'.heap[B]?=some (.cells #[.int .i64 f.1.off,.int .i64 f.1.line,.int .i64 f.1.col,.string f.1.text,.int .i64 f.2] 31 (0,0))):q8w w W' v fv its P f:=by
 have up:∀x,q0f W N x→q0f W' w.heap.size x:=fun x hx =>
  have h2:=hx.under hb
  ⟨h2.k1,h2.k9,h2.box,nLt hN h2.ge,M.qp h2.ow hN,M.qp h2.op hN,h2.gw,h2.gp,h2.wp,h2.nt,h2.nb⟩
 refine⟨M.qp ho hW.size,fun x hx=>up x (h.all x hx),fun x hx b e e2=>?_,h.pw,hl,hf,hW.trans (hb.mono hW.size)⟩;have h1:=(h.all x hx).lt b e;have h2:=M.zf ho b e2;omega
theorem q5a.lt {N R:Nat}{H:Nat→Prop}{W:World}{P:PS}(h:q5a N R H W P):q5a N R (fun b=>H b∧b < W.heap.size) W P:=by
 obtain⟨vb,vo,its,h1,h2,h3,h4,h5⟩:=h;refine⟨vb,vo,its,h1,h2,h3,h4,fun b e=>⟨h5 b e,?_⟩⟩;rcases e with e | e | ⟨x,hx,e⟩
 ·rw[e];exact h1.lt
 ·exact M.jr h1.own b e
 ·exact (h1.all x hx).lt b e
def q0q (w:World)(s:ByteArray)(e:Ending)(w':World):Prop:=∃v fv its,e=.returned (.tuple #[v,fv])∧q8w w w' v fv its (je s).1 (je s).2
theorem qff (w:World)(s:ByteArray)(hs:s.size≤281474976710656)(hT:RdW w):Calls Tryz.prog 54 #[.string s] w (q0q w s):=by
 obtain⟨m,hm⟩:=hT.mx;have SC:Hid (Calls Tryz.prog 11 #[.string s] w (K.q4n s w)):=callsIn_wide.1 (K.scan_in s w m (by omega) hT.kb hm);have HT:Hid (RdW w):=hT;have HSz:=hid hs;clear hT hm;go_enter Tryz.func54,Tryz.ntmps54;go_wp2_with fail;refine cMo SC.out ?_;rintro e w1 ⟨v,fv,rfl,⟨hO,hF⟩,hB1⟩;obtain⟨ws,hws⟩:=eXb (q0e s);have e0:K.rowOf (K.yt s).1=rowT ws:=by rw[qd2,←hws];rfl
 have e1:(K.yt s).1.length=ws.length:=by rw[←hws];unfold q0e;rw[lMa]
 rw[e0,e1] at hO;obtain⟨av,cv,hv,_,hTk⟩:=wo hO;subst hv;obtain⟨n,hn⟩:=eXb ws.length;have HWS:=hid hws;have HL:=hid hn;have HB1:=hid hB1;have HTk:=hid hTk;have HF:=hid hF;rw[hn];have hn6:n≤16384:=by rw[←hn,←hws];exact q8v s
 clear SC hO hF hB1 hTk hn hws e0 e1 hs;obtain⟨w2,hw2⟩:=eXa (w1.alloc (.cells #[.slice none 0 0,.nilIface,.string ⟨#[]⟩,.int .i64 0,.int .i64 0,.int .i64 0] 160));have hk2:w2.heap[w1.heap.size]?=some (.cells #[.slice none 0 0,.nilIface,.string ⟨#[]⟩,.int .i64 0,.int .i64 0,.int .i64 0] 160 (0,0)):=by rw[hw2];exact heap_alloc_new w1 _
 have B2:Hid (Below w1.heap.size w1 w2):=by rw[hw2];exact qg _ _
 go_upto_region 3 with fail;rw[←hw2];obtain⟨R,hR⟩:=eXb w1.heap.size;rw[hR] at hk2;rw[hR];have R2:Hid (q5a R R (fun b=>R≤b) w2 ps0) :=
  ⟨.slice none 0 0,.nilIface,[],⟨hk2,World.ownsRow_nil _ _ _ _,Nat.le_refl _,(fun e=>by cases e),(fun x hx=>by cases hx),(fun x hx=>by cases hx),List.Pairwise.nil⟩,rfl,fun _=>rfl,(fun e=>by cases e),fun b e=>by
   rcases e with rfl | e | ⟨x,hx,_⟩
   ·exact Nat.le_refl _
   ·cases e
   ·cases hx⟩
 have HR:=hid hR;clear hw2 hk2 hR;go_wp2_with fail
 go_loopw [19] (fun v19 wx=>∃(j:Nat) (P:PS),j≤n∧v19=.int .i64 j∧Hid (runT ps0 (ws.take j)=(P,none))∧Hid (q6i P j)∧Hid (q5a R R (fun b=>R≤b) wx P)∧Hid (Below w1.heap.size w1 wx)) (fun v19 _=>n - (intOf v19).toNat)
 case atStart=>exact⟨0,ps0,Nat.zero_le _,rfl,rfl,⟨Nat.le_refl _,fun s hs=>by cases hs⟩,R2.out,B2.out⟩
 case round =>
  obtain⟨j,P,hj,rfl,hRun,hSm,hRd,hBe⟩:=hrel;have HBw:Hid (Below w.heap.size w wr):=HB1.out.trans (hBe.out.mono HB1.out.size)
  by_cases hlt:j < n
  ·have n1:(j:Int) < (n:Int):=by omega
   obtain⟨t,ht⟩:∃t,ws[j]?=some t:=⟨ws[j]'(by rw[HL.out];exact hlt),gEq _⟩;obtain⟨gb,ob,rfl,x0,x1,x2,x3⟩:=(HTk.out.under hBe.out) j t ht;have HTK:Hid (ws.take (j + 1)=ws.take j++[t]∧t ∈ ws):=⟨by rw[List.take_add_one,ht];rfl,mGe ht⟩;obtain⟨w3,hw3⟩:=eXa (wr.alloc (.cells #[.string t.text,.int .i64 t.off,.int .i64 t.line,.int .i64 t.col] 36));have B3:Hid (Below wr.heap.size wr w3):=by rw[hw3];exact qg _ _
   have K3:Hid (w3.heap[wr.heap.size]?=some (.cells #[.string t.text,.int .i64 t.off,.int .i64 t.line,.int .i64 t.col] 36 (0,0))):=by show _=_;rw[hw3];exact heap_alloc_new wr _
   have H3:=hid hw3;have hRR:R≤wr.heap.size:=by have h:=hBe.out.size;rw[HR.out] at h;exact h
   have hSS:=hSm.out;have TA:Hid (Calls Tryz.prog 96 #[.pointer (some ⟨R,0,none⟩),zo t] w3 (Takes R R (fun b=>R≤b∧b < wr.heap.size) w3 (qm P t))) :=
    take_any w3 R R _ P t (hRd.out.lt.under B3.out) (HT.out.sh.under (HBw.out.trans (B3.out.mono HBw.out.size))) (nLt hRR B3.out.size) (by have:=hSS.1;omega) (fun s hs=>by have:=hSS.2 s hs;exact⟨by have:=this.1;omega,by have:=this.2;omega⟩) (by have:=qat s t (by rw[HWS.out];exact HTK.out.2);omega)
   have HRR:=hid hRR;unfold zo at TA;clear ht hw3 hRR hSS;go_upto_region 6 with fail;rw[←H3.out];clear H3 x0 x1 x2 x3;have y0:w3.cell? ⟨wr.heap.size,0,none⟩=some (.string t.text):=M.qc K3.out 0;have y1:w3.cell? ⟨wr.heap.size,1,none⟩=some (.int .i64 t.off):=M.qc K3.out 1;have y2:w3.cell? ⟨wr.heap.size,2,none⟩=some (.int .i64 t.line):=M.qc K3.out 2;have y3:w3.cell? ⟨wr.heap.size,3,none⟩=some (.int .i64 t.col):=M.qc K3.out 3;go_wp2_with fail;refine cMo TA.out ?_;rintro e w4 ⟨rfl,hr4,hc4⟩;obtain⟨c,hcc⟩:=eXb ((qm P t).1);rw[hcc];have HC:=hid hcc;have K4:Hid (w4.heap[wr.heap.size]?=some (.cells #[.string t.text,.int .i64 t.off,.int .i64 t.line,.int .i64 t.col] 36 (0,0))):=(hc4.block _ (aIx K3.out) fun e=>Nat.lt_irrefl _ e.2).trans K3.out;have R4:Hid (q5a R R (fun b=>R≤b) w4 (qm P t).2):=hr4.mono fun b e=>e.elim (fun e=>e.1) fun e=>nLt (nLt HRR.out B3.out.size) e
   have B4:Hid (Below w1.heap.size w1 w4):=hBe.out.trans ((B3.out.mono (by rw[HR.out];exact HRR.out)).trans (by rw[HR.out];exact hc4.below (nLt HRR.out B3.out.size) fun b e=>e.1));clear TA hr4 hc4 hcc y0 y1 y2 y3
   by_cases hc:c=0
   ·have hc0:(c == 0)=true:=by simpa using hc
    have HN:Hid (runT ps0 (ws.take (j + 1))=((qm P t).2,none)∧q6i (qm P t).2 (j + 1)):=⟨by rw[HTK.out.1,q8u _ _ _ _ hRun.out,if_pos (HC.out.trans hc)],q6j hSm.out⟩;clear hc
    go_wp2
    exact⟨⟨j + 1,_,by omega,by go_num,HN.out.1,HN.out.2,R4.out,B4.out⟩,by simp[intOf];omega⟩
   ·have hc0:(c == 0)=false:=by simpa using hc
    have HP:Hid (je s=((qm P t).2,some (t,c))):=by
     have h1:runT ps0 (ws.take (j + 1))=((qm P t).2,some (t,c)):=by rw[HTK.out.1,q8u _ _ _ _ hRun.out,if_neg (by rw[HC.out];exact hc),HC.out]
     have h2:runT ps0 ws=((qm P t).2,some (t,c)):=by
      have:=qd3 (ws.take (j + 1)) (ws.drop (j + 1)) _ _ _ h1
      rwa [List.take_append_drop] at this
     show _=_
     unfold je;rw[HWS.out,h2]
    have hS':=q6j (t:=t) hSm.out;obtain⟨vb,vo,its,hRS,hl,_,_,_⟩:=R4.out;have hil:its.length≤1048576:=by have h1:=congrArg List.length hl;rw[lMa] at h1;have:=hS'.1;omega
    have TD:Hid (∀wx,Below w4.heap.size w4 wx→Calls Tryz.prog 97 #[.pointer (some ⟨R,0,none⟩)] wx fun e w'=>∃v,e=.returned v∧w'.ownsRow wx.heap.size 95 16 v its.length (q42 its)∧Below wx.heap.size wx w'):=fun wx hb=>qf6 wx R R vb vo its _ (hRS.under hb) hil
    have HRS:Hid (RSt R R w4 vb vo its (qm P t).2.wt∧its.map (·.s)=(qm P t).2.l):=⟨hRS,hl⟩;have HBw4:Hid (Below w.heap.size w w4):=HB1.out.trans (B4.out.mono HB1.out.size);have y0:w4.cell? ⟨wr.heap.size,0,none⟩=some (.string t.text):=M.qc K4.out 0;have y1:w4.cell? ⟨wr.heap.size,1,none⟩=some (.int .i64 t.off):=M.qc K4.out 1;have y2:w4.cell? ⟨wr.heap.size,2,none⟩=some (.int .i64 t.line):=M.qc K4.out 2;have y3:w4.cell? ⟨wr.heap.size,3,none⟩=some (.int .i64 t.col):=M.qc K4.out 3;clear hc hRS hl hS' hil;go_upto_region 8 with fail
    go_region_law (first
     | (go_simp;go_at_call 97;(have hbx:Below w4.heap.size w4 w4.drew:=below_drewN bRf 1);refine cMo (TD.out w4.drew hbx) ?_;rintro e w5 ⟨v5,rfl,ho5,hb5⟩;have B5:Hid (Below w4.heap.size w4 w5):=hbx.trans (hb5.mono hbx.size);have z0:w5.cell? ⟨wr.heap.size,0,none⟩=some (.string t.text):=(B5.out.cell (p:=⟨wr.heap.size,0,none⟩) (bLt y0)).trans y0;have z1:w5.cell? ⟨wr.heap.size,1,none⟩=some (.int .i64 t.off):=(B5.out.cell (p:=⟨wr.heap.size,1,none⟩) (bLt y1)).trans y1;have z2:w5.cell? ⟨wr.heap.size,2,none⟩=some (.int .i64 t.line):=(B5.out.cell (p:=⟨wr.heap.size,2,none⟩) (bLt y2)).trans y2;have z3:w5.cell? ⟨wr.heap.size,3,none⟩=some (.int .i64 t.col):=(B5.out.cell (p:=⟨wr.heap.size,3,none⟩) (bLt y3)).trans y3;have FA:Hid (q0q w s (.returned (.tuple #[v5,.pointer (some ⟨w5.heap.size,0,none⟩)])) (w5.alloc (.cells #[.int .i64 t.off,.int .i64 t.line,.int .i64 t.col,.string t.text,.int .i64 c] 31))):=(by show q0q _ _ _ _;unfold q0q;rw[HP.out];exact⟨_,_,its,rfl,q5e (W:=w4.drew) (HRS.out.1.under hbx) HRS.out.2 (by have:=HB1.out.size;have:=HR.out;omega) (below_drewN HBw4.out 1) (hb5.alloc hb5.size _) (M.zk ho5 _) ⟨w5.heap.size,rfl,nLt HBw4.out.size B5.out.size,heap_alloc_new w5 _⟩⟩);clear ho5 hb5 hbx)
     | (go_simp;go_at_call 97;(have hbx:Below w4.heap.size w4 (w4.alloc (.cells #[.int .i64 t.off,.int .i64 t.line,.int .i64 t.col,.string t.text,.int .i64 c] 31)).drew:=below_drewN (qg _ _) 1);refine cMo (TD.out (w4.alloc (.cells #[.int .i64 t.off,.int .i64 t.line,.int .i64 t.col,.string t.text,.int .i64 c] 31)).drew hbx) ?_;rintro e w5 ⟨v5,rfl,ho5,hb5⟩;have B5:Hid (Below w4.heap.size w4 w5):=hbx.trans (hb5.mono hbx.size);have FB:Hid (q0q w s (.returned (.tuple #[v5,.pointer (some ⟨w4.heap.size,0,none⟩)])) w5):=(by show q0q _ _ _ _;unfold q0q;rw[HP.out];exact⟨_,_,its,rfl,q5e (W:=(w4.alloc (.cells #[.int .i64 t.off,.int .i64 t.line,.int .i64 t.col,.string t.text,.int .i64 c] 31)).drew) (HRS.out.1.under hbx) HRS.out.2 (by have:=HB1.out.size;have:=HR.out;omega) (HBw4.out.trans (hbx.mono HBw4.out.size)) hb5 ho5 ⟨w4.heap.size,rfl,HBw4.out.size,(hb5.block w4.heap.size (by simp)).trans (heap_alloc_new w4 _)⟩⟩);clear ho5 hb5 hbx))
    all_goals go_wp2
    all_goals refine bodyPost_ret (by simp[results,Tryz.results54,go_sem];try rfl) rfl ?_
    all_goals first | exact FA.out | exact FB.out
  ·have n1:¬(j:Int) < (n:Int):=by omega
   obtain rfl:j=n:=by omega
   have HRn:Hid (runT ps0 ws=(P,none)):=by have h:=hRun.out;rw[List.take_of_length_le (by rw[HL.out];exact Nat.le_refl _)] at h;exact h
   obtain⟨vb,vo,its,hRS,hl,hv1,hv2,hv3⟩:=hRd.out;have hil:its.length≤1048576:=by have h1:=congrArg List.length hl;rw[lMa] at h1;have:=hSm.out.1;omega
   have TD:Hid (∀wx,Below wr.heap.size wr wx→Calls Tryz.prog 97 #[.pointer (some ⟨R,0,none⟩)] wx fun e w'=>∃v,e=.returned v∧w'.ownsRow wx.heap.size 95 16 v its.length (q42 its)∧Below wx.heap.size wx w'):=fun wx hb=>qf6 wx R R vb vo its _ (hRS.under hb) hil
   have HRS:Hid (RSt R R wr vb vo its P.wt∧its.map (·.s)=P.l∧w.heap.size≤R):=⟨hRS,hl,by have:=HB1.out.size;have:=HR.out;omega⟩;have MW:Hid _:=qhx wr R R _ P hRd.out;clear hRS hl hv1 hv2 hv3 hil hRun hSm
   cases hsc:(K.yt s).2 with
   | some f =>
    have hF:=HF.out;rw[hsc] at hF;obtain⟨Bf,rfl,hBf,hFa⟩:=hF;have HP:Hid (je s=(P,some (toT f.1,f.2))):=by show _=_;unfold je;rw[HWS.out,HRn.out,hsc]
    have HFa:Hid (K.q5v w1 Bf f.1 f.2∧w.heap.size≤Bf):=⟨hFa,hBf⟩;clear HF hFa hBf hsc;go_wp2_with fail;refine cMo (TD.out wr bRf) ?_;rintro e w5 ⟨v5,rfl,ho5,hb5⟩;have FA:Hid (q0q w s (.returned (.tuple #[v5,.pointer (some ⟨Bf,0,none⟩)])) w5):=by
     show q0q _ _ _ _
     unfold q0q;rw[HP.out];have hb6:Below w1.heap.size w1 w5:=hBe.out.trans (hb5.mono hBe.out.size);exact⟨_,_,its,rfl,q5e (W:=wr) HRS.out.1 HRS.out.2.1 HRS.out.2.2 HBw.out hb5 ho5 ⟨Bf,rfl,HFa.out.2,(hb6.block Bf (aIx HFa.out.1)).trans HFa.out.1⟩⟩
    clear ho5 hb5 TD MW
    go_wp2
    refine bodyPost_ret (by simp[results,Tryz.results54,go_sem];try rfl) rfl ?_;exact FA.out
   | none =>
    have hF:=HF.out;rw[hsc] at hF;subst hF;clear HF
    cases hmw:(P.opn || wtB P.wt) with
    | true =>
     have HP:Hid (je s=(P,some (q3l s,63))):=by show _=_;unfold je;rw[HWS.out,HRn.out,hsc];dsimp only;rw[if_pos hmw]
     rw[hmw] at MW;have PL:Hid (Calls Tryz.prog 58 #[.string s,.int .i64 (s.size:Nat)] wr fun e w'=>e=.returned (.tuple #[K.qhz s s.size,.bool true])∧Below wr.heap.size wr w'):=K.qfe s s.size wr HSz.out (Nat.le_refl _);have hsz:=HSz.out;clear hsc hmw;go_wp2_with fail;refine cMo MW.out ?_;rintro e w5 ⟨rfl,hw5⟩;subst w5;clear MW;go_wp2_with fail;refine cMo PL.out ?_;rintro e w6 ⟨rfl,hb6⟩;obtain⟨p1,hp1⟩:=eXb (K.q3e (s.data.toList.take s.size));obtain⟨p2,hp2⟩:=eXb (K.q7i (s.data.toList.take s.size));have HE:Hid (q3l s=⟨⟨#[]⟩,s.size,p1,p2⟩):=by show _=_;unfold q3l;rw[hp1,hp2]
     unfold K.qhz;rw[hp1,hp2];obtain⟨w7,hw7⟩:=eXa (w6.alloc (.cells #[.int .i64 s.size,.int .i64 p1,.int .i64 p2] 28));have B7:Hid (Below wr.heap.size wr w7):=by rw[hw7];exact hb6.alloc hb6.size _
     have K7:Hid (w7.heap[w6.heap.size]?=some (.cells #[.int .i64 s.size,.int .i64 p1,.int .i64 p2] 28 (0,0))):=by show _=_;rw[hw7];exact heap_alloc_new w6 _
     clear hp1 hp2 PL hb6;go_upto_region 12 with fail;rw[←hw7];clear hw7;have y0:w7.cell? ⟨w6.heap.size,0,none⟩=some (.int .i64 s.size):=M.qc K7.out 0;have y1:w7.cell? ⟨w6.heap.size,1,none⟩=some (.int .i64 p1):=M.qc K7.out 1;have y2:w7.cell? ⟨w6.heap.size,2,none⟩=some (.int .i64 p2):=M.qc K7.out 2;obtain⟨w8,hw8⟩:=eXa (w7.alloc (.cells #[.int .i64 s.size,.int .i64 p1,.int .i64 p2,.string ⟨#[]⟩,.int .i64 63] 31));have B8:Hid (Below wr.heap.size wr w8):=by rw[hw8];exact B7.out.alloc B7.out.size _
     have K8:Hid (w8.heap[w7.heap.size]?=some (.cells #[.int .i64 s.size,.int .i64 p1,.int .i64 p2,.string ⟨#[]⟩,.int .i64 63] 31 (0,0))):=by show _=_;rw[hw8];exact heap_alloc_new w7 _
     have H8:=hid hw8;clear hw8;go_wp2_with fail;rw[←H8.out];refine cMo (TD.out w8 B8.out) ?_;rintro e w5 ⟨v5,rfl,ho5,hb5⟩;have FA:Hid (q0q w s (.returned (.tuple #[v5,.pointer (some ⟨w7.heap.size,0,none⟩)])) w5):=by
      show q0q _ _ _ _
      unfold q0q;rw[HP.out,HE.out];have hw8':=HBw.out.trans (B8.out.mono HBw.out.size);exact⟨_,_,its,rfl,q5e (W:=w8) (HRS.out.1.under B8.out) HRS.out.2.1 HRS.out.2.2 hw8' hb5 ho5 ⟨w7.heap.size,rfl,nLt HBw.out.size B7.out.size,(hb5.block _ (aIx K8.out)).trans K8.out⟩⟩
     clear ho5 hb5 TD
     go_wp2
     refine bodyPost_ret (by simp[results,Tryz.results54,go_sem];try rfl) rfl ?_;exact FA.out
    | false =>
     have HP:Hid (je s=(P,none)):=by show _=_;unfold je;rw[HWS.out,HRn.out,hsc];dsimp only;rw[if_neg (by rw[hmw];exact Bool.false_ne_true)]
     rw[hmw] at MW;clear hsc hmw;go_wp2_with fail;refine cMo MW.out ?_;rintro e w5 ⟨rfl,hw5⟩;subst w5;clear MW;go_wp2_with fail;refine cMo (TD.out wr bRf) ?_;rintro e w5 ⟨v5,rfl,ho5,hb5⟩;have FA:Hid (q0q w s (.returned (.tuple #[v5,.pointer none])) w5):=by
      show q0q _ _ _ _
      unfold q0q;rw[HP.out];exact⟨_,_,its,rfl,q5e (W:=wr) HRS.out.1 HRS.out.2.1 HRS.out.2.2 HBw.out hb5 ho5 rfl⟩
     clear ho5 hb5 TD
     go_wp2
     refine bodyPost_ret (by simp[results,Tryz.results54,go_sem];try rfl) rfl ?_;exact FA.out
open Go.Shelf
def Tryz.qe6:Go.Shelf.Ren:=⟨fun | 144=>179 | 143=>177 | 219=>236 | 217=>262 | 225=>263 | 224=>264 | 267=>265 | 266=>274 | 314=>275 | n=>n,fun | 9=>9 | 4=>4 | 3=>3 | 5=>5 | 46=>116 | 146=>300 | 51=>299 | n=>n,fun | 1=>2 | n=>n⟩
theorem Tryz.laysM144:Go.Proofs.LaysM.n144 Tryz.prog Tryz.qe6:={
 mixed:=by kernel_rfl
 f143:=Tryz.func177.trans (congrArg some (by kernel_rfl))
 f144:=Tryz.func179.trans (congrArg some (by kernel_rfl))
 f217:=Tryz.func262.trans (congrArg some (by kernel_rfl))
 f219:=Tryz.func236.trans (congrArg some (by kernel_rfl))
 f224:=Tryz.func264.trans (congrArg some (by kernel_rfl))
 f225:=Tryz.func263.trans (congrArg some (by kernel_rfl))
 f266:=Tryz.func274.trans (congrArg some (by kernel_rfl))
 f267:=Tryz.func265.trans (congrArg some (by kernel_rfl))
 f314:=Tryz.func275.trans (congrArg some (by kernel_rfl))
 t3:=Tryz.underlying3
 a3:=Tryz.isAgg3
 z3:=Tryz.sizeOf3
 v3:=Tryz.zeroValue3
 t4:=Tryz.underlying4
 a4:=Tryz.isAgg4
 z4:=Tryz.sizeOf4
 v4:=Tryz.zeroValue4
 t5:=Tryz.underlying5
 a5:=Tryz.isAgg5
 z5:=Tryz.sizeOf5
 v5:=Tryz.zeroValue5
 t9:=Tryz.underlying9
 a9:=Tryz.isAgg9
 z9:=Tryz.sizeOf9
 v9:=Tryz.zeroValue9
 t46:=Tryz.underlying116
 a46:=Tryz.isAgg116
 z46:=Tryz.sizeOf116
 v46:=Tryz.zeroValue116
 t51:=Tryz.underlying299
 a51:=Tryz.isAgg299
 z51:=Tryz.sizeOf299
 v51:=Tryz.zeroValue299
 t146:=Tryz.underlying300
 a146:=Tryz.isAgg300
 z146:=Tryz.sizeOf300
 v146:=Tryz.zeroValue300
 g1:=by kernel_rfl
 i3:=by kernel_rfl
 i4:=by kernel_rfl
 i5:=by kernel_rfl
 i9:=by kernel_rfl
 i46:=by kernel_rfl
 i51:=by kernel_rfl
 i146:=by kernel_rfl
 m1:=by kernel_rfl
 s1_3:=fun w h=>Go.Proofs.cell_of_shapedOpen_int (zero:=#[.int .i64 0]) (t:=3) h (of_decide_eq_true (by kernel_rfl)) (by kernel_rfl) rfl (by kernel_rfl) (by kernel_rfl) Tryz.underlying3 }
end S
end Go.Proofs.YtbancemhfjjmlaaGreatDoor
