/- Laid together: SKScanB. -/
import Derived.Test.YtbancemhfjjmlaaGreatDoorQA04
import Derived.RangeFuncNested
import Derived.RangeFuncBound
import Derived.RangeFuncCalls
import Derived.RangeFuncLeaves
import Derived.Shelf.Abstract
import Derived.Shelf.RegionOpen
import Derived.OwnWalkIn
import Derived.TacticsInMore
import Derived.LoopNIn
import Derived.LoopIn
import Derived.Deep.RegionHeld3
set_option maxRecDepth 100000
set_option maxHeartbeats 32000000
namespace Go.Proofs.YtbancemhfjjmlaaGreatDoor
namespace S.K
open Go.RowKit Go.Shelf
attribute [local go_sem] Oper.semAt_some
structure Turn (B:Nat)(A A':World):Prop where
 os:A'.os=A.os
 tape:A'.tape=A.tape
 output:A'.output=A.output
 size:A.heap.size≤A'.heap.size
 block:∀k,k < A.heap.size→k≠B→k≠B + 1→A'.heap[k]?=A.heap[k]?
theorem Turn.refl (B:Nat)(A:World):Turn B A A:=⟨rfl,rfl,rfl,Nat.le_refl _,fun _ _ _ _=>rfl⟩
theorem Turn.trans {B:Nat}{A A' A'':World}(h:Turn B A A')(k:Turn B A' A''):Turn B A A'' :=
 ⟨k.os.trans h.os,k.tape.trans h.tape,k.output.trans h.output,Nat.le_trans h.size k.size,fun i hi h1 h2=>(k.block i (Nat.lt_of_lt_of_le hi h.size) h1 h2).trans (h.block i hi h1 h2)⟩
theorem Turn.alloc (B:Nat)(A:World)(O:Obj):Turn B A (A.alloc O):=⟨rfl,rfl,rfl,by simp,fun k hk _ _=>Below.heap_alloc A O k hk⟩
theorem Turn.drew (B:Nat)(A:World):Turn B A A.drew:=⟨rfl,rfl,rfl,Nat.le_refl _,fun _ _ _ _=>rfl⟩
theorem Turn.set1 (B:Nat)(A:World)(v:Value):Turn B A (A.setCell ⟨B,0,none⟩ v):=⟨rfl,rfl,rfl,by simp[World.setCell],fun k _ h1 _=>Below.heap_setCell _ _ _ k h1⟩
theorem Turn.set2 (B:Nat)(A:World)(v:Value):Turn B A (A.setCell ⟨B + 1,0,none⟩ v):=⟨rfl,rfl,rfl,by simp[World.setCell],fun k _ _ h2=>Below.heap_setCell _ _ _ k h2⟩
theorem KB.keep {W W':World}(h:KB W)(hb:W'.heap[1]?=W.heap[1]?):KB W':=fun i hi=>(World.cell?_of_block (a:=⟨1,i,none⟩) hb).trans (h i hi)
theorem qjp (s:ByteArray)(k:Nat)(h:k < s.size):q5l s k=q1e k s[k]:=by
 unfold q5l q1e;rw[getD_byte s k h]
theorem qib {k:Nat}{c:UInt8}(h:q1e k c=0)(hk:k≤65536):k + 1≤65536:=by
 unfold q1e at h
 by_cases e:k=65536
 ·rw[if_pos e] at h;cases h
 ·omega
def q7r (B R:Nat)(J Jx:List (Tok × Int)→World→Prop)(pre:List (Tok × Int))(x:Tok × Int)(W:World):Ending→World→Prop:=fun e W' =>
 (e=.returned (.bool true)∧J (pre++[x]) W'∧Keeps (B + 2) R W W')∨(e=.returned (.bool false)∧Jx (pre++[x]) W')
theorem q7r.out {B R:Nat}{J Jx:List (Tok × Int)→World→Prop}{pre:List (Tok × Int)}{x:Tok × Int}{W:World}{e:Ending}{W':World}(h:q7r B R J Jx pre x W e W') :
  ∃b:Bool,e=.returned (.bool b)∧Hid ((b=true→J (pre++[x]) W'∧Keeps (B + 2) R W W')∧(b=false→Jx (pre++[x]) W')):=by
 rcases h with ⟨rfl,h1,h2⟩ | ⟨rfl,h1⟩
 ·exact⟨true,rfl,⟨fun _=>⟨h1,h2⟩,fun h=>by cases h⟩⟩
 ·exact⟨false,rfl,⟨fun h=>(by cases h),fun _=>h1⟩⟩
theorem iter_in (F:Fence) (hFw:Hid (F=Fence.wide)) (hro:F.round=none) (h34:F.fn 117) (h35:F.fn 118) (h36:F.fn 119) (h37:F.fn 120) (n l T B R:Nat) (hn:1≤n) (s:ByteArray) (J Jx:List (Tok × Int)→World→Prop)
  (hJ:∀pre A A',J pre A→Turn B A A'→J pre A')
  (hY:∀pre x W,J pre W→x.1.text.size≤65536→B + 2≤W.heap.size→YieldAt F (n - 1) Tryz.prog l #[zn x.1,.int .i64 x.2] W (q7r B R J Jx pre x W))
  (W:World) (hB:W.heap.size=B) (hTB:T < B) (_hT0:T≠1) (hTR:T≠R) (hR0:R≠1) (hRB:R < B) (hs:s.size≤281474976710656)
  (hT:Boxed W T 9 (.string s)) (hKB:KB W) (h0:J [] W) :
  CallsIn F n Tryz.prog  117 #[.func (.yield l) #[] #[],.pointer (some ⟨T,0,none⟩)] W fun e W'=>(∃v,e=.returned v)∧(J (events s) W'∨∃pre,pre <+: events s∧Jx pre W'):=by
 have hFe:=hFw.out
 subst hFe
 have hK1:1 < B:=by
  have h:=World.block_lt_of_cell? _ _ (hKB 0 (by omega))
  rw[hB] at h
  exact h
 have lift:∀{m f:Nat} {args:Array Value} {w:World} {Q:Ending→World→Prop},Calls Tryz.prog f args w Q→CallsIn Fence.wide m Tryz.prog f args w Q:=fun h=>callsIn_wide.2 h
 replace lift:=show Hid _ from @lift
 refine callsIn_of_wp Tryz.func117 rfl h34 ?_ hro
 simp only[Tryz.ntmps117,List.size_toArray,List.length_cons,List.length_nil,Nat.reduceAdd,Nat.reduceSub,Array.replicate_succ,Array.replicate_zero,List.push_toArray,List.append_toArray,List.nil_append,List.cons_append]
 have hTc:=hT.cell
 gi_wp2
 gi_loopw [5,12] (fun st kk wr=>∃(k start line ls:Nat) (pre:List (Tok × Int)),kk=.int .i64 k∧st=.int .i64 start∧start≤k∧k≤s.size∧k≤65536∧ls≤start∧line≤k + 1∧Hid (events s=pre++evs s (s.data.toList.drop k) k start line ls)∧Hid (J pre wr)∧Boxed wr B 3 (.int .i64 line)∧Boxed wr (B + 1) 3 (.int .i64 ls)∧Boxed wr T 9 (.string s)∧KB wr∧B + 2≤wr.heap.size) (fun _ kk _=>s.size - (intOf kk).toNat)
 case atStart =>
  have b0:=Boxed.new W 3 (.int .i64 1)
  rw[hB] at b0
  have b1:=Boxed.new (W.alloc (.cells #[.int .i64 1] 3)) 3 (.int .i64 0)
  rw[World.size_alloc,hB] at b1
  exact⟨0,0,1,0,[],rfl,rfl,by omega,by omega,by omega,by omega,by omega,rfl,hJ [] _ _ h0 ((Turn.alloc B W _).trans (Turn.alloc B _ _)),b0.alloc _,b1,(hT.alloc _).alloc _,hKB.keep ((Below.heap_alloc _ _ 1 (by simp;omega)).trans (Below.heap_alloc W _ 1 (by omega))),by simp;omega⟩
 case round =>
  obtain⟨k,start,line,ls,pre,rfl,rfl,hsk,hks,hk6,hls,hln,hev,hJp,bB,bB1,bT,hKBr,hsz⟩:=hrel
  have cT:=bT.cell
  have cTa:=q5j cT
  have cB:=bB.cell
  have cB1:=bB1.cell
  by_cases hlt:k < s.size
  ·obtain⟨C,hC⟩:∃C,C=q1e k s[k]:=⟨_,rfl⟩
   have HC:Hid (q5l s k=C):=by show _=_;rw[hC];exact qjp s k hlt
   by_cases hC0:C=0
   ·subst hC0
    have hC':Hid (q1e k s[k]=0):=hC.symm
    clear hC
    obtain⟨q,hq⟩:∃q,q=xq s[k].toNat:=⟨_,rfl⟩
    have Hq:Hid (xq s[k].toNat=q):=hq.symm
    clear hq
    by_cases hq1:q=1
    ·subst hq1
     have hk7:k + 1≤65536:=qib hC'.out hk6
     have hEb:=qdv s k start line ls hlt hC'.out Hq.out
     have hmx:Tryz.prog.follows .mixedOrders=true:=by kernel_rfl
     by_cases hst:start < k
     ·rw[if_pos hst] at hEb
      have hEv:Hid (events s=pre++([(wordAt s start k line ls,0)]++evs s (s.data.toList.drop (k + 1)) (k + 1) (k + 1) (if s[k]=10 then line + 1 else line) (if s[k]=10 then k + 1 else ls))):=by show _=_;rw[hev.out,hEb]
      clear hEb
      have hst1:(start:Int) < (k:Int):=by omega
      have hst0:(0:Int)≤(start:Int):=by omega
      have hk0:(k:Int)≤(s.size:Int):=by omega
      obtain⟨fn,tmps,assign,body,hy,hR⟩:=hY pre (wordAt s start k line ls,0) ((wr.alloc (.cells #[.int .i64 start,.int .i64 line,.int .i64 (start - ls + 1)] 28)).drew) (hJ _ _ _ hJp.out ((Turn.alloc B wr _).trans (Turn.drew B _))) (by show (s.extract start k).size≤65536;rw[ByteArray.size_extract];omega) (by show B + 2≤(wr.alloc _).heap.size;simp;omega)
      unfold zn wordAt at hy
      dsimp only at hy
      gi_wp2_with fail
      refine (lift.out (q3f s k _ hlt hs hKBr)).mono ?_
      rintro e w' ⟨rfl,hw⟩
      have hw':=hw.symm
      subst hw'
      rw[HC.out]
      gi_wp2_with fail
      refine (lift.out (q28 _ _ (Int.natCast_nonneg _) (q66 _) hKBr)).mono ?_
      rintro e w' ⟨rfl,hw⟩
      have hw':=hw.symm
      subst hw'
      rw[Hq.out]
      gi_wp2_with fail
      refine wpIn_region_any (by assumption) ?_
      change wpAnyIn _ _ _ _ _ _ _ _ _ (World.drew _)
      refine wpAnyIn_take (i:=0) (v:=.int .i64 start) rfl rfl (by kernel_rfl) (by kernel_rfl) (by kernel_rfl) (fun _ _ _ h=>h) ⟨Or.inl ⟨by kernel_rfl,fun w=>by kernel_rfl⟩,fun _=>by kernel_rfl⟩ ?_
      refine wpAnyIn_take (i:=1) (v:=.int .i64 k) rfl rfl (by kernel_rfl) (by kernel_rfl) (by kernel_rfl) (fun _ _ _ h=>h) ⟨Or.inl ⟨by kernel_rfl,fun w=>by kernel_rfl⟩,fun _=>by kernel_rfl⟩ ?_
      refine wpAnyIn_take (i:=2) (v:=.bool true) rfl rfl (by kernel_rfl) (by kernel_rfl) (by kernel_rfl) (fun _ _ _ h=>h) ⟨Or.inl ⟨by kernel_rfl,fun w=>by go_simp⟩,fun _=>by kernel_rfl⟩ ?_
      refine wpAnyIn_take (i:=3) (v:=.bool true) rfl rfl (by kernel_rfl) (by kernel_rfl) (by kernel_rfl) (fun _ _ _ h=>h) ⟨Or.inl ⟨by kernel_rfl,fun w=>by kernel_rfl⟩,fun _=>by kernel_rfl⟩ ?_
      refine wpAnyIn_take (i:=4) (v:=.func (.yield l) #[] #[]) rfl rfl (by kernel_rfl) (by kernel_rfl) (by kernel_rfl) (fun _ _ _ h=>h) ⟨Or.inl ⟨by kernel_rfl,fun w=>by kernel_rfl⟩,fun _=>by kernel_rfl⟩ ?_
      refine wpAnyIn_take (i:=6) (v:=.int .i64 start) rfl rfl (by kernel_rfl) (by kernel_rfl) (by kernel_rfl) (fun _ _ _ h=>h) ⟨Or.inl ⟨by kernel_rfl,fun w=>by kernel_rfl⟩,fun _=>by kernel_rfl⟩ ?_
      refine wpAnyIn_take (i:=7) (v:=.int .i64 k) rfl rfl (by kernel_rfl) (by kernel_rfl) (by kernel_rfl) (fun _ _ _ h=>h) ⟨Or.inl ⟨by kernel_rfl,fun w=>by kernel_rfl⟩,fun _=>by kernel_rfl⟩ ?_
      refine wpAnyIn_take (i:=9) (v:=.func (.func 118) #[] #[.pointer (some ⟨B,0,none⟩),.pointer (some ⟨B + 1,0,none⟩)]) rfl rfl (by kernel_rfl) (by kernel_rfl) (by kernel_rfl) (fun _ _ _ h=>h) ⟨Or.inl ⟨by kernel_rfl,fun w=>by kernel_rfl⟩,fun _=>by kernel_rfl⟩ ?_
      refine wpAnyIn_take (i:=10) (v:=.int .i64 start) rfl rfl (by kernel_rfl) (by kernel_rfl) (by kernel_rfl) (fun _ _ _ h=>h) ⟨Or.inl ⟨by kernel_rfl,fun w=>by kernel_rfl⟩,fun _=>by kernel_rfl⟩ ?_
      refine wpAnyIn_ready (rs:=[5,11]) (by kernel_rfl) (by simp) ?_
      refine AllReadyIn.cons rfl (fun K hK=>?_) (AllReadyIn.cons rfl (fun K hK=>?_) AllReadyIn.nil)
      case' refine_1 =>
       go_simp
       refine hK _ _ ?_
       clear hK K
       refine wpAnyIn_take (i:=8) (v:=.string (s.extract start k)) rfl rfl (by kernel_rfl) (by kernel_rfl) (by kernel_rfl) (fun _ _ _ h=>h) ⟨Or.inl ⟨by kernel_rfl,fun w=>by go_simp⟩,fun _=>by kernel_rfl⟩ ?_
       refine wpAnyIn_ready (rs:=[11]) (by kernel_rfl) (by simp) ?_
       refine AllReadyIn.cons rfl (fun K hK=>?_) AllReadyIn.nil
       go_simp
       refine (lift.out (q3i start line ls B (B + 1) _ (by omega) (by omega) (by omega) (by omega) (by exact cB) (by exact cB1))).mono ?_
       rintro e w' ⟨rfl,hw⟩
       subst hw
       go_simp
       refine hK _ _ ?_
       clear hK K
      case' refine_2 =>
       go_simp
       refine (lift.out (q3i start line ls B (B + 1) _ (by omega) (by omega) (by omega) (by omega) (by exact cB) (by exact cB1))).mono ?_
       rintro e w' ⟨rfl,hw⟩
       subst hw
       go_simp
       refine hK _ _ ?_
       clear hK K
       refine wpAnyIn_ready (rs:=[5]) (by kernel_rfl) (by simp) ?_
       refine AllReadyIn.cons rfl (fun K hK=>?_) AllReadyIn.nil
       go_simp
       refine hK _ _ ?_
       clear hK K
       refine wpAnyIn_take (i:=8) (v:=.string (s.extract start k)) rfl rfl (by kernel_rfl) (by kernel_rfl) (by kernel_rfl) (fun _ _ _ h=>h) ⟨Or.inl ⟨by kernel_rfl,fun w=>by go_simp⟩,fun _=>by kernel_rfl⟩ ?_
      all_goals
       refine wpAnyIn_take (i:=12) (v:=.agg #[.string (s.extract start k),.int .i64 start,.int .i64 line,.int .i64 (start - ls + 1)]) rfl rfl (by kernel_rfl) (by kernel_rfl) (by kernel_rfl) (fun _ _ _ h=>h) ⟨Or.inl ⟨by kernel_rfl,fun w=>by go_simp⟩,fun _=>by kernel_rfl⟩ ?_
       refine wpAnyIn_ready (rs:=[13]) (by kernel_rfl) (by simp) ?_
       refine AllReadyIn.cons rfl (fun K hK=>?_) AllReadyIn.nil
       go_simp
       refine RoundIn.mono hR ?_
       rintro e W3 hp
       obtain⟨b,rfl,hb⟩:=hp.out
       go_simp
       refine hK _ _ ?_
       clear hK K
       refine wpAnyIn_take (i:=14) (v:=.bool (!b)) rfl rfl (by kernel_rfl) (by kernel_rfl) (by kernel_rfl) (fun _ _ _ h=>h) ⟨Or.inl ⟨by kernel_rfl,fun w=>by go_simp⟩,fun _=>by kernel_rfl⟩ ?_
       refine wpAnyIn_take (i:=15) (v:=.bool (!b)) rfl rfl (by kernel_rfl) (by kernel_rfl) (by kernel_rfl) (fun _ _ _ h=>h) ⟨Or.inl ⟨by kernel_rfl,fun w=>by go_simp⟩,fun _=>by kernel_rfl⟩ ?_
       refine wpAnyIn_done (by kernel_rfl) ?_ _
       cases b with
       | false =>
        have hJx3:=hb.out.2 rfl
        clear hb
        gi_wp2
        refine bodyPost_ret (results_none rfl _ _ _) rfl ?_
        exact⟨⟨_,rfl⟩,.inr ⟨_,by rw[hEv.out,←List.append_assoc];exact List.prefix_append _ _,hJx3⟩⟩
       | true =>
        obtain⟨hJ3,hk3⟩:=hb.out.1 rfl
        clear hb
        have bB3:Boxed W3 B 3 (.int .i64 line):=(hk3.block B (by omega) (by omega)).trans (bB.alloc _)
        have bB13:Boxed W3 (B + 1) 3 (.int .i64 ls):=(hk3.block (B + 1) (by omega) (by omega)).trans (bB1.alloc _)
        have bT3:Boxed W3 T 9 (.string s):=(hk3.block T (by omega) hTR).trans (bT.alloc _)
        have hKB3:KB W3:=hKBr.keep ((hk3.block 1 (by omega) (by omega)).trans (Below.heap_alloc wr _ 1 (by omega)))
        have hsz3:B + 2≤W3.heap.size:=by have:=hk3.size;simp at this;omega
        have cT3:=bT3.cell
        have cB3:=bB3.cell
        have fB3:=bB3.frozen
        have cB13:=bB13.cell
        have fB13:=bB13.frozen
        have HJ3:Hid (J (pre++[(wordAt s start k line ls,0)]) W3):=hJ3
        clear hJ3
        gi_wp2
        ·have hb10:(((s[k].toNat:Nat):Int) == 10)=true:=by assumption
         have hb':s[k]=10:=(q4s _).1 (by simpa using hb10)
         go_roundw
         case rel=>exact⟨k + 1,k + 1,line + 1,k + 1,pre++[(wordAt s start k line ls,0)],by go_num,by go_num,by omega,by omega,hk7,by omega,by omega,(by show _=_;rw[hEv.out,if_pos hb',if_pos hb',List.append_assoc]),hJ _ _ _ HJ3.out ((Turn.set1 B W3 _).trans (Turn.set2 B _ _)),(by push_cast;exact (bB3.set _).other (by omega) _),(by push_cast;exact (bB13.other (by omega) _).set _),(bT3.other (by omega) _).other (by omega) _,hKB3.keep ((Below.heap_setCell _ _ _ 1 (by simp;omega)).trans (Below.heap_setCell _ _ _ 1 (by simp;omega))),by simp[World.setCell];omega⟩
         case measure=>simp[intOf];omega
        ·have hb10:(((s[k].toNat:Nat):Int) == 10)=false:=by assumption
         have hb':¬s[k]=10:=fun e=>by rw[(q4s _).2 e] at hb10;simp at hb10
         go_roundw
         case rel=>exact⟨k + 1,k + 1,line,ls,pre++[(wordAt s start k line ls,0)],by go_num,by go_num,by omega,by omega,hk7,by omega,by omega,(by show _=_;rw[hEv.out,if_neg hb',if_neg hb',List.append_assoc]),HJ3,bB3,bB13,bT3,hKB3,hsz3⟩
         case measure=>simp[intOf];omega
     ·rw[if_neg hst] at hEb
      have hEv:Hid (events s=pre++([]++evs s (s.data.toList.drop (k + 1)) (k + 1) (k + 1) (if s[k]=10 then line + 1 else line) (if s[k]=10 then k + 1 else ls))):=by show _=_;rw[hev.out,hEb]
      clear hEb
      have hst1:decide ((start:Int) < (k:Int))=false:=by simp;omega
      have HJ3:Hid (J pre wr.drew):=hJ _ _ _ hJp.out (Turn.drew B wr)
      have fB:=bB.frozen
      have fB1:=bB1.frozen
      have bBd:Boxed wr.drew B 3 (.int .i64 line):=bB
      have bB1d:Boxed wr.drew (B + 1) 3 (.int .i64 ls):=bB1
      have bTd:Boxed wr.drew T 9 (.string s):=bT
      have hKBd:KB wr.drew:=hKBr
      have hszd:B + 2≤wr.drew.heap.size:=hsz
      gi_wp2_with fail
      refine (lift.out (q3f s k _ hlt hs hKBr)).mono ?_
      rintro e w' ⟨rfl,hw⟩
      have hw':=hw.symm
      subst hw'
      rw[HC.out]
      gi_wp2_with fail
      refine (lift.out (q28 _ _ (Int.natCast_nonneg _) (q66 _) hKBr)).mono ?_
      rintro e w' ⟨rfl,hw⟩
      have hw':=hw.symm
      subst hw'
      rw[Hq.out]
      gi_wp2_with fail
      refine wpIn_region_any (by assumption) ?_
      change wpAnyIn _ _ _ _ _ _ _ _ _ (World.drew _)
      refine wpAnyIn_take (i:=0) (v:=.int .i64 start) rfl rfl (by kernel_rfl) (by kernel_rfl) (by kernel_rfl) (fun _ _ _ h=>h) ⟨Or.inl ⟨by kernel_rfl,fun w=>by kernel_rfl⟩,fun _=>by kernel_rfl⟩ ?_
      refine wpAnyIn_take (i:=1) (v:=.int .i64 k) rfl rfl (by kernel_rfl) (by kernel_rfl) (by kernel_rfl) (fun _ _ _ h=>h) ⟨Or.inl ⟨by kernel_rfl,fun w=>by kernel_rfl⟩,fun _=>by kernel_rfl⟩ ?_
      refine wpAnyIn_take (i:=2) (v:=.bool false) rfl rfl (by kernel_rfl) (by kernel_rfl) (by kernel_rfl) (fun _ _ _ h=>h) ⟨Or.inl ⟨by kernel_rfl,fun w=>by go_simp⟩,fun _=>by kernel_rfl⟩ ?_
      refine wpAnyIn_take (i:=3) (v:=.bool false) rfl rfl (by kernel_rfl) (by kernel_rfl) (by kernel_rfl) (fun _ _ _ h=>h) ⟨Or.inl ⟨by kernel_rfl,fun w=>by kernel_rfl⟩,fun _=>by kernel_rfl⟩ ?_
      refine wpAnyIn_take (i:=4) (v:=undef) rfl rfl (by kernel_rfl) (by kernel_rfl) (by kernel_rfl) (fun _ _ _ h=>h) ⟨Or.inr ⟨by kernel_rfl,rfl⟩,fun _=>by kernel_rfl⟩ ?_
      refine wpAnyIn_take (i:=5) (v:=undef) rfl rfl (by kernel_rfl) (by kernel_rfl) (by kernel_rfl) (fun _ _ _ h=>h) ⟨Or.inr ⟨by kernel_rfl,rfl⟩,fun _=>by kernel_rfl⟩ ?_
      refine wpAnyIn_take (i:=6) (v:=undef) rfl rfl (by kernel_rfl) (by kernel_rfl) (by kernel_rfl) (fun _ _ _ h=>h) ⟨Or.inr ⟨by kernel_rfl,rfl⟩,fun _=>by kernel_rfl⟩ ?_
      refine wpAnyIn_take (i:=7) (v:=undef) rfl rfl (by kernel_rfl) (by kernel_rfl) (by kernel_rfl) (fun _ _ _ h=>h) ⟨Or.inr ⟨by kernel_rfl,rfl⟩,fun _=>by kernel_rfl⟩ ?_
      refine wpAnyIn_take (i:=8) (v:=undef) rfl rfl (by kernel_rfl) (by kernel_rfl) (by kernel_rfl) (fun _ _ _ h=>h) ⟨Or.inr ⟨by kernel_rfl,rfl⟩,fun _=>by kernel_rfl⟩ ?_
      refine wpAnyIn_take (i:=9) (v:=undef) rfl rfl (by kernel_rfl) (by kernel_rfl) (by kernel_rfl) (fun _ _ _ h=>h) ⟨Or.inr ⟨by kernel_rfl,rfl⟩,fun _=>by kernel_rfl⟩ ?_
      refine wpAnyIn_take (i:=10) (v:=undef) rfl rfl (by kernel_rfl) (by kernel_rfl) (by kernel_rfl) (fun _ _ _ h=>h) ⟨Or.inr ⟨by kernel_rfl,rfl⟩,fun _=>by kernel_rfl⟩ ?_
      refine wpAnyIn_take (i:=11) (v:=undef) rfl rfl (by kernel_rfl) (by kernel_rfl) (by kernel_rfl) (fun _ _ _ h=>h) ⟨Or.inr ⟨by kernel_rfl,rfl⟩,fun _=>by kernel_rfl⟩ ?_
      refine wpAnyIn_take (i:=12) (v:=undef) rfl rfl (by kernel_rfl) (by kernel_rfl) (by kernel_rfl) (fun _ _ _ h=>h) ⟨Or.inr ⟨by kernel_rfl,rfl⟩,fun _=>by kernel_rfl⟩ ?_
      refine wpAnyIn_take (i:=13) (v:=undef) rfl rfl (by kernel_rfl) (by kernel_rfl) (by kernel_rfl) (fun _ _ _ h=>h) ⟨Or.inr ⟨by kernel_rfl,rfl⟩,fun _=>by kernel_rfl⟩ ?_
      refine wpAnyIn_take (i:=14) (v:=undef) rfl rfl (by kernel_rfl) (by kernel_rfl) (by kernel_rfl) (fun _ _ _ h=>h) ⟨Or.inr ⟨by kernel_rfl,rfl⟩,fun _=>by kernel_rfl⟩ ?_
      refine wpAnyIn_ready (rs:=[15]) (by kernel_rfl) (by simp) ?_
      refine AllReadyIn.cons rfl (fun K hK=>?_) AllReadyIn.nil
      go_simp
      refine hK _ _ ?_
      clear hK K
      refine wpAnyIn_done (by kernel_rfl) ?_ _
      gi_wp2
      ·have hb10:(((s[k].toNat:Nat):Int) == 10)=true:=by assumption
       have hb':s[k]=10:=(q4s _).1 (by simpa using hb10)
       go_roundw
       case rel=>exact⟨k + 1,k + 1,line + 1,k + 1,pre,by go_num,by go_num,by omega,by omega,hk7,by omega,by omega,(by show _=_;rw[hEv.out,if_pos hb',if_pos hb',List.nil_append]),hJ _ _ _ HJ3.out ((Turn.set1 B wr.drew _).trans (Turn.set2 B _ _)),(by push_cast;exact (bBd.set _).other (by omega) _),(by push_cast;exact (bB1d.other (by omega) _).set _),(bTd.other (by omega) _).other (by omega) _,hKBd.keep ((Below.heap_setCell _ _ _ 1 (by simp;omega)).trans (Below.heap_setCell _ _ _ 1 (by simp;omega))),by simp[World.setCell];omega⟩
       case measure=>simp[intOf];omega
      ·have hb10:(((s[k].toNat:Nat):Int) == 10)=false:=by assumption
       have hb':¬s[k]=10:=fun e=>by rw[(q4s _).2 e] at hb10;simp at hb10
       go_roundw
       case rel=>exact⟨k + 1,k + 1,line,ls,pre,by go_num,by go_num,by omega,by omega,hk7,by omega,by omega,(by show _=_;rw[hEv.out,if_neg hb',if_neg hb',List.nil_append]),HJ3,bBd,bB1d,bTd,hKBd,hszd⟩
       case measure=>simp[intOf];omega
    ·have hq2:(q != 1)=true:=by simpa using hq1
     have hE:Hid (events s=pre++evs s (s.data.toList.drop (k + 1)) (k + 1) start line ls):=by show _=_;rw[hev.out,qia s k start line ls hlt hC'.out (by rw[Hq.out];exact hq1)]
     have hk7:k + 1≤65536:=qib hC'.out hk6
     clear hq1
     gi_wp2_with fail
     refine (lift.out (q3f s k _ hlt hs hKBr)).mono ?_
     rintro e w' ⟨rfl,hw⟩
     have hw':=hw.symm
     subst hw'
     rw[HC.out]
     gi_wp2_with fail
     refine (lift.out (q28 _ _ (Int.natCast_nonneg _) (q66 _) hKBr)).mono ?_
     rintro e w' ⟨rfl,hw⟩
     have hw':=hw.symm
     subst hw'
     rw[Hq.out]
     gi_wp2
     go_roundw
     case rel=>exact⟨k + 1,start,line,ls,pre,by go_num,rfl,by omega,by omega,hk7,by omega,by omega,hE,hJp,bB,bB1,bT,hKBr,hsz⟩
     case measure=>simp[intOf];omega
   ·have hne:(C != 0)=true:=by simpa using hC0
    have hE:Hid (events s=pre++[(⟨⟨#[]⟩,k,line,k - ls + 1⟩,C)]):=by show _=_;rw[hev.out,qdu s k start line ls hlt (by rw[←hC];exact hC0),hC]
    clear hC
    obtain⟨fn,tmps,assign,body,hy,hR⟩:=hY pre (⟨⟨#[]⟩,k,line,k - ls + 1⟩,C) (wr.alloc (.cells #[.int .i64 k,.int .i64 line,.int .i64 (k - ls + 1)] 28)) (hJ _ _ _ hJp.out (Turn.alloc B wr _)) (by show (0:Nat)≤65536;omega) (by simp;omega)
    unfold zn at hy
    dsimp only at hy
    gi_wp2_with fail
    refine (lift.out (q3f s k _ hlt hs hKBr)).mono ?_
    rintro e w' ⟨rfl,hw⟩
    have hw':=hw.symm
    subst hw'
    rw[HC.out]
    gi_wp2_with fail
    refine (lift.out (q3i k line ls B (B + 1) _ (by omega) (by omega) (by omega) (by omega) cB cB1)).mono ?_
    rintro e w' ⟨rfl,hw⟩
    subst hw
    gi_wp2
    refine hR.mono ?_
    rintro e W3 (⟨rfl,hJ3,hk3⟩ | ⟨rfl,hJx3⟩)
    ·gi_wp2
     refine bodyPost_ret (results_none rfl _ _ _) rfl ?_
     exact⟨⟨_,rfl⟩,.inl (by rw[hE.out];exact hJ3)⟩
    ·gi_wp2
     refine bodyPost_ret (results_none rfl _ _ _) rfl ?_
     exact⟨⟨_,rfl⟩,.inr ⟨_,by rw[hE.out];exact List.prefix_rfl,hJx3⟩⟩
  ·have hkk:k=s.size:=by omega
   have hEe:=qmd s k start line ls (by omega)
   by_cases hst:start < k
   ·rw[if_pos hst] at hEe
    have hEv:Hid (events s=pre++[(wordAt s start s.size line ls,0)]):=by show _=_;rw[hev.out,hEe,hkk]
    have hst1:(start:Int) < (s.size:Int):=by omega
    have hst0:(0:Int)≤(start:Int):=by omega
    have hst2:start≤65536:=by omega
    have hst4:¬s.size < start:=by omega
    have hst3:s.size≤65536:=by omega
    have hmx:Tryz.prog.follows .mixedOrders=true:=by kernel_rfl
    have hnk:¬k < s.size:=by omega
    clear hEe hst hkk hev
    obtain⟨fn,tmps,assign,body,hy,hR⟩:=hY pre (wordAt s start s.size line ls,0) ((wr.alloc (.cells #[.int .i64 start,.int .i64 line,.int .i64 (start - ls + 1)] 28)).drew) (hJ _ _ _ hJp.out ((Turn.alloc B wr _).trans (Turn.drew B _))) (by show (s.extract start s.size).size≤65536;rw[ByteArray.size_extract];omega) (by show B + 2≤(wr.alloc _).heap.size;simp;omega)
    unfold zn wordAt at hy
    dsimp only at hy
    gi_wp2_with fail
    refine wpIn_region_any (by assumption) ?_
    change wpAnyIn _ _ _ _ _ _ _ _ _ (World.drew _)
    refine wpAnyIn_take (i:=0) (v:=.func (.yield l) #[] #[]) rfl rfl (by kernel_rfl) (by kernel_rfl) (by kernel_rfl) (fun _ _ _ h=>h) ⟨Or.inl ⟨by kernel_rfl,fun w=>by kernel_rfl⟩,fun _=>by kernel_rfl⟩ ?_
    refine wpAnyIn_take (i:=2) (v:=.int .i64 start) rfl rfl (by kernel_rfl) (by kernel_rfl) (by kernel_rfl) (fun _ _ _ h=>h) ⟨Or.inl ⟨by kernel_rfl,fun w=>by kernel_rfl⟩,fun _=>by kernel_rfl⟩ ?_
    refine wpAnyIn_take (i:=4) (v:=.func (.func 118) #[] #[.pointer (some ⟨B,0,none⟩),.pointer (some ⟨B + 1,0,none⟩)]) rfl rfl (by kernel_rfl) (by kernel_rfl) (by kernel_rfl) (fun _ _ _ h=>h) ⟨Or.inl ⟨by kernel_rfl,fun w=>by kernel_rfl⟩,fun _=>by kernel_rfl⟩ ?_
    refine wpAnyIn_take (i:=5) (v:=.int .i64 start) rfl rfl (by kernel_rfl) (by kernel_rfl) (by kernel_rfl) (fun _ _ _ h=>h) ⟨Or.inl ⟨by kernel_rfl,fun w=>by kernel_rfl⟩,fun _=>by kernel_rfl⟩ ?_
    refine wpAnyIn_ready (rs:=[1,6]) (by kernel_rfl) (by simp) ?_
    refine AllReadyIn.cons rfl (fun K hK=>?_) (AllReadyIn.cons rfl (fun K hK=>?_) AllReadyIn.nil)
    case' refine_1 =>
     go_simp
     refine hK _ _ ?_
     clear hK K
     refine wpAnyIn_take (i:=3) (v:=.string (s.extract start s.size)) rfl rfl (by kernel_rfl) (by kernel_rfl) (by kernel_rfl) (fun _ _ _ h=>h) ⟨Or.inl ⟨by kernel_rfl,fun w=>by go_simp⟩,fun _=>by kernel_rfl⟩ ?_
     refine wpAnyIn_ready (rs:=[6]) (by kernel_rfl) (by simp) ?_
     refine AllReadyIn.cons rfl (fun K hK=>?_) AllReadyIn.nil
     go_simp
     refine (lift.out (q3i start line ls B (B + 1) _ (by omega) (by omega) (by omega) (by omega) (by exact cB) (by exact cB1))).mono ?_
     rintro e w' ⟨rfl,hw⟩
     subst hw
     go_simp
     refine hK _ _ ?_
     clear hK K
    case' refine_2 =>
     go_simp
     refine (lift.out (q3i start line ls B (B + 1) _ (by omega) (by omega) (by omega) (by omega) (by exact cB) (by exact cB1))).mono ?_
     rintro e w' ⟨rfl,hw⟩
     subst hw
     go_simp
     refine hK _ _ ?_
     clear hK K
     refine wpAnyIn_ready (rs:=[1]) (by kernel_rfl) (by simp) ?_
     refine AllReadyIn.cons rfl (fun K hK=>?_) AllReadyIn.nil
     go_simp
     refine hK _ _ ?_
     clear hK K
     refine wpAnyIn_take (i:=3) (v:=.string (s.extract start s.size)) rfl rfl (by kernel_rfl) (by kernel_rfl) (by kernel_rfl) (fun _ _ _ h=>h) ⟨Or.inl ⟨by kernel_rfl,fun w=>by go_simp⟩,fun _=>by kernel_rfl⟩ ?_
    all_goals
     refine wpAnyIn_take (i:=7) (v:=.agg #[.string (s.extract start s.size),.int .i64 start,.int .i64 line,.int .i64 (start - ls + 1)]) rfl rfl (by kernel_rfl) (by kernel_rfl) (by kernel_rfl) (fun _ _ _ h=>h) ⟨Or.inl ⟨by kernel_rfl,fun w=>by go_simp⟩,fun _=>by kernel_rfl⟩ ?_
     refine wpAnyIn_ready (rs:=[8]) (by kernel_rfl) (by simp) ?_
     refine AllReadyIn.cons rfl (fun K hK=>?_) AllReadyIn.nil
     go_simp
     refine RoundIn.mono hR ?_
     rintro e W3 hp
     obtain⟨b,rfl,hb⟩:=hp.out
     go_simp
     refine hK _ _ ?_
     clear hK K
     refine wpAnyIn_done (by kernel_rfl) ?_ _
     gi_wp2
     go_end0
     refine⟨⟨_,rfl⟩,?_⟩
     cases b with
     | true=>exact .inl (by rw[hEv.out];exact (hb.out.1 rfl).1)
     | false=>exact .inr ⟨_,by rw[hEv.out];exact List.prefix_rfl,hb.out.2 rfl⟩
   ·rw[if_neg hst] at hEe
    have hEv:Hid (events s=pre):=by show _=_;rw[hev.out,hEe,List.append_nil]
    have hst1:¬(start:Int) < (s.size:Int):=by omega
    have hnk:¬k < s.size:=by omega
    clear hEe hst hkk hev
    gi_wp2
    go_end0
    exact⟨⟨_,rfl⟩,.inl (by rw[hEv.out];exact hJp.out)⟩
end S.K
namespace S.K
open Go.RowKit Go.Shelf
structure Aside (D:Nat)(A A':World):Prop where
 os:A'.os=A.os
 tape:A'.tape=A.tape
 output:A'.output=A.output
 size:A.heap.size≤A'.heap.size
 block:∀k,k < A.heap.size→(k < D∨D + 4≤k)→A'.heap[k]?=A.heap[k]?
theorem Aside.put (D:Nat)(A:World)(j:Nat)(O:Obj)(h1:D≤j)(h2:j < D + 4):Aside D A (A.putObj j O) :=
 ⟨rfl,rfl,rfl,by simp,fun k _ hk=>World.putObj_heap_other (by omega)⟩
theorem Aside.of_turn {D:Nat}{A A':World}(h:Turn (D + 2) A A'):Aside D A A':=⟨h.os,h.tape,h.output,h.size,fun k hk hd=>h.block k hk (by omega) (by omega)⟩
theorem Aside.alloc (D:Nat)(A:World)(O:Obj):Aside D A (A.alloc O):=⟨rfl,rfl,rfl,by simp,fun k hk _=>Below.heap_alloc A O k hk⟩
theorem Keeps.put {base R:Nat}{A B:World}(h:Keeps base R A B){j:Nat}(O:Obj)(hj:B.heap[j]?=A.heap[j]?)(hO:A.heap[j]?=some O):Keeps base R A (B.putObj j O) :=
 ⟨h.os,h.tape,h.output,by simpa using h.size,fun k hk hr=>by
  by_cases e:k=j
  ·subst e
   rw[hO] at hj
   rw[World.putObj_heap_same (Array.getElem?_eq_some_iff.1 hj).1,hO]
  ·rw[World.putObj_heap_other e];exact h.block k hk hr⟩
def qjq (D R:Nat)(I Ix:List (Tok × Int)→World→Prop)(xs:List (Tok × Int))(W:World):Exit→Act→World→Prop
 | .normal,_,W'=>Keeps (D + 4) R W W'∧I xs W'
 | .ret,_,W'=>W'.heap[D + 1]?=W.heap[D + 1]?∧W'.heap[D]?=W.heap[D]?∧Ix xs W'
 | _,_,_=>False
theorem qg5 {g:Operand} {ps:Array Tmp} {assign body:Code} {Q:Exit→Act→World→Prop} {a:Act} {w:World} {n:Nat} (hn:3≤n) (s:ByteArray) (T R D:Nat) (hD:w.heap.size=D)
  (hg:a.eval g=.func (.func 117) #[] #[.pointer (some ⟨T,0,none⟩)]) (hps:ps.size=2) (hTD:T < D) (hT0:T≠1) (hTR:T≠R) (hR0:R≠1) (hRD:R < D) (hs:s.size≤281474976710656)
  (hT:Boxed w T 9 (.string s)) (hKB:KB w) (I Ix:List (Tok × Int)→World→Prop)
  (hI:∀pre A A',I pre A→Aside D A A'→I pre A') (hIx:∀pre A A',Ix pre A→Aside D A A'→Ix pre A') (h0:I [] w)
  (hround:∀pre x W,I pre W→x.1.text.size≤65536→D + 4≤W.heap.size →
    assign.wpIn (Fence.wide.inRound (D + 1)) (n - 1 - 1) Tryz.prog (Exit.then (fun a₁ w₁=>Keeps (D + 4) R W w₁∧∀O,body.wpIn (Fence.wide.inRound (D + 1)) (n - 1 - 1) Tryz.prog (qjq D R I Ix (pre++[x]) (w₁.putObj (D + 1) O)) a₁ (w₁.putObj (D + 1) O)) (fun _ _ _=>False))
     { tmps:=(ps.zip #[zn x.1,.int .i64 x.2]).foldl (fun t (p,v)=>t.setIfInBounds p v) a.tmps,defers:=[] } W)
  (hdone:∀W,I (events s) W→W.heap[D]?=some (.deferred (some []))→Q .normal { a with defers:={ target:=.collected D,args:=#[] } :: a.defers } W)
  (hstop:∀pre W,pre <+: events s→Ix pre W→W.heap[D]?=some (.deferred (some []))→Code.ret.wpIn Fence.wide n Tryz.prog Q { a with defers:={ target:=.collected D,args:=#[] } :: a.defers } W) :
  (Code.rangeFunc g ps assign body).wpIn Fence.wide n Tryz.prog Q a w:=by
 refine wpIn_rangeFunc ?_
 intro fn hfn
 obtain⟨rec,hrec⟩:∃rec:LoopState→Option Code→Loop,rec=fun st pe=>{ state:=st,pending:=pe,fn,tmps:=a.tmps,params:=ps,assign,body,defers:=w.heap.size }:=⟨_,rfl⟩
 obtain⟨W1,hW1⟩:∃W1,W1=(w.alloc (.deferred (some []))).alloc (.loop (rec .ready none)):=⟨_,rfl⟩
 have hs1:W1.heap.size=D + 2:=by rw[hW1];simp[hD]
 have hl1:W1.heap[D + 1]?=some (.loop (rec .ready none)):=by
  have:=World.alloc_heap_new (w.alloc (.deferred (some []))) (.loop (rec .ready none))
  rw[World.size_alloc,hD] at this
  rw[hW1];exact this
 have hd1:W1.heap[D]?=some (.deferred (some [])):=by
  rw[hW1,←hD];exact (Below.heap_alloc _ _ _ (by simp)).trans (World.alloc_heap_new w _)
 have hb1:∀k,k < D→W1.heap[k]?=w.heap[k]?:=fun k hk=>by
  rw[hW1];exact (Below.heap_alloc _ _ k (by simp;omega)).trans (Below.heap_alloc w _ k (by omega))
 have hI1:I [] W1:=by rw[hW1];exact hI _ _ _ (hI _ _ _ h0 (Aside.alloc D w _)) (Aside.alloc D _ _)
 have eg:∀args w,(callFunc 117 args).run Tryz.prog w=.ok (.enter 117 args) w:=enters_of Tryz.func117 (by kernel_rfl) rfl
 refine⟨D + 1,[{ target:=.collected D,args:=#[] }],W1,{ target:=.fn (.func 117) #[.pointer (some ⟨T,0,none⟩)],args:=#[.func (.yield (D + 1)) #[] #[]] },W1,117,#[.func (.yield (D + 1)) #[] #[],.pointer (some ⟨T,0,none⟩)],W1,?_,?_,?_,?_,fun _=>by omega,?_⟩
 ·have:=run_enterLoop_outer (P:=Tryz.prog) (w:=w) fn a.tmps ps assign body
  rw[hW1,hrec];rw[hD] at this ⊢;exact this
 ·simp only[resolve,hg]
  simp[go_sem]
 ·intro f' _;trivial
 ·simp[invoke,go_sem,eg]
 ·refine (iter_in Fence.wide rfl rfl trivial trivial trivial trivial (n - 1) (D + 1) T (D + 2) R (by omega) s
   (fun pre W=>I pre W∧W.heap[D + 1]?=some (.loop (rec .ready none))∧W.heap[D]?=some (.deferred (some [])))
   (fun pre W=>Ix pre W∧W.heap[D + 1]?=some (.loop (rec .done (some .ret)))∧W.heap[D]?=some (.deferred (some [])))
   ?_ ?_ W1 hs1 (by omega) hT0 hTR hR0 (by omega) hs ((hb1 T hTD).trans hT) (hKB.keep (hb1 1 (by have h:=World.block_lt_of_cell? _ _ (hKB 0 (by omega));simp only at h;omega))) ⟨hI1,hl1,hd1⟩).mono ?_
  ·rintro pre A A' ⟨hi,hl,hd⟩ ht
   exact⟨hI _ _ _ hi (Aside.of_turn ht),(ht.block _ (Array.getElem?_eq_some_iff.1 hl).1 (by omega) (by omega)).trans hl,(ht.block _ (Array.getElem?_eq_some_iff.1 hd).1 (by omega) (by omega)).trans hd⟩
  ·rintro pre x W ⟨hi,hl,hd⟩ hx hsz
   have hy:=run_yield (P:=Tryz.prog) (args:=#[zn x.1,.int .i64 x.2]) hl (by rw[hrec];exact hps.symm)
   rw[hrec] at hy
   refine⟨fn,_,assign,body,hy,roundIn_of_wpIn hfn ?_⟩
   refine wpIn_mono (hround pre x W hi hx (by omega)) ?_
   rintro e a1 W2 hp
   cases e with
   | normal =>
    obtain⟨hk2,hbody⟩:=hp
    have hl2:W2.heap[D + 1]?=some (.loop (rec .ready none)):=(hk2.block _ (by omega) (by omega)).trans hl
    have hd2:W2.heap[D]?=some (.deferred (some [])):=(hk2.block _ (by omega) (by omega)).trans hd
    refine⟨_,run_beginRound hl2 (by rw[hrec]),?_⟩
    have hl3:(W2.putObj (D + 1) (.loop { rec .ready none with state:=.busy })).heap[D + 1]?=some (.loop { rec .ready none with state:=.busy }):=World.putObj_heap_same (Array.getElem?_eq_some_iff.1 hl2).1
    have hd3:(W2.putObj (D + 1) (.loop { rec .ready none with state:=.busy })).heap[D]?=some (.deferred (some [])):=(World.putObj_heap_other (by omega)).trans hd2
    refine wpIn_mono (hbody (.loop { rec .ready none with state:=.busy })) ?_
    rintro e a3 W3 hq
    cases e with
    | normal =>
     obtain⟨hk3,hi3⟩:=hq
     have hl4:W3.heap[D + 1]?=some (.loop { rec .ready none with state:=.busy }):=(hk3.block _ (by omega) (by omega)).trans hl3
     have hend:=run_endRound (P:=Tryz.prog) none hl4
     refine⟨_,_,hend,.inl ⟨rfl,⟨hI _ _ _ hi3 (Aside.put D W3 _ _ (by omega) (by omega)),?_,?_⟩,?_⟩⟩
     ·rw[hrec];exact World.putObj_heap_same (Array.getElem?_eq_some_iff.1 hl4).1
     ·exact (World.putObj_heap_other (by omega)).trans ((hk3.block _ (by omega) (by omega)).trans hd3)
     ·refine⟨hk3.os.trans hk2.os,hk3.tape.trans hk2.tape,hk3.output.trans hk2.output,?_,fun k hk hr=>?_⟩
      ·have e1:=hk2.size;have e2:=hk3.size;simp at e2 ⊢;omega
      ·by_cases e:k=D + 1
       ·subst e
        rw[hl,World.putObj_heap_same (Array.getElem?_eq_some_iff.1 hl4).1,hrec];rfl
       ·rw[World.putObj_heap_other e,hk3.block k hk hr,World.putObj_heap_other e]
        exact hk2.block k hk hr
    | ret =>
     obtain⟨hl3',hd3',hi3⟩:=hq
     have hl4:=hl3'.trans hl3
     have hend:=run_endRound (P:=Tryz.prog) (some .ret) hl4
     refine⟨_,_,hend,.inr ⟨rfl,hIx _ _ _ hi3 (Aside.put D W3 _ _ (by omega) (by omega)),?_,?_⟩⟩
     ·rw[hrec];exact World.putObj_heap_same (Array.getElem?_eq_some_iff.1 hl4).1
     ·exact (World.putObj_heap_other (by omega)).trans (hd3'.trans hd3)
    | exit id=>exact hq.elim
    | goto t=>exact hq.elim
    | panic ch=>exact hq.elim
    | outgrown=>exact hq.elim
   | ret=>exact hp.elim
   | exit id=>exact hp.elim
   | goto t=>exact hp.elim
   | panic ch=>exact hp.elim
   | outgrown=>exact hp.elim
  ·rintro e W2 ⟨⟨v,rfl⟩,(⟨hi,hl,hd⟩ | ⟨pre,hpre,hi,hl,hd⟩)⟩
   ·have hend:=run_endLoop (P:=Tryz.prog) hl (by rw[hrec];simp)
    exact⟨_,_,(by rw[hrec] at hend;exact hend),hdone _ (hI _ _ _ hi (Aside.put D W2 (D + 1) _ (by omega) (by omega))) ((World.putObj_heap_other (by omega)).trans hd)⟩
   ·have hend:=run_endLoop (P:=Tryz.prog) hl (by rw[hrec];simp)
    exact⟨some .ret,_,(by rw[hrec] at hend;exact hend),hstop pre _ hpre (hIx _ _ _ hi (Aside.put D W2 (D + 1) _ (by omega) (by omega))) ((World.putObj_heap_other (by omega)).trans hd)⟩
end S.K
namespace S.K
open Go.RowKit Go.Shelf
attribute [local go_sem] Oper.semAt_some
theorem qjr (s:ByteArray)(w:World) :
  Calls Tryz.prog 60 #[.string s] w fun e w'=>e=.returned (.func (.func 117) #[] #[.pointer (some ⟨w.heap.size,0,none⟩)])∧w'=w.alloc (.cells #[.string s] 9):=by
 go_enter Tryz.func60,Tryz.ntmps60
 go_wp2
 go_ret
 exact⟨rfl,rfl⟩
def qco (s:ByteArray)(N:Nat)(v fv:Value)(W:World):Prop :=
 W.ownsRow N 36 4 v (q0t s).1.length (rowOf (q0t s).1) ∧
 match (q0t s).2 with
 | none=>fv=.pointer none
 | some f=>∃Bf,fv=.pointer (some ⟨Bf,0,none⟩)∧N≤Bf∧q59 W Bf f.1 f.2
def q2i (s:ByteArray)(w:World):Ending→World→Prop:=fun e w'=>∃v fv,e=.returned (.tuple #[v,fv])∧qco s w.heap.size v fv w'∧Below w.heap.size w w'
def qmh (w:World)(pre:List (Tok × Int))(W:World):Prop:=∃r,xw rd0 pre=(r,none)∧r.told.length≤16384∧r.opn.text.size≤65536∧q2h W (w.heap.size + 8) (w.heap.size + 2) r ∧
 W.heap[w.heap.size]?=some (.cells #[.slice none 0 0] 32 (0,0))∧W.heap[w.heap.size + 1]?=some (.cells #[.pointer none] 23 (0,0))∧Below w.heap.size w W
def qic (w:World)(pre:List (Tok × Int))(W:World):Prop:=∃r f v Bf,xw rd0 pre=(r,some f)∧W.heap[w.heap.size]?=some (.cells #[v] 32 (0,0))∧W.heap[w.heap.size + 1]?=some (.cells #[.pointer (some ⟨Bf,0,none⟩)] 23 (0,0)) ∧
 W.ownsRow (w.heap.size + 8) 36 4 v r.told.length (rowOf r.told)∧w.heap.size + 8≤Bf∧q59 W Bf f.1 f.2∧Below w.heap.size w W
theorem owns_block {W W':World}{base e size:Nat}{v:Value}{n:Nat}{xs:List Value}(h:W.ownsRow base e size v n xs)(hb:∀g,g < W.heap.size→base≤g→W'.heap[g]?=W.heap[g]?):W'.ownsRow base e size v n xs:=by
 refine⟨h.1,?_⟩
 rcases h.2 with h0 | ⟨g,cap,cur,hv,hg,hh,hr⟩
 ·exact .inl h0
 ·exact .inr ⟨g,cap,cur,hv,hg,(hb g (Array.getElem?_eq_some_iff.1 hh).1 hg).trans hh,hr⟩
theorem qp {W:World}{base base' e size:Nat}{v:Value}{n:Nat}{xs:List Value}(h:W.ownsRow base e size v n xs)(hb:base'≤base):W.ownsRow base' e size v n xs:=by
 refine⟨h.1,?_⟩
 rcases h.2 with h0 | ⟨g,cap,cur,hv,hg,hr⟩
 ·exact .inl h0
 ·exact .inr ⟨g,cap,cur,hv,by omega,hr⟩
theorem q8l {w A A':World}{D:Nat}(h:Below w.heap.size w A)(ha:Aside D A A')(hD:w.heap.size≤D):Below w.heap.size w A' :=
 h.trans ⟨ha.os,ha.tape,ha.output,ha.size,fun k hk=>ha.block k (by have:=h.size;omega) (.inl (by omega))⟩
theorem q8m {w A A':World}{base R:Nat}(h:Below w.heap.size w A)(ha:Keeps base R A A')(hD:w.heap.size≤base)(hR:w.heap.size≤R):Below w.heap.size w A' :=
 h.trans ⟨ha.os,ha.tape,ha.output,ha.size,fun k hk=>ha.block k (by omega) (by omega)⟩
theorem q5m (w:World)(pre:List (Tok × Int))(A A':World)(h:qmh w pre A)(ha:Aside (w.heap.size + 4) A A'):qmh w pre A':=by
 obtain⟨r,h1,h2,h3,⟨v,hRd,hown⟩,h5,h6,h7⟩:=h
 refine⟨r,h1,h2,h3,⟨v,(ha.block _ hRd.lt (.inl (by omega))).trans hRd,owns_block hown fun g hg hb=>ha.block g hg (.inr (by omega))⟩,?_,?_,q8l h7 ha (by omega)⟩
 ·exact (ha.block _ (Array.getElem?_eq_some_iff.1 h5).1 (.inl (by omega))).trans h5
 ·exact (ha.block _ (Array.getElem?_eq_some_iff.1 h6).1 (.inl (by omega))).trans h6
theorem qdw (w:World)(pre:List (Tok × Int))(A A':World)(h:qic w pre A)(ha:Aside (w.heap.size + 4) A A'):qic w pre A':=by
 obtain⟨r,f,v,Bf,h1,h2,h3,h4,h5,h6,h7⟩:=h
 refine⟨r,f,v,Bf,h1,?_,?_,owns_block h4 fun g hg hb=>ha.block g hg (.inr (by omega)),h5,?_,q8l h7 ha (by omega)⟩
 ·exact (ha.block _ (Array.getElem?_eq_some_iff.1 h2).1 (.inl (by omega))).trans h2
 ·exact (ha.block _ (Array.getElem?_eq_some_iff.1 h3).1 (.inl (by omega))).trans h3
 ·exact (ha.block _ (Array.getElem?_eq_some_iff.1 h6).1 (.inr (by omega))).trans h6
theorem rd0_is (W:World)(base R:Nat)(h:W.heap[R]?=some (.cells #[.slice none 0 0,.string ⟨#[]⟩,.int .i64 0,.int .i64 0,.int .i64 0] 110 (0,0))):q2h W base R rd0 :=
 ⟨.slice none 0 0,h,World.ownsRow_nil W base 36 4⟩
theorem runF_ok {pre:List (Tok × Int)}{r:Rd}{t:Tok}(h:xw rd0 pre=(r,none))(hC:(ql r t).1=0):xw rd0 (pre++[(t,0)])=((ql r t).2,none):=by
 rw[q3h,h];simp[xw,hC]
theorem qmi {pre:List (Tok × Int)}{r:Rd}{t:Tok}(h:xw rd0 pre=(r,none))(hC:¬(ql r t).1=0):xw rd0 (pre++[(t,0)])=((ql r t).2,some (t,(ql r t).1)):=by
 rw[q3h,h];simp[xw,hC]
theorem qjs {pre:List (Tok × Int)}{r:Rd}{t:Tok}{c:Int}(h:xw rd0 pre=(r,none))(hc:¬c=0):xw rd0 (pre++[(t,c)])=(r,some (t,c)):=by
 rw[q3h,h];simp[xw,hc]
theorem qg6 (s:ByteArray)(pre:List (Tok × Int))(r:Rd)(f:Tok × Int)(hp:pre <+: events s)(h:xw rd0 pre=(r,some f)):q0t s=(r.told,some f):=by
 obtain⟨t,ht⟩:=hp
 unfold q0t
 rw[←ht,q3h,h]
theorem qg7 (s:ByteArray)(r:Rd)(h:xw rd0 (events s)=(r,none))(hc:q3s r=true):q0t s=(r.told,some (r.opn,12)):=by
 unfold q0t;rw[h];simp only[hc,if_true]
theorem qg8 (s:ByteArray)(r:Rd)(h:xw rd0 (events s)=(r,none))(hc:q3s r=false):q0t s=(r.told,none):=by
 unfold q0t;rw[h];simp[hc]
theorem heap_put {W:World}{j k:Nat}{O O':Obj}(h:W.heap[k]?=some O')(hne:k≠j):(W.putObj j O).heap[k]?=some O':=(World.putObj_heap_other hne).trans h
theorem cell_of_heap {W:World}{b:Nat}{v:Value}{t:TypeId}(h:W.heap[b]?=some (.cells #[v] t (0,0))):W.cell? ⟨b,0,none⟩=some v:=by simp[World.cell?,h]
theorem q2e {W:World}{b:Nat}{v:Value}{t:TypeId}(h:W.heap[b]?=some (.cells #[v] t (0,0))):W.frozen? ⟨b,0,none⟩=false:=by simp[World.frozen?,h]
theorem q7s {w W:World}{j:Nat}{O:Obj}(h:Below w.heap.size w W)(hj:w.heap.size≤j):Below w.heap.size w (W.putObj j O) :=
 h.trans ⟨rfl,rfl,rfl,by simp,fun k hk=>World.putObj_heap_other (by omega)⟩
theorem two_stores {W:World}{N:Nat}{v0 f0:Value}(v fv:Value)(h5:W.heap[N]?=some (.cells #[v0] 32 (0,0)))(h6:W.heap[N + 1]?=some (.cells #[f0] 23 (0,0))) :
  ((W.setCell ⟨N,0,none⟩ v).setCell ⟨N + 1,0,none⟩ fv).heap[N]?=some (.cells #[v] 32 (0,0))∧((W.setCell ⟨N,0,none⟩ v).setCell ⟨N + 1,0,none⟩ fv).heap[N + 1]?=some (.cells #[fv] 23 (0,0)) ∧
  (∀k,k≠N→k≠N + 1→((W.setCell ⟨N,0,none⟩ v).setCell ⟨N + 1,0,none⟩ fv).heap[k]?=W.heap[k]?)∧((W.setCell ⟨N,0,none⟩ v).setCell ⟨N + 1,0,none⟩ fv).heap.size=W.heap.size:=by
 refine⟨?_,?_,fun k h1 h2=>?_,by simp[World.setCell]⟩
 ·rw[Below.heap_setCell _ _ _ N (by simp)];exact qj h5
 ·exact qj ((Below.heap_setCell _ _ _ (N + 1) (by simp)).trans h6)
 ·rw[Below.heap_setCell _ _ _ k (by simpa using h2),Below.heap_setCell _ _ _ k (by simpa using h1)]
theorem q5a {w W:World}(v fv:Value)(h:Below w.heap.size w W):Below w.heap.size w ((W.setCell ⟨w.heap.size,0,none⟩ v).setCell ⟨w.heap.size + 1,0,none⟩ fv) :=
 (h.setCell (Nat.le_refl _) _).setCell (by simp) _
theorem q3j {N:Nat}{W w2:World}{v0 f0 u0:Value}(hbel:Below W.drew.heap.size W.drew w2)(hlt:N + 2 < W.heap.size)(c0:W.cell? ⟨N,0,none⟩=some v0)(z0:W.frozen? ⟨N,0,none⟩=false)(c1:W.cell? ⟨N + 1,0,none⟩=some f0)(z1:W.frozen? ⟨N + 1,0,none⟩=false)(r0:W.cell? ⟨N + 2,0,none⟩=some u0) :
  w2.cell? ⟨N,0,none⟩=some v0∧w2.frozen? ⟨N,0,none⟩=false∧w2.cell? ⟨N + 1,0,none⟩=some f0∧w2.frozen? ⟨N + 1,0,none⟩=false∧w2.cell? ⟨N + 2,0,none⟩=some u0:=by
 have hz:W.drew.heap.size=W.heap.size:=rfl
 exact⟨(hbel.cell (p:=⟨N,0,none⟩) (by simp only[hz];omega)).trans c0,(hbel.frozen (p:=⟨N,0,none⟩) (by simp only[hz];omega)).trans z0,(hbel.cell (p:=⟨N + 1,0,none⟩) (by simp only[hz];omega)).trans c1,(hbel.frozen (p:=⟨N + 1,0,none⟩) (by simp only[hz];omega)).trans z1,(hbel.cell (p:=⟨N + 2,0,none⟩) (by simp only[hz];omega)).trans r0⟩
theorem q5n {s:ByteArray}{w W:World}{told:List Tok}{f:Tok × Int}{v:Value}{Bf:Nat}(hF:q0t s=(told,some f))(hown:W.ownsRow (w.heap.size + 8) 36 4 v told.length (rowOf told))(hB:w.heap.size≤Bf)(hf:q59 W Bf f.1 f.2)(hb:Below w.heap.size w W) :
  q2i s w (.returned (.tuple #[v,.pointer (some ⟨Bf,0,none⟩)])) W :=
 ⟨_,_,rfl,by unfold qco;rw[hF];exact⟨qp hown (by omega),Bf,rfl,hB,hf⟩,hb⟩
theorem qay {s:ByteArray}{w W:World}{told:List Tok}{v:Value}(hF:q0t s=(told,none))(hown:W.ownsRow (w.heap.size + 8) 36 4 v told.length (rowOf told))(hb:Below w.heap.size w W) :
  q2i s w (.returned (.tuple #[v,.pointer none])) W :=
 ⟨_,_,rfl,by unfold qco;rw[hF];exact⟨qp hown (by omega),rfl⟩,hb⟩
theorem q9j {w X w2 W2:World} {pre:List (Tok × Int)} {r:Rd} {f:Tok × Int} {v v0 f0:Value} {Bf:Nat} (hrun:xw rd0 pre=(r,some f)) (hown:X.ownsRow (w.heap.size + 8) 36 4 v r.told.length (rowOf r.told))
  (h5:X.heap[w.heap.size]?=some (.cells #[v0] 32 (0,0))) (h6:X.heap[w.heap.size + 1]?=some (.cells #[f0] 23 (0,0))) (h7:Below w.heap.size w X) (hz:w.heap.size + 8≤X.heap.size)
  (hbel:Below X.drew.heap.size X.drew w2) (hBf:X.drew.heap.size≤Bf) (hFa:q59 w2 Bf f.1 f.2) (hd:X.heap[w.heap.size + 4]?=W2.heap[w.heap.size + 4]?) (hl:X.heap[w.heap.size + 4 + 1]?=W2.heap[w.heap.size + 4 + 1]?) :
  ((w2.setCell ⟨w.heap.size,0,none⟩ v).setCell ⟨w.heap.size + 1,0,none⟩ (.pointer (some ⟨Bf,0,none⟩))).heap[w.heap.size + 4 + 1]?=W2.heap[w.heap.size + 4 + 1]? ∧
  ((w2.setCell ⟨w.heap.size,0,none⟩ v).setCell ⟨w.heap.size + 1,0,none⟩ (.pointer (some ⟨Bf,0,none⟩))).heap[w.heap.size + 4]?=W2.heap[w.heap.size + 4]? ∧
  qic w pre ((w2.setCell ⟨w.heap.size,0,none⟩ v).setCell ⟨w.heap.size + 1,0,none⟩ (.pointer (some ⟨Bf,0,none⟩))):=by
 have hb:∀k,k < X.heap.size→w2.heap[k]?=X.heap[k]?:=fun k hk=>hbel.block k hk
 have hBf':X.heap.size≤Bf:=hBf
 obtain⟨g0,g1,g2,g3⟩:=two_stores v (.pointer (some ⟨Bf,0,none⟩)) ((hb _ (by omega)).trans h5) ((hb _ (by omega)).trans h6)
 refine⟨(g2 _ (by omega) (by omega)).trans ((hb _ (by omega)).trans hl),(g2 _ (by omega) (by omega)).trans ((hb _ (by omega)).trans hd),r,f,v,Bf,hrun,g0,g1,?_,by omega,(g2 Bf (by omega) (by omega)).trans hFa,q5a _ _ (h7.trans ⟨hbel.os,hbel.tape,hbel.output,hbel.size,fun k hk=>hb k (by omega)⟩)⟩
 exact owns_block hown fun g hg hb'=>(g2 g (by omega) (by omega)).trans (hb g hg)
theorem scan_in (s:ByteArray)(w:World)(m:Int)(hs:s.size≤281474976710656)(hKB:KB w)(hm:w.cell? ⟨2,0,none⟩=some (.int .i64 m)) :
  CallsIn Fence.wide 6 Tryz.prog  11 #[.string s] w (q2i s w):=by
 have lift:∀{m f:Nat} {args:Array Value} {w:World} {Q:Ending→World→Prop},Calls Tryz.prog f args w Q→CallsIn Fence.wide m Tryz.prog f args w Q:=fun h=>callsIn_wide.2 h
 replace lift:=show Hid _ from @lift
 have f25:Fence.wide.fn 60:=trivial
 have f26:Fence.wide.fn 61:=trivial
 have f27:Fence.wide.fn 62:=trivial
 have f28:Fence.wide.fn 63:=trivial
 have f34:Fence.wide.fn 117:=trivial
 have hw1:2 < w.heap.size:=World.block_lt_of_cell? _ _ hm
 refine callsIn_of_wp_marks Tryz.func11 rfl trivial ?_ rfl
 simp only[Tryz.ntmps11,List.size_toArray,List.length_cons,List.length_nil,Nat.reduceAdd,Nat.reduceSub,Array.replicate_succ,Array.replicate_zero,List.push_toArray,List.append_toArray,List.nil_append,List.cons_append]
 gi_wp2_with fail
 refine (lift.out (qjr s _)).mono ?_
 rintro e w' ⟨rfl,hw⟩
 subst hw
 gi_wp2_with fail
 obtain⟨W0,hW0⟩:∃W0,W0=(((w.alloc (.cells #[.slice none 0 0] 32)).alloc (.cells #[.pointer none] 23)).alloc (.cells #[.slice none 0 0,.string ⟨#[]⟩,.int .i64 0,.int .i64 0,.int .i64 0] 110)).alloc (.cells #[.string s] 9):=⟨_,rfl⟩
 have hs0:W0.heap.size=w.heap.size + 4:=by rw[hW0];simp
 have k0:W0.heap[w.heap.size]?=some (.cells #[.slice none 0 0] 32 (0,0)):=by
  rw[hW0];exact (Below.heap_alloc _ _ _ (by simp;omega)).trans ((Below.heap_alloc _ _ _ (by simp;omega)).trans ((Below.heap_alloc _ _ _ (by simp)).trans (q4t w _)))
 have k1:W0.heap[w.heap.size + 1]?=some (.cells #[.pointer none] 23 (0,0)):=by
  have:=q4t (w.alloc (.cells #[.slice none 0 0] 32)) (.cells #[.pointer none] 23)
  rw[World.size_alloc] at this
  rw[hW0];exact (Below.heap_alloc _ _ _ (by simp)).trans ((Below.heap_alloc _ _ _ (by simp)).trans this)
 have k2:W0.heap[w.heap.size + 2]?=some (.cells #[.slice none 0 0,.string ⟨#[]⟩,.int .i64 0,.int .i64 0,.int .i64 0] 110 (0,0)):=by
  have:=q4t ((w.alloc (.cells #[.slice none 0 0] 32)).alloc (.cells #[.pointer none] 23)) (.cells #[.slice none 0 0,.string ⟨#[]⟩,.int .i64 0,.int .i64 0,.int .i64 0] 110)
  simp only[World.size_alloc] at this
  rw[hW0];exact (Below.heap_alloc _ _ _ (by simp)).trans this
 have k3:Boxed W0 (w.heap.size + 3) 9 (.string s):=by
  have:=q4t (((w.alloc (.cells #[.slice none 0 0] 32)).alloc (.cells #[.pointer none] 23)).alloc (.cells #[.slice none 0 0,.string ⟨#[]⟩,.int .i64 0,.int .i64 0,.int .i64 0] 110)) (.cells #[.string s] 9)
  simp only[World.size_alloc] at this
  rw[hW0];exact this
 have hb0:Below w.heap.size w W0:=by rw[hW0];exact ((((Below.refl _ w).alloc (Nat.le_refl _) _).alloc (by simp) _).alloc (by simp;omega) _).alloc (by simp;omega) _
 rw[←hW0]
 clear hW0
 refine qg5 (by omega) s (w.heap.size + 3) (w.heap.size + 2) (w.heap.size + 4) hs0 rfl rfl (by omega) (by omega) (by omega) (by omega) (by omega) hs k3 (hKB.keep (hb0.block 1 (by omega))) (qmh w) (qic w) (q5m w) (qdw w)
  ⟨rd0,rfl,by decide,by decide,rd0_is W0 _ _ k2,k0,k1,hb0⟩ ?round ?done ?stop
 case done =>
  rintro W ⟨r,h1,h2,h3,⟨v,hRd,hown⟩,h5,h6,h7⟩ hd
  have IC:=q1t (w.heap.size + 2) v r.opn W hRd
  obtain⟨va,vc,hv,hvg⟩:=slice_form hown
  have c0:=cell_of_heap h5
  have z0:=q2e h5
  have c1:=cell_of_heap h6
  have z1:=q2e h6
  have rc:=hRd.cells
  subst hv
  obtain⟨r0,r1,r2,r3,r4⟩:=rc
  cases hc:q3s r with
  | true =>
   have hF:=qg7 s r h1 hc
   have hc':(!r.opn.text.toList.isEmpty)=true:=hc
   rw[hc'] at IC
   replace IC:=show Hid _ from IC
   have FA:=fun wx=>q5k r.opn 12 wx h3
   unfold zn at FA
   replace FA:=show Hid _ from FA
   have hmx:Tryz.prog.follows .mixedOrders=true:=by kernel_rfl
   have hlt:=hRd.lt
   clear hc hc' h1
   gi_wp2_with fail
   refine (lift.out IC.out).mono ?_
   rintro e w' ⟨rfl,hw⟩
   have hw':=hw.symm
   subst hw'
   gi_wp2_with fail
   refine wpIn_mono ?_ NoPanic.imp
   refine wpIn_region_any (by assumption) ?_
   change wpAnyIn _ _ _ _ _ _ _ _ _ (World.drew _)
   refine wpAnyIn_take (i:=0) (v:=.pointer (some ⟨w.heap.size + 1 + 1,0,none⟩)) rfl rfl (by kernel_rfl) (by kernel_rfl) (by kernel_rfl) (fun _ _ _ h=>h) ⟨Or.inl ⟨by kernel_rfl,fun w=>by kernel_rfl⟩,fun _=>by kernel_rfl⟩ ?_
   refine wpAnyIn_take (i:=2) (v:=.pointer (some ⟨w.heap.size + 1 + 1,1,none⟩)) rfl rfl (by kernel_rfl) (by kernel_rfl) (by kernel_rfl) (fun _ _ _ h=>h) ⟨Or.inl ⟨by kernel_rfl,fun w=>by go_simp⟩,fun _=>by kernel_rfl⟩ ?_
   refine wpAnyIn_ready (rs:=[1,3]) (by kernel_rfl) (by simp) ?_
   refine AllReadyIn.cons rfl (fun K hK=>?_) (AllReadyIn.cons rfl (fun K hK=>?_) AllReadyIn.nil)
   case' refine_1 =>
    go_simp
    refine hK _ _ ?_
    clear hK K
    refine wpAnyIn_ready (rs:=[3]) (by kernel_rfl) (by simp) ?_
    refine AllReadyIn.cons rfl (fun K hK=>?_) AllReadyIn.nil
    go_simp
    refine hK _ _ ?_
    clear hK K
    refine wpAnyIn_ready (rs:=[4]) (by kernel_rfl) (by simp) ?_
    refine AllReadyIn.cons rfl (fun K hK=>?_) AllReadyIn.nil
    go_simp
    refine (lift.out (FA.out _)).mono ?_
    rintro e w2 ⟨Bf,rfl,hBf,hFa,hbel⟩
    obtain⟨c0b,z0b,c1b,z1b,r0b⟩:=q3j hbel hlt c0 z0 c1 z1 r0
    go_simp
    refine hK _ _ ?_
    clear hK K
   case' refine_2 =>
    go_simp
    refine hK _ _ ?_
    clear hK K
    refine wpAnyIn_ready (rs:=[1,4]) (by kernel_rfl) (by simp) ?_
    refine AllReadyIn.cons rfl (fun K hK=>?_) (AllReadyIn.cons rfl (fun K hK=>?_) AllReadyIn.nil)
   case' refine_2.refine_1 =>
    go_simp
    refine hK _ _ ?_
    clear hK K
    refine wpAnyIn_ready (rs:=[4]) (by kernel_rfl) (by simp) ?_
    refine AllReadyIn.cons rfl (fun K hK=>?_) AllReadyIn.nil
    go_simp
    refine (lift.out (FA.out _)).mono ?_
    rintro e w2 ⟨Bf,rfl,hBf,hFa,hbel⟩
    obtain⟨c0b,z0b,c1b,z1b,r0b⟩:=q3j hbel hlt c0 z0 c1 z1 r0
    go_simp
    refine hK _ _ ?_
    clear hK K
   case' refine_2.refine_2 =>
    go_simp
    refine (lift.out (FA.out _)).mono ?_
    rintro e w2 ⟨Bf,rfl,hBf,hFa,hbel⟩
    obtain⟨c0b,z0b,c1b,z1b,r0b⟩:=q3j hbel hlt c0 z0 c1 z1 r0
    go_simp
    refine hK _ _ ?_
    clear hK K
    refine wpAnyIn_ready (rs:=[1]) (by kernel_rfl) (by simp) ?_
    refine AllReadyIn.cons rfl (fun K hK=>?_) AllReadyIn.nil
    go_simp
    refine hK _ _ ?_
    clear hK K
   all_goals
    refine wpAnyIn_ready (rs:=[5]) (by kernel_rfl) (by simp) ?_
    refine AllReadyIn.cons rfl (fun K hK=>?_) AllReadyIn.nil
    go_simp
    refine hK _ _ ?_
    clear hK K
    refine wpAnyIn_ready (rs:=[6]) (by kernel_rfl) (by simp) ?_
    refine AllReadyIn.cons rfl (fun K hK=>?_) AllReadyIn.nil
    go_simp
    refine hK _ _ ?_
    clear hK K
    refine wpAnyIn_done (by kernel_rfl) ?_ _
    refine NoPanic.normal ?_
    have hdl:=(Array.getElem?_eq_some_iff.1 hd).1
    have hz2:W.heap.size≤w2.heap.size:=hbel.size
    have hBf':W.heap.size≤Bf:=hBf
    have e5:=(hbel.block w.heap.size (by show _ < W.heap.size;omega)).trans h5
    have e6:=(hbel.block (w.heap.size + 1) (by show _ < W.heap.size;omega)).trans h6
    have ed:=(hbel.block (w.heap.size + 4) (by show _ < W.heap.size;omega)).trans hd
    obtain⟨g0,g1,g2,g3⟩:=two_stores (.slice va r.told.length vc) (.pointer (some ⟨Bf,0,none⟩)) e5 e6
    have q0:=cell_of_heap (heap_put (O:=.deferred none) (j:=w.heap.size + 4) g0 (by omega))
    have q1:=cell_of_heap (heap_put (O:=.deferred none) (j:=w.heap.size + 4) g1 (by omega))
    have hd2:=(g2 (w.heap.size + 4) (by omega) (by omega)).trans ed
    have hb2:Below w.heap.size w w2:=h7.trans (show Below w.heap.size W w2 from ⟨hbel.os,hbel.tape,hbel.output,hbel.size,fun k hk=>hbel.block k (by show _ < W.heap.size;omega)⟩)
    have hfin:q2i s w (.returned (.tuple #[.slice va r.told.length vc,.pointer (some ⟨Bf,0,none⟩)])) (((w2.setCell ⟨w.heap.size,0,none⟩ (.slice va r.told.length vc)).setCell ⟨w.heap.size + 1,0,none⟩ (.pointer (some ⟨Bf,0,none⟩))).putObj (w.heap.size + 4) (.deferred none)) :=
     q5n hF (owns_block hown fun g hg hb=>(World.putObj_heap_other (by omega)).trans ((g2 g (by omega) (by omega)).trans (hbel.block g hg))) (by omega) (((World.putObj_heap_other (by omega)).trans (g2 Bf (by omega) (by omega))).trans hFa) (q7s (q5a _ _ hb2) (by omega))
    replace hfin:=show Hid _ from hfin
    clear g0 g1 g2 g3 e5 e6 ed hb2
    gi_wp2
    refine⟨by simp,.inl ⟨_,_,rfl,run_takeDeferred hd2,?_⟩⟩
    refine⟨.tuple #[.slice va r.told.length vc,.pointer (some ⟨Bf,0,none⟩)],?_,hfin.out⟩
    simp[results,Tryz.results11,go_sem,q0,q1]
  | false =>
   have hF:=qg8 s r h1 hc
   have hc':(!r.opn.text.toList.isEmpty)=false:=hc
   rw[hc'] at IC
   replace IC:=show Hid _ from IC
   clear hc hc' h1
   gi_wp2_with fail
   refine (lift.out IC.out).mono ?_
   rintro e w' ⟨rfl,hw⟩
   have hw':=hw.symm
   subst hw'
   obtain⟨g0,g1,g2,g3⟩:=two_stores (.slice va r.told.length vc) (.pointer none) h5 h6
   have q0:=cell_of_heap (heap_put (O:=.deferred none) (j:=w.heap.size + 4) g0 (by omega))
   have q1:=cell_of_heap (heap_put (O:=.deferred none) (j:=w.heap.size + 4) g1 (by omega))
   have hd2:=(g2 (w.heap.size + 4) (by omega) (by omega)).trans hd
   have hfin:q2i s w (.returned (.tuple #[.slice va r.told.length vc,.pointer none])) (((W.setCell ⟨w.heap.size,0,none⟩ (.slice va r.told.length vc)).setCell ⟨w.heap.size + 1,0,none⟩ (.pointer none)).putObj (w.heap.size + 4) (.deferred none)) :=
    qay hF (owns_block hown fun g _ hb=>(World.putObj_heap_other (by omega)).trans (g2 g (by omega) (by omega))) (q7s (q5a _ _ h7) (by omega))
   replace hfin:=show Hid _ from hfin
   clear g0 g1 g2 g3
   gi_wp2
   refine⟨by simp,.inl ⟨_,_,rfl,run_takeDeferred hd2,?_⟩⟩
   refine⟨.tuple #[.slice va r.told.length vc,.pointer none],?_,hfin.out⟩
   simp[results,Tryz.results11,go_sem,q0,q1]
 case stop =>
  rintro pre W hpre ⟨r,f,v,Bf,h1,h2,h3,h4,h5,h6,h7⟩ hd
  have hF:=qg6 s pre r f hpre h1
  have q2:=heap_put (O:=.deferred none) (j:=w.heap.size + 4) h2 (by omega)
  have q3:=heap_put (O:=.deferred none) (j:=w.heap.size + 4) h3 (by omega)
  have q6:=heap_put (O:=.deferred none) (j:=w.heap.size + 4) h6 (by omega)
  have q4:(W.putObj (w.heap.size + 4) (.deferred none)).ownsRow (w.heap.size + 8) 36 4 v r.told.length (rowOf r.told):=owns_block h4 fun g _ hb=>World.putObj_heap_other (by omega)
  obtain⟨va,vc,hv,_⟩:=slice_form h4
  have c2:=cell_of_heap q2
  have c3:=cell_of_heap q3
  have hfin:=q5n hF q4 (by omega) q6 (q7s h7 (by omega))
  replace hfin:=show Hid _ from hfin
  rw[hv] at c2 hfin
  clear h1 h2 h3 h4 h5 h6 h7 q2 q3 q4 q6 hv hF hpre
  gi_wp2
  refine⟨by simp,.inl ⟨_,_,rfl,run_takeDeferred hd,?_⟩⟩
  refine⟨.tuple #[.slice va r.told.length vc,.pointer (some ⟨Bf,0,none⟩)],?_,hfin.out⟩
  simp[results,Tryz.results11,go_sem,c2,c3]
 case round =>
  rintro pre ⟨t,c⟩ W hi hx hsz
  have g26:(Fence.wide.inRound (w.heap.size + 4 + 1)).fn 61:=trivial
  have g27:(Fence.wide.inRound (w.heap.size + 4 + 1)).fn 62:=trivial
  have hmx:Tryz.prog.follows .mixedOrders=true:=by kernel_rfl
  dsimp only at hx
  unfold zn
  gi_wp2
  refine⟨Keeps.alloc (by omega) _,fun O=>?_⟩
  have hi2:=q5m w pre _ _ (q5m w pre _ _ hi (Aside.alloc (w.heap.size + 4) W (.cells #[.string t.text,.int .i64 t.off,.int .i64 t.line,.int .i64 t.col] 36))) (Aside.put (w.heap.size + 4) _ (w.heap.size + 4 + 1) O (by omega) (by omega))
  have bx:=heap_put (O:=O) (j:=w.heap.size + 4 + 1) (q4t W (.cells #[.string t.text,.int .i64 t.off,.int .i64 t.line,.int .i64 t.col] 36)) (by omega)
  have hz2:((W.alloc (.cells #[.string t.text,.int .i64 t.off,.int .i64 t.line,.int .i64 t.col] 36)).putObj (w.heap.size + 4 + 1) O).heap.size=W.heap.size + 1:=by simp
  obtain⟨W2,hW2⟩:∃W2,W2=(W.alloc (.cells #[.string t.text,.int .i64 t.off,.int .i64 t.line,.int .i64 t.col] 36)).putObj (w.heap.size + 4 + 1) O:=⟨_,rfl⟩
  rw[←hW2] at hi2 bx hz2 ⊢
  obtain⟨Bx,hBx⟩:∃Bx,Bx=W.heap.size:=⟨_,rfl⟩
  rw[←hBx] at bx hz2 hsz ⊢
  clear hW2 hi hBx
  obtain⟨r,h1,h2,h3,hRI,h5,h6,h7⟩:=hi2
  have b0:W2.cell? ⟨Bx,0,none⟩=some (.string t.text):=by simp[World.cell?,bx]
  have b1:W2.cell? ⟨Bx,1,none⟩=some (.int .i64 t.off):=by simp[World.cell?,bx]
  have b2:W2.cell? ⟨Bx,2,none⟩=some (.int .i64 t.line):=by simp[World.cell?,bx]
  have b3:W2.cell? ⟨Bx,3,none⟩=some (.int .i64 t.col):=by simp[World.cell?,bx]
  by_cases hc:c=0
  ·subst hc
   have hm2:W2.cell? ⟨2,0,none⟩=some (.int .i64 m):=(h7.cell (p:=⟨2,0,none⟩) hw1).trans hm
   have TK:=take_any (w.heap.size + 2) (w.heap.size + 8) r t m W2 hRI (by omega) (by omega) hx hm2 h2
   unfold zn at TK
   replace TK:=show Hid _ from TK
   gi_wp2_with fail
   refine (CallsIn.inRound _ (lift.out TK.out)).mono ?_
   rintro e w3 ⟨rfl,hR3,hk3,hg3'⟩
   by_cases hC:(ql r t).1=0
   ·rw[hC]
    gi_wp2
    exact⟨hk3,(ql r t).2,runF_ok h1 hC,qjo r t h2,qjn r t h3 hx,hR3,(hk3.block _ (by omega) (by omega)).trans h5,(hk3.block _ (by omega) (by omega)).trans h6,q8m h7 hk3 (by omega) (by omega)⟩
   ·have hg3:=hg3' hC
    have q5:=(hk3.block w.heap.size (by omega) (by omega)).trans h5
    have q6:=(hk3.block (w.heap.size + 1) (by omega) (by omega)).trans h6
    have q7:=q8m h7 hk3 (by omega) (by omega)
    have hBx:=(hg3.block Bx (by omega) (by intro e;cases e;omega)).trans bx
    have d0:w3.cell? ⟨Bx,0,none⟩=some (.string t.text):=by simp[World.cell?,hBx]
    have d1:w3.cell? ⟨Bx,1,none⟩=some (.int .i64 t.off):=by simp[World.cell?,hBx]
    have d2:w3.cell? ⟨Bx,2,none⟩=some (.int .i64 t.line):=by simp[World.cell?,hBx]
    have d3:w3.cell? ⟨Bx,3,none⟩=some (.int .i64 t.col):=by simp[World.cell?,hBx]
    have hrun:=qmi h1 hC
    obtain⟨v,hRd,hown⟩:=hR3
    obtain⟨va,vc,hv,_⟩:=slice_form hown
    subst hv
    obtain⟨C,hCC⟩:∃C,C=(ql r t).1:=⟨_,rfl⟩
    obtain⟨L,hLL⟩:∃L,L=(ql r t).2.told.length:=⟨_,rfl⟩
    have r0:=hRd.cells.1
    have hlt:=hRd.lt
    have c0:=cell_of_heap q5
    have z0:=q2e q5
    have c1:=cell_of_heap q6
    have z1:=q2e q6
    have e1:=hk3.block (w.heap.size + 4) (by omega) (by omega)
    have e2:=hk3.block (w.heap.size + 4 + 1) (by omega) (by omega)
    have hz3:w.heap.size + 8≤w3.heap.size:=by have:=hk3.size;omega
    have fin:=fun w2 Bf hbel hBf hFa=>q9j (w:=w) (X:=w3) (w2:=w2) (W2:=W2) (Bf:=Bf) hrun hown q5 q6 q7 hz3 hbel hBf hFa e1 e2
    rw[←hCC] at hC fin ⊢
    rw[←hLL] at r0 fin
    have hC1:(C != 0)=true:=by simpa using hC
    have FA:=fun wx=>q5k t C wx hx
    unfold zn at FA
    replace FA:=show Hid _ from FA
    replace fin:=show Hid _ from fin
    clear hrun hCC hLL hg3 hg3' hBx hC hown hRd bx h1 h2 h3 h5 h6 h7 TK q5 q6 q7 e1 e2 b0 b1 b2 b3 hk3 hRI hm2
    gi_wp2_with fail
    gi_region_with_o (gi_at_call 62;refine (CallsIn.inRound _ (lift.out (FA.out _))).mono ?_;rintro e w2 ⟨Bf,rfl,hBf,hFa,hbel⟩;obtain⟨c0b,z0b,c1b,z1b,r0b⟩:=q3j hbel hlt c0 z0 c1 z1 r0)
    all_goals gi_wp2
    all_goals exact fin.out w2 Bf hbel hBf hFa
  ·have hc1:(c != 0)=true:=by simpa using hc
   have hc2:(c == 0)=false:=by simpa using hc
   have hrun:=qjs (t:=t) h1 hc
   obtain⟨v,hRd,hown⟩:=hRI
   obtain⟨va,vc,hv,_⟩:=slice_form hown
   subst hv
   obtain⟨L,hLL⟩:∃L,L=r.told.length:=⟨_,rfl⟩
   have r0:=hRd.cells.1
   have hlt:=hRd.lt
   have c0:=cell_of_heap h5
   have z0:=q2e h5
   have c1:=cell_of_heap h6
   have z1:=q2e h6
   have hz3:w.heap.size + 8≤W2.heap.size:=by omega
   have fin:=fun w2 Bf hbel hBf hFa=>q9j (w:=w) (X:=W2) (w2:=w2) (W2:=W2) (Bf:=Bf) hrun hown h5 h6 h7 hz3 hbel hBf hFa rfl rfl
   rw[←hLL] at r0 fin
   have FA:=fun wx=>q5k t c wx hx
   unfold zn at FA
   replace FA:=show Hid _ from FA
   replace fin:=show Hid _ from fin
   clear hrun hLL hc hown hRd bx h1 h2 h3 h5 h6 h7
   gi_wp2_with fail
   gi_region_with_o (gi_at_call 62;refine (CallsIn.inRound _ (lift.out (FA.out _))).mono ?_;rintro e w2 ⟨Bf,rfl,hBf,hFa,hbel⟩;obtain⟨c0b,z0b,c1b,z1b,r0b⟩:=q3j hbel hlt c0 z0 c1 z1 r0)
   all_goals gi_wp2
   all_goals exact fin.out w2 Bf hbel hBf hFa
end S.K
end Go.Proofs.YtbancemhfjjmlaaGreatDoor
