/- Laid together: FKeys, FShelfS, FCmpP, FSortP, FUnion, FOnly. -/
import Derived.Test.YtbancemhfjjmlaaGreatDoorTk
import Derived.Test.YtbancemhfjjmlaaGreatDoorQA11
import Derived.RangeFuncNested
import Derived.RangeFuncKeeps
import Derived.Sort.MapsRangeIn
import Derived.Sort.KeysCollected
import Derived.RegionIn
import Derived.Shelf.SlSortCmp.WholeK
import Derived.Shelf.SlSortCmp.NoneTotal
import Derived.Ground.SlsfProg
import Derived.Test.YtbancemhfjjmlaaGreatDoorProg
import Derived.Deep.RegionHeld3
import Derived.Carry
set_option maxRecDepth 100000
set_option maxHeartbeats 32000000
namespace Go.Proofs.YtbancemhfjjmlaaGreatDoor
namespace F
open Go.RowKit Go.Shelf Go.Maps Go.Sort
variable {tq:Nat} {isV:Int→Bool}
attribute [local go_sem] Oper.semAt_some
structure Col (D:DataW Unit)(left:Lit→Bool)(ss:List Pr):Prop where
 nodup:ss.Nodup
 wf:∀p ∈ ss,wfP p
 mem:∀p,wfP p→(p ∈ ss↔has D (q4x p)=true∧left (q4x p)=false)
theorem Col.start (D:DataW Unit):Col D (has D) []:=⟨List.nodup_nil,by simp,fun p _=>by cases has D (q4x p) <;> simp⟩
theorem Col.step {D:DataW Unit}{left:Lit→Bool}{ss:List Pr}(h:Col D left ss){x:Pr}(hx:wfP x){y:DataW Unit}(hlk:left (q4x x)=true)(hat:∀zd,D.atKey (q4x x) zd=y):Col D (fun z=>left z && !z.sameKey (q4x x)) (ss++[x]):=by
 have hhas:has D (q4x x)=true:=has_true_of_atKey hat
 have hnew:x ∉ ss:=fun hm=>by have:=((h.mem x hx).1 hm).2;rw[hlk] at this;cases this
 refine⟨List.nodup_append.2 ⟨h.nodup,by simp,fun a ha b hb=>by simp at hb;subst hb;exact fun e=>hnew (e ▸ ha)⟩,fun p hp=>?_,fun p hp=>?_⟩
 ·rcases List.mem_append.1 hp with hp | hp
  ·exact h.wf p hp
  ·simp at hp;subst hp;exact hx
 ·by_cases e:p=x
  ·subst e
   simp[hhas,WideAt.sameKey_self (qei p)]
  ·have hs:(q4x p).sameKey (q4x x)=false:=by
    cases hk:(q4x p).sameKey (q4x x) with
    | false=>rfl
    | true=>exact absurd (qeh hp hx (WideAt.sameKey_eq hk)) e
   simp[h.mem p hp,e,hs]
theorem qn3 (v:Value)(y:DataW Unit × List MemPlace)(h:unitElem (H:=Unit) v=some y):∃c:Unit,v=(fun _=>Value.agg #[]) c:=⟨(),(unitElem_inv h).1⟩
theorem keys1_in (F:Fence) (n:Nat) (h41:F.fn 301) (hro:F.round=none) (hn:1≤n) (l Bm b nn:Nat) (D0:DataW Unit) (J Jx:List Pr→World→Prop)
  (hY:∀pre x W,J pre W→pre.length < Maps.size D0→YieldAt F (n - 1) Tryz.prog l #[q2c x] W fun e W' =>
    (e=.returned (.bool true)∧J (pre++[x]) W'∧KeepsWalks W W')∨(e=.returned (.bool false)∧Jx (pre++[x]) W'))
  (W:World) (hJ:AbidesFrom W.heap.size J) (hm:W.cell? ⟨Bm,0,none⟩=some (.map (some b))) (hown:W.ownsMap Tryz.prog 130 unitElem b nn D0) (h0:J [] W) :
  CallsIn F n Tryz.prog  301 #[.func (.yield l) #[] #[],.pointer (some ⟨Bm,0,none⟩)] W fun e W'=>(∃v,e=.returned v) ∧
   ((∃ss,(Col D0 (fun _=>false) ss∧ss.length≤Maps.size D0)∧J ss W')∨(∃pre,True∧Jx pre W')):=by
 refine callsIn_of_wp Tryz.func301 rfl h41 ?_ hro
 simp only[Tryz.ntmps301,List.size_toArray,List.length_cons,List.length_nil,Nat.reduceAdd,Nat.reduceSub,Array.replicate_succ,Array.replicate_zero,List.push_toArray,List.append_toArray,List.nil_append,List.cons_append]
 gi_wp2_with (first
  | (gi_at_range;refine wpListIn_range_own _ rfl _ 293 rfl 130 317 K24 Tryz.underlying293 _ b nn _ rfl hown ?_;intro w0 hrg0 hg0 hs0)
  | gi_in)
 go_frame
 gi_loopw [3] (fun _ wr=>∃(left:Lit→Bool) (cnt:Nat) (ss:List Pr),wr.ranges Tryz.prog 130 unitElem b W.heap.size nn D0 left cnt∧ss.length + cnt≤Maps.size D0∧Col D0 left ss∧J ss wr)
  (fun _ wr=>wr.rangeLeft b W.heap.size)
 case atStart =>
  exact⟨_,_,[],hrg0,by simp,Col.start D0,hJ [] W w0 none h0 hg0 (fun r e=>by cases e)⟩
 case round =>
  obtain⟨left,cnt,ss,hrg,hcs,hC,hJs⟩:=hrel
  gi_wp2_with (first
   | (gi_at_next;refine wpListIn_next_ranges _ rfl _ rfl 130 K24 unitElem q2c (fun _:Unit=>Value.agg #[]) (fun key kl hk=>by obtain⟨x,hx,_⟩:=qbw hk;exact⟨x,hx⟩) (fun v y hv=>qn3 v y hv) b W.heap.size nn _ _ _ rfl hrg ?_ ?_)
   | gi_in)
  ·intro hc0 hl0
   gi_wp2
   go_end0
   refine⟨⟨_,rfl⟩,.inl ⟨ss,⟨⟨hC.nodup,hC.wf,fun p hp=>?_⟩,by omega⟩,hJs⟩⟩
   rw[hC.mem p hp,hl0]
  ·intro x0 x1 kl yd yp w2 cnt2 hkey hlk hv hat hrg2 hlt hg2 hs2 hen
   obtain⟨x',ex,hwx,rfl⟩:=qbw hkey
   obtain rfl:(x0,x1)=x':=qeg ex
   have hJ2:J ss w2:=hJ ss wr w2 (some W.heap.size) hJs hg2 (fun r e=>by cases e;exact⟨Nat.le_refl _,hrg.iter_walk⟩)
   have hJ3:J ss (w2.alloc (.cells #[.int .i64 x0,.int .i64 x1] 130)):=hJ ss w2 _ none hJ2 (World.grownBy_alloc w2 _ none) (fun r e=>by cases e)
   obtain⟨fn,tmps,assign,body,hy,hR⟩:=hY ss (x0,x1) (w2.alloc (.cells #[.int .i64 x0,.int .i64 x1] 130)) hJ3 (by omega)
   have hrg3:=hrg2.alloc (.cells #[.int .i64 x0,.int .i64 x1] 130)
   clear hs2
   unfold q2c at hy hen ⊢
   dsimp only at hy hen ⊢
   gi_wp2
   refine hR.mono ?_
   rintro e W3 (⟨rfl,hJ4,hk4⟩ | ⟨rfl,hJx4⟩)
   ·have hrg4:=hrg3.of_walks hk4
    gi_wp2
    go_roundw
    case rel=>exact⟨_,cnt2,ss++[(x0,x1)],hrg4,by simp;omega,hC.step hwx hlk hat,hJ4⟩
    case measure=>rw[hrg4.left_eq,hrg.left_eq];exact hlt
   ·gi_wp2
    refine bodyPost_ret (results_none rfl _ _ _) rfl ?_
    exact⟨⟨_,rfl⟩,.inr ⟨_,trivial,hJx4⟩⟩
theorem keys_in (F:Fence)(n:Nat)(h31:F.fn 288)(hro:F.round=none)(mb:Option Nat)(w:World) :
  CallsIn F n Tryz.prog  288 #[.map mb] w fun e w'=>e=.returned (.func (.func 301) #[] #[.pointer (some ⟨w.heap.size,0,none⟩)])∧w'=w.alloc (.cells #[.map mb] 293):=by
 refine callsIn_of_wp Tryz.func288 rfl h31 ?_ hro
 simp only[Tryz.ntmps288,List.size_toArray,List.length_cons,List.length_nil,Nat.reduceAdd,Nat.reduceSub,Array.replicate_succ,Array.replicate_zero,List.push_toArray,List.append_toArray,List.nil_append,List.cons_append]
 gi_wp2
 go_ret
 exact⟨rfl,rfl⟩
theorem keys_stops (F:Fence) (n:Nat) (h41:F.fn 301) (hro:F.round=none) (hn:1≤n) (Bm b nn:Nat) (D0:DataW Unit) (w:World) (hBm:Bm < w.heap.size)
  (hm:w.cell? ⟨Bm,0,none⟩=some (.map (some b))) (hown:w.ownsMap Tryz.prog 130 unitElem b nn D0) :
  SeqStopsK F n Tryz.prog  301 #[.pointer (some ⟨Bm,0,none⟩)] (fun x:Pr=>#[q2c x]) KeepsWalks (fun ss=>Col D0 (fun _=>false) ss∧ss.length≤Maps.size D0) (fun _=>True) (Maps.size D0) w:=fun l J Jx W hW hJ _ hY h0=>by
 have hown':W.ownsMap Tryz.prog 130 unitElem b nn D0:=by
  have hbl:=hown.lt
  obtain⟨es,clock,hb,Ft,hs,hD⟩:=hown
  exact⟨es,clock,(hW.block b hbl).trans hb,Ft,hs,hD⟩
 exact keys1_in F n h41 hro hn l Bm b nn D0 J Jx hY W hJ ((hW.cell (p:=⟨Bm,0,none⟩) hBm).trans hm) hown' h0
theorem info24:(Tryz.prog.info? 130).map (fun i=>(i.zero,i.size,i.bytes))=some (some (.agg #[.int .i64 0,.int .i64 0]),2,16):=by kernel_rfl
theorem qek (F:Fence) (n:Nat) (h48:F.fn 304) (hro:F.round=none) (hn:2≤n) (g:Nat) (lb:Array Value) (hFg:F.fn g) (eg:∀args w,(callFunc g args).run Tryz.prog w=.ok (.enter g args) w) (S:List Pr→Prop) (N:Nat) (hN:N≤8388608) (w:World)
  (hseq:SeqStopsK F (n - 1) Tryz.prog g lb (fun x:Pr=>#[q2c x]) KeepsWalks S (fun _=>True) N (w.alloc (.cells #[.slice none 0 0] 45))) :
  CallsIn F n Tryz.prog  304 #[.slice none 0 0,.func (.func g) #[] lb] w fun e W'=>∃v ss,e=.returned v∧S ss∧W'.ownsRow w.heap.size 130 2 v ss.length (rowP ss)∧Below w.heap.size w W':=by
 have h1:1≤n:=by omega
 obtain⟨i0,hi,hz0,hz1,hz2⟩:=info_parts info24
 refine callsIn_of_wp_marks Tryz.func304 rfl h48 ?_ hro
 simp only[Tryz.ntmps304,List.size_toArray,List.length_cons,List.length_nil,Nat.reduceAdd,Nat.reduceSub,Array.replicate_succ,Array.replicate_zero,List.push_toArray,List.append_toArray,List.nil_append,List.cons_append]
 gi_wp2
 have bO:=Boxed.new w 45 (.slice none 0 0)
 have hB0:Below w.heap.size w (w.alloc (.cells #[.slice none 0 0] 45)):=(Below.refl _ w).alloc (Nat.le_refl _) _
 refine wpIn_rangeFunc_ownH hro h1 (gf:=g) (lb:=lb) rfl hFg eg hseq walksK_t (fun W l o o' hl h hc hw=>walksK_b (w:=w.alloc (.cells #[.slice none 0 0] 45)) W l o o' hl h hc hw) (Below.refl _ _) (fun _=>rfl)
  (fun pre W=>(∃v,Boxed W w.heap.size 45 v∧W.ownsRow w.heap.size 130 2 v pre.length (rowP pre)∧True)∧Below w.heap.size w W)
  (fun _ _ _=>False)
  (OwnFrom.and (Own.from (holdsRow_own w.heap.size w.heap.size 45 130 2 (fun pre:List Pr=>pre.length) (fun pre=>rowP pre) (fun _ _=>True)) _) (ownFrom_below (Nat.le_refl _) (by simp)))
  (fun _ _ _ _ _ hs _ _=>hs)
  ⟨⟨_,bO,World.ownsRow_nil _ _ _ _,trivial⟩,hB0⟩
  (fun x a' W=>∃Bx,W.heap[Bx]?=some (.cells #[.int .i64 x.1,.int .i64 x.2] 130 (0,0))∧a'={ tmps:=#[.slice none 0 0,.func (.func g) #[] lb,.pointer (some ⟨w.heap.size,0,none⟩),undef,.slice none 0 0,.pointer (some ⟨Bx,0,none⟩),.func (.func g) #[] lb,q2c x,undef,undef,undef,undef,undef],defers:=[] })
  (fun x a' _ X Y row hs hg hr=>by
    obtain⟨Bx,h1,h2⟩:=hs
    refine⟨Bx,(hg.block Bx (Array.getElem?_eq_some_iff.1 h1).1 (fun e'=>?_)).trans h1,h2⟩
    obtain⟨o,ho,hc⟩:=(hr Bx e'.symm).2
    rw[h1] at ho
    cases ho
    cases hc)
  ?assign ?body ?done ?stop
 case assign =>
  rintro l pre x W K ⟨⟨v,hv,hrow,_⟩,hB⟩ hK
  obtain⟨x0,x1⟩:=x
  unfold q2c at hK ⊢
  gi_wp2
  exact hK _ _ ((KeepsOthers.alloc _ _).from _) (KeepsWalks.alloc _ _) ⟨⟨v,hv.alloc _,hrow.alloc _,trivial⟩,hB.alloc hB.size _⟩ ⟨W.heap.size,World.alloc_heap_new W _,rfl⟩
 case body =>
  rintro l pre x a' W hl ⟨r,hr⟩ ⟨⟨v,hv,hrow,_⟩,hB⟩ ⟨Bx,hBx,rfl⟩ hlt
  obtain⟨x0,x1⟩:=x
  have hc:=hv.cell
  have d0:W.cell? ⟨Bx,0,none⟩=some (.int .i64 x0):=by simp[World.cell?,hBx]
  have d1:W.cell? ⟨Bx,1,none⟩=some (.int .i64 x1):=by simp[World.cell?,hBx]
  clear hBx
  gi_wp2_with (gi_at_builtin;refine wpListIn_append_own _ rfl _ _ 45 rfl w.heap.size 130 i0 (.agg #[.int .i64 0,.int .i64 0]) 2 16 Tryz.underlying45 hi hz0 hz1 hz2 rfl (by decide) _ _ _ rfl (hrow.alloc _) ⟨W.heap.size,0,none⟩ 1 1 [.int .i64 x0,.int .i64 x1] rfl rfl (World.news_of_block (cs:=#[.int .i64 x0,.int .i64 x1]) (t:=130) (fr:=(0,0)) (World.alloc_heap_new W _)) (by simp[Value.oneCell']) (by unfold maxLen;omega) (by omega) (by have:=hB.size;simp;omega) ?_;intro v' w1 hown' hgrow _;obtain⟨g',cap',rfl⟩:=ownsRow_succ hown';obtain⟨hv1,hv2,hr2,hk2,hb2⟩:=hv.appended (by decide) hrow hB.size (Nat.le_refl _) hown' hgrow;have hc1:=hv1.cell;have hf1:=hv1.frozen)
  exact⟨hk2.from _,hk2.walks,⟨_,hv2,by rw[q67,List.length_append];exact hr2,trivial⟩,hB.trans hb2⟩
 case done =>
  rintro D ys W hD hS ⟨⟨v,hv,hrow,_⟩,hB⟩ hK
  have hc:=hv.cell
  gi_wp2
  refine⟨by simp,.inl ⟨_,_,rfl,run_takeDeferred hK,?_⟩⟩
  exact⟨_,results_tmp rfl _ _ _,v,ys,rfl,hS,ownsRow_putObj hrow _ hK rfl,hB.trans (belowK_b (w:=w) (Nat.le_refl _) W D _ _ (by simp at hD;omega) hK rfl rfl)⟩
 case stop =>
  rintro D c pre W _ _ h _
  exact h.elim
theorem qel (F:Fence) (n:Nat) (h39:F.fn 299) (h48:F.fn 304) (hro:F.round=none) (hn:3≤n) (g:Nat) (lb:Array Value) (hFg:F.fn g) (eg:∀args w,(callFunc g args).run Tryz.prog w=.ok (.enter g args) w) (S:List Pr→Prop) (N:Nat) (hN:N≤8388608) (w:World)
  (hseq:SeqStopsK F (n - 1 - 1) Tryz.prog g lb (fun x:Pr=>#[q2c x]) KeepsWalks S (fun _=>True) N (w.alloc (.cells #[.slice none 0 0] 45))) :
  CallsIn F n Tryz.prog  299 #[.func (.func g) #[] lb] w fun e W'=>∃v ss,e=.returned v∧S ss∧W'.ownsRow w.heap.size 130 2 v ss.length (rowP ss)∧Below w.heap.size w W':=by
 refine callsIn_of_wp Tryz.func299 rfl h39 ?_ hro
 simp only[Tryz.ntmps299,List.size_toArray,List.length_cons,List.length_nil,Nat.reduceAdd,Nat.reduceSub,Array.replicate_succ,Array.replicate_zero,List.push_toArray,List.append_toArray,List.nil_append,List.cons_append]
 have h1:1≤n:=by omega
 gi_wp2_with (gi_at_call 304;refine (qek F (n - 1) h48 hro (by omega) g lb hFg eg S N hN _ hseq).mono ?_;rintro e w' ⟨v,ss,rfl,hS,hrow,hb⟩)
 go_ret
 exact⟨v,ss,rfl,hS,hrow,hb⟩
theorem qgt (b:Nat)(w:World):Calls Tryz.prog 288 #[.map (some b)] w fun e w'=>e=.returned (.func (.func 301) #[] #[.pointer (some ⟨w.heap.size,0,none⟩)])∧w'=w.alloc (.cells #[.map (some b)] 293) :=
 (callsIn_wide (n:=9)).1 (keys_in Fence.wide 9 trivial rfl (some b) w)
structure Lists (S:Pr→Prop)(ss:List Pr):Prop where
 nodup:ss.Nodup
 wf:∀p ∈ ss,wfP p
 mem:∀p,wfP p→(p ∈ ss↔S p)
theorem q9x (w0:World)(b n:Nat)(S:Pr→Prop)(h:PS w0 b n S)(hn:n≤8388608)(w:World)(hw:w=w0.alloc (.cells #[.map (some b)] 293)) :
  Calls Tryz.prog 299 #[.func (.func 301) #[] #[.pointer (some ⟨w0.heap.size,0,none⟩)]] w fun e W'=>∃v ss,e=.returned v∧Lists S ss∧ss.length≤n∧W'.ownsRow w.heap.size 130 2 v ss.length (rowP ss)∧Below w.heap.size w W':=by
 obtain⟨f,⟨D,ho,hf⟩,h2⟩:=h
 have hs:w.heap.size=w0.heap.size + 1:=by rw[hw];simp
 have hbl:b < w0.heap.size:=ho.lt
 have hw':(w.alloc (.cells #[.slice none 0 0] 45)).ownsMap Tryz.prog 130 unitElem b n D:=by rw[hw];exact (ho.alloc _).alloc _
 refine ((callsIn_wide (n:=9)).1 (qel Fence.wide 9 trivial trivial rfl (by omega) 301 _ trivial (enters_of Tryz.func301 (by kernel_rfl) rfl) (fun ss=>Col D (fun _=>false) ss∧ss.length≤Maps.size D) (Maps.size D) (Nat.le_trans ho.size_le hn) w (keys_stops Fence.wide _ trivial rfl (by omega) w0.heap.size b n D _ (by simp;omega) ?_ hw'))).mono ?_
 ·rw[World.cell?_of_block (w:=w) (a:=⟨w0.heap.size,0,none⟩) (Below.heap_alloc w _ w0.heap.size (by omega)),hw]
  exact World.cell?_alloc_new w0 _ _ 0
 ·rintro e W' ⟨v,ss,rfl,⟨hC,hcl⟩,hr,hb⟩
  exact⟨v,ss,rfl,⟨hC.nodup,hC.wf,fun p hp=>by rw[hC.mem p hp,hf p hp,h2 p hp];simp⟩,Nat.le_trans hcl ho.size_le,hr,hb⟩
end F
namespace F
open Go.Shelf
variable {tq:Nat} {isV:Int→Bool}
def Tryz.qkh:Go.Shelf.Ren:=⟨fun | 6=>300 | 15=>267 | 14=>305 | 28=>284 | 29=>285 | 20=>306 | 21=>307 | 22=>308 | 23=>309 | 24=>310 | 25=>311 | 26=>312 | 27=>313 | 46=>314 | 47=>295 | 48=>296 | 49=>315 | 50=>316 | 57=>317 | n=>n,fun | 22=>45 | 24=>130 | 25=>320 | 3=>3 | 39=>116 | 0=>0 | 53=>299 | 55=>311 | 4=>4 | 46=>304 | 45=>303 | 50=>54 | 5=>5 | 9=>9 | 66=>321 | 70=>325 | 76=>330 | 77=>331 | n=>n,fun | n=>n⟩
theorem Tryz.sortB:Go.Proofs.SlLaysF0.n6 Tryz.prog Tryz.qkh:={
 mixed:=by kernel_rfl
 f6:=⟨Tryz.f300.name,by decide,Tryz.func300.trans (congrArg some (by kernel_rfl))⟩
 f14:=⟨Tryz.f305.name,by decide,Tryz.func305.trans (congrArg some (by kernel_rfl))⟩
 f15:=Tryz.func267.trans (congrArg some (by kernel_rfl))
 f20:=⟨Tryz.f306.name,by decide,Tryz.func306.trans (congrArg some (by kernel_rfl))⟩
 f21:=⟨Tryz.f307.name,by decide,Tryz.func307.trans (congrArg some (by kernel_rfl))⟩
 f22:=⟨Tryz.f308.name,by decide,Tryz.func308.trans (congrArg some (by kernel_rfl))⟩
 f23:=⟨Tryz.f309.name,by decide,Tryz.func309.trans (congrArg some (by kernel_rfl))⟩
 f24:=⟨Tryz.f310.name,by decide,Tryz.func310.trans (congrArg some (by kernel_rfl))⟩
 f25:=⟨Tryz.f311.name,by decide,Tryz.func311.trans (congrArg some (by kernel_rfl))⟩
 f26:=⟨Tryz.f312.name,by decide,Tryz.func312.trans (congrArg some (by kernel_rfl))⟩
 f27:=⟨Tryz.f313.name,by decide,Tryz.func313.trans (congrArg some (by kernel_rfl))⟩
 f28:=Tryz.func284.trans (congrArg some (by kernel_rfl))
 f29:=Tryz.func285.trans (congrArg some (by kernel_rfl))
 f46:=⟨Tryz.f314.name,by decide,Tryz.func314.trans (congrArg some (by kernel_rfl))⟩
 f47:=Tryz.func295.trans (congrArg some (by kernel_rfl))
 f48:=Tryz.func296.trans (congrArg some (by kernel_rfl))
 f49:=⟨Tryz.f315.name,by decide,Tryz.func315.trans (congrArg some (by kernel_rfl))⟩
 f50:=⟨Tryz.f316.name,by decide,Tryz.func316.trans (congrArg some (by kernel_rfl))⟩
 f57:=⟨Tryz.f317.name,by decide,Tryz.func317.trans (congrArg some (by kernel_rfl))⟩
 t0:=Tryz.underlying0
 a0:=Tryz.isAgg0
 z0:=Tryz.sizeOf0
 v0:=Tryz.zeroValue0
 t3:=Tryz.underlying3
 a3:=Tryz.isAgg3
 z3:=Tryz.sizeOf3
 v3:=Tryz.zeroValue3
 t4:=Tryz.underlying4
 a4:=Tryz.isAgg4
 z4:=Tryz.sizeOf4
 v4:=Tryz.zeroValue4
 t5:=Tryz.underlying5
 a5:=Tryz.isAgg5
 z5:=Tryz.sizeOf5
 v5:=Tryz.zeroValue5
 t9:=Tryz.underlying9
 a9:=Tryz.isAgg9
 z9:=Tryz.sizeOf9
 v9:=Tryz.zeroValue9
 t22:=Tryz.underlying45
 a22:=Tryz.isAgg45
 z22:=Tryz.sizeOf45
 v22:=Tryz.zeroValue45
 t25:=Tryz.underlying320
 a25:=Tryz.isAgg320
 z25:=Tryz.sizeOf320
 v25:=Tryz.zeroValue320
 t39:=Tryz.underlying116
 a39:=Tryz.isAgg116
 z39:=Tryz.sizeOf116
 v39:=Tryz.zeroValue116
 t45:=Tryz.underlying303
 a45:=Tryz.isAgg303
 z45:=Tryz.sizeOf303
 v45:=Tryz.zeroValue303
 t46:=Tryz.underlying304
 a46:=Tryz.isAgg304
 z46:=Tryz.sizeOf304
 v46:=Tryz.zeroValue304
 t50:=Tryz.underlying54
 a50:=Tryz.isAgg54
 z50:=Tryz.sizeOf54
 v50:=Tryz.zeroValue54
 t53:=Tryz.underlying299
 a53:=Tryz.isAgg299
 z53:=Tryz.sizeOf299
 v53:=Tryz.zeroValue299
 t55:=Tryz.underlying311
 a55:=Tryz.isAgg311
 z55:=Tryz.sizeOf311
 v55:=Tryz.zeroValue311
 t66:=Tryz.underlying321
 a66:=Tryz.isAgg321
 z66:=Tryz.sizeOf321
 v66:=Tryz.zeroValue321
 t70:=Tryz.underlying325
 a70:=Tryz.isAgg325
 z70:=Tryz.sizeOf325
 v70:=Tryz.zeroValue325
 t76:=Tryz.underlying330
 a76:=Tryz.isAgg330
 z76:=Tryz.sizeOf330
 v76:=Tryz.zeroValue330
 t77:=Tryz.underlying331
 a77:=Tryz.isAgg331
 z77:=Tryz.sizeOf331
 v77:=Tryz.zeroValue331 }
end F
namespace F
open Go.RowKit
variable {tq:Nat} {isV:Int→Bool}
def q92 (x y:Int):Int:=if x < y then -1 else if y < x then 1 else 0
theorem qbx (x:Int)(w:World):Calls Tryz.prog 239 #[.int .i64 x] w fun e w'=>e=.returned (.bool false)∧w'=w:=by
 go_enter Tryz.func239,Tryz.ntmps239
 go_wp2
 go_ret
 exact⟨rfl,rfl⟩
theorem qij (x y:Int)(w:World):Calls Tryz.prog 291 #[.int .i64 x,.int .i64 y] w fun e w'=>e=.returned (.int .i64 (q92 x y))∧w'=w:=by
 have A:Hid _:=qbx x w
 have B:Hid _:=qbx y w
 rcases Int.lt_trichotomy x y with h | h | h
 ·have HE:Hid (q92 x y=-1):=by show _=_;unfold q92;rw[if_pos h]
  go_enter Tryz.func291,Tryz.ntmps291
  go_wp2_with fail
  refine Calls.mono A.out ?_
  rintro e w' ⟨rfl,hw⟩
  subst w'
  go_wp2_with fail
  refine Calls.mono B.out ?_
  rintro e w' ⟨rfl,hw⟩
  subst w'
  go_wp2
  go_ret
  exact⟨by rw[HE.out];rfl,rfl⟩
 ·have HE:Hid (q92 x y=0):=by show _=_;unfold q92;rw[if_neg (by omega),if_neg (by omega)]
  have h1:¬x < y:=by omega
  have h2:¬y < x:=by omega
  clear h
  go_enter Tryz.func291,Tryz.ntmps291
  go_wp2_with fail
  refine Calls.mono A.out ?_
  rintro e w' ⟨rfl,hw⟩
  subst w'
  go_wp2_with fail
  refine Calls.mono B.out ?_
  rintro e w' ⟨rfl,hw⟩
  subst w'
  go_wp2
  go_ret
  exact⟨by rw[HE.out];rfl,rfl⟩
 ·have HE:Hid (q92 x y=1):=by show _=_;unfold q92;rw[if_neg (by omega),if_pos h]
  have h1:¬x < y:=by omega
  go_enter Tryz.func291,Tryz.ntmps291
  go_wp2_with fail
  refine Calls.mono A.out ?_
  rintro e w' ⟨rfl,hw⟩
  subst w'
  go_wp2_with fail
  refine Calls.mono B.out ?_
  rintro e w' ⟨rfl,hw⟩
  subst w'
  go_wp2
  go_ret
  exact⟨by rw[HE.out];rfl,rfl⟩
def orI (a b:Int):Int:=if a=0 then b else a
theorem or_any (a b:Int)(g c:Nat)(w:World)(h0:w.cell? ⟨g,0,none⟩=some (.int .i64 a))(h1:w.cell? ⟨g,1,none⟩=some (.int .i64 b)) :
  Calls Tryz.prog 290 #[.slice (some ⟨g,0,none⟩) 2 c] w fun e w'=>e=.returned (.int .i64 (orI a b))∧w'=w:=by
 go_enter Tryz.func290,Tryz.ntmps290
 go_wp2_with fail
 go_loop [8] (fun i=>∃j:Nat,j≤2∧i=.int .i64 j∧Hid (1≤j→a=0)∧Hid (j=2→b=0)) (fun i=>2 - (intOf i).toNat)
 case atStart=>exact⟨0,by omega,rfl,fun h=>by omega,fun h=>by omega⟩
 case round =>
  obtain⟨j,hj,rfl,HA,HB⟩:=hrel
  match j,hj with
  | 0,_ =>
   by_cases ha:a=0
   ·have f1:(a == 0)=true:=by rw[beq_iff_eq];exact ha
    have HA2:Hid (1≤0 + 1→a=0):=fun _=>ha
    clear ha HA HB
    go_wp2
    go_round
    case rel=>exact⟨1,by omega,rfl,HA2.out,fun h=>by omega⟩
    case measure=>simp[intOf]
   ·have f1:(a == 0)=false:=by rw[beq_eq_false_iff_ne];exact ha
    have HE:Hid (orI a b=a):=by show _=_;unfold orI;rw[if_neg ha]
    clear ha HA HB
    go_wp2
    go_ret
    exact⟨by rw[HE.out];rfl,rfl⟩
  | 1,_ =>
   have ha:=HA.out (by omega)
   have HE:Hid (orI a b=b):=by show _=_;unfold orI;rw[if_pos ha]
   by_cases hb:b=0
   ·have f1:(b == 0)=true:=by rw[beq_iff_eq];exact hb
    have HB2:Hid (1 + 1=2→b=0):=fun _=>hb
    clear ha hb HB
    go_wp2
    go_round
    case rel=>exact⟨2,by omega,rfl,fun _=>HA.out (by omega),HB2.out⟩
    case measure=>simp[intOf]
   ·have f1:(b == 0)=false:=by rw[beq_eq_false_iff_ne];exact hb
    clear ha hb HA HB
    go_wp2
    go_ret
    exact⟨by rw[HE.out];rfl,rfl⟩
  | 2,_ =>
   have HE:Hid (orI a b=0):=by show _=_;unfold orI;rw[if_pos (HA.out (by omega))];exact HB.out rfl
   go_wp2
   go_ret
   exact⟨by rw[HE.out];rfl,rfl⟩
def cfP (p q:Pr):Int:=orI (q92 p.1 q.1) (q92 p.2 q.2)
theorem qn4 (x y:Pr)(w:World):Calls Tryz.prog 289 #[q2c x,q2c y] w fun e w'=>e=.returned (.int .i64 (cfP x y))∧∃q os',w'=Sort.grow (w.drewN q) os':=by
 obtain⟨x0,x1⟩:=x
 obtain⟨y0,y1⟩:=y
 obtain⟨wA,hwA⟩:∃wA,wA=(w.alloc (.cells #[.int .i64 x0,.int .i64 x1] 130)).alloc (.cells #[.int .i64 y0,.int .i64 y1] 130):=⟨_,rfl⟩
 have C1:Hid _:=qij x0 y0 wA.drew
 have C2:Hid _:=qij x1 y1 wA.drew
 unfold cfP q2c
 dsimp only
 generalize q92 x0 y0=c0 at *
 generalize q92 x1 y1=c1 at *
 have q0:wA.drew.cell? ⟨w.heap.size,0,none⟩=some (.int .i64 x0):=by rw[hwA];exact (World.cell?_of_block (w:=w.alloc (.cells #[.int .i64 x0,.int .i64 x1] 130)) (a:=⟨w.heap.size,0,none⟩) (Below.heap_alloc _ _ w.heap.size (by simp))).trans (World.cell?_alloc_new w _ _ 0)
 have q1:wA.drew.cell? ⟨w.heap.size,1,none⟩=some (.int .i64 x1):=by rw[hwA];exact (World.cell?_of_block (w:=w.alloc (.cells #[.int .i64 x0,.int .i64 x1] 130)) (a:=⟨w.heap.size,1,none⟩) (Below.heap_alloc _ _ w.heap.size (by simp))).trans (World.cell?_alloc_new w _ _ 1)
 have r0:wA.drew.cell? ⟨w.heap.size + 1,0,none⟩=some (.int .i64 y0):=by rw[hwA];have h:=World.cell?_alloc_new (w.alloc (.cells #[.int .i64 x0,.int .i64 x1] 130)) #[.int .i64 y0,.int .i64 y1] 130 0;rw[World.size_alloc] at h;exact h
 have r1:wA.drew.cell? ⟨w.heap.size + 1,1,none⟩=some (.int .i64 y1):=by rw[hwA];have h:=World.cell?_alloc_new (w.alloc (.cells #[.int .i64 x0,.int .i64 x1] 130)) #[.int .i64 y0,.int .i64 y1] 130 1;rw[World.size_alloc] at h;exact h
 have hsB:wA.drew.heap.size=w.heap.size + 2:=by rw[hwA];simp[World.drew]
 have C3:Hid _:=or_any c0 c1 wA.drew.heap.size 2 (wA.drew.alloc (.cells #[.int .i64 c0,.int .i64 c1] 3)) (World.cell?_alloc_new wA.drew _ _ 0) (World.cell?_alloc_new wA.drew _ _ 1)
 have s0:(wA.drew.alloc (.cells #[.int .i64 c0,.int .i64 c1] 3)).cell? ⟨w.heap.size,0,none⟩=some (.int .i64 x0):=(World.cell?_of_block (w:=wA.drew) (a:=⟨w.heap.size,0,none⟩) (Below.heap_alloc _ _ w.heap.size (by omega))).trans q0
 have s1:(wA.drew.alloc (.cells #[.int .i64 c0,.int .i64 c1] 3)).cell? ⟨w.heap.size,1,none⟩=some (.int .i64 x1):=(World.cell?_of_block (w:=wA.drew) (a:=⟨w.heap.size,1,none⟩) (Below.heap_alloc _ _ w.heap.size (by omega))).trans q1
 have t0:(wA.drew.alloc (.cells #[.int .i64 c0,.int .i64 c1] 3)).cell? ⟨w.heap.size + 1,0,none⟩=some (.int .i64 y0):=(World.cell?_of_block (w:=wA.drew) (a:=⟨w.heap.size + 1,0,none⟩) (Below.heap_alloc _ _ (w.heap.size + 1) (by omega))).trans r0
 have t1:(wA.drew.alloc (.cells #[.int .i64 c0,.int .i64 c1] 3)).cell? ⟨w.heap.size + 1,1,none⟩=some (.int .i64 y1):=(World.cell?_of_block (w:=wA.drew) (a:=⟨w.heap.size + 1,1,none⟩) (Below.heap_alloc _ _ (w.heap.size + 1) (by omega))).trans r1
 have HG:Hid (∃os,wA.drew.alloc (.cells #[.int .i64 c0,.int .i64 c1] 3)=Sort.grow (w.drewN 1) os):=by
  rw[hwA,Sort.alloc_eq_grow w,Sort.alloc_eq_grow (Sort.grow w _),Sort.grow_grow,Sort.drew_grow,Sort.alloc_eq_grow,Sort.grow_grow]
  exact⟨_,rfl⟩
 generalize orI c0 c1=rr at *
 go_enter Tryz.func289,Tryz.ntmps289
 go_wp2_with fail
 rw[←hwA]
 clear hwA hsB
 refine wp_region_held_drew (S:=fun w'=>w'.cell? ⟨w.heap.size,0,none⟩=some (.int .i64 x0)∧w'.cell? ⟨w.heap.size,1,none⟩=some (.int .i64 x1)∧w'.cell? ⟨w.heap.size + 1,0,none⟩=some (.int .i64 y0)∧w'.cell? ⟨w.heap.size + 1,1,none⟩=some (.int .i64 y1)) (by kernel_rfl) ?_ (fun hHeld=>?_)
 ·exact⟨q0,q1,r0,r1⟩
 refine tk 0 ⟨some 5,.fieldAddr 130 (.tmp 2) 0,0,"dist.go:125",#[],none⟩ ?_ hHeld ?_ ?_
 rotate_left
 ·(intro w hSw;(try dsimp only at hSw);go_simp;try with_reducible rfl)
 try simp only[Act.put,List.setIfInBounds_toArray,List.set_cons_zero,List.set_cons_succ]
 refine tk 1 ⟨some 6,.load 3 (.tmp 5),3,"dist.go:125",#[⟨0,.data⟩],none⟩ ?_ hHeld ?_ ?_
 rotate_left
 ·(intro w hSw;(try dsimp only at hSw);go_simp;try with_reducible rfl)
 try simp only[Act.put,List.setIfInBounds_toArray,List.set_cons_zero,List.set_cons_succ]
 refine tk 2 ⟨some 7,.fieldAddr 130 (.tmp 3) 0,0,"dist.go:125",#[],none⟩ ?_ hHeld ?_ ?_
 rotate_left
 ·(intro w hSw;(try dsimp only at hSw);go_simp;try with_reducible rfl)
 try simp only[Act.put,List.setIfInBounds_toArray,List.set_cons_zero,List.set_cons_succ]
 refine tk 3 ⟨some 8,.load 3 (.tmp 7),3,"dist.go:125",#[⟨2,.data⟩],none⟩ ?_ hHeld ?_ ?_
 rotate_left
 ·(intro w hSw;(try dsimp only at hSw);go_simp;try with_reducible rfl)
 try simp only[Act.put,List.setIfInBounds_toArray,List.set_cons_zero,List.set_cons_succ]
 refine tk 5 ⟨some 10,.fieldAddr 130 (.tmp 2) 1,0,"dist.go:125",#[],none⟩ ?_ hHeld ?_ ?_
 rotate_left
 ·(intro w hSw;(try dsimp only at hSw);go_simp;try with_reducible rfl)
 try simp only[Act.put,List.setIfInBounds_toArray,List.set_cons_zero,List.set_cons_succ]
 refine tk 6 ⟨some 11,.load 3 (.tmp 10),3,"dist.go:125",#[⟨5,.data⟩],none⟩ ?_ hHeld ?_ ?_
 rotate_left
 ·(intro w hSw;(try dsimp only at hSw);go_simp;try with_reducible rfl)
 try simp only[Act.put,List.setIfInBounds_toArray,List.set_cons_zero,List.set_cons_succ]
 refine tk 7 ⟨some 12,.fieldAddr 130 (.tmp 3) 1,0,"dist.go:125",#[],none⟩ ?_ hHeld ?_ ?_
 rotate_left
 ·(intro w hSw;(try dsimp only at hSw);go_simp;try with_reducible rfl)
 try simp only[Act.put,List.setIfInBounds_toArray,List.set_cons_zero,List.set_cons_succ]
 refine tk 8 ⟨some 13,.load 3 (.tmp 12),3,"dist.go:125",#[⟨7,.data⟩],none⟩ ?_ hHeld ?_ ?_
 rotate_left
 ·(intro w hSw;(try dsimp only at hSw);go_simp;try with_reducible rfl)
 try simp only[Act.put,List.setIfInBounds_toArray,List.set_cons_zero,List.set_cons_succ]
 refine wpAnyH_ready (rs:=[4]) (by kernel_rfl) (by simp) ?_
 refine AllReadyH.cons rfl (fun K hK=>?_) AllReadyH.nil
 go_simp
 go_at_call 291
 refine Calls.mono C1.out ?_
 rintro e w2 ⟨rfl,hw2⟩
 subst w2
 clear C1
 try go_wp2_with fail
 refine hK.out _ _ ?_ (fun hHeld_4=>?_)
 ·exact⟨q0,q1,r0,r1⟩
 clear hK K
 try simp only[Act.put,List.setIfInBounds_toArray,List.set_cons_zero,List.set_cons_succ]
 refine wpAnyH_ready (rs:=[9]) (by kernel_rfl) (by simp) ?_
 refine AllReadyH.cons rfl (fun K hK=>?_) AllReadyH.nil
 go_simp
 go_at_call 291
 refine Calls.mono C2.out ?_
 rintro e w3 ⟨rfl,hw3⟩
 subst w3
 clear C2
 try go_wp2_with fail
 refine hK.out _ _ ?_ (fun hHeld_9=>?_)
 ·exact⟨q0,q1,r0,r1⟩
 clear hK K
 try simp only[Act.put,List.setIfInBounds_toArray,List.set_cons_zero,List.set_cons_succ]
 refine wpAnyH_ready (rs:=[10]) (by kernel_rfl) (by simp) ?_
 refine AllReadyH.cons rfl (fun K hK=>?_) AllReadyH.nil
 go_simp
 refine hK.out _ _ ?_ (fun hHeld_10=>?_)
 ·exact⟨s0,s1,t0,t1⟩
 clear hK K
 try simp only[Act.put,List.setIfInBounds_toArray,List.set_cons_zero,List.set_cons_succ]
 refine wpAnyH_ready (rs:=[11]) (by kernel_rfl) (by simp) ?_
 refine AllReadyH.cons rfl (fun K hK=>?_) AllReadyH.nil
 go_simp
 go_at_call 290
 refine Calls.mono C3.out ?_
 rintro e w5 ⟨rfl,hw5⟩
 subst w5
 try go_wp2_with fail
 refine hK.out _ _ ?_ (fun hHeld_11=>?_)
 ·exact⟨s0,s1,t0,t1⟩
 clear hK K
 try simp only[Act.put,List.setIfInBounds_toArray,List.set_cons_zero,List.set_cons_succ]
 refine tk 12 ⟨some 4,.assign (.tmp 16),3,"dist.go:125",#[⟨11,.data⟩,⟨11,.chain⟩,⟨0,.phase⟩,⟨1,.phase⟩,⟨2,.phase⟩,⟨3,.phase⟩,⟨4,.phase⟩,⟨5,.phase⟩,⟨6,.phase⟩,⟨7,.phase⟩,⟨8,.phase⟩,⟨9,.phase⟩,⟨10,.phase⟩,⟨11,.phase⟩],none⟩ ?_ hHeld_11 ?_ ?_
 rotate_left
 ·(intro w hSw;(try dsimp only at hSw);go_simp;try with_reducible rfl)
 try simp only[Act.put,List.setIfInBounds_toArray,List.set_cons_zero,List.set_cons_succ]
 refine wpAnyH_done (by kernel_rfl) ?_ _
 go_wp2
 go_ret
 obtain⟨os,hos⟩:=HG.out
 exact⟨rfl,1,os,hos⟩
end F
namespace F
open Go.RowKit
variable {tq:Nat} {isV:Int→Bool}
def encS (p:Pr):List Value:=[.int .i64 p.1,.int .i64 p.2]
theorem ltS (x y:Pr):ltOf cfP x y=decide (ltP x y):=by
 unfold ltOf cfP orI q92 ltP
 by_cases h1:x.1 < y.1
 ·simp[h1]
 ·by_cases h2:y.1 < x.1
  ·have h3:¬x.1=y.1:=by omega
   simp[h1,h2,h3]
  ·have h3:x.1=y.1:=by omega
   by_cases h4:x.2 < y.2
   ·simp[h3,h4]
   ·by_cases h5:y.2 < x.2 <;> simp[h3,h4,h5]
theorem swoP:Sort.SWO (ltOf cfP) where
 irrefl x:=by rw[ltS];simp[q5c]
 trans x y z h1 h2:=by rw[ltS] at *;simp at *;exact qbs h1 h2
 ntrans x y z h1 h2:=by rw[ltS] at *;simp at *;unfold ltP at *;omega
theorem qn5 (blk off size:Nat)(w:World):CmpLays Tryz.prog  289 #[] encS 2 cfP blk off size w:=fun _ _ _ _ x y=>qn4 x y _
theorem qby (ds:List Pr)(t:Nat)(ht:t < ds.length * 2):(rowP ds)[t]?=some ((encS ds.toArray[t / 2]!)[t % 2]!):=by
 have hlt:t / 2 < ds.length:=by omega
 have hg:ds.toArray[t / 2]! = ds[t / 2]:=by
  rw[getElem!_pos ds.toArray (t / 2) (by simpa using hlt)];simp
 have h:=qd0 ds (t / 2) ds[t / 2] (List.getElem?_eq_getElem hlt)
 rw[hg]
 rcases Nat.mod_two_eq_zero_or_one t with h2 | h2
 ·rw[h2]
  have e:t=t / 2 * 2:=by omega
  have h3:=h.1
  rw[←e] at h3
  exact h3
 ·rw[h2]
  have e:t=t / 2 * 2 + 1:=by omega
  have h3:=h.2
  rw[←e] at h3
  exact h3
theorem qgu {w:World}{g m:Nat}{d':Array Pr}{os:Array Obj}:w.grownBy (sortWorldK encS 2 w g 0 m d' os) (some g):=by
 refine⟨rfl,rfl,rfl,?_,fun k hk hne=>?_⟩
 ·unfold sortWorldK Sort.putRowK Sort.putRow Sort.mapBlock Sort.grow Sort.ahead
  simp
 ·have hkg:k≠g:=fun e=>hne (by rw[e])
  unfold sortWorldK Sort.putRowK Sort.putRow Sort.mapBlock Sort.grow Sort.ahead
  simp only[Array.getElem?_append,Array.size_modify,hk,if_true]
  rw[Array.getElem?_modify,if_neg (fun e=>hkg e.symm)]
theorem qgv {w:World}{g m:Nat}{d':Array Pr}{os:Array Obj}{cur:Array Value}(h:w.heap[g]?=some (.cells cur 130 (0,0))):∃cur',(sortWorldK encS 2 w g 0 m d' os).heap[g]?=some (.cells cur' 130 (0,0))∧cur'.size=cur.size:=by
 have hk:g < w.heap.size:=(Array.getElem?_eq_some_iff.1 h).1
 unfold sortWorldK Sort.putRowK Sort.putRow Sort.mapBlock Sort.grow Sort.ahead
 simp only[Array.getElem?_append,Array.size_modify,hk,if_true]
 rw[Array.getElem?_modify,if_pos rfl,h]
 exact⟨_,rfl,by simp[Sort.putCells]⟩
theorem qgw {W:World}{base g n cap:Nat}{cur:Array Value}{xs:List Value}(hg:base≤g)(hh:W.heap[g]?=some (.cells cur 130 (0,0)))(hn:n≤cap)(hc:cap≤maxLen)(hs:cur.size=cap * 2)(hl:xs.length=n * 2)(hr:q5t W (some ⟨g,0,none⟩) xs):W.ownsRow base 130 2 (.slice (some ⟨g,0,none⟩) n cap) n xs:=by
 refine⟨hl,.inr ⟨g,cap,cur,rfl,hg,hh,hn,hc,hs,?_⟩⟩
 refine List.ext_getElem? fun i=>?_
 rw[List.getElem?_take]
 by_cases hi:i < n * 2
 ·rw[if_pos hi]
  have hi':i < xs.length:=by omega
  obtain⟨b,off,e,hc'⟩:=hr i xs[i] (List.getElem?_eq_getElem hi')
  cases e
  rw[Nat.zero_add] at hc'
  rw[List.getElem?_eq_getElem hi',←hc']
  simp[World.cell?,hh]
 ·rw[if_neg hi,List.getElem?_eq_none (by omega)]
theorem qki (w:World)(base n:Nat)(v:Value)(ds:List Pr)(hl:ds.length=n)(hn:n≤4398046511000)(h:w.ownsRow base 130 2 v n (rowP ds)) :
  Calls Tryz.prog 300 #[v,.func (.func 289) #[] #[]] w fun e w'=>e=.returned (.tuple #[])∧Below base w w'∧∃ds':List Pr,ds'.Perm ds∧ds'.Pairwise (fun p q=>¬ltP q p)∧w'.ownsRow base 130 2 v n (rowP ds'):=by
 rcases h.2 with ⟨rfl,h0⟩ | ⟨g,cap,cur,rfl,hbg,hh,hnc,hcm,hsz,htk⟩
 ·subst h0
  obtain rfl:=List.eq_nil_of_length_eq_zero hl
  have hcon:=AnyF.slices_SortFunc_none Tryz.sortB none 0 (.func (.func 289) #[] #[]) w
  change Calls Tryz.prog 300 _ _ _ at hcon
  refine hcon.mono fun e w' ⟨he,hw⟩=>?_
  subst hw
  exact⟨he,Below.refl _ _,[],List.Perm.refl _,List.Pairwise.nil,h⟩
 ·have eg:∀args w,(callFunc 289 args).run Tryz.prog w=.ok (.enter 289 args) w:=enters_of Tryz.func289 (by kernel_rfl) rfl
  have hblk:g < w.heap.size:=jo h g rfl
  obtain⟨a0,c0,hv0,_,hrow,_⟩:=q78 h
  simp only[Value.slice.injEq] at hv0
  obtain⟨rfl,_,rfl⟩:=hv0
  have hfz:∀j,w.frozen? ⟨g,j,none⟩=false:=fun j=>by simp[World.frozen?,hh]
  have hH:Sort.HoldsK encS 2 w g 0 ds.toArray:=fun j hj=>by
   rw[Sort.size_flatK] at hj
   refine⟨?_,by rw[Nat.zero_add];exact hfz j⟩
   rw[Sort.get_flatK _ _ _ j hj]
   obtain⟨b,off,e,hc⟩:=hrow j _ (qby ds j (by simpa using hj))
   cases e
   exact hc
  have hcon:=AnyQ.slices_SortFunc Tryz.sortB 2 Tryz.isAgg130 Tryz.sizeOf130 encS (fun _=>rfl) (fun x v hv=>by simp[encS] at hv;rcases hv with rfl | rfl <;> rfl) cfP swoP 289 #[] g 0 cap ds.toArray w eg (qn5 g 0 _ w) hH hblk (by simp;omega)
  rw[show ds.toArray.size=n by simpa using hl] at hcon
  change Calls Tryz.prog 300 _ _ _ at hcon
  refine hcon.mono ?_
  rintro e w2 ⟨rfl,d',m,os,hp,hs,rfl⟩
  have hsz':d'.size=n:=by have:=hp.1;simpa [hl] using this
  obtain⟨cur',hb',hs'⟩:=qgv (m:=m) (d':=d') (os:=os) hh
  refine⟨rfl,(Below.refl base w).grown qgu (Nat.le_of_lt (Nat.lt_of_le_of_lt hbg hblk)) (fun g' e'=>by cases e';exact hbg),d'.toList,?_,?_,?_⟩
  ·have:=hp.2.2
   rw[show (ds.toArray).extract 0 n=ds.toArray by rw[←hl];simp,show d'.extract 0 n=d' by rw[←hsz'];simp] at this
   simpa using this
  ·rw[List.pairwise_iff_getElem]
   intro i j hi hj hij
   have h1:=hs i j (Nat.zero_le _) hij (by rw[←hsz'];simpa using hj)
   rw[ltS,getElem!_pos d' j (by simpa using hj),getElem!_pos d' i (by simpa using hi)] at h1
   simpa using h1
  ·refine qgw hbg hb' hnc hcm (hs'.trans hsz) (by rw[qej];simp[hsz']) ?_
   intro t u ht
   have hlt:t < d'.size * 2:=by
    have:=(List.getElem?_eq_some_iff.1 ht).1
    rw[qej] at this
    simpa using this
   have h2:=holdsK_sortWorldK_c encS 2 w g 0 ds.toArray d' m os hH hblk (by simp[hsz',hl]) t (by rw[Sort.size_flatK];exact hlt)
   rw[Sort.get_flatK _ _ _ t hlt] at h2
   rw[qby d'.toList t (by simpa using hlt)] at ht
   simp at ht
   refine⟨g,0,rfl,?_⟩
   rw[h2.1,←ht]
   simp
structure Told (S:Pr→Prop)(m:List Pr):Prop where
 up:Up m
 wf:∀p ∈ m,wfP p
 mem:∀p,wfP p→(p ∈ m↔S p)
theorem told_of {S:Pr→Prop}{ss ds:List Pr}(h:Lists S ss)(hp:ds.Perm ss)(hs:ds.Pairwise (fun p q=>¬ltP q p)):Told S ds:=by
 refine⟨?_,fun p hq=>h.wf p (hp.mem_iff.1 hq),fun p hq=>by rw[hp.mem_iff];exact h.mem p hq⟩
 have hn:ds.Nodup:=hp.nodup_iff.2 h.nodup
 exact (hs.and hn).imp fun {a b} ⟨h1,h2⟩=>(qbt h2).resolve_right h1
theorem qem (w0:World)(b n:Nat)(S:Pr→Prop)(h:PS w0 b n S)(hn:n≤8388608)(w:World)(hw:w=w0.alloc (.cells #[.map (some b)] 293)) :
  Calls Tryz.prog 287 #[.func (.func 301) #[] #[.pointer (some ⟨w0.heap.size,0,none⟩)],.func (.func 289) #[] #[]] w fun e w'=>∃v m,e=.returned v∧Told S m∧m.length≤n∧w'.ownsRow w.heap.size 130 2 v m.length (rowP m)∧Below w.heap.size w w':=by
 have C:Hid _:=q9x w0 b n S h hn w hw
 have HN:Hid (n≤8388608):=hn
 clear h hw hn
 go_enter Tryz.func287,Tryz.ntmps287
 go_wp2_with fail
 refine Calls.mono C.out ?_
 rintro e w1 ⟨v,ss,rfl,hL,hlen,hr,hb⟩
 have D:Hid _:=qki w1 w.heap.size ss.length v ss rfl (by have:=HN.out;omega) hr
 have HL:Hid (Lists S ss):=hL
 have HLen:Hid (ss.length≤n):=hlen
 have HB:Hid (Below w.heap.size w w1):=hb
 clear C hL hlen hr hb
 go_wp2_with fail
 refine Calls.mono D.out ?_
 rintro e w2 ⟨rfl,hb2,ds,hp,hs,hr2⟩
 have HE:Hid (∃m,Told S m∧m.length≤n∧w2.ownsRow w.heap.size 130 2 v m.length (rowP m)∧Below w.heap.size w w2) :=
  ⟨ds,told_of HL.out hp hs,by rw[hp.length_eq];exact HLen.out,by rw[hp.length_eq];exact hr2,HB.out.trans hb2⟩
 clear D HL HLen HB hb2 hp hs hr2
 go_wp2
 go_ret
 obtain⟨m,h1,h2,h3,h4⟩:=HE.out
 exact⟨v,m,rfl,h1,h2,h3,h4⟩
theorem qen (w:World)(b n:Nat)(S:Pr→Prop)(h:PS w b n S)(hn:n≤8388608) :
  Calls Tryz.prog 270 #[.map (some b)] w fun e w'=>∃v m,e=.returned v∧Told S m∧m.length≤n∧w'.ownsRow w.heap.size 130 2 v m.length (rowP m)∧Below w.heap.size w w':=by
 have C:Hid _:=qgt b w
 have D:Hid _:=qem w b n S h hn _ rfl
 have HS:Hid (Below w.heap.size w (w.alloc (.cells #[.map (some b)] 293))):=(Below.refl _ w).alloc (Nat.le_refl _) _
 clear h hn
 go_enter Tryz.func270,Tryz.ntmps270
 go_wp2_with fail
 refine Calls.mono C.out ?_
 rintro e w1 ⟨rfl,hw1⟩
 subst w1
 clear C
 go_wp2_with fail
 refine Calls.mono D.out ?_
 rintro e w2 ⟨v,m,rfl,h1,h2,h3,h4⟩
 have HE:Hid (∃m,Told S m∧m.length≤n∧w2.ownsRow w.heap.size 130 2 v m.length (rowP m)∧Below w.heap.size w w2) :=
  ⟨m,h1,h2,h3.mono (by simp),HS.out.trans (h4.mono (by simp))⟩
 clear D HS h1 h2 h3 h4
 go_wp2
 go_ret
 obtain⟨m,h1,h2,h3,h4⟩:=HE.out
 exact⟨v,m,rfl,h1,h2,h3,h4⟩
end F
namespace F
open Go.RowKit
variable {tq:Nat} {isV:Int→Bool}
theorem qn6 {l m:List Pr}(h:q38 l m):m.length≤l.length:=by
 have:=q79 (l:=m) (m:=l.map jy) (qmy h.up) fun p hp=>by
  obtain⟨_,q,hq,e⟩:=(h.mem p).1 hp
  exact List.mem_map.2 ⟨q,hq,e⟩
 simpa using this
theorem qgx {l l':List Pr}{p:Pr}:inN (l++l') p↔inN l p∨inN l' p:=by
 unfold inN
 constructor
 ·rintro⟨h,q,hq,e⟩
  rcases List.mem_append.1 hq with hq | hq
  ·exact .inl ⟨h,q,hq,e⟩
  ·exact .inr ⟨h,q,hq,e⟩
 ·rintro (⟨h,q,hq,e⟩ | ⟨h,q,hq,e⟩)
  ·exact⟨h,q,by simp[hq],e⟩
  ·exact⟨h,q,by simp[hq],e⟩
theorem qn7 {l:List Pr}(hw:∀p ∈ l,wfP p){p:Pr}(h:inN l p):wfP p:=by
 obtain⟨_,q,hq,e⟩:=h
 rw[←e]
 exact qii (hw q hq)
theorem qkj {l m:List Pr}{S:Pr→Prop}(h:Told S m)(hw:∀p ∈ l,wfP p)(hS:∀p,wfP p→(S p↔inN l p)):q38 l m :=
 ⟨h.up,fun p=>⟨fun hp=>(hS p (h.wf p hp)).1 ((h.mem p (h.wf p hp)).1 hp),fun hp=>(h.mem p (qn7 hw hp)).2 ((hS p (qn7 hw hp)).2 hp)⟩⟩
def q6m (w w':World)(e:Ending)(l:List Pr):Prop:=∃v m,e=.returned v∧q38 l m∧w'.ownsRow w.heap.size 130 2 v m.length (rowP m)∧Below w.heap.size w w'
theorem qkk (w:World)(a a':Option Addr)(c c':Nat)(l l':List Pr)(n n':Nat)(hl:l.length=n)(hl':l'.length=n')(hn:n≤1048576)(hn':n'≤1048576)(hw:∀p ∈ l,wfP p)(hw':∀p ∈ l',wfP p)(hA:q1c w a l)(hA':q1c w a' l') :
  Calls Tryz.prog 249 #[.slice a n c,.slice a' n' c'] w fun e w'=>q6m w w' e (l++l'):=by
 have HW:Hid (∀p ∈ l++l',wfP p):=fun p hp=>by
  rcases List.mem_append.1 hp with hp | hp
  ·exact hw p hp
  ·exact hw' p hp
 obtain⟨w1,hw1⟩:∃w1,w1=w.alloc (.map #[] 0):=⟨_,rfl⟩
 have hb1:Below w.heap.size w w1:=by rw[hw1];exact (Below.refl _ _).alloc (Nat.le_refl _) _
 have hP1:PS w1 w.heap.size 0 (fun _=>False):=by rw[hw1];exact⟨_,qb7.made w,fun p _=>by simp⟩
 have C1:Hid _:=add_any w1 w.heap.size 0 _ a c l n hl hn (by omega) hw (hA.under hb1) hP1
 have C2:Hid (∀w2,PS w2 w.heap.size (0 + n) (fun q=>inN l q∨False)→Turn w.heap.size w1 w2→Calls Tryz.prog 269 #[.map (some w.heap.size),.slice a' n' c'] w2 fun e w'=>e=.returned (.tuple #[])∧PS w' w.heap.size (0 + n + n') (fun q=>inN l' q∨(inN l q∨False))∧Turn w.heap.size w2 w'):=fun w2 h1 h2 =>
  add_any w2 w.heap.size (0 + n) _ a' c' l' n' hl' hn' (by omega) hw' (hA'.under (hb1.trans (h2.below hb1.size (Nat.le_refl _)))) h1
 have C3:Hid (∀w3,PS w3 w.heap.size (0 + n + n') (fun q=>inN l' q∨(inN l q∨False))→Below w.heap.size w w3→Calls Tryz.prog 270 #[.map (some w.heap.size)] w3 fun e w'=>q6m w w' e (l++l')):=fun w3 h1 h2=>by
  refine (qen w3 w.heap.size _ _ h1 (by omega)).mono ?_
  rintro e w' ⟨v,m,he,ht,_,hr,hb⟩
  exact⟨v,m,he,qkj ht HW.out fun p _=>by rw[qgx];constructor <;> (rintro (h | h) <;> simp_all),hr.mono h2.size,h2.trans (hb.mono h2.size)⟩
 have HB1:Hid (Below w.heap.size w w1):=hb1
 have HB2:Hid (∀w2,Turn w.heap.size w1 w2→Below w.heap.size w w2∧w.heap.size≤w2.heap.size):=fun w2 h=>⟨HB1.out.trans (h.below HB1.out.size (Nat.le_refl _)),Nat.le_trans HB1.out.size h.size⟩
 clear hw hw' hA hA' hP1 hb1 hl hl' hn hn' HW HB1
 have hmm:=@run_makeMap Tryz.prog
 go_enter Tryz.func249,Tryz.ntmps249
 go_wp2_with fail
 rw[←hw1]
 clear hw1 hmm
 refine Calls.mono C1.out ?_
 rintro e w2 ⟨rfl,hP2,hT2⟩
 have D:Hid _:=C2.out w2 hP2 hT2
 have HB:Hid _:=HB2.out w2 hT2
 clear C1 C2 hP2 hT2
 go_wp2_with fail
 refine Calls.mono D.out ?_
 rintro e w3 ⟨rfl,hP3,hT3⟩
 have E:Hid _:=C3.out w3 hP3 (HB.out.1.trans (hT3.below HB.out.2 (Nat.le_refl _)))
 clear D C3 hP3 hT3 HB
 go_wp2_with fail
 refine Calls.mono E.out ?_
 rintro e w4 ⟨v,m,rfl,h1,h2,h3⟩
 have HE:Hid (∃m,q38 (l++l') m∧w4.ownsRow w.heap.size 130 2 v m.length (rowP m)∧Below w.heap.size w w4):=⟨m,h1,h2,h3⟩
 clear E h1 h2 h3
 go_wp2
 go_ret
 obtain⟨m,h1,h2,h3⟩:=HE.out
 exact⟨v,m,rfl,h1,h2,h3⟩
theorem qeo (w:World)(a:Option Addr)(c:Nat)(l:List Pr)(n:Nat)(hl:l.length=n)(hn:n≤1048576)(hw:∀p ∈ l,wfP p)(hA:q1c w a l) :
  Calls Tryz.prog 216 #[.slice a n c] w fun e w'=>q6m w w' e l:=by
 have C:Hid _:=qkk w a none c 0 l [] n 0 hl rfl hn (by omega) hw (by simp) hA (fun i p hi=>by simp at hi)
 rw[List.append_nil] at C
 clear hl hn hw hA
 go_enter Tryz.func216,Tryz.ntmps216
 go_wp2_with fail
 refine Calls.mono C.out ?_
 rintro e w4 ⟨v,m,rfl,h1,h2,h3⟩
 have HE:Hid (∃m,q38 l m∧w4.ownsRow w.heap.size 130 2 v m.length (rowP m)∧Below w.heap.size w w4):=⟨m,h1,h2,h3⟩
 clear C h1 h2 h3
 go_wp2
 go_ret
 obtain⟨m,h1,h2,h3⟩:=HE.out
 exact⟨v,m,rfl,h1,h2,h3⟩
end F
namespace F
open S (jg)
open Go.RowKit
variable {tq:Nat} {isV:Int→Bool}
theorem q8p (w:World)(a:Option Addr)(n c:Nat)(l:List Int)(x:Int)(hl:l.length=n)(hn:n≤17592186043904)(hs:l.Pairwise (·≤·))(h:q1x w a l) :
  Calls Tryz.prog 127 #[.slice a n c,.int .i64 x] w fun e w'=>(∃i:Int,e=.returned (.tuple #[.int .i64 i,.bool (l.contains x)]))∧∃q,w'=w.drewN q:=by
 rcases Nat.eq_zero_or_pos n with h0 | h0
 ·subst h0
  obtain rfl:=List.eq_nil_of_length_eq_zero hl
  refine (Tryz.slices_BinarySearch_int_empty a c x w).mono fun e w' ⟨he,hw⟩=>⟨⟨0,he⟩,0,?_⟩
  rw[hw];rfl
 ·obtain⟨b,off,rfl,_⟩:=h 0 l[0] (List.getElem?_eq_getElem (by omega))
  have hc:∀j,j < l.length→w.cell? ⟨b,off + j,none⟩=some (.int .i64 (l.getD j 0)):=fun j hj=>by
   obtain⟨b',off',e,hc⟩:=h j l[j] (List.getElem?_eq_getElem hj)
   cases e
   rw[hc,List.getD,List.getElem?_eq_getElem hj];rfl
  have htk:l.take n=l:=List.take_of_length_le (by omega)
  have:=Tryz.slices_BinarySearch_int b off n c l x w (by omega) (by omega) hc (by rw[htk];exact hs)
  rw[htk] at this
  exact this.mono fun e w' ⟨he,hw⟩=>⟨⟨_,he⟩,hw⟩
theorem q4y (w:World)(a:Option Addr)(n c:Nat)(l:List Int)(x:Int)(r:Bool)(hr:l.contains x=r)(hl:l.length=n)(hn:n≤17592186043904)(hs:l.Pairwise (·≤·))(h:q1x w a l) :
  Calls Tryz.prog 261 #[.slice a n c,.int .i64 x] w fun e w'=>e=.returned (.bool r)∧∃q,w'=w.drewN q:=by
 have C:Hid _:=q8p w a n c l x hl hn hs h
 rw[hr] at C
 clear hr hl hn hs h
 go_enter Tryz.func261,Tryz.ntmps261
 go_wp2_with fail
 refine Calls.mono C.out ?_
 rintro e w1 ⟨⟨i,rfl⟩,q,hq⟩
 have HQ:Hid (∃q,w1=w.drewN q):=⟨q,hq⟩
 clear C hq
 go_wp2
 go_ret
 exact⟨rfl,HQ.out⟩
def q1j (l:List Pr)(vl:List Int):List Pr:=l.filter fun p=>vl.contains p.1 && vl.contains p.2
theorem qgy {l:List Pr}{vl:List Int}{j:Nat}{p:Pr}(hp:l[j]?=some p):q1j (l.take (j + 1)) vl=q1j (l.take j) vl++(if vl.contains p.1 && vl.contains p.2 then [p] else []):=by
 unfold q1j
 rw[List.take_add_one,hp,Option.toList_some,List.filter_append]
 cases h:(vl.contains p.1 && vl.contains p.2) with
 | true=>simp only[List.filter_cons,List.filter_nil,h,if_true]
 | false=>simp only[List.filter_cons,List.filter_nil,h,Bool.false_eq_true,if_false]
theorem qg (w:World)(o:Obj):Below w.heap.size w (w.alloc o):=(Below.refl _ w).alloc (Nat.le_refl _) _
theorem below_drewN (w:World)(q:Nat):Below w.heap.size w (w.drewN q):=⟨rfl,rfl,rfl,Nat.le_refl _,fun _ _=>rfl⟩
theorem q3a {W W':World}{base:Nat}{e:TypeId}{size:Nat}{v:Value}{n:Nat}{xs:List Value}(h:W.ownsRow base e size v n xs)(hb:Below W.heap.size W W'):W'.ownsRow base e size v n xs:=by
 refine⟨h.1,?_⟩
 rcases h.2 with h0 | ⟨g,cap,cur,h1,h2,h3,h4⟩
 ·exact .inl h0
 ·exact .inr ⟨g,cap,cur,h1,h2,(hb.block g (Array.getElem?_eq_some_iff.1 h3).1).trans h3,h4⟩
theorem q6m.back {w w1 w':World}{e:Ending}{l:List Pr}(h:q6m w1 w' e l)(hb:Below w.heap.size w w1):q6m w w' e l:=by
 obtain⟨v,m,h1,h2,h3,h4⟩:=h
 exact⟨v,m,h1,h2,h3.mono hb.size,hb.trans (h4.mono hb.size)⟩
theorem q50 {W:World}{base n c:Nat}{a:Option Addr}{l:List Pr}(h:W.ownsRow base 130 2 (.slice a n c) n (rowP l)):q1c W a l:=by
 obtain⟨a',c',e,_,hr,_⟩:=q78 h
 cases e
 exact qkg hr
theorem qn8 (w:World)(a a2:Option Addr)(c c2:Nat)(l:List Pr)(vl:List Int)(n n2:Nat)(hl:l.length=n)(hl2:vl.length=n2)(hn:n≤1048576)(hn2:n2≤17592186043904)(hw:∀p ∈ l,wfP p)(hA:q1c w a l)(hA2:q1x w a2 vl) :
  Calls Tryz.prog 235 #[.slice a n c,.slice a2 n2 c2] w fun e w'=>q6m w w' e (q1j l vl):=by
 have HA:Hid (q1c w a l):=hA
 have HL:Hid (l.length=n):=hl
 have HW:Hid (∀p ∈ q1j l vl,wfP p):=fun p hp=>hw p (List.mem_filter.1 hp).1
 have HL2:Hid (vl.length=n2):=hl2
 have C0:Hid _:=qef w a2 c2 vl n2 hl2 hn2 hA2
 obtain⟨i0,hi0,hz0,hz1,hz3⟩:=info_parts info24
 clear hw hA hA2 hl hl2
 go_enter Tryz.func235,Tryz.ntmps235
 go_wp2_with fail
 refine Calls.mono C0.out ?_
 rintro e w1 ⟨hb1,a3,c3,m,rfl,hI,hmc,hO⟩
 have HB1:Hid (Below w.heap.size w w1):=hb1
 have HI:Hid (q1x w1 a3 m):=hI
 have HS:Hid (m.Pairwise (·≤·)):=hO.up.imp fun {x y} h=>by omega
 have HC:Hid (∀x,m.contains x=vl.contains x):=fun x=>by rw[Bool.eq_iff_iff,List.contains_iff_mem,List.contains_iff_mem];exact hO.mem x
 obtain⟨nm,hnm⟩:∃nm,m.length=nm:=⟨_,rfl⟩
 have HNM:Hid (m.length=nm):=hnm
 have hnl:nm≤17592186043904:=by rw[←hnm];have:=hO.len;rw[HL2.out] at this;omega
 rw[hnm]
 clear C0 hb1 hI hmc hO hnm HL2
 go_wp2_with fail
 go_loopw [6,13] (fun v i wx=>∃(j q:Nat) (av:Option Addr) (cap:Nat),j≤n∧q≤j∧i=.int .i64 j∧v=.slice av q cap∧Hid ((q1j (l.take j) vl).length=q)∧Hid (wx.ownsRow w1.heap.size 130 2 (.slice av q cap) q (rowP (q1j (l.take j) vl)))∧Hid (Below w1.heap.size w1 wx)) (fun _ i _=>n - (intOf i).toNat)
 case atStart=>exact⟨0,0,none,0,Nat.zero_le _,Nat.le_refl _,rfl,rfl,rfl,World.ownsRow_nil _ _ _ _,Below.refl _ _⟩
 case round =>
  obtain⟨j,q,av,cap,hj,hqj,rfl,rfl,hml,HO,hb⟩:=hrel
  have HbA:Hid (Below w.heap.size w wr):=HB1.out.trans (hb.out.mono HB1.out.size)
  by_cases hlt:j < n
  ·have n1:(j:Int) < (n:Int):=by omega
   obtain⟨⟨x,y⟩,hp⟩:∃p,l[j]?=some p:=⟨l[j]'(by rw[HL.out];exact hlt),List.getElem?_eq_getElem _⟩
   obtain⟨b2,o2,rfl,r1,r2⟩:=HA.out j _ hp
   have HTk:Hid _:=qgy (vl:=vl) hp
   have hbw:b2 < w.heap.size:=World.block_lt_of_cell? _ _ r1
   have d1:wr.cell? ⟨b2,o2 + j * 2,none⟩=some (.int .i64 x):=(HbA.out.cell (p:=⟨b2,o2 + j * 2,none⟩) hbw).trans r1
   have d2:wr.cell? ⟨b2,o2 + j * 2 + 1,none⟩=some (.int .i64 y):=(HbA.out.cell (p:=⟨b2,o2 + j * 2 + 1,none⟩) hbw).trans r2
   clear r1 r2 hp hbw
   obtain⟨wx,hwx⟩:∃wx,wx=wr.alloc (.cells #[.int .i64 x,.int .i64 y] 130):=⟨_,rfl⟩
   have hbx:Below wr.heap.size wr wx:=by rw[hwx];exact qg _ _
   have Hb1x:Hid (Below w1.heap.size w1 wx):=hb.out.trans (hbx.mono hb.out.size)
   have ky:wx.cell? ⟨wr.heap.size,0,none⟩=some (.int .i64 x):=by rw[hwx];exact World.cell?_alloc_new wr _ _ 0
   have ky1:wx.cell? ⟨wr.heap.size,1,none⟩=some (.int .i64 y):=by rw[hwx];exact World.cell?_alloc_new wr _ _ 1
   have HOx:Hid (wx.ownsRow w1.heap.size 130 2 (.slice av q cap) q (rowP (q1j (l.take j) vl))):=q3a HO.out hbx
   rcases hr1:vl.contains x
   ·have SE:Hid _:=q4y wx a3 nm c3 m x false ((HC.out x).trans hr1) HNM.out hnl HS.out (HI.out.under Hb1x.out)
    have HTk2:Hid (q1j (l.take (j + 1)) vl=q1j (l.take j) vl):=by show _=_;rw[HTk.out,hr1,Bool.false_and,if_neg (by simp),List.append_nil]
    clear HTk hr1 hbx HO hb
    go_wp2_with fail
    rw[←hwx]
    clear hwx
    generalize wr.heap.size=By at *
    refine Calls.mono SE.out ?_
    rintro e wz ⟨rfl,dq,hwz⟩
    subst wz
    have HOz:Hid ((wx.drewN dq).ownsRow w1.heap.size 130 2 (.slice av q cap) q (rowP (q1j (l.take j) vl))):=q3a HOx.out (below_drewN _ _)
    have HBz:Hid (Below w1.heap.size w1 (wx.drewN dq)):=Hb1x.out.trans ((below_drewN _ _).mono Hb1x.out.size)
    clear SE ky ky1 HOx Hb1x
    generalize wx.drewN dq=wy at *
    go_wp2
    exact⟨⟨j + 1,q,av,cap,by omega,by omega,by go_num,rfl,by show _=_;rw[HTk2.out];exact hml.out,by rw[HTk2.out];exact HOz.out,HBz.out⟩,by simp[intOf];omega⟩
   ·rcases hr2:vl.contains y
    ·have SE:Hid _:=q4y wx a3 nm c3 m x true ((HC.out x).trans hr1) HNM.out hnl HS.out (HI.out.under Hb1x.out)
     have SE2:Hid (∀dq,Calls Tryz.prog 261 #[.slice a3 nm c3,.int .i64 y] (wx.drewN dq) fun e w'=>e=.returned (.bool false)∧∃q,w'=(wx.drewN dq).drewN q):=fun dq=>q4y (wx.drewN dq) a3 nm c3 m y false ((HC.out y).trans hr2) HNM.out hnl HS.out (HI.out.under (Hb1x.out.trans ((below_drewN _ _).mono Hb1x.out.size)))
     have HTk2:Hid (q1j (l.take (j + 1)) vl=q1j (l.take j) vl):=by show _=_;rw[HTk.out,hr2,Bool.and_false,if_neg (by simp),List.append_nil]
     clear HTk hr1 hr2 hbx HO hb
     go_wp2_with fail
     rw[←hwx]
     clear hwx
     generalize wr.heap.size=By at *
     refine Calls.mono SE.out ?_
     rintro e wz ⟨rfl,dq,hwz⟩
     subst wz
     have kz1:(wx.drewN dq).cell? ⟨By,1,none⟩=some (.int .i64 y):=ky1
     have SE3:Hid _:=SE2.out dq
     have HOz:Hid (∀dr,((wx.drewN dq).drewN dr).ownsRow w1.heap.size 130 2 (.slice av q cap) q (rowP (q1j (l.take j) vl))):=fun dr=>q3a (q3a HOx.out (below_drewN _ _)) (below_drewN _ _)
     have HBz:Hid (∀dr,Below w1.heap.size w1 ((wx.drewN dq).drewN dr)):=fun dr=>Hb1x.out.trans (((below_drewN wx dq).trans (below_drewN (wx.drewN dq) dr)).mono Hb1x.out.size)
     clear SE SE2 ky ky1 HOx Hb1x
     go_wp2_with fail
     refine Calls.mono SE3.out ?_
     rintro e wz ⟨rfl,dr,hwz⟩
     subst wz
     have HOy:Hid (((wx.drewN dq).drewN dr).ownsRow w1.heap.size 130 2 (.slice av q cap) q (rowP (q1j (l.take j) vl))):=HOz.out dr
     have HBy:Hid (Below w1.heap.size w1 ((wx.drewN dq).drewN dr)):=HBz.out dr
     clear SE3 HOz HBz kz1
     generalize (wx.drewN dq).drewN dr=wy at *
     go_wp2
     exact⟨⟨j + 1,q,av,cap,by omega,by omega,by go_num,rfl,by show _=_;rw[HTk2.out];exact hml.out,by rw[HTk2.out];exact HOy.out,HBy.out⟩,by simp[intOf];omega⟩
    ·have SE:Hid _:=q4y wx a3 nm c3 m x true ((HC.out x).trans hr1) HNM.out hnl HS.out (HI.out.under Hb1x.out)
     have SE2:Hid (∀dq,Calls Tryz.prog 261 #[.slice a3 nm c3,.int .i64 y] (wx.drewN dq) fun e w'=>e=.returned (.bool true)∧∃q,w'=(wx.drewN dq).drewN q):=fun dq=>q4y (wx.drewN dq) a3 nm c3 m y true ((HC.out y).trans hr2) HNM.out hnl HS.out (HI.out.under (Hb1x.out.trans ((below_drewN _ _).mono Hb1x.out.size)))
     have HTk2:Hid (q1j (l.take (j + 1)) vl=q1j (l.take j) vl++[(x,y)]):=by show _=_;rw[HTk.out,hr1,hr2,Bool.and_true,if_pos rfl]
     clear HTk hr1 hr2 hbx HO hb
     go_wp2_with fail
     rw[←hwx]
     clear hwx
     generalize wr.heap.size=By at *
     refine Calls.mono SE.out ?_
     rintro e wz ⟨rfl,dq,hwz⟩
     subst wz
     have kz1:(wx.drewN dq).cell? ⟨By,1,none⟩=some (.int .i64 y):=ky1
     have SE3:Hid _:=SE2.out dq
     have HOz:Hid (∀dr,((wx.drewN dq).drewN dr).ownsRow w1.heap.size 130 2 (.slice av q cap) q (rowP (q1j (l.take j) vl))):=fun dr=>q3a (q3a HOx.out (below_drewN _ _)) (below_drewN _ _)
     have HBz:Hid (∀dr,Below w1.heap.size w1 ((wx.drewN dq).drewN dr)):=fun dr=>Hb1x.out.trans (((below_drewN wx dq).trans (below_drewN (wx.drewN dq) dr)).mono Hb1x.out.size)
     clear SE SE2 HOx Hb1x
     go_wp2_with fail
     refine Calls.mono SE3.out ?_
     rintro e wz ⟨rfl,dr,hwz⟩
     subst wz
     have HOy:Hid (((wx.drewN dq).drewN dr).ownsRow w1.heap.size 130 2 (.slice av q cap) q (rowP (q1j (l.take j) vl))):=HOz.out dr
     have HBy:Hid (Below w1.heap.size w1 ((wx.drewN dq).drewN dr)):=HBz.out dr
     have kx0:((wx.drewN dq).drewN dr).cell? ⟨By,0,none⟩=some (.int .i64 x):=ky
     have kx1:((wx.drewN dq).drewN dr).cell? ⟨By,1,none⟩=some (.int .i64 y):=ky1
     clear SE3 HOz HBz kz1 ky ky1
     generalize (wx.drewN dq).drewN dr=wy at *
     go_wp2_with (at_builtin;refine jg (w:=wy.alloc (.cells #[.int .i64 x,.int .i64 y] 130)) rfl _ _ _ rfl w1.heap.size 130 i0 _ 2 16 Tryz.underlying45 hi0 hz0 hz1 hz3 rfl (by omega) _ q (rowP (q1j (l.take j) vl)) (by rfl) (by exact HOy.out.alloc _) (some ⟨wy.heap.size,0,none⟩) 1 1 [.int .i64 x,.int .i64 y] (by rfl) (by rfl) (fun j' u hu=>⟨_,rfl,World.news_of_block (cs:=#[.int .i64 x,.int .i64 y]) (t:=130) (fr:=(0,0)) (World.alloc_heap_new wy _) j' u hu⟩) (by simp[Value.oneCell']) (by unfold maxLen;omega) (by omega) (by exact Nat.le_trans HBy.out.size (qg _ _).size) ?_;intro a4 c4 w4 ho4 hb4;have HO4:Hid (w4.ownsRow w1.heap.size 130 2 (.slice a4 (q + 1) c4) (q + 1) (rowP (q1j (l.take j) vl++[(x,y)]))):=(by rw[q67];exact ho4);have HB4:Hid (Below w1.heap.size w1 w4):=(HBy.out.alloc HBy.out.size _).trans hb4;clear ho4 hb4)
     go_wp2
     exact⟨⟨j + 1,q + 1,_,_,by omega,by omega,by go_num,rfl,by show _=_;rw[HTk2.out,List.length_append,hml.out];rfl,by rw[HTk2.out];exact HO4.out,HB4.out⟩,by simp[intOf];omega⟩
  ·have n1:¬(j:Int) < (n:Int):=by omega
   have htk:l.take j=l:=List.take_of_length_le (by rw[HL.out];omega)
   rw[htk] at hml HO
   have CO:Hid _:=qeo wr av cap (q1j l vl) q hml.out (by omega) HW.out (q50 HO.out)
   clear htk HO hb
   go_wp2_with fail
   refine Calls.mono CO.out ?_
   intro e w5 h5
   obtain⟨v5,m5,rfl,h5b,h5c,h5d⟩:=h5.back HbA.out
   have HE:Hid (∃m,q38 (q1j l vl) m∧w5.ownsRow w.heap.size 130 2 v5 m.length (rowP m)∧Below w.heap.size w w5):=⟨m5,h5b,h5c,h5d⟩
   clear CO h5 h5b h5c h5d
   go_wp2
   go_ret
   obtain⟨m,h1,h2,h3⟩:=HE.out
   exact⟨v5,m,rfl,h1,h2,h3⟩
end F
end Go.Proofs.YtbancemhfjjmlaaGreatDoor
