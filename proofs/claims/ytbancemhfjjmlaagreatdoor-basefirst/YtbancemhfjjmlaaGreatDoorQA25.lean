/- Laid together: BCl, BHyps, BFrame, BFirstK. -/
import Derived.Test.YtbancemhfjjmlaaGreatDoorTk
import Derived.Test.YtbancemhfjjmlaaGreatDoorQA16
import Derived.Test.YtbancemhfjjmlaaGreatDoorQA18
import Derived.Deep.RegionHeld3
import Derived.Test.YtbancemhfjjmlaaGreatDoorQA06
import Derived.Lib.SmallJoins
set_option maxRecDepth 100000
set_option maxHeartbeats 32000000
namespace Go.Proofs.YtbancemhfjjmlaaGreatDoor
namespace B
open Go.RowKit
open S (Tok Stm)
theorem qhp (w:World)(N0:Nat)(v:Value)(n:Nat)(ts:List Tok)(hl:ts.length=n)(hn:n≤1099511627776)(h:w.ownsRow N0 36 4 v n (S.rowT ts)) :
  Calls Tryz.prog 67 #[v] w fun e w'=>∃v',e=.returned v'∧w'.ownsRow w.heap.size 36 4 v' n (S.rowT ts)∧Below w.heap.size w w':=by
 obtain⟨i0,hi0,hz0,hz1,hz3⟩:=info_parts S.qlv
 have HL:Hid (ts.length=n):=hl
 rcases h.2 with ⟨rfl,h0⟩ | ⟨g,cap,cur,rfl,_⟩
 ·subst h0
  obtain rfl:ts=[]:=List.eq_nil_of_length_eq_zero hl
  have hq:=Lib.run_eql_slice_nil (P:=Tryz.prog) w 32 36 none 0 0 0 0 Tryz.underlying32
  clear h hl
  go_enter Tryz.func67,Tryz.ntmps67
  go_wp2
  go_ret
  exact⟨_,rfl,World.ownsRow_nil _ _ _ _,Below.refl _ _⟩
 ·have HA:Hid ((w.alloc (.cells #[] 36)).ownsRow N0 36 4 (.slice (some ⟨g,0,none⟩) n cap) n (S.rowT ts)):=S.M.zk h _
  have hq:=Lib.run_eql_slice_nil (P:=Tryz.prog) w 32 36 (some ⟨g,0,none⟩) n cap 0 0 Tryz.underlying32
  clear h hl
  go_enter Tryz.func67,Tryz.ntmps67
  have hown:Hid ((w.alloc (.cells #[] 36)).ownsRow w.heap.size 36 4 (.slice (some ⟨w.heap.size,0,none⟩) 0 0) 0 []):=⟨rfl,.inr ⟨w.heap.size,0,_,rfl,Nat.le_refl _,World.alloc_heap_new w _,Nat.le_refl _,by unfold maxLen;omega,rfl,rfl⟩⟩
  go_wp2_with (at_builtin;refine S.jg (w:=w.alloc (.cells #[] 36)) rfl _ _ _ rfl w.heap.size 36 i0 _ 4 40 Tryz.underlying32 hi0 hz0 hz1 hz3 rfl (by omega) _ 0 [] (by rfl) (by exact hown.out) (some ⟨g,0,none⟩) n cap (S.rowT ts) (by rfl) (by rw[S.qlu,HL.out]) (F.q1u HA.out) (S.qlw ts) (by unfold maxLen;omega) (by omega) (by exact (S.qg _ _).size) ?_;intro a8 c8 w8 ho8 hb8;have HO:Hid (w8.ownsRow w.heap.size 36 4 (.slice a8 (0 + n) c8) (0 + n) ([]++S.rowT ts)):=ho8;have HB:Hid (Below w.heap.size w w8):=(S.qg w _).trans hb8;clear ho8 hb8)
  go_wp2
  go_ret
  refine⟨_,rfl,?_,HB.out⟩
  have:=HO.out
  simpa using this
theorem qan (w:World)(N0:Nat)(v:Value)(n:Nat)(ts:List F.Pp)(hl:ts.length=n)(hn:n≤1099511627776)(h:w.ownsRow N0 130 2 v n (F.je ts)) :
  Calls Tryz.prog 124 #[v] w fun e w'=>∃v',e=.returned v'∧w'.ownsRow w.heap.size 130 2 v' n (F.je ts)∧Below w.heap.size w w':=by
 obtain⟨i0,hi0,hz0,hz1,hz3⟩:=info_parts F.qcw
 have HL:Hid (ts.length=n):=hl
 rcases h.2 with ⟨rfl,h0⟩ | ⟨g,cap,cur,rfl,_⟩
 ·subst h0
  obtain rfl:ts=[]:=List.eq_nil_of_length_eq_zero hl
  have hq:=Lib.run_eql_slice_nil (P:=Tryz.prog) w 45 130 none 0 0 0 0 Tryz.underlying45
  clear h hl
  go_enter Tryz.func124,Tryz.ntmps124
  go_wp2
  go_ret
  exact⟨_,rfl,World.ownsRow_nil _ _ _ _,Below.refl _ _⟩
 ·have HA:Hid ((w.alloc (.cells #[] 130)).ownsRow N0 130 2 (.slice (some ⟨g,0,none⟩) n cap) n (F.je ts)):=S.M.zk h _
  have hq:=Lib.run_eql_slice_nil (P:=Tryz.prog) w 45 130 (some ⟨g,0,none⟩) n cap 0 0 Tryz.underlying45
  clear h hl
  go_enter Tryz.func124,Tryz.ntmps124
  have hown:Hid ((w.alloc (.cells #[] 130)).ownsRow w.heap.size 130 2 (.slice (some ⟨w.heap.size,0,none⟩) 0 0) 0 []):=⟨rfl,.inr ⟨w.heap.size,0,_,rfl,Nat.le_refl _,World.alloc_heap_new w _,Nat.le_refl _,by unfold maxLen;omega,rfl,rfl⟩⟩
  go_wp2_with (at_builtin;refine S.jg (w:=w.alloc (.cells #[] 130)) rfl _ _ _ rfl w.heap.size 130 i0 _ 2 16 Tryz.underlying45 hi0 hz0 hz1 hz3 rfl (by omega) _ 0 [] (by rfl) (by exact hown.out) (some ⟨g,0,none⟩) n cap (F.je ts) (by rfl) (by rw[F.q9t,HL.out]) (F.q1u HA.out) (F.q9u ts) (by unfold maxLen;omega) (by omega) (by exact (S.qg _ _).size) ?_;intro a8 c8 w8 ho8 hb8;have HO:Hid (w8.ownsRow w.heap.size 130 2 (.slice a8 (0 + n) c8) (0 + n) ([]++F.je ts)):=ho8;have HB:Hid (Below w.heap.size w w8):=(S.qg w _).trans hb8;clear ho8 hb8)
  go_wp2
  go_ret
  refine⟨_,rfl,?_,HB.out⟩
  have:=HO.out
  simpa using this
end B
namespace B
open Go.RowKit Go.Maps Go.WideMaps
open S (Tok Stm)
theorem qhq (w:World)(N0:Nat)(lab:ByteArray)(fl:Bool)(var:Int)(ve:Value)(ex:List Int)(ho:w.ownsRow N0 3 1 ve ex.length (F.zy ex))(hn:ex.length≤17592186044416) :
  Calls Tryz.prog 68 #[.agg #[.string lab,.bool fl,.int .i64 var,ve]] w fun e w'=>∃a c,e=.returned (.agg #[.string lab,.bool fl,.int .i64 var,.slice a ex.length c])∧w'.ownsRow w.heap.size 3 1 (.slice a ex.length c) ex.length (F.zy ex)∧Below w.heap.size w w':=by
 obtain⟨ae,ce,rfl,_,hns⟩:=F.q3o ho
 obtain⟨n,hnn⟩:∃n,ex.length=n:=⟨_,rfl⟩
 have HL:Hid (ex.length=n∧n≤17592186044416):=⟨hnn,by rw[←hnn];exact hn⟩
 rw[hnn]
 obtain⟨B,hB⟩:∃B,w.heap.size=B:=⟨_,rfl⟩
 have HB:Hid (w.heap.size=B):=hB
 rw[hB]
 obtain⟨wa,hwa⟩:∃wa,wa=(w.alloc (.cells #[.string lab,.bool fl,.int .i64 var,.slice ae n ce] 57)).alloc (.cells #[.string ⟨#[]⟩,.bool false,.int .i64 0,.slice none 0 0] 57):=⟨_,rfl⟩
 have HWA:Hid (wa=(w.alloc (.cells #[.string lab,.bool fl,.int .i64 var,.slice ae n ce] 57)).alloc (.cells #[.string ⟨#[]⟩,.bool false,.int .i64 0,.slice none 0 0] 57)):=hwa
 have k0:(w.alloc (.cells #[.string lab,.bool fl,.int .i64 var,.slice ae n ce] 57)).heap[B]?=some (.cells #[.string lab,.bool fl,.int .i64 var,.slice ae n ce] 57 (0,0)):=by rw[←hB];exact World.alloc_heap_new w _
 have s0:(w.alloc (.cells #[.string lab,.bool fl,.int .i64 var,.slice ae n ce] 57)).heap.size=B + 1:=by simp[hB]
 have ka:wa.heap[B]?=some (.cells #[.string lab,.bool fl,.int .i64 var,.slice ae n ce] 57 (0,0)):=by rw[hwa];exact ((S.qg _ _).block B (by omega)).trans k0
 have kb:wa.heap[B + 1]?=some (.cells #[.string ⟨#[]⟩,.bool false,.int .i64 0,.slice none 0 0] 57 (0,0)):=by rw[hwa,←s0];exact World.alloc_heap_new _ _
 have ba:Below B w wa:=by rw[hwa];exact (show Below B w _ by rw[←hB];exact S.qg _ _).trans ((S.qg _ _).mono (by omega))
 have sa:wa.heap.size=B + 2:=by rw[hwa];simp[hB]
 have x3:wa.cell? ⟨B,3,none⟩=some (.slice ae n ce):=S.M.qc ka 3
 have CL:Hid _:=F.clone_any wa ae n ce ex hnn HL.out.2 (hns.under (by rw[hB];exact ba))
 have KA:Hid (wa.heap[B]?=some (.cells #[.string lab,.bool fl,.int .i64 var,.slice ae n ce] 57 (0,0))∧wa.heap[B + 1]?=some (.cells #[.string ⟨#[]⟩,.bool false,.int .i64 0,.slice none 0 0] 57 (0,0))∧wa.heap.size=B + 2∧Below B w wa):=⟨ka,kb,sa,ba⟩
 clear ho hns hwa k0 s0 ka kb ba sa hnn hn
 go_enter Tryz.func68,Tryz.ntmps68
 go_upto_region 1 with fail
 rw[←HWA.out]
 clear HWA hB
 go_wp2_with fail
 refine Calls.mono CL.out ?_
 rintro e w3 ⟨v',rfl,hv',hb3⟩
 obtain⟨a3,c3,rfl,_⟩:=S.qm hv'
 have h2:=KA.out.2.2.1
 have k3:=(hb3.block B (by omega)).trans KA.out.1
 have k3b:=(hb3.block (B + 1) (by omega)).trans KA.out.2.1
 have p3:w3.cell? ⟨B,3,none⟩=some (.slice ae n ce):=S.M.qc k3 3
 have f3:w3.frozen? ⟨B,3,none⟩=false:=by simp[World.frozen?,k3]
 obtain⟨w4,hw4⟩:∃w4,w4=w3.setCell ⟨B,3,none⟩ (.slice a3 n c3):=⟨_,rfl⟩
 have HW4:Hid (w4=w3.setCell ⟨B,3,none⟩ (.slice a3 n c3)):=hw4
 have ch4:S.M.Ch (fun b=>b=B) w3 w4:=by rw[hw4];exact S.M.xu w3 B 3 _
 have k4:w4.heap[B]?=some (.cells #[.string lab,.bool fl,.int .i64 var,.slice a3 n c3] 57 (0,0)):=by rw[hw4];exact S.M.qj k3
 have k4b:w4.heap[B + 1]?=some (.cells #[.string ⟨#[]⟩,.bool false,.int .i64 0,.slice none 0 0] 57 (0,0)):=by
  have h3:=(Array.getElem?_eq_some_iff.1 k3b).1
  exact (ch4.block (B + 1) h3 (by omega)).trans k3b
 have hB3:Below B w w3:=KA.out.2.2.2.trans (hb3.mono (by omega))
 have B4:Hid (Below B w w4):=hB3.trans (ch4.below (by have h1:=hB3.size;have h2:=HB.out;omega) fun b e=>by omega)
 have V4:Hid (w4.ownsRow B 3 1 (.slice a3 n c3) n (F.zy ex)):=S.M.qp (S.M.qh hv' ch4 fun b hb e=>F.own_ne hv' k3 (by decide) (by rw[hb,e])) (by omega)
 obtain⟨w9,hw9⟩:∃w9,w9=(((w4.setCell ⟨B + 1,0,none⟩ (.string lab)).setCell ⟨B + 1,1,none⟩ (.bool fl)).setCell ⟨B + 1,2,none⟩ (.int .i64 var)).setCell ⟨B + 1,3,none⟩ (.slice a3 n c3):=⟨_,rfl⟩
 have HW9:Hid (w9=(((w4.setCell ⟨B + 1,0,none⟩ (.string lab)).setCell ⟨B + 1,1,none⟩ (.bool fl)).setCell ⟨B + 1,2,none⟩ (.int .i64 var)).setCell ⟨B + 1,3,none⟩ (.slice a3 n c3)):=hw9
 have k9:w9.heap[B + 1]?=some (.cells #[.string lab,.bool fl,.int .i64 var,.slice a3 n c3] 57 (0,0)):=by rw[hw9];exact S.M.qj (S.M.qj (S.M.qj (S.M.qj k4b)))
 have ch9:S.M.Ch (fun b=>b=B + 1) w4 w9:=by rw[hw9];exact (((S.M.xu w4 (B + 1) 0 _).trans (S.M.xu _ (B + 1) 1 _)).trans (S.M.xu _ (B + 1) 2 _)).trans (S.M.xu _ (B + 1) 3 _)
 have FI:Hid (w9.ownsRow B 3 1 (.slice a3 n c3) n (F.zy ex)∧Below B w w9):=⟨S.M.qh V4.out ch9 fun b hb e=>F.own_ne V4.out k4b (by decide) (by rw[hb,e]),B4.out.trans (ch9.below (by have h1:=B4.out.size;have h2:=HB.out;omega) fun b e=>by omega)⟩
 have q0:w4.cell? ⟨B,0,none⟩=some (.string lab):=S.M.qc k4 0
 have q1:w4.cell? ⟨B,1,none⟩=some (.bool fl):=S.M.qc k4 1
 have q2:w4.cell? ⟨B,2,none⟩=some (.int .i64 var):=S.M.qc k4 2
 have q3:w4.cell? ⟨B,3,none⟩=some (.slice a3 n c3):=S.M.qc k4 3
 have r0:w4.cell? ⟨B + 1,0,none⟩=some (.string ⟨#[]⟩):=S.M.qc k4b 0
 have r1:w4.cell? ⟨B + 1,1,none⟩=some (.bool false):=S.M.qc k4b 1
 have r2:w4.cell? ⟨B + 1,2,none⟩=some (.int .i64 0):=S.M.qc k4b 2
 have r3:w4.cell? ⟨B + 1,3,none⟩=some (.slice none 0 0):=S.M.qc k4b 3
 have g0:w4.frozen? ⟨B + 1,0,none⟩=false:=by simp[World.frozen?,k4b]
 have g1:w4.frozen? ⟨B + 1,1,none⟩=false:=by simp[World.frozen?,k4b]
 have g2:w4.frozen? ⟨B + 1,2,none⟩=false:=by simp[World.frozen?,k4b]
 have g3:w4.frozen? ⟨B + 1,3,none⟩=false:=by simp[World.frozen?,k4b]
 have z0:w9.cell? ⟨B + 1,0,none⟩=some (.string lab):=S.M.qc k9 0
 have z1:w9.cell? ⟨B + 1,1,none⟩=some (.bool fl):=S.M.qc k9 1
 have z2:w9.cell? ⟨B + 1,2,none⟩=some (.int .i64 var):=S.M.qc k9 2
 have z3:w9.cell? ⟨B + 1,3,none⟩=some (.slice a3 n c3):=S.M.qc k9 3
 clear hv' hb3 h2 k3 k3b hw4 ch4 k4 k4b hB3 hw9 k9 ch9 CL KA B4 V4
 go_upto_region 2 with fail
 rw[←HW4.out]
 clear HW4 p3 f3
 go_wp2_with fail
 rw[←HW9.out]
 clear HW9
 refine bodyPost_ret (by simp[results,Tryz.results68,go_sem,z0,z1,z2,z3];try rfl) rfl ?_
 exact⟨_,_,rfl,FI.out.1,FI.out.2⟩
def q8f (l:List F.Hy)(p:Int):F.Hy:=l.getD p.toNat ⟨⟨#[]⟩,false,0,[]⟩
section
variable {N:Nat} {w:World} {lb:Nat} {txt:ByteArray} {k:Nat} {L:Ld} {nf:ByteArray→Option Nat} {m:LdM}
theorem qao (h:zq N w lb txt k L nf m)(N1:Nat)(v:Value)(ps:List Int)(ho:w.ownsRow N1 3 1 v ps.length (F.zy ps))(hn:ps.length≤1048576)(hp:∀p ∈ ps,∃i:Nat,p=i∧i < L.hy.length)(hlen:∀y ∈ L.hy,y.ex.length≤17592186044416) :
  Calls Tryz.prog 123 #[.pointer (some ⟨m.Bb,0,none⟩),v] w fun e w'=>Below w.heap.size w w'∧∃v' ts,e=.returned v'∧F.jr w.heap.size w' v' ts∧ts.map (·.h)=ps.map (q8f L.hy):=by
 obtain⟨iH,hiH,iHz,iHs,iHb⟩:=info_parts F.q9q
 obtain⟨ap,cp,rfl,_,hnp⟩:=F.q3o ho
 obtain⟨n,hnn⟩:∃n,ps.length=n:=⟨_,rfl⟩
 have HL:Hid (ps.length=n):=hnn
 rw[hnn] at hn
 rw[hnn]
 have HP:Hid (F.q1a w ap ps):=hnp
 have HI:Hid (∀p ∈ ps,∃i:Nat,p=i∧∃y,m.hs[i]?=some y∧q8f L.hy p=y.h):=fun p hp1=>by
  obtain⟨i,rfl,hi⟩:=hp p hp1
  have hi2:i < m.hs.length:=by rw[←h.hya,List.length_map] at hi;exact hi
  refine⟨i,rfl,_,List.getElem?_eq_getElem hi2,?_⟩
  unfold q8f
  rw[←h.hya]
  simp[hi2]
 have HE:Hid (∀y ∈ m.hs,w.ownsRow N 3 1 y.ve y.h.ex.length (F.zy y.h.ex)∧y.h.ex.length≤17592186044416):=fun y hy=>⟨(h.cold.e y hy).1,hlen y.h (by rw[←h.hya];exact List.mem_map_of_mem hy)⟩
 obtain⟨av,cv,hva,_⟩:=S.qm h.hyr
 have b3:w.cell? ⟨m.Bb,3,none⟩=some m.vh:=S.M.qc h.bbox 3
 have HR:Hid (w.ownsRow N 57 4 m.vh m.hs.length (F.yx m.hs)):=h.hyr
 rw[hva] at HR b3
 have HB3:Hid (w.cell? ⟨m.Bb,3,none⟩=some (.slice av m.hs.length cv)):=b3
 obtain⟨N0,hN⟩:∃N,w.heap.size=N:=⟨_,rfl⟩
 have HN:Hid (w.heap.size=N0):=hN
 rw[hN]
 obtain⟨nh,hnh⟩:∃nh,m.hs.length=nh:=⟨_,rfl⟩
 have HH:Hid (m.hs.length=nh):=hnh
 rw[hnh] at HR HB3
 generalize m.Bb=Bb at *
 generalize m.hs=hs at *
 generalize L.hy=hy at *
 clear h ho hnp hp hlen hva b3 hN hnh hnn
 go_enter Tryz.func123,Tryz.ntmps123
 obtain⟨wm,hmk,hom,hgm⟩:=run_make_own (P:=Tryz.prog) w N0 44 57 iH _ 4 Tryz.underlying44 hiH iHz iHs .i64 .i64 n (by rw[iHb];omega) (by unfold maxLen;omega) (Nat.le_of_eq HN.out.symm)
 have BM:Hid (Below N0 w wm):=(Below.refl N0 w).grown hgm (Nat.le_of_eq HN.out.symm) (fun g e=>by cases e)
 have OM:Hid (F.jr N0 wm (.slice (some ⟨w.heap.size,0,none⟩) 0 n) []):=⟨hom,(fun y hy=>by cases hy),List.Pairwise.nil⟩
 clear hom hgm
 go_wp2_with fail
 clear hmk
 go_loopw [5,13] (fun v5 v13 wx=>∃(j:Nat) (us:List F.HyC),j≤n∧v13=.int .i64 j∧Hid (F.jr N0 wx v5 us)∧Hid (us.map (·.h)=(ps.take j).map (q8f hy))∧Hid (Below N0 w wx)) (fun _ v13 _=>n - (intOf v13).toNat)
 case atStart=>exact⟨0,[],Nat.zero_le _,rfl,OM.out,rfl,BM.out⟩
 case round =>
  clear OM BM
  obtain⟨j,us,hj,rfl,hU,hS,hB⟩:=hrel
  have HNr:Hid (N0≤wr.heap.size):=by have h1:=hB.out.size;have h2:=HN.out;show N0≤_;omega
  by_cases hlt:j < n
  ·have n1:(j:Int) < (n:Int):=by omega
   obtain⟨p,hp1⟩:∃p,ps[j]?=some p:=⟨_,List.getElem?_eq_getElem (by rw[HL.out];exact hlt)⟩
   obtain⟨pb,po,rfl,px⟩:=HP.out j p hp1
   replace px:=yu px HN.out hB.out
   obtain⟨i,rfl,y,hy1,hya⟩:=HI.out p (List.mem_of_getElem? hp1)
   have hin:i < nh:=by rw[←HH.out];exact (List.getElem?_eq_some_iff.1 hy1).1
   have HT:Hid ((ps.take (j + 1)).map (q8f hy)=(ps.take j).map (q8f hy)++[y.h]):=by show _=_;rw[List.take_add_one,hp1,Option.toList_some,List.map_append,List.map_singleton,hya]
   obtain⟨gh,ch',eh,_,_,_⟩:=S.M.q0f HR.out (by omega)
   cases eh
   obtain⟨y0,y1,y2,y3⟩:=F.qd1 HR.out i y hy1
   replace y0:=yu y0 HN.out hB.out
   replace y1:=yu y1 HN.out hB.out
   replace y2:=yu y2 HN.out hB.out
   replace y3:=yu y3 HN.out hB.out
   have b3:=yu HB3.out HN.out hB.out
   obtain⟨he1,he2⟩:=HE.out y (List.mem_of_getElem? hy1)
   have her:wr.ownsRow N 3 1 y.ve y.h.ex.length (F.zy y.h.ex):=S.M.qh he1 (S.M.Ch.of_below (X:=fun _=>False) (by rw[HN.out];exact hB.out)) fun _ _ e=>e
   obtain⟨⟨lab,fl,var,ex⟩,ve⟩:=y
   dsimp only at *
   have CC:Hid _:=qhq wr N lab fl var ve ex her he2
   have hul:us.length=j:=by have h1:=congrArg List.length hS.out;simp only[List.length_map,List.length_take] at h1;have h2:=HL.out;omega
   have HU:Hid (us.length=j):=hul
   obtain⟨ae,ce,hae,_⟩:=S.qm her
   rw[hae] at y3 CC
   have i0:(0:Int)≤(i:Int):=by omega
   have i1:(i:Int) < (nh:Int):=by omega
   obtain⟨ne,hne⟩:∃ne,ex.length=ne:=⟨_,rfl⟩
   have HNE:Hid (ex.length=ne):=hne
   rw[hne] at y3 CC
   clear hp1 hy1 hya her he1 he2 hae hul hne hin
   go_wp2_with fail
   refine Calls.mono CC.out ?_
   rintro e w4 ⟨a3,c3,rfl,ho4,hb4⟩
   have B4:Hid (Below wr.heap.size wr w4):=hb4
   have V4:Hid (w4.ownsRow wr.heap.size 3 1 (.slice a3 ne c3) ne (F.zy ex)):=ho4
   have U4:Hid (F.jr N0 w4 u5 us):=hU.out.below hb4
   have O4:Hid (w4.ownsRow N0 57 4 u5 j (F.yx us)):=by have h:=U4.out.own;rw[HU.out] at h;exact h
   have HN4:Hid (N0≤w4.heap.size):=Nat.le_trans HNr.out hb4.size
   clear hb4 ho4 CC y0 y1 y2 y3 px b3
   go_wp2_with (at_builtin;refine wpList_append_lies (w:=w4.alloc (.cells #[.string lab,.bool fl,.int .i64 var,.slice a3 ne c3] 57)) rfl _ _ 44 rfl N0 57 iH _ 4 56 Tryz.underlying44 hiH iHz iHs iHb rfl (by decide) _ j (F.yx us) (by rfl) (S.M.zk O4.out _) ⟨w4.heap.size,0,none⟩ 1 1 [.string lab,.bool fl,.int .i64 var,.slice a3 ne c3] (by rfl) (by rfl) (World.news_of_block (cs:=#[.string lab,.bool fl,.int .i64 var,.slice a3 ne c3]) (t:=57) (fr:=(0,0)) (World.alloc_heap_new w4 _)) (by simp[Value.oneCell']) (by omega) (by unfold maxLen;omega) (by omega) (Nat.le_trans HN4.out (S.qg w4 _).size) _ rfl ?_;intro gg cap' w8 hown8 hgrow hat hlt8;have O8:Hid (w8.ownsRow N0 57 4 (.slice (some ⟨gg,0,none⟩) (j + 1) cap') (j + 1) (F.yx us++[.string lab,.bool fl,.int .i64 var,.slice a3 ne c3])):=hown8;have C8:Hid (S.M.Ch (fun b=>Value.ownBlock u5=some b) w4 w8):=((S.M.Ch.of_below (S.qg w4 _)).trans (S.M.Ch.jm hgrow));clear hown8 hgrow hat hlt8)
   have hT8:Hid (F.jr N0 w8 (.slice (some ⟨gg,0,none⟩) (j + 1) cap') (us++[⟨⟨lab,fl,var,ex⟩,.slice a3 ne c3⟩])):=by
    show F.jr _ _ _ _
    refine⟨?_,fun z hz=>?_,List.pairwise_append.2 ⟨hU.out.ap,by simp,fun z hz z' hz'=>?_⟩⟩
    ·rw[List.length_append,HU.out,F.q2x];exact O8.out
    ·rcases List.mem_append.1 hz with hz | hz
     ·have h1:=U4.out.e z hz
      exact S.M.qh h1 C8.out fun b hb e=>F.uf h1 U4.out.own (by decide) b hb e
     ·rw[List.mem_singleton.1 hz]
      show w8.ownsRow N0 3 1 (.slice a3 ne c3) ex.length (F.zy ex)
      rw[HNE.out]
      exact S.M.qp (S.M.qh V4.out C8.out fun b hb e=>F.uf V4.out U4.out.own (by decide) b hb e) HNr.out
    ·rw[List.mem_singleton.1 hz']
     intro b hb e
     have h1:=S.M.jl (hU.out.e z hz) b hb
     have h2:=S.M.zf V4.out b e
     omega
   have hB8:Hid (Below N0 w w8):=hB.out.trans ((B4.out.mono HNr.out).trans (C8.out.below HN4.out fun b e=>S.M.zf U4.out.own b e))
   exact⟨⟨j + 1,us++[F.HyC.mk (F.Hy.mk lab fl var ex) (Value.slice a3 ne c3)],by omega,by go_num,hT8.out,by show _=_;rw[HT.out,List.map_append,hS.out];rfl,hB8.out⟩,by simp[intOf];omega⟩
  ·have n1:¬(j:Int) < (n:Int):=by omega
   have hje:j=n:=by omega
   subst hje
   have hS2:Hid (us.map (·.h)=ps.map (q8f hy)):=by have h:=hS.out;rw[List.take_of_length_le (Nat.le_of_eq HL.out)] at h;exact h
   obtain⟨a5,c5,rfl,_⟩:=S.qm hU.out.own
   clear hS
   go_wp2
   go_ret
   exact⟨hB.out,_,rfl,us,hU.out,hS2.out⟩
end
end B
namespace B
open Go.RowKit Go.Maps Go.WideMaps
open S (Tok Stm)
structure AsIn (hy:List F.Hy)(z:As):Prop where
 g:z.goal.length≤17592186044416
 n:z.needed.length≤1048576∧∀p ∈ z.needed,∃i:Nat,p=i∧i < hy.length
 p:z.apart.length≤1048576
 a:z.active.length≤1048576∧∀p ∈ z.active,∃i:Nat,p=i∧i < hy.length
 q:z.pairs.length≤1048576
 f:z.proof.length≤1048576
 e:∀y ∈ hy,y.ex.length≤17592186044416
def asA (x:AsC):Array Value:=#[.string x.a.label.text,.int .i64 x.a.label.off,.int .i64 x.a.label.line,.int .i64 x.a.label.col,.bool x.a.thm,x.vg,x.vn,x.vp,x.va,x.vq,x.vf,.string x.a.fin.text,.int .i64 x.a.fin.off,.int .i64 x.a.fin.line,.int .i64 x.a.fin.col]
structure FrT (N:Nat)(W:World)(hy:List F.Hy)(a:As)(vh vp vg:Value)(ts:List F.HyC):Prop where
 t:F.jr N W vh ts
 h:ts.map (·.h)=a.needed.map (q8f hy)
 p:W.ownsRow N 130 2 vp a.apart.length (F.je a.apart)
 g:W.ownsRow N 3 1 vg a.goal.length (F.zy a.goal)
 ap:∀b,vg.ownBlock=some b→∀y ∈ ts,y.ve.ownBlock≠some b
structure ScT (N:Nat)(W:World)(hy:List F.Hy)(a:As)(vh vp:Value)(ts:List F.HyC):Prop where
 t:F.jr N W vh ts
 h:ts.map (·.h)=a.active.map (q8f hy)
 p:W.ownsRow N 130 2 vp a.pairs.length (F.je a.pairs)
section
variable {N:Nat} {w:World} {lb:Nat} {txt:ByteArray} {k:Nat} {L:Ld} {nf:ByteArray→Option Nat} {m:LdM}
theorem qfj (h:zq N w lb txt k L nf m)(x:AsC)(hx:q93 N w x)(hi:AsIn L.hy x.a) :
  Calls Tryz.prog 65 #[.pointer (some ⟨m.Bb,0,none⟩),.agg (asA x)] w fun e w'=>Below w.heap.size w w'∧∃vh vp vg ts,e=.returned (.agg #[vh,vp,vg])∧FrT w.heap.size w' L.hy x.a vh vp vg ts:=by
 obtain⟨B,hB⟩:∃B,w.heap.size=B:=⟨_,rfl⟩
 have HB:Hid (w.heap.size=B):=hB
 obtain⟨wa,hwa⟩:∃wa,wa=(w.alloc (.cells (asA x) 123)).alloc (.cells #[.slice none 0 0,.slice none 0 0,.slice none 0 0] 47):=⟨_,rfl⟩
 have HWA:Hid (wa=(w.alloc (.cells (asA x) 123)).alloc (.cells #[.slice none 0 0,.slice none 0 0,.slice none 0 0] 47)):=hwa
 have k0:(w.alloc (.cells (asA x) 123)).heap[B]?=some (.cells (asA x) 123 (0,0)):=by rw[←hB];exact World.alloc_heap_new w _
 have s0:(w.alloc (.cells (asA x) 123)).heap.size=B + 1:=by simp[hB]
 have ka:wa.heap[B]?=some (.cells (asA x) 123 (0,0)):=by rw[hwa];exact ((S.qg _ _).block B (by omega)).trans k0
 have kb:wa.heap[B + 1]?=some (.cells #[.slice none 0 0,.slice none 0 0,.slice none 0 0] 47 (0,0)):=by rw[hwa,←s0];exact World.alloc_heap_new _ _
 have ba:Below B w wa:=by rw[hwa];exact (show Below B w _ by rw[←hB];exact S.qg _ _).trans ((S.qg _ _).mono (by omega))
 have sa:wa.heap.size=B + 2:=by rw[hwa];simp[hB]
 have hba:Below w.heap.size w wa:=by rw[hB];exact ba
 obtain⟨vA,hvA⟩:∃vA,x.vn=vA:=⟨_,rfl⟩
 obtain⟨vP,hvP⟩:∃vP,x.vp=vP:=⟨_,rfl⟩
 obtain⟨vG,hvG⟩:∃vG,x.vg=vG:=⟨_,rfl⟩
 have SA:Hid (∀wx,Below wa.heap.size wa wx→(fun w'=>w'.cell? ⟨B,6,none⟩=some vA∧w'.cell? ⟨B,7,none⟩=some vP∧w'.cell? ⟨B,5,none⟩=some vG) wx∧wx.heap[B + 1]?=some (.cells #[.slice none 0 0,.slice none 0 0,.slice none 0 0] 47 (0,0))):=fun wx hb=>by
  have kx:=(hb.block B (by omega)).trans ka
  have h0:wx.cell? ⟨B,6,none⟩=some x.vn:=S.M.qc kx 6
  have h1:wx.cell? ⟨B,7,none⟩=some x.vp:=S.M.qc kx 7
  have h2:wx.cell? ⟨B,5,none⟩=some x.vg:=S.M.qc kx 5
  rw[hvA] at h0
  rw[hvP] at h1
  rw[hvG] at h2
  exact⟨⟨h0,h1,h2⟩,(hb.block (B + 1) (by omega)).trans kb⟩
 have C1:Hid (∀wx,Below wa.heap.size wa wx→Calls Tryz.prog 123 #[.pointer (some ⟨m.Bb,0,none⟩),vA] wx fun e w'=>Below wx.heap.size wx w'∧∃v' ts,e=.returned v'∧F.jr wx.heap.size w' v' ts∧ts.map (·.h)=x.a.needed.map (q8f L.hy)):=fun wx hb=>by
  have hbx:Below w.heap.size w wx:=hba.trans (hb.mono hba.size)
  rw[←hvA]
  exact qao (h.below hbx) N _ _ (S.M.qh hx.n (S.M.Ch.of_below (X:=fun _=>False) hbx) fun _ _ e=>e) hi.n.1 hi.n.2 hi.e
 have C2:Hid (∀wx,Below wa.heap.size wa wx→Calls Tryz.prog 124 #[vP] wx fun e w'=>∃v',e=.returned v'∧w'.ownsRow wx.heap.size 130 2 v' x.a.apart.length (F.je x.a.apart)∧Below wx.heap.size wx w'):=fun wx hb=>by
  have hbx:Below w.heap.size w wx:=hba.trans (hb.mono hba.size)
  rw[←hvP]
  exact qan wx N _ _ _ rfl (by have:=hi.p;omega) (S.M.qh hx.p (S.M.Ch.of_below (X:=fun _=>False) hbx) fun _ _ e=>e)
 have C3:Hid (∀wx,Below wa.heap.size wa wx→Calls Tryz.prog 72 #[vG] wx fun e w'=>∃v',e=.returned v'∧w'.ownsRow wx.heap.size 3 1 v' x.a.goal.length (F.zy x.a.goal)∧Below wx.heap.size wx w'):=fun wx hb=>by
  have hbx:Below w.heap.size w wx:=hba.trans (hb.mono hba.size)
  rw[←hvG]
  have ho:=S.M.qh hx.g (S.M.Ch.of_below (X:=fun _=>False) hbx) fun _ _ e=>e
  obtain⟨ag,cg,eg,_,hns⟩:=F.q3o ho
  rw[eg]
  exact F.clone_any wx ag _ cg x.a.goal rfl hi.g hns
 have BA:Hid (Below B w wa∧wa.heap.size=B + 2):=⟨ba,sa⟩
 rw[hB]
 generalize m.Bb=Bb at *
 have HAS:Hid (asA x=#[.string x.a.label.text,.int .i64 x.a.label.off,.int .i64 x.a.label.line,.int .i64 x.a.label.col,.bool x.a.thm,vG,vA,vP,x.va,x.vq,x.vf,.string x.a.fin.text,.int .i64 x.a.fin.off,.int .i64 x.a.fin.line,.int .i64 x.a.fin.col]):=by show _=_;unfold asA;rw[hvA,hvP,hvG]
 clear hwa k0 s0 ka kb ba sa hba hx hi h hvA hvP hvG
 go_enter Tryz.func65,Tryz.ntmps65
 go_upto_region 1 with fail
 rw[←HWA.out]
 clear HWA HAS hB
 have BD:Hid (Below wa.heap.size wa wa.drew):=S.M.zi (Below.refl _ _) 1
 refine wp_region_held_drew (S:=fun w'=>w'.cell? ⟨B,6,none⟩=some vA∧w'.cell? ⟨B,7,none⟩=some vP∧w'.cell? ⟨B,5,none⟩=some vG) (by kernel_rfl) ?_ (fun hHeld=>?_)
 ·exact (SA.out _ BD.out).1
 refine tk 0 ⟨some 5,.move (.tmp 0),22,"assertion.go:42",#[],none⟩ ?_ hHeld ?_ ?_
 rotate_left
 ·(intro w hSw;(try dsimp only at hSw);go_simp;try with_reducible rfl)
 try simp only[Act.put,List.setIfInBounds_toArray,List.set_cons_zero,List.set_cons_succ]
 refine tk 1 ⟨some 6,.fieldAddr 123 (.tmp 3) 3,0,"assertion.go:42",#[],none⟩ ?_ hHeld ?_ ?_
 rotate_left
 ·(intro w hSw;(try dsimp only at hSw);go_simp;try with_reducible rfl)
 try simp only[Act.put,List.setIfInBounds_toArray,List.set_cons_zero,List.set_cons_succ]
 refine tk 2 ⟨some 7,.load 38 (.tmp 6),38,"assertion.go:42",#[⟨1,.data⟩],none⟩ ?_ hHeld ?_ ?_
 rotate_left
 ·(intro w hSw;(try dsimp only at hSw);go_simp;try with_reducible rfl)
 try simp only[Act.put,List.setIfInBounds_toArray,List.set_cons_zero,List.set_cons_succ]
 refine tk 4 ⟨some 9,.fieldAddr 123 (.tmp 3) 4,0,"assertion.go:42",#[],none⟩ ?_ hHeld ?_ ?_
 rotate_left
 ·(intro w hSw;(try dsimp only at hSw);go_simp;try with_reducible rfl)
 try simp only[Act.put,List.setIfInBounds_toArray,List.set_cons_zero,List.set_cons_succ]
 refine tk 5 ⟨some 10,.load 45 (.tmp 9),45,"assertion.go:42",#[⟨4,.data⟩],none⟩ ?_ hHeld ?_ ?_
 rotate_left
 ·(intro w hSw;(try dsimp only at hSw);go_simp;try with_reducible rfl)
 try simp only[Act.put,List.setIfInBounds_toArray,List.set_cons_zero,List.set_cons_succ]
 refine tk 7 ⟨some 12,.fieldAddr 123 (.tmp 3) 2,0,"assertion.go:42",#[],none⟩ ?_ hHeld ?_ ?_
 rotate_left
 ·(intro w hSw;(try dsimp only at hSw);go_simp;try with_reducible rfl)
 try simp only[Act.put,List.setIfInBounds_toArray,List.set_cons_zero,List.set_cons_succ]
 refine tk 8 ⟨some 13,.load 38 (.tmp 12),38,"assertion.go:42",#[⟨7,.data⟩],none⟩ ?_ hHeld ?_ ?_
 rotate_left
 ·(intro w hSw;(try dsimp only at hSw);go_simp;try with_reducible rfl)
 try simp only[Act.put,List.setIfInBounds_toArray,List.set_cons_zero,List.set_cons_succ]
 refine wpAnyH_ready (rs:=[3]) (by kernel_rfl) (by simp) ?_
 refine AllReadyH.cons rfl (fun K hK=>?_) AllReadyH.nil
 go_simp
 go_at_call 123
 refine Calls.mono (C1.out _ BD.out) ?_
 rintro ee w1 ⟨hb1,v1,ts,rfl,ht1,hm1⟩
 obtain⟨a1,c1,rfl,_⟩:=S.qm ht1.own
 have B1:Hid (Below wa.heap.size wa w1):=BD.out.trans (hb1.mono BD.out.size)
 have BB1:Hid (Below wa.heap.size wa w1∧w1.heap.size≤w1.heap.size):=⟨B1.out,Nat.le_refl _⟩
 have T1:Hid (F.jr wa.heap.size w1 (.slice a1 ts.length c1) ts∧ts.map (·.h)=x.a.needed.map (q8f L.hy)):=⟨ht1,hm1⟩
 clear hb1 ht1 hm1
 refine hK.out _ _ ?_ (fun hHeld_3=>?_)
 ·exact (SA.out _ B1.out).1
 clear hK K
 try simp only[Act.put,List.setIfInBounds_toArray,List.set_cons_zero,List.set_cons_succ]
 refine wpAnyH_ready (rs:=[6]) (by kernel_rfl) (by simp) ?_
 refine AllReadyH.cons rfl (fun K hK=>?_) AllReadyH.nil
 go_simp
 go_at_call 124
 refine Calls.mono (C2.out _ B1.out) ?_
 rintro ee w2 ⟨v2,rfl,ho2,hb2⟩
 obtain⟨a2,c2,rfl,_⟩:=S.qm ho2
 have B2:Hid (Below wa.heap.size wa w2):=B1.out.trans (hb2.mono B1.out.size)
 have D2:Hid (Below w1.heap.size w1 w2):=hb2
 have P2:Hid (w2.ownsRow w1.heap.size 130 2 (.slice a2 x.a.apart.length c2) x.a.apart.length (F.je x.a.apart)):=ho2
 clear hb2 ho2
 refine hK.out _ _ ?_ (fun hHeld_6=>?_)
 ·exact (SA.out _ B2.out).1
 clear hK K
 try simp only[Act.put,List.setIfInBounds_toArray,List.set_cons_zero,List.set_cons_succ]
 refine wpAnyH_ready (rs:=[9]) (by kernel_rfl) (by simp) ?_
 refine AllReadyH.cons rfl (fun K hK=>?_) AllReadyH.nil
 go_simp
 go_at_call 72
 refine Calls.mono (C3.out _ B2.out) ?_
 rintro ee w3 ⟨v3,rfl,ho3,hb3⟩
 obtain⟨a3,c3,rfl,_⟩:=S.qm ho3
 have B3:Hid (Below wa.heap.size wa w3):=B2.out.trans (hb3.mono B2.out.size)
 have D3:Hid (Below w2.heap.size w2 w3):=hb3
 have G3:Hid (w3.ownsRow w2.heap.size 3 1 (.slice a3 x.a.goal.length c3) x.a.goal.length (F.zy x.a.goal)):=ho3
 clear hb3 ho3
 have kz:=(SA.out _ B3.out).2
 have y0:w3.cell? ⟨B + 1,0,none⟩=some (.slice none 0 0):=S.M.qc kz 0
 have f0:w3.frozen? ⟨B + 1,0,none⟩=false:=by simp[World.frozen?,kz]
 have y1:w3.cell? ⟨B + 1,1,none⟩=some (.slice none 0 0):=S.M.qc kz 1
 have f1:w3.frozen? ⟨B + 1,1,none⟩=false:=by simp[World.frozen?,kz]
 have y2:w3.cell? ⟨B + 1,2,none⟩=some (.slice none 0 0):=S.M.qc kz 2
 have f2:w3.frozen? ⟨B + 1,2,none⟩=false:=by simp[World.frozen?,kz]
 obtain⟨w9,hw9⟩:∃w9,w9=((w3.setCell ⟨B + 1,0,none⟩ (.slice a1 ts.length c1)).setCell ⟨B + 1,1,none⟩ (.slice a2 x.a.apart.length c2)).setCell ⟨B + 1,2,none⟩ (.slice a3 x.a.goal.length c3):=⟨_,rfl⟩
 have HW9:Hid (w9=((w3.setCell ⟨B + 1,0,none⟩ (.slice a1 ts.length c1)).setCell ⟨B + 1,1,none⟩ (.slice a2 x.a.apart.length c2)).setCell ⟨B + 1,2,none⟩ (.slice a3 x.a.goal.length c3)):=hw9
 have k9:w9.heap[B + 1]?=some (.cells #[(.slice a1 ts.length c1),(.slice a2 x.a.apart.length c2),(.slice a3 x.a.goal.length c3)] 47 (0,0)):=by rw[hw9];exact S.M.qj (S.M.qj (S.M.qj kz))
 have ch9:S.M.Ch (fun b=>b=B + 1) w3 w9:=by rw[hw9];exact ((S.M.xu w3 (B + 1) 0 _).trans (S.M.xu _ (B + 1) 1 _)).trans (S.M.xu _ (B + 1) 2 _)
 have z0:w9.cell? ⟨B + 1,0,none⟩=some (.slice a1 ts.length c1):=S.M.qc k9 0
 have z1:w9.cell? ⟨B + 1,1,none⟩=some (.slice a2 x.a.apart.length c2):=S.M.qc k9 1
 have z2:w9.cell? ⟨B + 1,2,none⟩=some (.slice a3 x.a.goal.length c3):=S.M.qc k9 2
 have S9:Hid ((fun w'=>w'.cell? ⟨B,6,none⟩=some vA∧w'.cell? ⟨B,7,none⟩=some vP∧w'.cell? ⟨B,5,none⟩=some vG) w9):=by (obtain⟨h0,h1,h2⟩:=(SA.out _ B3.out).1;have o:∀i,w9.cell? ⟨B,i,none⟩=w3.cell? ⟨B,i,none⟩:=(fun i=>World.cell?_of_block (a:=⟨B,i,none⟩) (by have hs:=B3.out.size;have hs2:=BA.out.2;exact ch9.block B (by omega) (by omega)));exact⟨(o _).trans h0,(o _).trans h1,(o _).trans h2⟩)
 have FI:Hid (Below B w w9∧FrT B w9 L.hy x.a (.slice a1 ts.length c1) (.slice a2 x.a.apart.length c2) (.slice a3 x.a.goal.length c3) ts):=by (have s1:=B1.out.size;have s2:=D2.out.size;have s3:=D3.out.size;have s0:=BA.out.2;have T3:=(T1.out.1.below D2.out).below D3.out;have P3:w3.ownsRow w1.heap.size 130 2 (.slice a2 x.a.apart.length c2) x.a.apart.length (F.je x.a.apart):=S.M.qh P2.out (S.M.Ch.of_below (X:=fun _=>False) D3.out) (fun _ _ e=>e);refine⟨(BA.out.1.trans (B3.out.mono (by omega))).trans (ch9.below (by have:=B3.out.size;omega) fun b e=>by omega),⟨⟨S.M.qp (S.M.qh T3.own ch9 fun b hb e=>by have h1:=S.M.zf T3.own b hb;omega) (by omega),fun y hy=>S.M.qp (S.M.qh (T3.e y hy) ch9 fun b hb e=>by have h1:=S.M.zf (T3.e y hy) b hb;omega) (by omega),T3.ap⟩,T1.out.2,S.M.qp (S.M.qh P3 ch9 fun b hb e=>by have h1:=S.M.zf P3 b hb;omega) (by omega),S.M.qp (S.M.qh G3.out ch9 fun b hb e=>by have h1:=S.M.zf G3.out b hb;omega) (by omega),fun b hb y hy e=>by have h1:=S.M.zf G3.out b hb;have h2:=S.M.jl (T1.out.1.e y hy) b e;omega⟩⟩)
 clear kz hw9 k9 ch9
 refine hK.out _ _ ?_ (fun hHeld_9=>?_)
 ·exact (SA.out _ B3.out).1
 clear hK K
 try simp only[Act.put,List.setIfInBounds_toArray,List.set_cons_zero,List.set_cons_succ]
 refine tk 10 ⟨some 15,.build 47 #[(0,.tmp 8),(1,.tmp 11),(2,.tmp 14)],47,"assertion.go:42",#[⟨3,.data⟩,⟨6,.data⟩,⟨9,.data⟩],none⟩ ?_ hHeld_9 ?_ ?_
 rotate_left
 ·(intro w hSw;(try dsimp only at hSw);go_simp;try with_reducible rfl)
 try simp only[Act.put,List.setIfInBounds_toArray,List.set_cons_zero,List.set_cons_succ]
 refine wpAnyH_ready (rs:=[11]) (by kernel_rfl) (by simp) ?_
 refine AllReadyH.cons rfl (fun K hK=>?_) AllReadyH.nil
 go_simp
 rw[←HW9.out]
 refine hK.out _ _ ?_ (fun hHeld_11=>?_)
 ·exact S9.out
 clear hK K
 try simp only[Act.put,List.setIfInBounds_toArray,List.set_cons_zero,List.set_cons_succ]
 refine wpAnyH_done (by kernel_rfl) ?_ _
 clear HW9
 go_wp2_with fail
 refine bodyPost_ret (by simp[results,Tryz.results65,go_sem,z0,z1,z2];try rfl) rfl ?_
 exact⟨FI.out.1,_,_,_,rfl,ts,FI.out.2⟩
theorem qfk (h:zq N w lb txt k L nf m)(x:AsC)(hx:q93 N w x)(hi:AsIn L.hy x.a) :
  Calls Tryz.prog 66 #[.pointer (some ⟨m.Bb,0,none⟩),.agg (asA x)] w fun e w'=>Below w.heap.size w w'∧∃vh vp ts,e=.returned (.agg #[vh,vp])∧ScT w.heap.size w' L.hy x.a vh vp ts:=by
 obtain⟨B,hB⟩:∃B,w.heap.size=B:=⟨_,rfl⟩
 have HB:Hid (w.heap.size=B):=hB
 obtain⟨wa,hwa⟩:∃wa,wa=(w.alloc (.cells (asA x) 123)).alloc (.cells #[.slice none 0 0,.slice none 0 0] 49):=⟨_,rfl⟩
 have HWA:Hid (wa=(w.alloc (.cells (asA x) 123)).alloc (.cells #[.slice none 0 0,.slice none 0 0] 49)):=hwa
 have k0:(w.alloc (.cells (asA x) 123)).heap[B]?=some (.cells (asA x) 123 (0,0)):=by rw[←hB];exact World.alloc_heap_new w _
 have s0:(w.alloc (.cells (asA x) 123)).heap.size=B + 1:=by simp[hB]
 have ka:wa.heap[B]?=some (.cells (asA x) 123 (0,0)):=by rw[hwa];exact ((S.qg _ _).block B (by omega)).trans k0
 have kb:wa.heap[B + 1]?=some (.cells #[.slice none 0 0,.slice none 0 0] 49 (0,0)):=by rw[hwa,←s0];exact World.alloc_heap_new _ _
 have ba:Below B w wa:=by rw[hwa];exact (show Below B w _ by rw[←hB];exact S.qg _ _).trans ((S.qg _ _).mono (by omega))
 have sa:wa.heap.size=B + 2:=by rw[hwa];simp[hB]
 have hba:Below w.heap.size w wa:=by rw[hB];exact ba
 obtain⟨vA,hvA⟩:∃vA,x.va=vA:=⟨_,rfl⟩
 obtain⟨vP,hvP⟩:∃vP,x.vq=vP:=⟨_,rfl⟩
 have SA:Hid (∀wx,Below wa.heap.size wa wx→(fun w'=>w'.cell? ⟨B,8,none⟩=some vA∧w'.cell? ⟨B,9,none⟩=some vP) wx∧wx.heap[B + 1]?=some (.cells #[.slice none 0 0,.slice none 0 0] 49 (0,0))):=fun wx hb=>by
  have kx:=(hb.block B (by omega)).trans ka
  have h0:wx.cell? ⟨B,8,none⟩=some x.va:=S.M.qc kx 8
  have h1:wx.cell? ⟨B,9,none⟩=some x.vq:=S.M.qc kx 9
  rw[hvA] at h0
  rw[hvP] at h1
  exact⟨⟨h0,h1⟩,(hb.block (B + 1) (by omega)).trans kb⟩
 have C1:Hid (∀wx,Below wa.heap.size wa wx→Calls Tryz.prog 123 #[.pointer (some ⟨m.Bb,0,none⟩),vA] wx fun e w'=>Below wx.heap.size wx w'∧∃v' ts,e=.returned v'∧F.jr wx.heap.size w' v' ts∧ts.map (·.h)=x.a.active.map (q8f L.hy)):=fun wx hb=>by
  have hbx:Below w.heap.size w wx:=hba.trans (hb.mono hba.size)
  rw[←hvA]
  exact qao (h.below hbx) N _ _ (S.M.qh hx.a (S.M.Ch.of_below (X:=fun _=>False) hbx) fun _ _ e=>e) hi.a.1 hi.a.2 hi.e
 have C2:Hid (∀wx,Below wa.heap.size wa wx→Calls Tryz.prog 124 #[vP] wx fun e w'=>∃v',e=.returned v'∧w'.ownsRow wx.heap.size 130 2 v' x.a.pairs.length (F.je x.a.pairs)∧Below wx.heap.size wx w'):=fun wx hb=>by
  have hbx:Below w.heap.size w wx:=hba.trans (hb.mono hba.size)
  rw[←hvP]
  exact qan wx N _ _ _ rfl (by have:=hi.q;omega) (S.M.qh hx.q (S.M.Ch.of_below (X:=fun _=>False) hbx) fun _ _ e=>e)
 have BA:Hid (Below B w wa∧wa.heap.size=B + 2):=⟨ba,sa⟩
 rw[hB]
 generalize m.Bb=Bb at *
 have HAS:Hid (asA x=#[.string x.a.label.text,.int .i64 x.a.label.off,.int .i64 x.a.label.line,.int .i64 x.a.label.col,.bool x.a.thm,x.vg,x.vn,x.vp,vA,vP,x.vf,.string x.a.fin.text,.int .i64 x.a.fin.off,.int .i64 x.a.fin.line,.int .i64 x.a.fin.col]):=by show _=_;unfold asA;rw[hvA,hvP]
 clear hwa k0 s0 ka kb ba sa hba hx hi h hvA hvP
 go_enter Tryz.func66,Tryz.ntmps66
 go_upto_region 1 with fail
 rw[←HWA.out]
 clear HWA HAS hB
 have BD:Hid (Below wa.heap.size wa wa.drew):=S.M.zi (Below.refl _ _) 1
 refine wp_region_held_drew (S:=fun w'=>w'.cell? ⟨B,8,none⟩=some vA∧w'.cell? ⟨B,9,none⟩=some vP) (by kernel_rfl) ?_ (fun hHeld=>?_)
 ·exact (SA.out _ BD.out).1
 refine tk 0 ⟨some 5,.move (.tmp 0),22,"assertion.go:46",#[],none⟩ ?_ hHeld ?_ ?_
 rotate_left
 ·(intro w hSw;(try dsimp only at hSw);go_simp;try with_reducible rfl)
 try simp only[Act.put,List.setIfInBounds_toArray,List.set_cons_zero,List.set_cons_succ]
 refine tk 1 ⟨some 6,.fieldAddr 123 (.tmp 3) 5,0,"assertion.go:46",#[],none⟩ ?_ hHeld ?_ ?_
 rotate_left
 ·(intro w hSw;(try dsimp only at hSw);go_simp;try with_reducible rfl)
 try simp only[Act.put,List.setIfInBounds_toArray,List.set_cons_zero,List.set_cons_succ]
 refine tk 2 ⟨some 7,.load 38 (.tmp 6),38,"assertion.go:46",#[⟨1,.data⟩],none⟩ ?_ hHeld ?_ ?_
 rotate_left
 ·(intro w hSw;(try dsimp only at hSw);go_simp;try with_reducible rfl)
 try simp only[Act.put,List.setIfInBounds_toArray,List.set_cons_zero,List.set_cons_succ]
 refine tk 4 ⟨some 9,.fieldAddr 123 (.tmp 3) 6,0,"assertion.go:46",#[],none⟩ ?_ hHeld ?_ ?_
 rotate_left
 ·(intro w hSw;(try dsimp only at hSw);go_simp;try with_reducible rfl)
 try simp only[Act.put,List.setIfInBounds_toArray,List.set_cons_zero,List.set_cons_succ]
 refine tk 5 ⟨some 10,.load 45 (.tmp 9),45,"assertion.go:46",#[⟨4,.data⟩],none⟩ ?_ hHeld ?_ ?_
 rotate_left
 ·(intro w hSw;(try dsimp only at hSw);go_simp;try with_reducible rfl)
 try simp only[Act.put,List.setIfInBounds_toArray,List.set_cons_zero,List.set_cons_succ]
 refine wpAnyH_ready (rs:=[3]) (by kernel_rfl) (by simp) ?_
 refine AllReadyH.cons rfl (fun K hK=>?_) AllReadyH.nil
 go_simp
 go_at_call 123
 refine Calls.mono (C1.out _ BD.out) ?_
 rintro ee w1 ⟨hb1,v1,ts,rfl,ht1,hm1⟩
 obtain⟨a1,c1,rfl,_⟩:=S.qm ht1.own
 have B1:Hid (Below wa.heap.size wa w1):=BD.out.trans (hb1.mono BD.out.size)
 have BB1:Hid (Below wa.heap.size wa w1∧w1.heap.size≤w1.heap.size):=⟨B1.out,Nat.le_refl _⟩
 have T1:Hid (F.jr wa.heap.size w1 (.slice a1 ts.length c1) ts∧ts.map (·.h)=x.a.active.map (q8f L.hy)):=⟨ht1,hm1⟩
 clear hb1 ht1 hm1
 refine hK.out _ _ ?_ (fun hHeld_3=>?_)
 ·exact (SA.out _ B1.out).1
 clear hK K
 try simp only[Act.put,List.setIfInBounds_toArray,List.set_cons_zero,List.set_cons_succ]
 refine wpAnyH_ready (rs:=[6]) (by kernel_rfl) (by simp) ?_
 refine AllReadyH.cons rfl (fun K hK=>?_) AllReadyH.nil
 go_simp
 go_at_call 124
 refine Calls.mono (C2.out _ B1.out) ?_
 rintro ee w2 ⟨v2,rfl,ho2,hb2⟩
 obtain⟨a2,c2,rfl,_⟩:=S.qm ho2
 have B2:Hid (Below wa.heap.size wa w2):=B1.out.trans (hb2.mono B1.out.size)
 have D2:Hid (Below w1.heap.size w1 w2):=hb2
 have P2:Hid (w2.ownsRow w1.heap.size 130 2 (.slice a2 x.a.pairs.length c2) x.a.pairs.length (F.je x.a.pairs)):=ho2
 clear hb2 ho2
 have kz:=(SA.out _ B2.out).2
 have y0:w2.cell? ⟨B + 1,0,none⟩=some (.slice none 0 0):=S.M.qc kz 0
 have f0:w2.frozen? ⟨B + 1,0,none⟩=false:=by simp[World.frozen?,kz]
 have y1:w2.cell? ⟨B + 1,1,none⟩=some (.slice none 0 0):=S.M.qc kz 1
 have f1:w2.frozen? ⟨B + 1,1,none⟩=false:=by simp[World.frozen?,kz]
 obtain⟨w9,hw9⟩:∃w9,w9=(w2.setCell ⟨B + 1,0,none⟩ (.slice a1 ts.length c1)).setCell ⟨B + 1,1,none⟩ (.slice a2 x.a.pairs.length c2):=⟨_,rfl⟩
 have HW9:Hid (w9=(w2.setCell ⟨B + 1,0,none⟩ (.slice a1 ts.length c1)).setCell ⟨B + 1,1,none⟩ (.slice a2 x.a.pairs.length c2)):=hw9
 have k9:w9.heap[B + 1]?=some (.cells #[(.slice a1 ts.length c1),(.slice a2 x.a.pairs.length c2)] 49 (0,0)):=by rw[hw9];exact S.M.qj (S.M.qj kz)
 have ch9:S.M.Ch (fun b=>b=B + 1) w2 w9:=by rw[hw9];exact (S.M.xu w2 (B + 1) 0 _).trans (S.M.xu _ (B + 1) 1 _)
 have z0:w9.cell? ⟨B + 1,0,none⟩=some (.slice a1 ts.length c1):=S.M.qc k9 0
 have z1:w9.cell? ⟨B + 1,1,none⟩=some (.slice a2 x.a.pairs.length c2):=S.M.qc k9 1
 have S9:Hid ((fun w'=>w'.cell? ⟨B,8,none⟩=some vA∧w'.cell? ⟨B,9,none⟩=some vP) w9):=by (obtain⟨h0,h1⟩:=(SA.out _ B2.out).1;have o:∀i,w9.cell? ⟨B,i,none⟩=w2.cell? ⟨B,i,none⟩:=(fun i=>World.cell?_of_block (a:=⟨B,i,none⟩) (by have hs:=B2.out.size;have hs2:=BA.out.2;exact ch9.block B (by omega) (by omega)));exact⟨(o _).trans h0,(o _).trans h1⟩)
 have FI:Hid (Below B w w9∧ScT B w9 L.hy x.a (.slice a1 ts.length c1) (.slice a2 x.a.pairs.length c2) ts):=by (have s1:=B1.out.size;have s2:=D2.out.size;have s0:=BA.out.2;have T3:=T1.out.1.below D2.out;refine⟨(BA.out.1.trans (B2.out.mono (by omega))).trans (ch9.below (by have:=B2.out.size;omega) fun b e=>by omega),⟨⟨S.M.qp (S.M.qh T3.own ch9 fun b hb e=>by have h1:=S.M.zf T3.own b hb;omega) (by omega),fun y hy=>S.M.qp (S.M.qh (T3.e y hy) ch9 fun b hb e=>by have h1:=S.M.zf (T3.e y hy) b hb;omega) (by omega),T3.ap⟩,T1.out.2,S.M.qp (S.M.qh P2.out ch9 fun b hb e=>by have h1:=S.M.zf P2.out b hb;omega) (by omega)⟩⟩)
 clear kz hw9 k9 ch9
 refine hK.out _ _ ?_ (fun hHeld_6=>?_)
 ·exact (SA.out _ B2.out).1
 clear hK K
 try simp only[Act.put,List.setIfInBounds_toArray,List.set_cons_zero,List.set_cons_succ]
 refine tk 7 ⟨some 12,.build 49 #[(0,.tmp 8),(1,.tmp 11)],49,"assertion.go:46",#[⟨3,.data⟩,⟨6,.data⟩],none⟩ ?_ hHeld_6 ?_ ?_
 rotate_left
 ·(intro w hSw;(try dsimp only at hSw);go_simp;try with_reducible rfl)
 try simp only[Act.put,List.setIfInBounds_toArray,List.set_cons_zero,List.set_cons_succ]
 refine wpAnyH_ready (rs:=[8]) (by kernel_rfl) (by simp) ?_
 refine AllReadyH.cons rfl (fun K hK=>?_) AllReadyH.nil
 go_simp
 rw[←HW9.out]
 refine hK.out _ _ ?_ (fun hHeld_8=>?_)
 ·exact S9.out
 clear hK K
 try simp only[Act.put,List.setIfInBounds_toArray,List.set_cons_zero,List.set_cons_succ]
 refine wpAnyH_done (by kernel_rfl) ?_ _
 clear HW9
 go_wp2_with fail
 refine bodyPost_ret (by simp[results,Tryz.results66,go_sem,z0,z1];try rfl) rfl ?_
 exact⟨FI.out.1,_,_,rfl,ts,FI.out.2⟩
end
end B
namespace S.K
open Go.RowKit
def q3l (s:ByteArray):List UInt8→Nat→Nat→Nat→Nat→List (Tok × Int) × Option (Nat × Nat × Nat × Nat)
 | [],k,start,line,ls=>([],some (k,start,line,ls))
 | c :: rest,k,start,line,ls =>
  if q1e k c=0 then
   if xq c.toNat=1 then
    ((if start < k then [(wordAt s start k line ls,0)] else [])++(q3l s rest (k + 1) (k + 1) (if c=10 then line + 1 else line) (if c=10 then k + 1 else ls)).1,
      (q3l s rest (k + 1) (k + 1) (if c=10 then line + 1 else line) (if c=10 then k + 1 else ls)).2)
   else q3l s rest (k + 1) start line ls
  else ([(⟨⟨#[]⟩,k,line,k - ls + 1⟩,q1e k c)],none)
def qfl (s:ByteArray)(p:List (Tok × Int) × Option (Nat × Nat × Nat × Nat))(b:List UInt8):List (Tok × Int) :=
 match p.2 with
 | none=>p.1
 | some (k,start,line,ls)=>p.1++evs s b k start line ls
theorem qhr (s:ByteArray)(a b:List UInt8):∀k start line ls,evs s (a++b) k start line ls=qfl s (q3l s a k start line ls) b:=by
 induction a with
 | nil=>intro k start line ls;simp[q3l,qfl]
 | cons c rest ih =>
  intro k start line ls
  simp only[List.cons_append,evs,q3l]
  split
  ·split
   ·rw[ih]
    unfold qfl
    dsimp only
    cases (q3l s rest (k + 1) (k + 1) (if c=10 then line + 1 else line) (if c=10 then k + 1 else ls)).2 with
    | none=>rfl
    | some q=>simp
   ·exact ih _ _ _ _
  ·rfl
theorem extract_congr {s s':ByteArray}{k:Nat}(h:s.data.toList.take k=s'.data.toList.take k)(start:Nat):s.extract start k=s'.extract start k:=by
 apply ByteArray.ext
 apply Array.toList_inj.1
 rw[Lib.extract_data,Lib.extract_data,←List.drop_take,←List.drop_take,h]
theorem qlk {s s':ByteArray}{k j:Nat}(h:s.data.toList.take j=s'.data.toList.take j)(hk:k≤j):s.data.toList.take k=s'.data.toList.take k:=by
 have:=congrArg (List.take k) h
 rwa [List.take_take,List.take_take,Nat.min_eq_left hk] at this
theorem qfm {s s':ByteArray}{j:Nat}(h:s.data.toList.take j=s'.data.toList.take j)(a:List UInt8):∀k start line ls,k + a.length≤j→q3l s a k start line ls=q3l s' a k start line ls:=by
 induction a with
 | nil=>intros;rfl
 | cons c rest ih =>
  intro k start line ls hk
  simp only[List.length_cons] at hk
  simp only[q3l]
  have hw:wordAt s start k line ls=wordAt s' start k line ls:=by unfold wordAt;rw[extract_congr (qlk h (by omega))]
  rw[hw,ih (k + 1) (k + 1) _ _ (by omega),ih (k + 1) start line ls (by omega)]
theorem qnz (s:ByteArray)(l:List UInt8):∀k start line ls (o:List (Tok × Int)) (t:Tok),o++[(t,0)] <+: evs s l k start line ls →
  ∃(kk st' ln' ls':Nat),k≤kk∧kk≤k + l.length∧st' < kk∧t=wordAt s st' kk ln' ls'∧q3l s (l.take (kk - k)) k start line ls=(o,some (kk,st',ln',ls')):=by
 induction l with
 | nil =>
  intro k start line ls o t hp
  simp only[evs] at hp
  split at hp
  ·rename_i hlt
   have ho:o=[]:=by
    have:=hp.length_le
    simp at this
    exact this
   subst ho
   simp at hp
   exact⟨k,start,line,ls,Nat.le_refl _,by simp,hlt,hp,by simp[q3l]⟩
  ·simp at hp
 | cons b rest ih =>
  intro k start line ls o t hp
  simp only[evs] at hp
  split at hp
  ·rename_i h0
   split at hp
   ·rename_i h1
    have go:∀o',o'++[(t,0)] <+: evs s rest (k + 1) (k + 1) (if b=10 then line + 1 else line) (if b=10 then k + 1 else ls)→o=(if start < k then [(wordAt s start k line ls,0)] else [])++o' →
      ∃(kk st' ln' ls':Nat),k≤kk∧kk≤k + (b :: rest).length∧st' < kk∧t=wordAt s st' kk ln' ls'∧q3l s ((b :: rest).take (kk - k)) k start line ls=(o,some (kk,st',ln',ls')):=by
     intro o' ho' he
     obtain⟨kk,st',ln',ls',e1,e2,e3,e4,e5⟩:=ih _ _ _ _ o' t ho'
     refine⟨kk,st',ln',ls',by omega,by simp;omega,e3,e4,?_⟩
     rw[show kk - k=(kk - (k + 1)) + 1 by omega,List.take_succ_cons,q3l,if_pos h0,if_pos h1,e5,he]
    by_cases hlt:start < k
    ·rw[if_pos hlt] at hp go
     cases o with
     | nil =>
      simp only[List.nil_append,List.singleton_append,List.cons_prefix_cons,List.nil_prefix,and_true,Prod.mk.injEq] at hp
      exact⟨k,start,line,ls,Nat.le_refl _,by simp,hlt,hp,by simp[q3l]⟩
     | cons y o' =>
      simp only[List.cons_append,List.nil_append,List.cons_prefix_cons] at hp
      exact go o' hp.2 (by rw[hp.1];rfl)
    ·rw[if_neg hlt] at hp go
     exact go o hp (by simp)
   ·rename_i h1
    obtain⟨kk,st',ln',ls',e1,e2,e3,e4,e5⟩:=ih _ _ _ _ o t hp
    refine⟨kk,st',ln',ls',by omega,by simp;omega,e3,e4,?_⟩
    rw[show kk - k=(kk - (k + 1)) + 1 by omega,List.take_succ_cons,q3l,if_pos h0,if_neg h1,e5]
  ·rename_i h0
   have ho:o=[]:=by
    have:=hp.length_le
    simp at this
    exact this
   subst ho
   simp at hp
   exact absurd hp.2.symm h0
theorem qll (s u:ByteArray)(j:Nat)(hj:j≤s.size):(s.extract 0 j++u).data.toList.take j=s.data.toList.take j:=by
 rw[Joins.data_append,q70,List.take_append_of_le_length (by simp;omega),List.take_take,Nat.min_self]
theorem qlm (s u:ByteArray)(j:Nat)(hj:j≤s.size):(s.extract 0 j++u).data.toList.drop j=u.data.toList:=by
 rw[Joins.data_append,q70,List.drop_append_of_le_length (by simp;omega),List.drop_take,Nat.sub_self,List.take_zero,List.nil_append]
theorem qde (s:ByteArray)(j:Nat):events s=qfl s (q3l s (s.data.toList.take j) 0 0 1 0) (s.data.toList.drop j):=by
 unfold events
 rw[←qhr,List.take_append_drop]
theorem qfn (r:Rd)(t:Tok):∃m,(ql r t).2.told=r.told++m:=by
 unfold ql
 split
 ·exact⟨[],by simp⟩
 ·split
  ·exact⟨[],by simp⟩
  ·split
   ·exact⟨[],by simp⟩
   ·split
    ·exact⟨[],by simp⟩
    ·exact⟨[t],rfl⟩
theorem q6q:∀(es:List (Tok × Int)) (r:Rd),∃m,(xw r es).1.told=r.told++m
 | [],r=>⟨[],by simp[xw]⟩
 | (t,c) :: es,r=>by
  unfold xw
  split
  ·obtain⟨m,hm⟩:=qfn r t
   split
   ·obtain⟨m2,h2⟩:=q6q es (ql r t).2
    exact⟨m++m2,by rw[h2,hm,List.append_assoc]⟩
   ·exact⟨m,hm⟩
  ·exact⟨[],by simp⟩
theorem q6r (s:ByteArray):(q0t s).1=(xw rd0 (events s)).1.told:=by
 unfold q0t
 obtain⟨r,f⟩:=xw rd0 (events s)
 cases f <;> rfl
theorem qcc (r:Rd)(t:Tok):(ql r t).2.told=r.told∨((ql r t).1=0∧(ql r t).2.told=r.told++[t]):=by
 unfold ql
 split
 ·exact .inl rfl
 ·split
  ·exact .inl rfl
  ·split
   ·exact .inl rfl
   ·split
    ·exact .inl rfl
    ·exact .inr ⟨rfl,rfl⟩
theorem qdf:∀(es:List (Tok × Int)) (r:Rd) (i:Nat) (t:Tok),r.told.length≤i→(xw r es).1.told[i]?=some t →
  ∃o r',o++[(t,0)] <+: es∧xw r (o++[(t,0)])=(r',none)∧r'.told=(xw r es).1.told.take (i + 1)
 | [],r,i,t,h,ht=>by
  unfold xw at ht
  have:i < r.told.length:=(List.getElem?_eq_some_iff.1 ht).1
  omega
 | (u,c) :: es,r,i,t,h,ht=>by
  by_cases hc:c=0
  ·subst hc
   by_cases h1:(ql r u).1=0
   ·have e:xw r ((u,0) :: es)=xw (ql r u).2 es:=by rw[xw,if_pos rfl,if_pos h1]
    rw[e] at ht ⊢
    have step:∀o r',xw (ql r u).2 (o++[(t,0)])=(r',none)→xw r ((u,0) :: o++[(t,0)])=(r',none):=fun o r' hr=>by
     rw[List.cons_append,xw,if_pos rfl,if_pos h1]
     exact hr
    rcases qcc r u with h2 | ⟨_,h2⟩
    ·obtain⟨o,r',p1,p2,p3⟩:=qdf es _ i t (by rw[h2];exact h) ht
     exact⟨(u,0) :: o,r',by simpa using p1,step o r' p2,p3⟩
    ·by_cases hi:r.told.length=i
     ·obtain⟨m,hm⟩:=q6q es (ql r u).2
      rw[hm,h2] at ht ⊢
      have hu:u=t:=by
       rw[List.append_assoc,List.getElem?_append_right (by omega),hi,Nat.sub_self] at ht
       simpa using ht
      subst hu
      refine⟨[],(ql r u).2,by simp,?_,?_⟩
      ·rw[List.nil_append,xw,if_pos rfl,if_pos h1,xw]
      ·rw[h2,List.take_append_of_le_length (by simp;omega),List.take_of_length_le (by simp;omega)]
     ·obtain⟨o,r',p1,p2,p3⟩:=qdf es _ i t (by rw[h2,List.length_append];simp;omega) ht
      exact⟨(u,0) :: o,r',by simpa using p1,step o r' p2,p3⟩
   ·have e:xw r ((u,0) :: es)=((ql r u).2,some (u,(ql r u).1)):=by rw[xw,if_pos rfl,if_neg h1]
    rw[e] at ht
    rcases qcc r u with h2 | ⟨h2,_⟩
    ·rw[h2] at ht
     have:=(List.getElem?_eq_some_iff.1 ht).1
     omega
    ·exact absurd h2 h1
  ·have e:xw r ((u,c) :: es)=(r,some (u,c)):=by rw[xw,if_neg hc]
   rw[e] at ht
   have:i < r.told.length:=(List.getElem?_eq_some_iff.1 ht).1
   omega
theorem qln (s u:ByteArray)(i:Nat)(t:Tok)(h:(q0t s).1[i]?=some t) :
  ∃n kk:Nat,t.off=n∧n < kk∧kk≤s.size∧t.text=s.extract n kk∧(kk < 65536→∃rest,(q0t ((s.extract 0 kk++⟨#[32]⟩)++u)).1=(q0t s).1.take (i + 1)++rest):=by
 rw[q6r] at h
 obtain⟨o,r',e1,e2,e3⟩:=qdf (events s) rd0 i t (Nat.zero_le _) h
 obtain⟨kk,st',ln',ls',b1,b2,b3,b4,b5⟩:=qnz s s.data.toList 0 0 1 0 o t e1
 have b2':kk≤s.size:=by have:s.data.toList.length=s.size:=rfl;omega
 refine⟨st',kk,by rw[b4];rfl,b3,b2',by rw[b4];rfl,fun hk6=>?_⟩
 have ha:(s.extract 0 kk++⟨#[32]⟩)++u=s.extract 0 kk++(⟨#[32]⟩++u):=ByteArray.append_assoc
 rw[ha]
 have ht:=qll s (⟨#[32]⟩++u) kk b2'
 have hd:=qlm s (⟨#[32]⟩++u) kk b2'
 simp only[Nat.sub_zero] at b5
 have hev:o++[(t,0)] <+: events (s.extract 0 kk++(⟨#[32]⟩++u)):=by
  rw[qde _ kk,ht,hd,←qfm ht.symm _ 0 0 1 0 (by simp;omega),b5]
  unfold qfl
  dsimp only
  rw[Joins.data_append]
  have hc0:q1e kk 32=0:=by unfold q1e;rw[if_neg (by omega),if_neg (by decide)]
  have hw:wordAt (s.extract 0 kk++(⟨#[32]⟩++u)) st' kk ln' ls'=t:=by rw[b4];unfold wordAt;rw[extract_congr ht]
  show _ <+: o++evs _ (32 :: u.data.toList) kk st' ln' ls'
  rw[evs,if_pos hc0,if_pos (by decide),if_pos b3,hw,←List.append_assoc]
  exact List.prefix_append _ _
 obtain⟨es2,he2⟩:=hev
 obtain⟨m,hm⟩:=q6q es2 r'
 refine⟨m,?_⟩
 rw[q6r,←he2,q3h,e2]
 dsimp only
 rw[hm,e3,←q6r]
end S.K
end Go.Proofs.YtbancemhfjjmlaaGreatDoor
