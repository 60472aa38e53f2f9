/- Laid together. -/
import Derived.Test.YtbancemhfjjmlaaGreatDoorQF18
import Derived.Test.YtbancemhfjjmlaaGreatDoorQF15
import Derived.Test.YtbancemhfjjmlaaGreatDoorRows
import Derived.Lib.LaidU8
import Derived.ChangeSame
import Derived.Deep.Slices
import Derived.OpenShut
import Derived.Deep.DeepHandedRow
import Derived.ChangeArms
import Derived.ChangeSlices
import Derived.ProofKit
import Derived.LaidMore
import Derived.ShutString
import Derived.Stop.Joined
import Derived.Lib.LaidTab
import Derived.MakeChecks
import Derived.Lay
set_option maxRecDepth 100000
set_option maxHeartbeats 32000000
namespace Go.Proofs.YtbancemhfjjmlaaGreatDoor
namespace B
open Go.RowKit Go.Maps Go.WideMaps
open S (Tok Stm)
theorem qmu (w:World):Calls Tryz.prog 59 #[] w fun e w'=>e=.returned (.string q7l)∧w'=w:=by
 go_enter Tryz.func59,Tryz.ntmps59
 go_wp2
 go_ret
 exact⟨by kernel_rfl,rfl⟩
theorem alive_any (w:World)(hR:S.RdW w):Calls Tryz.prog 10 #[] w fun e w'=>e=.returned (.bool true)∧Below w.heap.size w w':=by
 have SM:Hid _:=qmu w;have LD:Hid (∀wx,Below w.heap.size w wx→∀t:ByteArray,t.size≤281474976710656→Calls Tryz.prog 9 #[.string t] wx (Loaded wx t)):=fun wx hb t ht=>qbn wx t ht (hR.under hb) (qe4 t)
 go_enter Tryz.func10,Tryz.ntmps10;go_wp2_with fail;refine cMo SM.out ?_;rintro e wz ⟨rfl,hwz⟩;subst wz;clear SM;have L1:Hid _:=LD.out w bRf q7l (by decide);go_wp2_with fail;refine cMo L1.out ?_;rintro e w1 ⟨hb1,hm⟩;rw[qpi] at hm;obtain⟨lb,m,rfl,hI⟩:=hm;have I1:=hid hI;have B1:=hid hb1;have CT:Hid (Calls Tryz.prog 15 #[.pointer (some ⟨m.Bb,0,none⟩)] w1 fun e w'=>e=.returned (.int .i64 3)∧w'=w1):=by
  have h:=count_any hI;rw[qgn] at h;exact h
 have SY:Hid (Calls Tryz.prog 30 #[.pointer (some ⟨m.Bb,0,none⟩)] w1 fun e w'=>e=.returned (.int .i64 6)∧w'=w1):=by
  have h:=q6p hI;rw[qd7] at h;exact h
 obtain⟨x,hx,hxa⟩:∃x,m.ax[1]?=some x∧x.a=aS:=by
  have h:=qpk;rw[←hI.asa,List.getElem?_map] at h
  cases hx:m.ax[1]? with
  | none=>rw[hx] at h;cases h
  | some x=>rw[hx] at h;exact⟨x,rfl,by simpa using h⟩
 have AT:Hid (Calls Tryz.prog 16 #[.pointer (some ⟨m.Bb,0,none⟩),.int .i64 1] w1 fun e w'=>Below w1.heap.size w1 w'∧∃v1 v2 v3 v4 v5 v6 ts us,e=.returned (.tuple #[.agg (atV 1 aS v1 v2 v3 v4 v5 v6),.int .i64 0])∧AtT w1.heap.size w' LS.hy aS v1 v2 v3 v4 v5 v6 ts us):=by
  have h:=at_in hI 1 x hx (by rw[hxa];exact qpl);rw[hxa] at h;exact h
 have PR:Hid (∀wx,Below w1.heap.size w1 wx→∀(a:Option Addr) (c:Nat),F.jr wx a aS.goal→Calls Tryz.prog 48 #[.pointer (some ⟨m.Bb,0,none⟩),.slice a 5 c] wx fun e w'=>e=.returned (.string ⟨#[124,45,32,40,32,112,32,45,62,32,113]⟩)∧Below wx.heap.size wx w'):=fun wx hb a c ha=>by
  have h:=print_any (hI.below hb) (by rw[qd7];omega) qgp a 5 c aS.goal q9b (by omega) ha;rw[qj2] at h;exact h
 generalize m.Bb=Bb at *;clear hI hb1 hx hxa L1 I1;go_wp2_with fail;refine cMo CT.out ?_;rintro e wz ⟨rfl,hwz⟩;subst wz;clear CT;go_wp2_with fail;refine cMo SY.out ?_;rintro e wz ⟨rfl,hwz⟩;subst wz;clear SY;go_upto_region 4 with fail;go_wp2_with fail;refine cMo AT.out ?_;rintro e w2 ⟨hb2,v1,v2,v3,v4,v5,v6,ts,us,rfl,ht⟩
 rename_i K0 k0 K1 k1
 have hts:ts.length=3:=by
  have h:=congrArg List.length ht.fr.h;rw[lMa,lMa,q8c] at h;exact h
 obtain⟨a1,c1,e1,_⟩:=S.ql ht.fr.t.own;obtain⟨a2,c2,e2,_⟩:=S.ql ht.fr.p;obtain⟨a3,c3,e3,_,hn3⟩:=F.q1p ht.fr.g;obtain⟨a4,c4,e4,_⟩:=S.ql ht.sc.t.own;obtain⟨a5,c5,e5,_⟩:=S.ql ht.sc.p;obtain⟨a6,c6,e6,_⟩:=S.ql ht.f;rw[hts] at e1;rw[q9l] at e2;rw[q9b] at e3;subst e1 e2 e3 e4 e5 e6;have N3:=hid hn3;have B2:=hid hb2;have L17:Hid (atV 1 aS (.slice a1 3 c1) (.slice a2 1 c2) (.slice a3 5 c3) (.slice a4 us.length c4) (.slice a5 aS.pairs.length c5) (.slice a6 aS.proof.length c6)=#[.int .i64 ((1:Nat):Int),.string ⟨#[109,112]⟩,.bool false,.slice a1 3 c1,.slice a2 1 c2,.slice a3 5 c3,.slice a4 us.length c4,.slice a5 aS.pairs.length c5,.slice a6 aS.proof.length c6,.string aS.label.text,.int .i64 aS.label.off,.int .i64 aS.label.line,.int .i64 aS.label.col,.string aS.fin.text,.int .i64 aS.fin.off,.int .i64 aS.fin.line,.int .i64 aS.fin.col]):=by
  show _=_
  unfold atV;rw[qgo,qmt]
 rw[L17.out];obtain⟨n4,hn4⟩:=eXb us.length;obtain⟨n5,hn5⟩:=eXb aS.pairs.length;obtain⟨n6,hn6⟩:=eXb aS.proof.length;rw[hn4,hn5,hn6];clear hts ht hn3 hb2 L17 hn4 hn5 hn6 AT;dsimp only;refine k1 _ _ ?_;clear k1 K1;obtain⟨R,hRR⟩:=eXb w2.heap.size;have KR:Hid ((w2.alloc (.cells #[.int .i64 0,.string ⟨#[]⟩,.bool false,.slice none 0 0,.slice none 0 0,.slice none 0 0,.slice none 0 0,.slice none 0 0,.slice none 0 0,.string ⟨#[]⟩,.int .i64 0,.int .i64 0,.int .i64 0,.string ⟨#[]⟩,.int .i64 0,.int .i64 0,.int .i64 0] 51)).heap[R]?=some (.cells #[.int .i64 0,.string ⟨#[]⟩,.bool false,.slice none 0 0,.slice none 0 0,.slice none 0 0,.slice none 0 0,.slice none 0 0,.slice none 0 0,.string ⟨#[]⟩,.int .i64 0,.int .i64 0,.int .i64 0,.string ⟨#[]⟩,.int .i64 0,.int .i64 0,.int .i64 0] 51 (0,0))):=by show _=_;rw[←hRR];exact World.alloc_heap_new w2 _
 refine wpList_plain rfl fun K hK=>?_
 go_simp;refine hK _ _ ?_;clear hK K;refine wpList_plain rfl fun K hK=>?_
 go_simp;refine hK _ _ ?_;clear hK K;refine wpList_plain rfl fun K hK=>?_
 go_simp;refine hK _ _ ?_;clear hK K;refine wpList_plain rfl fun K hK=>?_
 go_simp;refine hK _ _ ?_;clear hK K
 try rw[hRR]
 refine wpList_store_mid rfl 51 _ _ rfl R 0 #[.int .i64 ((1:Nat):Int),.string ⟨#[109,112]⟩,.bool false,.slice a1 3 c1,.slice a2 1 c2,.slice a3 5 c3,.slice a4 n4 c4,.slice a5 n5 c5,.slice a6 n6 c6,.string aS.label.text,.int .i64 aS.label.off,.int .i64 aS.label.line,.int .i64 aS.label.col,.string aS.fin.text,.int .i64 aS.fin.off,.int .i64 aS.fin.line,.int .i64 aS.fin.col] rfl rfl (show (w2.alloc (.cells #[.int .i64 0,.string ⟨#[]⟩,.bool false,.slice none 0 0,.slice none 0 0,.slice none 0 0,.slice none 0 0,.slice none 0 0,.slice none 0 0,.string ⟨#[]⟩,.int .i64 0,.int .i64 0,.int .i64 0,.string ⟨#[]⟩,.int .i64 0,.int .i64 0,.int .i64 0] 51)).there R 0 17 from S.q2k (cs:=#[.int .i64 0,.string ⟨#[]⟩,.bool false,.slice none 0 0,.slice none 0 0,.slice none 0 0,.slice none 0 0,.slice none 0 0,.slice none 0 0,.string ⟨#[]⟩,.int .i64 0,.int .i64 0,.int .i64 0,.string ⟨#[]⟩,.int .i64 0,.int .i64 0,.int .i64 0]) (t:=51) KR.out) (by kernel_rfl) (by simp[Value.oneCell']) ?_;obtain⟨w3,hw3⟩:=eXa ((w2.alloc (.cells #[.int .i64 0,.string ⟨#[]⟩,.bool false,.slice none 0 0,.slice none 0 0,.slice none 0 0,.slice none 0 0,.slice none 0 0,.slice none 0 0,.string ⟨#[]⟩,.int .i64 0,.int .i64 0,.int .i64 0,.string ⟨#[]⟩,.int .i64 0,.int .i64 0,.int .i64 0] 51)).setCells R 0 (#[.int .i64 ((1:Nat):Int),.string ⟨#[109,112]⟩,.bool false,.slice a1 3 c1,.slice a2 1 c2,.slice a3 5 c3,.slice a4 n4 c4,.slice a5 n5 c5,.slice a6 n6 c6,.string aS.label.text,.int .i64 aS.label.off,.int .i64 aS.label.line,.int .i64 aS.label.col,.string aS.fin.text,.int .i64 aS.fin.off,.int .i64 aS.fin.line,.int .i64 aS.fin.col]:Array Value).toList);have K3:w3.heap[R]?=some (.cells #[.int .i64 ((1:Nat):Int),.string ⟨#[109,112]⟩,.bool false,.slice a1 3 c1,.slice a2 1 c2,.slice a3 5 c3,.slice a4 n4 c4,.slice a5 n5 c5,.slice a6 n6 c6,.string aS.label.text,.int .i64 aS.label.off,.int .i64 aS.label.line,.int .i64 aS.label.col,.string aS.fin.text,.int .i64 aS.fin.off,.int .i64 aS.fin.line,.int .i64 aS.fin.col] 51 (0,0)):=by rw[hw3];exact S.q0l R 51 [.int .i64 ((1:Nat):Int),.string ⟨#[109,112]⟩,.bool false,.slice a1 3 c1,.slice a2 1 c2,.slice a3 5 c3,.slice a4 n4 c4,.slice a5 n5 c5,.slice a6 n6 c6,.string aS.label.text,.int .i64 aS.label.off,.int .i64 aS.label.line,.int .i64 aS.label.col,.string aS.fin.text,.int .i64 aS.fin.off,.int .i64 aS.fin.line,.int .i64 aS.fin.col] [] [.int .i64 0,.string ⟨#[]⟩,.bool false,.slice none 0 0,.slice none 0 0,.slice none 0 0,.slice none 0 0,.slice none 0 0,.slice none 0 0,.string ⟨#[]⟩,.int .i64 0,.int .i64 0,.int .i64 0,.string ⟨#[]⟩,.int .i64 0,.int .i64 0,.int .i64 0] _ KR.out rfl
 have ch3:S.M.Ch (fun b=>b=R) (w2.alloc (.cells #[.int .i64 0,.string ⟨#[]⟩,.bool false,.slice none 0 0,.slice none 0 0,.slice none 0 0,.slice none 0 0,.slice none 0 0,.slice none 0 0,.string ⟨#[]⟩,.int .i64 0,.int .i64 0,.int .i64 0,.string ⟨#[]⟩,.int .i64 0,.int .i64 0,.int .i64 0] 51)) w3:=by rw[hw3];exact F.q5w R _ 0 _
 have b23:Below w2.heap.size w2 w3:=(S.qg w2 _).trans (ch3.below (by simp) fun b e=>by omega);have B3:=bTr B2 b23;have P3:Hid _:=PR.out w3 B3.out a3 c3 (N3.out.under b23);rw[←hw3];have z1:w3.cell? ⟨R,1,none⟩=some (.string ⟨#[109,112]⟩):=S.M.qc K3 1;have z2:w3.cell? ⟨R,2,none⟩=some (.bool false):=S.M.qc K3 2;have z3:w3.cell? ⟨R,3,none⟩=some (.slice a1 3 c1):=S.M.qc K3 3;have z4:w3.cell? ⟨R,4,none⟩=some (.slice a2 1 c2):=S.M.qc K3 4;have z5:w3.cell? ⟨R,5,none⟩=some (.slice a3 5 c3):=S.M.qc K3 5;clear hw3 K3 ch3 b23 KR N3 B2 PR hRR;go_wp2_with fail;refine cMo P3.out ?_;rintro e w4 ⟨rfl,hb4⟩;have B4:=bTr B3 hb4;clear hb4 P3 B3 z1 z2 z3 z4 z5;have BW:Hid (Below w.heap.size w w4):=B1.out.trans (B4.out.mono B1.out.size);have L2:Hid (Calls Tryz.prog 9 #[.string ⟨#[36,99,32,97,32,97,32,36,46]⟩] w4 (Loaded w4 qiw)):=LD.out w4 BW.out qiw (by decide);clear LD B4 B1;go_wp2_with fail;refine cMo L2.out ?_;rintro e w5 ⟨hb5,hm⟩;rw[qpj] at hm;obtain⟨b,rfl,hge,hf⟩:=hm;have B5:=bTr BW hb5;have f0:w5.cell? ⟨b,0,none⟩=some (.int .i64 5):=S.M.qc hf 0;have f4:w5.cell? ⟨b,4,none⟩=some (.int .i64 20):=S.M.qc hf 4;clear hb5 hge hf L2 BW
 go_wp2
 go_ret
 exact⟨rfl,B5.out⟩
section
variable {N:Nat} {w:World} {lb:Nat} {txt:ByteArray} {k:Nat} {L:Ld} {nf:ByteArray→Option Nat} {m:LdM}
theorem qmv (h:xk N w lb txt k L nf m)(s:ByteArray)(hs:s.size≤maxLen)(n:Nat)(y:F.Hy)(hn:q1c L.hy s=some n)(hy:L.hy[n]?=some y)(hlen:y.ex.length≤17592186044416) :
  Calls Tryz.prog 18 #[.pointer (some ⟨m.Bb,0,none⟩),.string s] w fun e w'=>∃a c,e=.returned (.tuple #[.agg #[.string y.lab,.bool y.fl,.int .i64 y.var,.slice a y.ex.length c],.bool true])∧w'.ownsRow w.heap.size 3 1 (.slice a y.ex.length c) y.ex.length (F.zq y.ex)∧Below w.heap.size w w':=by
 obtain⟨B,hB⟩:=eXb w.heap.size;have HB:=hid hB;obtain⟨wa,hwa⟩:=eXa (w.alloc (.cells #[.string ⟨#[]⟩,.bool false,.int .i64 0,.slice none 0 0] 57));have HWA:=hid hwa;have ka:wa.heap[B]?=some (.cells #[.string ⟨#[]⟩,.bool false,.int .i64 0,.slice none 0 0] 57 (0,0)):=by rw[hwa,←hB];exact World.alloc_heap_new w _
 have ba:Below w.heap.size w wa:=by rw[hwa];exact S.qg _ _
 have sa:wa.heap.size=B + 1:=by rw[hwa];simp[hB]
 have h1:=h.below ba;obtain⟨_,_,_,b3,b4,_,_⟩:=h1.base;obtain⟨_,_,hm⟩:=h1.hym;have hl:=hm.look s hs;rw[hn] at hl;obtain⟨yc,hyc,hyy⟩:∃yc,m.hs[n]?=some yc∧yc.h=y:=by
  rw[←h.hya,List.getElem?_map] at hy
  cases hc:m.hs[n]? with
  | none=>rw[hc] at hy;cases hy
  | some yc=>rw[hc] at hy;exact⟨yc,rfl,by simpa using hy⟩
 subst hyy;have hin:=(List.getElem?_eq_some_iff.1 hyc).1;obtain⟨gh,ch,eh,_,_,_⟩:=S.M.q02 h1.hyr (by omega);have hr:=h1.hyr;rw[eh] at hr b3;obtain⟨y0,y1,y2,y3⟩:=F.q7e hr n yc hyc;have her:=(h1.cold.e yc (mGe hyc)).1;obtain⟨⟨lab,fl,var,ex⟩,ve⟩:=yc;dsimp only at *;have CC:Hid _:=q7h wa N lab fl var ve ex her hlen;obtain⟨ae,ce,hae,_⟩:=S.ql her;rw[hae] at y3 CC;obtain⟨nh,hnh⟩:=eXb m.hs.length;rw[hnh] at b3 hin;have i0:(0:Int)≤(n:Int):=by omega
 have i1:(n:Int) < (nh:Int):=by omega
 obtain⟨ne,hne⟩:=eXb ex.length;rw[hne] at y3 CC;rw[hne];have KA:Hid (wa.heap[B]?=some (.cells #[.string ⟨#[]⟩,.bool false,.int .i64 0,.slice none 0 0] 57 (0,0))∧wa.heap.size=B + 1∧Below w.heap.size w wa):=⟨ka,sa,ba⟩;generalize m.Bb=Bb at *;generalize m.hb=hb at *;clear h hwa ka ba sa h1 hm hn hyc hin eh hr her hae hnh hne hlen hy;go_enter Tryz.func18,Tryz.ntmps18;go_upto_region 1 with fail;rw[←HWA.out];clear HWA;go_wp2_with fail;refine cMo CC.out ?_;rintro e w3 ⟨a3,c3,rfl,ho3,hb3⟩;have k3:=(hb3.block B (by have:=KA.out.2.1;omega)).trans KA.out.1;obtain⟨w9,hw9⟩:=eXa ((((w3.setCell ⟨B,0,none⟩ (.string lab)).setCell ⟨B,1,none⟩ (.bool fl)).setCell ⟨B,2,none⟩ (.int .i64 var)).setCell ⟨B,3,none⟩ (.slice a3 ne c3));have HW9:=hid hw9;have k9:w9.heap[B]?=some (.cells #[.string lab,.bool fl,.int .i64 var,.slice a3 ne c3] 57 (0,0)):=by rw[hw9];exact S.M.qj (S.M.qj (S.M.qj (S.M.qj k3)))
 have ch9:S.M.Ch (fun b=>b=B) w3 w9:=by rw[hw9];exact (((S.M.zx w3 B 0 _).trans (S.M.zx _ B 1 _)).trans (S.M.zx _ B 2 _)).trans (S.M.zx _ B 3 _)
 have hB3:Below w.heap.size w w3:=KA.out.2.2.trans (hb3.mono KA.out.2.2.size);have FI:Hid (w9.ownsRow w.heap.size 3 1 (.slice a3 ne c3) ne (F.zq ex)∧Below w.heap.size w w9):=⟨S.M.qw (S.M.qh ho3 ch9 fun b hb e=>F.own_ne ho3 k3 (by decide) (by rw[hb,e])) KA.out.2.2.size,hB3.trans (ch9.below hB3.size fun b e=>by have:=HB.out;omega)⟩;have r0:w3.cell? ⟨B,0,none⟩=some (.string ⟨#[]⟩):=S.M.qc k3 0;have r1:w3.cell? ⟨B,1,none⟩=some (.bool false):=S.M.qc k3 1;have r2:w3.cell? ⟨B,2,none⟩=some (.int .i64 0):=S.M.qc k3 2;have r3:w3.cell? ⟨B,3,none⟩=some (.slice none 0 0):=S.M.qc k3 3;have g0:w3.frozen? ⟨B,0,none⟩=false:=by simp[World.frozen?,k3]
 have g1:w3.frozen? ⟨B,1,none⟩=false:=by simp[World.frozen?,k3]
 have g2:w3.frozen? ⟨B,2,none⟩=false:=by simp[World.frozen?,k3]
 have g3:w3.frozen? ⟨B,3,none⟩=false:=by simp[World.frozen?,k3]
 have z0:w9.cell? ⟨B,0,none⟩=some (.string lab):=S.M.qc k9 0;have z1:w9.cell? ⟨B,1,none⟩=some (.bool fl):=S.M.qc k9 1;have z2:w9.cell? ⟨B,2,none⟩=some (.int .i64 var):=S.M.qc k9 2;have z3:w9.cell? ⟨B,3,none⟩=some (.slice a3 ne c3):=S.M.qc k9 3;clear ho3 hb3 k3 hw9 k9 ch9 hB3 CC KA y0 y1 y2 y3 b3 b4;go_wp2_with fail;rw[←HW9.out];clear HW9;refine bodyPost_ret (by simp[results,Tryz.results18,go_sem,z0,z1,z2,z3];try rfl) rfl ?_;exact⟨_,_,rfl,FI.out.1,FI.out.2⟩
theorem qmw (h:xk N w lb txt k L nf m)(s:ByteArray)(hs:s.size≤maxLen)(hn:q1c L.hy s=none) :
  Calls Tryz.prog 18 #[.pointer (some ⟨m.Bb,0,none⟩),.string s] w fun e w'=>e=.returned (.tuple #[.agg #[.string ⟨#[]⟩,.bool false,.int .i64 0,.slice none 0 0],.bool false])∧Below w.heap.size w w':=by
 obtain⟨B,hB⟩:=eXb w.heap.size;have HB:=hid hB;obtain⟨w3,hwa⟩:∃wa,wa=w.alloc (.cells #[.string ⟨#[]⟩,.bool false,.int .i64 0,.slice none 0 0] 57):=⟨_,rfl⟩;have HWA:=hid hwa;have k3:w3.heap[B]?=some (.cells #[.string ⟨#[]⟩,.bool false,.int .i64 0,.slice none 0 0] 57 (0,0)):=by rw[hwa,←hB];exact World.alloc_heap_new w _
 have ba:Below w.heap.size w w3:=by rw[hwa];exact S.qg _ _
 have h1:=h.below ba;obtain⟨_,_,_,b3,b4,_,_⟩:=h1.base;obtain⟨_,_,hm⟩:=h1.hym;have hl:=hm.look s hs;rw[hn] at hl;obtain⟨w9,hw9⟩:=eXa ((((w3.setCell ⟨B,0,none⟩ (.string ⟨#[]⟩)).setCell ⟨B,1,none⟩ (.bool false)).setCell ⟨B,2,none⟩ (.int .i64 0)).setCell ⟨B,3,none⟩ (.slice none 0 0));have HW9:=hid hw9;have k9:w9.heap[B]?=some (.cells #[.string ⟨#[]⟩,.bool false,.int .i64 0,.slice none 0 0] 57 (0,0)):=by rw[hw9];exact S.M.qj (S.M.qj (S.M.qj (S.M.qj k3)))
 have ch9:S.M.Ch (fun b=>b=B) w3 w9:=by rw[hw9];exact (((S.M.zx w3 B 0 _).trans (S.M.zx _ B 1 _)).trans (S.M.zx _ B 2 _)).trans (S.M.zx _ B 3 _)
 have FI:Hid (Below w.heap.size w w9):=ba.trans (ch9.below ba.size fun b e=>by omega);have r0:w3.cell? ⟨B,0,none⟩=some (.string ⟨#[]⟩):=S.M.qc k3 0;have r1:w3.cell? ⟨B,1,none⟩=some (.bool false):=S.M.qc k3 1;have r2:w3.cell? ⟨B,2,none⟩=some (.int .i64 0):=S.M.qc k3 2;have r3:w3.cell? ⟨B,3,none⟩=some (.slice none 0 0):=S.M.qc k3 3;have g0:w3.frozen? ⟨B,0,none⟩=false:=by simp[World.frozen?,k3]
 have g1:w3.frozen? ⟨B,1,none⟩=false:=by simp[World.frozen?,k3]
 have g2:w3.frozen? ⟨B,2,none⟩=false:=by simp[World.frozen?,k3]
 have g3:w3.frozen? ⟨B,3,none⟩=false:=by simp[World.frozen?,k3]
 have z0:w9.cell? ⟨B,0,none⟩=some (.string ⟨#[]⟩):=S.M.qc k9 0;have z1:w9.cell? ⟨B,1,none⟩=some (.bool false):=S.M.qc k9 1;have z2:w9.cell? ⟨B,2,none⟩=some (.int .i64 0):=S.M.qc k9 2;have z3:w9.cell? ⟨B,3,none⟩=some (.slice none 0 0):=S.M.qc k9 3;generalize m.Bb=Bb at *;generalize m.hb=hb at *;clear h hwa k3 ba h1 hm hn hw9 k9 ch9 b3;go_enter Tryz.func18,Tryz.ntmps18;go_upto_region 1 with fail;rw[←HWA.out];clear HWA;go_wp2_with fail;rw[←HW9.out];clear HW9;refine bodyPost_ret (by simp[results,Tryz.results18,go_sem,z0,z1,z2,z3];try rfl) rfl ?_;exact⟨rfl,FI.out⟩
end
open Go.Maps Go.RowKit Go.WideMaps
open F (jr)
section
variable {N:Nat} {w:World} {lb:Nat} {txt:ByteArray} {k:Nat} {L:Ld} {nf:ByteArray→Option Nat} {m:LdM}
theorem qpm (h:xk N w lb txt k L nf m)(hT:L.T.syms.length≤512)(a:Option Addr)(n c:Nat)(e:List Int)(hs:q4e L.T e)(hl:e.length=n)(hA:jr w a e) :
  Calls Tryz.prog 21 #[.pointer (some ⟨m.Bb,0,none⟩),.slice a n c] w fun r w'=>r=.returned (.bool true)∧Below w.heap.size w w':=by
 have hn1:1≤n:=by rw[←hl];exact hs.pos
 have hn2:n≤200:=by rw[←hl];exact hs.le
 obtain⟨x,hx⟩:∃x,e[0]?=some x:=⟨_,gEq (by omega)⟩;have hv:zu L.T x=false:=by
  have h2:=hs.head;rw[List.headD_eq_head?_getD,List.head?_eq_getElem?,hx] at h2;exact h2
 have IV:Hid _:=q5y h (by omega) x;rw[hv] at IV;have SY:Hid (∀wx,Below w.heap.size w wx→Calls Tryz.prog 30 #[.pointer (some ⟨m.Bb,0,none⟩)] wx fun e w'=>e=.returned (.int .i64 L.T.syms.length)∧w'=wx):=fun wx hb=>q6p (h.below hb)
 obtain⟨g,off,rfl,y0⟩:=hA 0 x hx;rw[Nat.add_zero] at y0;have HA:=hid hA;have HL:Hid (e.length=n∧∀x ∈ e,q57 L.T x):=⟨hl,hs.sym⟩;obtain⟨ns,hns⟩:=eXb L.T.syms.length;have HN:=hid hns;rw[hns] at SY;generalize m.Bb=Bb at *;generalize hTT:L.T=TT at *;have n0:¬n < 1:=by omega
 have n3:¬(n:Int) < 1:=by omega
 have n4:¬(200:Int) < (n:Int):=by omega
 have n5:¬200 < n:=by omega
 have n6:(0:Int) < (n:Int):=by omega
 have n7:0 < n:=by omega
 clear h hT hs hl hA hx hv hns hTT;go_enter Tryz.func21,Tryz.ntmps21;go_wp2_with fail;refine cMo IV.out ?_;rintro r w1 ⟨rfl,hb1⟩;have B1:=hid hb1;clear hb1 IV y0 n0 n3 n4 n5 n6 n7;go_wp2_with fail
 go_loopw [5] (fun v5 wx=>∃j:Nat,j≤n∧v5=.int .i64 j∧Hid (Below w.heap.size w wx)) (fun v5 _=>n - (intOf v5).toNat)
 case atStart=>exact⟨0,Nat.zero_le _,rfl,B1.out⟩
 case round =>
  obtain⟨j,hj,rfl,hB0⟩:=hrel
  by_cases hlt:j < n
  ·have n1:(j:Int) < (n:Int):=by omega
   obtain⟨x,hx⟩:∃x,e[j]?=some x:=⟨_,gEq (by rw[HL.out.1];exact hlt)⟩;obtain⟨g2,o2,e2,z0⟩:=(HA.out.under hB0.out) j x hx
   cases e2;obtain⟨i,rfl,hi⟩:=HL.out.2 x (mGe hx);rw[HN.out] at hi;have m1:¬(i:Int) < 0:=by omega
   have m2:¬(ns:Int)≤(i:Int):=by omega
   have m3:decide ((i:Int) < 0)=false:=decide_eq_false (by omega);have m4:decide ((ns:Int)≤(i:Int))=false:=decide_eq_false (by omega);have S1:Hid (∀q,Calls Tryz.prog 30 #[.pointer (some ⟨Bb,0,none⟩)] (wr.drewN q) fun e w'=>e=.returned (.int .i64 ns)∧w'=wr.drewN q):=fun q=>SY.out _ (S.below_drewN hB0.out q)
   clear hx hi;go_upto_region 6 with fail
   go_quiet (first | exact (S1.out _).mono fun _ _ ⟨he,hw⟩=>⟨he,_,hw⟩)
   go_wp2
   exact⟨⟨j + 1,by omega,by go_num,S.below_drewN hB0.out _⟩,by simp[intOf];omega⟩
  ·have n1:¬(j:Int) < (n:Int):=by omega
   go_wp2
   go_ret
   exact⟨rfl,hB0.out⟩
end
open F (jr jh HyC Pp je)
theorem Parts.lies {N0:Nat}{W:World}{hy:List F.Hy}{a:As}{a1 a2 a3 a4 a5 a6:Option Addr}{n1 n2 n3 n4 n5 n6 c1 c2 c3 c4 c5 c6:Nat}{ts us:List HyC}(hp:Parts N0 W hy a a1 a2 a3 a4 a5 a6 n1 n2 n3 n4 n5 n6 c1 c2 c3 c4 c5 c6 ts us):q2x W a1 ts∧jh W a2 a.apart∧jr W a3 a.goal∧q2x W a4 us∧jh W a5 a.pairs:=by
 obtain⟨b1,d1,e1,_,q1⟩:=q72 hp.at'.fr.t;obtain⟨b3,d3,e3,_,q3⟩:=F.q1p hp.at'.fr.g;obtain⟨b4,d4,e4,_,q4⟩:=q72 hp.at'.sc.t
 cases e1
 cases e3
 cases e4;exact⟨q1,F.q29 (l:=a.apart) (by have h2:=hp.at'.fr.p;rw[hp.l2] at h2;exact h2),q3,q4,F.q29 (l:=a.pairs) (by have h2:=hp.at'.sc.p;rw[hp.l5] at h2;exact h2)⟩
theorem frz3 {W:World}{b T:Nat}{cs:Array Value}(h:W.heap[b]?=some (.cells cs T (0,0)))(k:Nat):W.frozen? ⟨b,k,none⟩=false:=by
 unfold World.frozen?;simp[h]
theorem qmx (w:World)(s:ByteArray)(hs:s.size≤140737488355328)(hR:S.RdW w)(L:Ld)(hF:q2t s=.ok L):Calls Tryz.prog 5 #[.string s] w fun e w'=>e=.returned (.bool true)∧Below w.heap.size w w':=by
 have LD:Hid (∀wx,Below w.heap.size w wx→∀t:ByteArray,t.size≤281474976710656→Calls Tryz.prog 9 #[.string t] wx (Loaded wx t)):=fun wx hb t ht=>qbn wx t ht (hR.under hb) (qe4 t)
 have AL:Hid (∀wx,Below w.heap.size w wx→Calls Tryz.prog 10 #[] wx fun e w'=>e=.returned (.bool true)∧Below wx.heap.size wx w'):=fun wx hb=>alive_any wx (hR.under hb)
 have L1:Hid _:=LD.out w bRf s (by omega);have GA:Hid (∀i a,L.al[i]?=some a→qp6 L i a):=fun i a hi=>good_a hF hi
 have NM:Hid (∀n,n < L.T.syms.length→Y.numOf L.T.syms (q48 L.T n)=some n∧(q48 L.T n).size≤maxLen):=fun n hn=>named hF hn
 have OK:Hid (L.Ok 1000000000):=(q9a hF).2;clear hR hs LD;go_enter Tryz.func5,Tryz.ntmps5;go_wp2_with fail;refine cMo L1.out ?_;rintro e w1 ⟨hb1,hm⟩;rw[hF] at hm;obtain⟨lb,m,rfl,hld⟩:=hm;have B1:=hid hb1;have A1:Hid _:=AL.out w1 hb1;obtain⟨Bb,hBb⟩:=eXb m.Bb;rw[hBb];have HBb:Hid (m.Bb=Bb):=hBb;have H1:=hid hld;clear hb1 L1 hF hld hBb AL;go_wp2_with fail;refine cMo A1.out ?_;rintro e wB ⟨rfl,hb2⟩;have BB:=bTr B1 hb2;have HL:Hid (∀W,Below wB.heap.size wB W→xk w.heap.size W lb s 1000000000 L (Y.numOf L.T.syms) m):=fun W hW=>(H1.out.below hb2).below hW
 have HT:Hid (L.T.syms.length≤512):=OK.out.tab.syms;obtain⟨cnt,hcnt⟩:=eXb L.al.length;have HC:=hid hcnt;obtain⟨nsy,hnsy⟩:=eXb L.T.syms.length;have HS:=hid hnsy;have lcnt:cnt≤1024:=by have h1:=OK.out.hy1;omega
 have lnsy:nsy≤512:=by have h1:=HT.out;omega
 have CT:Hid (∀W,Below wB.heap.size wB W→Calls Tryz.prog 15 #[.pointer (some ⟨Bb,0,none⟩)] W fun e w'=>e=.returned (.int .i64 cnt)∧w'=W):=fun W hW=>by
  have h9:=count_any (HL.out W hW);rw[hcnt,HBb.out] at h9;exact h9
 have HM:Hid (∀i,i < cnt→∃x,m.ax[i]?=some x∧L.al[i]?=some x.a):=fun i hi=>by
  have h9:=(HL.out wB bRf).asa;have h8:m.ax.length=cnt:=by rw[←hcnt,←h9,lMa]
  have h7:m.ax[i]?=some (m.ax[i]'(by omega)):=gEq (by omega);exact⟨_,h7,by rw[←h9,List.getElem?_map,h7];rfl⟩
 clear hb2 A1 B1 H1 hcnt hnsy;go_wp2_with fail
 go_loopw [5] (fun v5 wx=>∃i1:Nat,i1≤cnt∧v5=.int .i64 i1∧Hid (Below wB.heap.size wB wx)) (fun v5 _=>cnt - (intOf v5).toNat)
 case atStart=>exact⟨0,Nat.zero_le _,rfl,bRf⟩
 case round =>
  obtain⟨i1,hj1,rfl,hB⟩:=hrel;have BR:=hid hB;clear hB
  by_cases hlt:i1 < cnt
  ·as_aux_lemma =>
   have m1:(i1:Int) < (cnt:Int):=by omega
   obtain⟨x,hx,hxa⟩:=HM.out i1 hlt;have G:Hid (qp6 L i1 x.a):=GA.out i1 x.a hxa;have AT:=at_in (HL.out wr BR.out) i1 x hx G.out.inn;have CX:=fun W hW=>q9j (HL.out W hW) i1 x hx G.out.inn
   have BE:=fun W hW a0 n0 c0 goal=>qib (HL.out W hW) (nLt HT.out (by decide)) i1 x hx G.out.inn a0 n0 c0 goal
   rw[HBb.out] at AT CX BE;unfold atV at AT;obtain⟨a,ha⟩:=eXb x.a;rw[ha] at AT CX BE G;replace AT:=show Hid _ from AT;replace CX:=show Hid _ from CX;replace BE:=show Hid _ from BE;clear hx hxa ha;go_wp2_with fail;refine cMo (CT.out wr BR.out) ?_;rintro e wz ⟨rfl,hwz⟩;subst wz;go_wp2_with fail;refine cMo AT.out ?_;rintro e w2 ⟨hb2,v1,v2,v3,v4,v5,v6,ts,us,rfl,hat⟩;obtain⟨a1,a2,a3,a4,a5,a6,n1,n2,n3,n4,n5,n6,c1,c2,c3,c4,c5,c6,rfl,rfl,rfl,rfl,rfl,rfl,hp⟩:=hat.parts;obtain⟨w3,hw3⟩:=eXa (w2.alloc (.cells #[.int .i64 (i1:Nat),.string a.label.text,.bool a.thm,.slice a1 n1 c1,.slice a2 n2 c2,.slice a3 n3 c3,.slice a4 n4 c4,.slice a5 n5 c5,.slice a6 n6 c6,.string a.label.text,.int .i64 a.label.off,.int .i64 a.label.line,.int .i64 a.label.col,.string a.fin.text,.int .i64 a.fin.off,.int .i64 a.fin.line,.int .i64 a.fin.col] 51));have HW3:=hid hw3;obtain⟨R,hR⟩:=eXb w2.heap.size;have HR:=hid hR;have k1:w3.heap[R]?=some (.cells #[.int .i64 (i1:Nat),.string a.label.text,.bool a.thm,.slice a1 n1 c1,.slice a2 n2 c2,.slice a3 n3 c3,.slice a4 n4 c4,.slice a5 n5 c5,.slice a6 n6 c6,.string a.label.text,.int .i64 a.label.off,.int .i64 a.label.line,.int .i64 a.label.col,.string a.fin.text,.int .i64 a.fin.off,.int .i64 a.fin.line,.int .i64 a.fin.col] 51 (0,0)):=by rw[hw3,←hR];exact World.alloc_heap_new w2 _
   have b3:Below w2.heap.size w2 w3:=by rw[hw3];exact S.qg _ _
   have B3:Hid (Below wB.heap.size wB w3):=BR.out.trans ((hb2.trans (b3.mono hb2.size)).mono BR.out.size);have SA:Hid (∀W,Below w3.heap.size w3 W→W.cell? ⟨R,0,none⟩=some (.int .i64 (i1:Nat))∧W.cell? ⟨R,1,none⟩=some (.string a.label.text)∧W.cell? ⟨R,2,none⟩=some (.bool a.thm)∧W.cell? ⟨R,3,none⟩=some (.slice a1 n1 c1)∧W.cell? ⟨R,4,none⟩=some (.slice a2 n2 c2)∧W.cell? ⟨R,5,none⟩=some (.slice a3 n3 c3)∧W.cell? ⟨R,6,none⟩=some (.slice a4 n4 c4)∧W.cell? ⟨R,7,none⟩=some (.slice a5 n5 c5)∧W.cell? ⟨R,8,none⟩=some (.slice a6 n6 c6)∧W.cell? ⟨R,9,none⟩=some (.string a.label.text)∧W.cell? ⟨R,10,none⟩=some (.int .i64 a.label.off)∧W.cell? ⟨R,11,none⟩=some (.int .i64 a.label.line)∧W.cell? ⟨R,12,none⟩=some (.int .i64 a.label.col)∧W.cell? ⟨R,13,none⟩=some (.string a.fin.text)∧W.cell? ⟨R,14,none⟩=some (.int .i64 a.fin.off)∧W.cell? ⟨R,15,none⟩=some (.int .i64 a.fin.line)∧W.cell? ⟨R,16,none⟩=some (.int .i64 a.fin.col)):=fun W hW=>⟨qm hW (S.M.qc k1 0),qm hW (S.M.qc k1 1),qm hW (S.M.qc k1 2),qm hW (S.M.qc k1 3),qm hW (S.M.qc k1 4),qm hW (S.M.qc k1 5),qm hW (S.M.qc k1 6),qm hW (S.M.qc k1 7),qm hW (S.M.qc k1 8),qm hW (S.M.qc k1 9),qm hW (S.M.qc k1 10),qm hW (S.M.qc k1 11),qm hW (S.M.qc k1 12),qm hW (S.M.qc k1 13),qm hW (S.M.qc k1 14),qm hW (S.M.qc k1 15),qm hW (S.M.qc k1 16)⟩
   have UP:Hid (∀W,Below w3.heap.size w3 W→Below wB.heap.size wB W):=fun W hW=>B3.out.trans (hW.mono B3.out.size)
   have HP:Hid (∀W,Below w3.heap.size w3 W→Parts wr.heap.size W L.hy a a1 a2 a3 a4 a5 a6 n1 n2 n3 n4 n5 n6 c1 c2 c3 c4 c5 c6 ts us):=fun W hW=>⟨(hp.at'.below b3).below hW,hp.l1,hp.l2,hp.l3,hp.l4,hp.l5,hp.l6⟩
   have HA:Hid (∀W,Below w3.heap.size w3 W→q2x W a1 ts∧jh W a2 a.apart∧jr W a3 a.goal∧q2x W a4 us∧jh W a5 a.pairs):=fun W hW=>(HP.out W hW).lies
   have LN:Hid (ts.length=n1∧a.apart.length=n2∧a.goal.length=n3∧us.length=n4∧a.pairs.length=n5):=⟨hp.l1,hp.l2,hp.l3,hp.l4,hp.l5⟩;have MP:Hid (ts.map (·.h)=a.needed.map (q3b L.hy)∧us.map (·.h)=a.active.map (q3b L.hy)):=⟨hp.at'.fr.h,hp.at'.sc.h⟩;have ln4:n4≤1024:=by
    have h1:=(G.out.ned ts us MP.out.1 MP.out.2).l.2.1;have h2:=LN.out.2.2.2.1;omega
   have FN:Hid (∀W,Below w3.heap.size w3 W→Calls Tryz.prog 17 #[.pointer (some ⟨Bb,0,none⟩),.string a.label.text] W fun e w'=>e=.returned (.tuple #[.int .i64 (i1:Nat),.bool true])∧w'=W):=fun W hW=>by
    have h9:=qm1 (HL.out W (UP.out W hW)) a.label.text G.out.siz;rw[G.out.fnd,HBb.out] at h9;exact h9
   have HY:Hid (∀W,Below w3.heap.size w3 W→Calls Tryz.prog 18 #[.pointer (some ⟨Bb,0,none⟩),.string a.label.text] W fun e w'=>e=.returned (.tuple #[.agg #[.string ⟨#[]⟩,.bool false,.int .i64 0,.slice none 0 0],.bool false])∧Below W.heap.size W w'):=fun W hW=>by
    have h9:=qmw (HL.out W (UP.out W hW)) a.label.text G.out.siz G.out.hyp;rw[HBb.out] at h9;exact h9
   have TK:Hid (∀W,Below w3.heap.size w3 W→Calls Tryz.prog 19 #[.pointer (some ⟨Bb,0,none⟩),.string a.label.text] W fun e w'=>e=.returned (.bool true)∧w'=W):=fun W hW=>by
    have h9:=qm2 (HL.out W (UP.out W hW)) a.label.text G.out.siz;rw[G.out.fnd,HBb.out] at h9;exact h9
   have ND:Hid (∀W,Below w3.heap.size w3 W→Calls Tryz.prog 20 #[.pointer (some ⟨Bb,0,none⟩),.agg #[.int .i64 (i1:Nat),.string a.label.text,.bool a.thm,.slice a1 n1 c1,.slice a2 n2 c2,.slice a3 n3 c3,.slice a4 n4 c4,.slice a5 n5 c5,.slice a6 n6 c6,.string a.label.text,.int .i64 a.label.off,.int .i64 a.label.line,.int .i64 a.label.col,.string a.fin.text,.int .i64 a.fin.off,.int .i64 a.fin.line,.int .i64 a.fin.col]] W fun e w'=>e=.returned (.bool true)∧Below W.heap.size W w'):=fun W hW=>by
    have h9:=qp8 (HL.out W (UP.out W hW)) HT.out i1 wr.heap.size L.hy a a1 a2 a3 a4 a5 a6 n1 n2 n3 n4 n5 n6 c1 c2 c3 c4 c5 c6 ts us (HP.out W hW) (G.out.ned ts us MP.out.1 MP.out.2);rw[HBb.out] at h9;exact h9
   have ST:Hid (∀W,Below wB.heap.size wB W→∀a n c e,q4e L.T e→e.length=n→jr W a e→Calls Tryz.prog 21 #[.pointer (some ⟨Bb,0,none⟩),.slice a n c] W fun r w'=>r=.returned (.bool true)∧Below W.heap.size W w'):=fun W hW a n c e h1 h2 h3=>by
    have h9:=qpm (HL.out W hW) HT.out a n c e h1 h2 h3;rw[HBb.out] at h9;exact h9
   clear hw3 hR k1 b3 hb2 hat hp AT
   as_aux_lemma =>
    go_upto_region 10 with fail;rw[←HW3.out,HR.out];clear HW3;obtain⟨x0,x1,x2,x3,x4,x5,x6,x7,x8,x9,x10,x11,x12,x13,x14,x15,x16⟩:=SA.out w3 bRf;go_wp2_with fail;refine cMo (FN.out w3 bRf) ?_;rintro e wz ⟨rfl,hwz⟩;subst wz;go_wp2_with fail;refine cMo (HY.out w3 bRf) ?_;rintro e w4 ⟨rfl,hb4⟩;obtain⟨w5,hw5⟩:=eXa (w4.alloc (.cells #[.string ⟨#[]⟩,.bool false,.int .i64 0,.slice none 0 0] 57));have HW5:=hid hw5;have B5:Hid (Below w3.heap.size w3 w5):=by
     have b5:Below w4.heap.size w4 w5:=by rw[hw5];exact S.qg _ _
     exact hb4.trans (b5.mono hb4.size)
    clear hw5 hb4 x0 x1 x2 x3 x4 x5 x6 x7 x8 x9 x10 x11 x12 x13 x14 x15 x16 FN HY
    as_aux_lemma =>
     go_upto_region 12 with fail;rw[←HW5.out];clear HW5;obtain⟨x0,x1,x2,x3,x4,x5,x6,x7,x8,x9,x10,x11,x12,x13,x14,x15,x16⟩:=SA.out w5 B5.out;go_wp2_with fail;refine cMo (TK.out w5 B5.out) ?_;rintro e wz ⟨rfl,hwz⟩;subst wz;go_wp2_with fail;refine cMo (ND.out w5 B5.out) ?_;rintro e w6 ⟨rfl,hb6⟩;have B6:=bTr B5 hb6;clear hb6 x0 x1 x2 x3 x4 x5 x6 x7 x8 x9 x10 x11 x12 x13 x14 x15 x16 TK ND B5;obtain⟨x0,x1,x2,x3,x4,x5,x6,x7,x8,x9,x10,x11,x12,x13,x14,x15,x16⟩:=SA.out w6 B6.out;go_wp2_with fail;refine cMo (ST.out w6 (UP.out w6 B6.out) a3 n3 c3 a.goal G.out.goal LN.out.2.2.1 (HA.out w6 B6.out).2.2.1) ?_;rintro e w7 ⟨rfl,hb7⟩;have B7:=bTr B6 hb7;clear hb7 x0 x1 x2 x3 x4 x5 x6 x7 x8 x9 x10 x11 x12 x13 x14 x15 x16 B6;go_wp2_with fail
     as_aux_lemma =>
      go_loopw [12] (fun v12 wx=>∃i2:Nat,i2≤n4∧v12=.int .i64 i2∧Hid (Below w3.heap.size w3 wx)) (fun v12 _=>n4 - (intOf v12).toNat)
      case atStart=>exact⟨0,Nat.zero_le _,rfl,B7.out⟩
      case round =>
       clear B7;obtain⟨i2,hj2,rfl,hB⟩:=hrel;have BW:=hid hB;clear hB
       by_cases hlt2:i2 < n4
       ·as_aux_lemma =>
        have m2:(i2:Int) < (n4:Int):=by omega
        obtain⟨y,hy1⟩:∃y,us[i2]?=some y:=⟨_,gEq (by rw[LN.out.2.2.2.1];exact hlt2)⟩;obtain⟨g,rfl,y0,y1,y2,ae,ce,y3,hEx,_⟩:=(HA.out wr BW.out).2.2.2.1 i2 y hy1;obtain⟨hHF,⟨nh,hn1,hn2⟩,hsz⟩:=G.out.mem us MP.out.2 y (mGe hy1);have h200:=hHF.st.le;obtain⟨ne,hne⟩:=eXb y.h.ex.length;have HNE:=hid hne;have s6:wr.cell? ⟨R,6,none⟩=some (.slice (some ⟨g,0,none⟩) n4 c4):=(SA.out wr BW.out).2.2.2.2.2.2.1;rw[hne] at y3;obtain⟨wa,hwa⟩:=eXa (wr.alloc (.cells #[.string y.h.lab,.bool y.h.fl,.int .i64 y.h.var,.slice ae ne ce] 57));have HWA:=hid hwa;obtain⟨Bh,hBh⟩:=eXb wr.heap.size;have HBH:=hid hBh;have ka:wa.heap[Bh]?=some (.cells #[.string y.h.lab,.bool y.h.fl,.int .i64 y.h.var,.slice ae ne ce] 57 (0,0)):=by rw[hwa,←hBh];exact World.alloc_heap_new wr _
        have ba:Below wr.heap.size wr wa:=by rw[hwa];exact S.qg _ _
        have BA:=bTr BW ba;have HE:Hid (jr wa ae y.h.ex):=hEx.under ba;have HF:=hid hHF;have KA:=hid ka;have HS:=qmv (HL.out wa (UP.out wa BA.out)) y.h.lab hsz nh y.h hn1 hn2 (nLt h200 (by decide));rw[HBb.out,hne] at HS;replace HS:=show Hid _ from HS;have hne2:ne≤200:=by omega
        clear hwa hBh ka ba hEx hHF hn1 hn2 hsz h200 hy1 hne;go_upto_region 18 with fail;rw[←HWA.out,HBH.out];clear HWA y0 y1 y2 y3 s6;have z0:wa.cell? ⟨Bh,0,none⟩=some (.string y.h.lab):=S.M.qc KA.out 0;go_wp2_with fail;refine cMo HS.out ?_;rintro e wb ⟨ag,cg,rfl,hog,hbb⟩;obtain⟨wc,hwc⟩:=eXa (wb.alloc (.cells #[.string y.h.lab,.bool y.h.fl,.int .i64 y.h.var,.slice ag ne cg] 57));have HWC:=hid hwc;obtain⟨Bg,hBg⟩:=eXb wb.heap.size;have HBG:=hid hBg;have kc:wc.heap[Bg]?=some (.cells #[.string y.h.lab,.bool y.h.fl,.int .i64 y.h.var,.slice ag ne cg] 57 (0,0)):=by rw[hwc,←hBg];exact World.alloc_heap_new wb _
        have bc:Below wb.heap.size wb wc:=by rw[hwc];exact S.qg _ _
        have bac:Below wa.heap.size wa wc:=hbb.trans (bc.mono hbb.size);have BC:=bTr BA bac;have kh:wc.heap[Bh]?=some (.cells #[.string y.h.lab,.bool y.h.fl,.int .i64 y.h.var,.slice ae ne ce] 57 (0,0)):=(bac.block Bh (aIx KA.out)).trans KA.out;have hng:jr wc ag y.h.ex:=by
         obtain⟨a',c',e',_,q'⟩:=F.q1p (l:=y.h.ex) (by have h2:=hog;rw[←HNE.out] at h2;exact h2)
         cases e';exact q'.under bc
        have hnh:jr wc ae y.h.ex:=HE.out.under bac;have C22:Hid (∀W,Below wc.heap.size wc W→Calls Tryz.prog 22 #[.agg #[.string y.h.lab,.bool y.h.fl,.int .i64 y.h.var,.slice ag ne cg],.agg #[.string y.h.lab,.bool y.h.fl,.int .i64 y.h.var,.slice ae ne ce]] W fun e w'=>e=.returned (.bool true)∧Below W.heap.size W w'):=fun W hW=>by
         have h9:=q73 W ag ae cg ce y.h (by have h2:=HNE.out;omega) (hng.under hW) (hnh.under hW);rw[HNE.out] at h9;exact h9
        have C21:Hid (∀W,Below wc.heap.size wc W→Calls Tryz.prog 21 #[.pointer (some ⟨Bb,0,none⟩),.slice ae ne ce] W fun e w'=>e=.returned (.bool true)∧Below W.heap.size W w'):=fun W hW=>ST.out W (UP.out W (BC.out.trans (hW.mono BC.out.size))) ae ne ce y.h.ex HF.out.st HNE.out (hnh.under hW)
        have IV:=fun W hW n=>q5y (HL.out W hW) (nLt HT.out (by decide)) n
        rw[HBb.out] at IV;have C23:Hid (∀W,Below wc.heap.size wc W→Calls Tryz.prog 23 #[.pointer (some ⟨Bb,0,none⟩),.int .i64 y.h.var] W fun e w'=>e=.returned (.bool (zu L.T y.h.var))∧Below W.heap.size W w'):=fun W hW=>IV W (UP.out W (BC.out.trans (hW.mono BC.out.size))) _
        have HK:Hid (wc.heap[Bh]?=some (.cells #[.string y.h.lab,.bool y.h.fl,.int .i64 y.h.var,.slice ae ne ce] 57 (0,0))∧wc.heap[Bg]?=some (.cells #[.string y.h.lab,.bool y.h.fl,.int .i64 y.h.var,.slice ag ne cg] 57 (0,0))∧jr wc ae y.h.ex):=⟨kh,kc,hnh⟩;clear hwc hBg kc bc bac kh hng hnh IV hog hbb z0 HE KA HS;go_upto_region 19 with fail;rw[←HWC.out,HBG.out];clear HWC BA;obtain⟨kh,kc,hnh⟩:=HK.out;clear HK;obtain⟨⟨lab,fl,var,ex⟩,ve⟩:=y;dsimp only at *
        cases fl with
        | true=>as_aux_lemma =>
         obtain⟨⟨cc,hcc⟩,hv⟩:=HF.out.fl rfl;have hcc:ex=[cc,var]:=hcc;subst hcc;have hv:zu L.T var=true:=hv;rw[hv] at C23;obtain⟨vi,hvi,_⟩:=q41 hv;have e2:ne=2:=HNE.out.symm;obtain⟨ge,oe,rfl,hcell⟩:=hnh 1 _ rfl;have p1:(0:Int)≤var:=by omega
         have p0:decide (0≤var)=true:=decide_eq_true p1;have p2:decide (var≥0)=true:=decide_eq_true p1;subst e2;have SC:Hid (∀W,Below wc.heap.size wc W→W.cell? ⟨Bh,0,none⟩=some (.string lab)∧W.cell? ⟨Bh,1,none⟩=some (.bool true)∧W.cell? ⟨Bh,2,none⟩=some (.int .i64 var)∧W.cell? ⟨Bh,3,none⟩=some (.slice (some ⟨ge,oe,none⟩) 2 ce)∧W.cell? ⟨Bg,0,none⟩=some (.string lab)∧W.cell? ⟨Bg,1,none⟩=some (.bool true)∧W.cell? ⟨Bg,2,none⟩=some (.int .i64 var)∧W.cell? ⟨Bg,3,none⟩=some (.slice ag 2 cg)∧W.cell? ⟨ge,oe + 1,none⟩=some (.int .i64 var)):=fun W hW=>⟨qm hW (S.M.qc kh 0),qm hW (S.M.qc kh 1),qm hW (S.M.qc kh 2),qm hW (S.M.qc kh 3),qm hW (S.M.qc kc 0),qm hW (S.M.qc kc 1),qm hW (S.M.qc kc 2),qm hW (S.M.qc kc 3),qm hW hcell⟩
         clear kh kc hnh hv hvi hcell HF HNE;have BRd:Hid (Below wc.heap.size wc wc.drew):=S.below_drewN bRf 1;refine wp_region_held_drew (S:=fun w'=>w'.cell? ⟨Bh,0,none⟩=some (.string lab)∧w'.cell? ⟨Bh,1,none⟩=some (.bool true)∧w'.cell? ⟨Bh,2,none⟩=some (.int .i64 var)∧w'.cell? ⟨Bh,3,none⟩=some (.slice (some ⟨ge,oe,none⟩) 2 ce)∧w'.cell? ⟨Bg,0,none⟩=some (.string lab)∧w'.cell? ⟨Bg,1,none⟩=some (.bool true)∧w'.cell? ⟨Bg,2,none⟩=some (.int .i64 var)∧w'.cell? ⟨Bg,3,none⟩=some (.slice ag 2 cg)∧w'.cell? ⟨ge,oe + 1,none⟩=some (.int .i64 var)) (by kernel_rfl) ?_ (fun hZ=>?_)
         ·exact SC.out _ BRd.out
         refine tkq 0 hZ ?_;refine tkq 1 hZ ?_;refine tkq 2 hZ ?_;refine tkq 3 hZ ?_;refine tkq 4 hZ ?_;refine rkq 5 fun K hK=>?_
         go_simp;go_at_call 22;refine cMo (C22.out _ BRd.out) ?_;rintro e q1 ⟨rfl,hbq⟩;have D1:=bTr BRd hbq;clear hbq
         try go_wp2_with fail
         refine aQq hK ?_ fun hZ_5=>?_
         ·exact SC.out _ D1.out
         clear hK K
         as_aux_lemma =>
          refine tkq 6 hZ_5 ?_;refine tkq 7 hZ_5 ?_;refine tkq 8 hZ_5 ?_;refine tkq 9 hZ_5 ?_;refine tkq 10 hZ_5 ?_;refine tkq 11 hZ_5 ?_;refine rkq 12 fun K hK=>?_
          go_simp;go_at_call 21;refine cMo (C21.out _ D1.out) ?_;rintro e q2 ⟨rfl,hbq⟩;have D2:=bTr D1 hbq;clear hbq
          try go_wp2_with fail
          refine aQq hK ?_ fun hZ_12=>?_
          ·exact SC.out _ D2.out
          clear hK K
          as_aux_lemma =>
           refine tkq 13 hZ_12 ?_;refine tkq 14 hZ_12 ?_;refine tkq 15 hZ_12 ?_;refine tkq 16 hZ_12 ?_;refine tkq 17 hZ_12 ?_;refine tkq 18 hZ_12 ?_;refine tkq 19 hZ_12 ?_;refine tkq 20 hZ_12 ?_;refine tkq 21 hZ_12 ?_;refine tkq 22 hZ_12 ?_;refine tkq 23 hZ_12 ?_;refine tkq 24 hZ_12 ?_;refine tkq 25 hZ_12 ?_;refine tkq 26 hZ_12 ?_;refine tkq 27 hZ_12 ?_;refine tkq 28 hZ_12 ?_;refine tkq 29 hZ_12 ?_;refine tkq 30 hZ_12 ?_
           as_aux_lemma =>
            refine tkq 31 hZ_12 ?_;refine tkq 32 hZ_12 ?_;refine tkq 33 hZ_12 ?_;refine tkq 34 hZ_12 ?_;refine tkq 35 hZ_12 ?_;refine tkq 36 hZ_12 ?_;refine tkq 37 hZ_12 ?_;refine tkq 38 hZ_12 ?_;refine tkq 39 hZ_12 ?_;refine tkq 40 hZ_12 ?_;refine tkq 41 hZ_12 ?_;refine tkq 42 hZ_12 ?_;refine tkq 43 hZ_12 ?_;refine rkq 44 fun K hK=>?_
            go_simp;go_at_call 23;refine cMo (C23.out _ D2.out) ?_;rintro e q3 ⟨rfl,hbq⟩;have D3:=bTr D2 hbq;clear hbq
            try go_wp2_with fail
            refine aQq hK ?_ fun hZ_44=>?_
            ·exact SC.out _ D3.out
            clear hK K;refine tkq 45 hZ_44 ?_;refine tkq 46 hZ_44 ?_;refine tkq 47 hZ_44 ?_;refine tkq 48 hZ_44 ?_;refine wpAnyH_done (by kernel_rfl) ?_ _;have BF:Hid (Below w3.heap.size w3 q3):=BC.out.trans (D3.out.mono BC.out.size);clear SC BRd C22 C21 C23 D1 D2 D3
            go_wp2
            exact⟨⟨i2 + 1,by omega,by go_num,BF.out⟩,by simp[intOf];omega⟩
        | false=>as_aux_lemma =>
         have e1:=HF.out.es rfl;dsimp only at e1;subst e1;have SC:Hid (∀W,Below wc.heap.size wc W→W.cell? ⟨Bh,0,none⟩=some (.string lab)∧W.cell? ⟨Bh,1,none⟩=some (.bool false)∧W.cell? ⟨Bh,2,none⟩=some (.int .i64 (-1))∧W.cell? ⟨Bh,3,none⟩=some (.slice ae ne ce)∧W.cell? ⟨Bg,0,none⟩=some (.string lab)∧W.cell? ⟨Bg,1,none⟩=some (.bool false)∧W.cell? ⟨Bg,2,none⟩=some (.int .i64 (-1))∧W.cell? ⟨Bg,3,none⟩=some (.slice ag ne cg)):=fun W hW=>⟨qm hW (S.M.qc kh 0),qm hW (S.M.qc kh 1),qm hW (S.M.qc kh 2),qm hW (S.M.qc kh 3),qm hW (S.M.qc kc 0),qm hW (S.M.qc kc 1),qm hW (S.M.qc kc 2),qm hW (S.M.qc kc 3)⟩
         clear kh kc hnh HF HNE;have BRd:Hid (Below wc.heap.size wc wc.drew):=S.below_drewN bRf 1;refine wp_region_held_drew (S:=fun w'=>w'.cell? ⟨Bh,0,none⟩=some (.string lab)∧w'.cell? ⟨Bh,1,none⟩=some (.bool false)∧w'.cell? ⟨Bh,2,none⟩=some (.int .i64 (-1))∧w'.cell? ⟨Bh,3,none⟩=some (.slice ae ne ce)∧w'.cell? ⟨Bg,0,none⟩=some (.string lab)∧w'.cell? ⟨Bg,1,none⟩=some (.bool false)∧w'.cell? ⟨Bg,2,none⟩=some (.int .i64 (-1))∧w'.cell? ⟨Bg,3,none⟩=some (.slice ag ne cg)) (by kernel_rfl) ?_ (fun hZ=>?_)
         ·exact SC.out _ BRd.out
         refine tkq 0 hZ ?_;refine tkq 1 hZ ?_;refine tkq 2 hZ ?_;refine tkq 3 hZ ?_;refine tkq 4 hZ ?_;refine rkq 5 fun K hK=>?_
         go_simp;go_at_call 22;refine cMo (C22.out _ BRd.out) ?_;rintro e q1 ⟨rfl,hbq⟩;have D1:=bTr BRd hbq;clear hbq
         try go_wp2_with fail
         refine aQq hK ?_ fun hZ_5=>?_
         ·exact SC.out _ D1.out
         clear hK K
         as_aux_lemma =>
          refine tkq 6 hZ_5 ?_;refine tkq 7 hZ_5 ?_;refine tkq 8 hZ_5 ?_;refine tkq 9 hZ_5 ?_;refine tkq 10 hZ_5 ?_;refine tkq 11 hZ_5 ?_;refine rkq 12 fun K hK=>?_
          go_simp;go_at_call 21;refine cMo (C21.out _ D1.out) ?_;rintro e q2 ⟨rfl,hbq⟩;have D2:=bTr D1 hbq;clear hbq
          try go_wp2_with fail
          refine aQq hK ?_ fun hZ_12=>?_
          ·exact SC.out _ D2.out
          clear hK K
          as_aux_lemma =>
           refine tkq 13 hZ_12 ?_;refine tkq 14 hZ_12 ?_;refine tkq 15 hZ_12 ?_;refine tkq 16 hZ_12 ?_;refine tkq 17 hZ_12 ?_;refine tkq 18 hZ_12 ?_;refine tkq 19 hZ_12 ?_;refine tkq 20 hZ_12 ?_;refine tkq 21 hZ_12 ?_;refine tkq 22 hZ_12 ?_;refine tkq 23 hZ_12 ?_;refine tkq 24 hZ_12 ?_;refine tkq 25 hZ_12 ?_;refine tkq 26 hZ_12 ?_;refine skq 27 hZ_12 ?_;refine skq 28 hZ_12 ?_;refine skq 29 hZ_12 ?_;refine skq 30 hZ_12 ?_
           as_aux_lemma =>
            refine skq 31 hZ_12 ?_;refine skq 32 hZ_12 ?_;refine skq 33 hZ_12 ?_;refine skq 34 hZ_12 ?_;refine skq 35 hZ_12 ?_;refine skq 36 hZ_12 ?_;refine skq 37 hZ_12 ?_;refine skq 38 hZ_12 ?_;refine skq 39 hZ_12 ?_;refine skq 40 hZ_12 ?_;refine skq 41 hZ_12 ?_;refine skq 42 hZ_12 ?_;refine skq 43 hZ_12 ?_;refine skq 44 hZ_12 ?_;refine skq 45 hZ_12 ?_;refine skq 46 hZ_12 ?_;refine tkq 47 hZ_12 ?_;refine tkq 48 hZ_12 ?_;refine wpAnyH_done (by kernel_rfl) ?_ _;have BF:Hid (Below w3.heap.size w3 q2):=BC.out.trans (D2.out.mono BC.out.size);clear SC BRd C22 C21 C23 D1 D2
            go_wp2
            exact⟨⟨i2 + 1,by omega,by go_num,BF.out⟩,by simp[intOf];omega⟩
       ·have m2:¬(i2:Int) < (n4:Int):=by omega
        have CXW:Hid _:=CX.out wr (UP.out wr BW.out);obtain⟨x0,x1,x2,x3,x4,x5,x6,x7,x8,x9,x10,x11,x12,x13,x14,x15,x16⟩:=SA.out wr BW.out;clear CX;go_wp2_with fail;refine cMo CXW.out ?_;rintro e wb ⟨hbb,y1,y2,y3,y4,y5,y6,tt,uu,rfl,hat⟩;obtain⟨b1,b2,b3,b4,b5,b6,k1,k2,k3,k4,k5,k6,d1,d2,d3,d4,d5,d6,rfl,rfl,rfl,rfl,rfl,rfl,hp⟩:=hat.parts;have MQ:Hid (tt.map (·.h)=ts.map (·.h)∧uu.map (·.h)=us.map (·.h)):=⟨hp.at'.fr.h.trans MP.out.1.symm,hp.at'.sc.h.trans MP.out.2.symm⟩;obtain rfl:n1=k1:=by
         have h1:=congrArg List.length MQ.out.1;rw[lMa,lMa,hp.l1,LN.out.1] at h1;exact h1.symm
        obtain rfl:n4=k4:=by
         have h1:=congrArg List.length MQ.out.2;rw[lMa,lMa,hp.l4,LN.out.2.2.2.1] at h1;exact h1.symm
        obtain rfl:n3=k3:=LN.out.2.2.1.symm.trans hp.l3;obtain rfl:n5=k5:=LN.out.2.2.2.2.symm.trans hp.l5;obtain⟨wd,hwd⟩:=eXa (wb.alloc (.cells #[.slice b4 n4 d4,.slice b5 n5 d5,.slice b1 n1 d1,.int .i64 (i1:Nat),.slice b3 n3 d3] 66));have HWD:=hid hwd;obtain⟨Bc,hBc⟩:=eXb wb.heap.size;have HBC:=hid hBc;have kd:wd.heap[Bc]?=some (.cells #[.slice b4 n4 d4,.slice b5 n5 d5,.slice b1 n1 d1,.int .i64 (i1:Nat),.slice b3 n3 d3] 66 (0,0)):=by rw[hwd,←hBc];exact World.alloc_heap_new wb _
        have bd:Below wb.heap.size wb wd:=by rw[hwd];exact S.qg _ _
        have BD:Hid (Below w3.heap.size w3 wd):=BW.out.trans ((hbb.trans (bd.mono hbb.size)).mono BW.out.size);have SD:Hid (∀W,Below wd.heap.size wd W→W.cell? ⟨Bc,0,none⟩=some (.slice b4 n4 d4)∧W.cell? ⟨Bc,1,none⟩=some (.slice b5 n5 d5)∧W.cell? ⟨Bc,2,none⟩=some (.slice b1 n1 d1)∧W.cell? ⟨Bc,3,none⟩=some (.int .i64 (i1:Nat))∧W.cell? ⟨Bc,4,none⟩=some (.slice b3 n3 d3)):=fun W hW=>⟨qm hW (S.M.qc kd 0),qm hW (S.M.qc kd 1),qm hW (S.M.qc kd 2),qm hW (S.M.qc kd 3),qm hW (S.M.qc kd 4)⟩
        have KL:Hid (∀W,Below wd.heap.size wd W→q2x W b1 tt∧jr W b3 a.goal∧q2x W b4 uu∧jh W b5 a.pairs):=fun W hW=>by
         have h9:=hp.lies;exact⟨(h9.1.under bd).under hW,(h9.2.2.1.under bd).under hW,(h9.2.2.2.1.under bd).under hW,(h9.2.2.2.2.under bd).under hW⟩
        have UD:Hid (∀W,Below wd.heap.size wd W→Below w3.heap.size w3 W):=fun W hW=>BD.out.trans (hW.mono BD.out.size)
        have NP:Hid (qga L.T a ts us):=G.out.ned ts us MP.out.1 MP.out.2;have LB:Hid (n1≤1048576∧n3≤17592186044416∧n5≤1048576∧n4≤1048576):=by
         have h1:=NP.out.l;have h2:=congrArg List.length NP.out.f;rw[lMa,lMa,LN.out.1] at h2;have h3:=List.length_filter_le (gu a.goal us) us;rw[LN.out.2.2.1,LN.out.2.2.2.1,LN.out.2.2.2.2] at h1;rw[LN.out.2.2.2.1] at h3;refine⟨?_,?_,?_,?_⟩ <;> omega
        have EU:Hid (∀y ∈ uu,y.h.ex.length≤17592186044416):=fun y hy=>nLt (G.out.mem uu (MQ.out.2.trans MP.out.2) y hy).1.st.le (by decide)
        have ET:Hid (∀y ∈ tt,y.h.ex.length≤17592186044416):=fun y hy=>by
         have h1:y.h ∈ (us.filter (gu a.goal us)).map (·.h):=by rw[←NP.out.f,←MQ.out.1];exact List.mem_map_of_mem hy
         obtain⟨z,hz,e⟩:=List.mem_map.1 h1;rw[←e];exact nLt (G.out.mem us MP.out.2 z (List.mem_filter.1 hz).1).1.st.le (by decide)
        have C1:Hid (∀W,Below wd.heap.size wd W→Calls Tryz.prog 25 #[.slice b4 n4 d4,.slice a4 n4 c4] W fun e w'=>e=.returned (.bool true)∧Below W.heap.size W w'):=fun W hW=>q7k W b4 a4 n4 d4 c4 uu us hp.l4 LB.out.2.2.2 EU.out MQ.out.2 (KL.out W hW).2.2.1 (HA.out W (UD.out W hW)).2.2.2.1
        have C2:Hid (∀W,Below wd.heap.size wd W→Calls Tryz.prog 26 #[.slice b5 n5 d5,.slice a5 n5 c5] W fun e w'=>e=.returned (.bool true)∧Below W.heap.size W w'):=fun W hW=>q9k W b5 a5 n5 d5 c5 a.pairs hp.l5 LB.out.2.2.1 (KL.out W hW).2.2.2 (HA.out W (UD.out W hW)).2.2.2.2
        have C3:Hid (∀W,Below wd.heap.size wd W→Calls Tryz.prog 25 #[.slice b1 n1 d1,.slice a1 n1 c1] W fun e w'=>e=.returned (.bool true)∧Below W.heap.size W w'):=fun W hW=>q7k W b1 a1 n1 d1 c1 tt ts hp.l1 LB.out.1 ET.out MQ.out.1 (KL.out W hW).1 (HA.out W (UD.out W hW)).1
        have C4:Hid (∀W,Below wd.heap.size wd W→Calls Tryz.prog 27 #[.slice b3 n3 d3,.slice a3 n3 c3] W fun e w'=>e=.returned (.bool true)∧Below W.heap.size W w'):=fun W hW=>q7i W b3 a3 n3 d3 c3 a.goal hp.l3 LB.out.2.1 (KL.out W hW).2.1 (HA.out W (UD.out W hW)).2.2.1
        have LU:Hid (tt.length=n1∧uu.length=n4):=⟨hp.l1,hp.l4⟩;clear hwd hBc kd bd hbb hat hp CXW x0 x1 x2 x3 x4 x5 x6 x7 x8 x9 x10 x11 x12 x13 x14 x15 x16
        as_aux_lemma =>
         go_upto_region 22 with fail;rw[←HWD.out,HBC.out];clear HWD;have E0:Hid (Below wd.heap.size wd wd):=bRf;obtain⟨x0,x1,x2,x3,x4,x5,x6,x7,x8,x9,x10,x11,x12,x13,x14,x15,x16⟩:=SA.out wd (UD.out wd E0.out);obtain⟨t0,t1,t2,t3,t4⟩:=SD.out wd E0.out;go_wp2_with fail;refine cMo (C1.out wd E0.out) ?_;rintro e g1 ⟨rfl,hbg⟩;have E1:=bTr E0 hbg;clear hbg x0 x1 x2 x3 x4 x5 x6 x7 x8 x9 x10 x11 x12 x13 x14 x15 x16 t0 t1 t2 t3 t4 C1;obtain⟨x0,x1,x2,x3,x4,x5,x6,x7,x8,x9,x10,x11,x12,x13,x14,x15,x16⟩:=SA.out g1 (UD.out g1 E1.out);obtain⟨t0,t1,t2,t3,t4⟩:=SD.out g1 E1.out;go_wp2_with fail;refine cMo (C2.out g1 E1.out) ?_;rintro e g2 ⟨rfl,hbg⟩;have E2:=bTr E1 hbg;clear hbg x0 x1 x2 x3 x4 x5 x6 x7 x8 x9 x10 x11 x12 x13 x14 x15 x16 t0 t1 t2 t3 t4 C2;obtain⟨x0,x1,x2,x3,x4,x5,x6,x7,x8,x9,x10,x11,x12,x13,x14,x15,x16⟩:=SA.out g2 (UD.out g2 E2.out);obtain⟨t0,t1,t2,t3,t4⟩:=SD.out g2 E2.out;go_wp2_with fail;refine cMo (C3.out g2 E2.out) ?_;rintro e g3 ⟨rfl,hbg⟩;have E3:=bTr E2 hbg;clear hbg x0 x1 x2 x3 x4 x5 x6 x7 x8 x9 x10 x11 x12 x13 x14 x15 x16 t0 t1 t2 t3 t4 C3;obtain⟨x0,x1,x2,x3,x4,x5,x6,x7,x8,x9,x10,x11,x12,x13,x14,x15,x16⟩:=SA.out g3 (UD.out g3 E3.out);obtain⟨t0,t1,t2,t3,t4⟩:=SD.out g3 E3.out;go_wp2_with fail;refine cMo (C4.out g3 E3.out) ?_;rintro e g4 ⟨rfl,hbg⟩;have E4:=bTr E3 hbg;clear hbg x0 x1 x2 x3 x4 x5 x6 x7 x8 x9 x10 x11 x12 x13 x14 x15 x16 t0 t1 t2 t3 t4 C4;obtain⟨x0,x1,x2,x3,x4,x5,x6,x7,x8,x9,x10,x11,x12,x13,x14,x15,x16⟩:=SA.out g4 (UD.out g4 E4.out)
         as_aux_lemma =>
          have C5:=BE g4 (UP.out g4 (UD.out g4 E4.out)) a3 n3 c3 a.goal LN.out.2.2.1 (HA.out g4 (UD.out g4 E4.out)).2.2.1 (fun us2 h2=>⟨by
           have h3:=qk2 us2 (fun y hy=>(G.out.mem us2 h2 y hy).1.st.le)
           have h4:=congrArg List.length h2
           have h5:=congrArg List.length MP.out.2
           rw[lMa] at h4 h5
           rw[←h5,LN.out.2.2.2.1] at h4
           have h6:=LB.out.2.1
           have h7:=LN.out.2.2.1
           have h8:=G.out.goal.le
           omega,fun y hy=>nLt (G.out.mem us2 h2 y hy).1.st.le (by decide)⟩)
          rw[HC.out] at C5;replace C5:=show Hid _ from C5;go_wp2_with fail;refine cMo C5.out ?_;rintro e g5 ⟨hb5,p4,p5,p7,p8,u2,ms2,rfl,hbeh⟩;have hm2:ms2.map (·.h)=ts.map (·.h):=hbeh.mh.trans (G.out.beh ts u2 MP.out.1 hbeh.sh);have hu2:u2.map (·.h)=us.map (·.h):=hbeh.sh.trans MP.out.2.symm;obtain⟨q4,f4,e4,_,A4⟩:=q72 hbeh.s;have l4:u2.length=n4:=by
           have h1:=congrArg List.length hu2;rw[lMa,lMa,LN.out.2.2.2.1] at h1;exact h1
          rw[l4] at e4;obtain⟨q7,f7,e7,_,A7⟩:=q72 hbeh.m;have l7:ms2.length=n1:=by
           have h1:=congrArg List.length hm2;rw[lMa,lMa,LN.out.1] at h1;exact h1
          rw[l7] at e7;obtain⟨q5,f5,e5,_⟩:=S.ql hbeh.p;rw[LN.out.2.2.2.2] at e5;obtain⟨q8,f8,e8,_,A8⟩:=F.q1p hbeh.g;rw[LN.out.2.2.1] at e8;subst e4 e7 e5 e8;have A5:jh g5 q5 a.pairs:=F.q29 (l:=a.pairs) (by have h2:=hbeh.p;rw[LN.out.2.2.2.2] at h2;exact h2);obtain⟨wg,hwg⟩:=eXa (g5.alloc (.cells #[.slice q4 n4 f4,.slice q5 n5 f5,.slice q7 n1 f7,.int .i64 (cnt:Nat),.slice q8 n3 f8] 66));have HWG:=hid hwg;obtain⟨Bd,hBd⟩:=eXb g5.heap.size;have HBD:=hid hBd;have kg:wg.heap[Bd]?=some (.cells #[.slice q4 n4 f4,.slice q5 n5 f5,.slice q7 n1 f7,.int .i64 (cnt:Nat),.slice q8 n3 f8] 66 (0,0)):=by rw[hwg,←hBd];exact World.alloc_heap_new g5 _
          have z3:wg.cell? ⟨Bd,3,none⟩=some (.int .i64 (cnt:Nat)):=S.M.qc kg 3;have bg:Below g5.heap.size g5 wg:=by rw[hwg];exact S.qg _ _
          have E5:Hid (Below wd.heap.size wd wg):=E4.out.trans ((hb5.trans (bg.mono hb5.size)).mono E4.out.size);have zf:wg.frozen? ⟨Bd,3,none⟩=false:=frz3 kg 3;obtain⟨wh,hwh⟩:=eXa (wg.setCell ⟨Bd,3,none⟩ (.int .i64 (i1:Nat)));have HWH:=hid hwh;have kh:wh.heap[Bd]?=some (.cells #[.slice q4 n4 f4,.slice q5 n5 f5,.slice q7 n1 f7,.int .i64 (i1:Nat),.slice q8 n3 f8] 66 (0,0)):=by rw[hwh,S.M.qj kg];rfl
          have bh:Below g5.heap.size g5 wh:=by rw[hwh];exact bg.setCell (p:=⟨Bd,3,none⟩) (Nat.le_of_eq hBd) _
          have E6:Hid (Below wd.heap.size wd wh):=E4.out.trans ((hb5.trans (bh.mono hb5.size)).mono E4.out.size);have KH:=hid kh;have C6:Hid (Calls Tryz.prog 29 #[.agg #[.slice b4 n4 d4,.slice b5 n5 d5,.slice b1 n1 d1,.int .i64 (i1:Nat),.slice b3 n3 d3],.agg #[.slice q4 n4 f4,.slice q5 n5 f5,.slice q7 n1 f7,.int .i64 (i1:Nat),.slice q8 n3 f8]] wh fun e w'=>e=.returned (.bool true)∧Below wh.heap.size wh w'):=qca wh (i1:Nat) b4 b5 b1 b3 q4 q5 q7 q8 n4 n5 n1 n3 d4 d5 d1 d3 f4 f5 f7 f8 uu u2 tt ms2 a.pairs a.goal LU.out.2 LN.out.2.2.2.2 LU.out.1 LN.out.2.2.1 LB.out.2.2.2 LB.out.2.2.1 LB.out.1 LB.out.2.1 EU.out ET.out (MQ.out.2.trans hu2.symm) (MQ.out.1.trans hm2.symm) (KL.out wh E6.out).2.2.1 (KL.out wh E6.out).2.2.2 (KL.out wh E6.out).1 (KL.out wh E6.out).2.1 (A4.under bh) (A5.under bh) (A7.under bh) (A8.under bh);clear hm2 hu2 A4 l4 A7 l7 A5 A8 hwg hBd kg bg hb5 hbeh C5 x0 x1 x2 x3 x4 x5 x6 x7 x8 x9 x10 x11 x12 x13 x14 x15 x16 hwh kh bh
          as_aux_lemma =>
           go_upto_region 25 with fail;rw[←HWG.out,HBD.out];clear HWG;go_upto_region 26 with fail;rw[←HWH.out];clear HWH z3 zf;obtain⟨t0,t1,t2,t3,t4⟩:=SD.out wh E6.out;have u0:wh.cell? ⟨Bd,0,none⟩=some (.slice q4 n4 f4):=S.M.qc KH.out 0;have u1:wh.cell? ⟨Bd,1,none⟩=some (.slice q5 n5 f5):=S.M.qc KH.out 1;have u2:wh.cell? ⟨Bd,2,none⟩=some (.slice q7 n1 f7):=S.M.qc KH.out 2;have u3:wh.cell? ⟨Bd,3,none⟩=some (.int .i64 (i1:Nat)):=S.M.qc KH.out 3;have u4:wh.cell? ⟨Bd,4,none⟩=some (.slice q8 n3 f8):=S.M.qc KH.out 4;go_wp2_with fail;refine cMo C6.out ?_;rintro e g7 ⟨rfl,hbg⟩;have E7:=bTr E6 hbg;have BF:Hid (Below wB.heap.size wB g7):=UP.out g7 (UD.out g7 E7.out);clear hbg C6 t0 t1 t2 t3 t4 u0 u1 u2 u3 u4;go_wp2_with fail;exact⟨⟨i1 + 1,by omega,by go_num,BF.out⟩,by simp[intOf];omega⟩
  ·have m1:¬(i1:Int) < (cnt:Int):=by omega
   go_wp2_with fail;refine cMo (CT.out wr BR.out) ?_;rintro e wz ⟨rfl,hwz⟩;subst wz;clear CT HM GA;go_wp2_with fail
   go_loopw [18] (fun v18 wx=>∃i3:Nat,i3≤nsy∧v18=.int .i64 i3∧Hid (Below wB.heap.size wB wx)) (fun v18 _=>nsy - (intOf v18).toNat)
   case atStart=>exact⟨0,Nat.zero_le _,rfl,BR.out⟩
   case round =>
    clear BR;obtain⟨i3,hj3,rfl,hB⟩:=hrel;have BS:=hid hB;clear hB;have CS:=q6p (HL.out wr BS.out);rw[HS.out,HBb.out] at CS;replace CS:=show Hid _ from CS
    by_cases hlt3:i3 < nsy
    ·have m3:(i3:Int) < (nsy:Int):=by omega
     obtain⟨nm1,nm2⟩:=NM.out i3 (by rw[HS.out];exact hlt3);have CN:=qcy (HL.out wr BS.out) (nLt HT.out (by decide)) (i3:Nat);rw[HBb.out] at CN;replace CN:=show Hid _ from CN;have CM:Hid (∀W,Below wB.heap.size wB W→Calls Tryz.prog 31 #[.pointer (some ⟨Bb,0,none⟩),.string (q48 L.T (i3:Nat))] W fun e w'=>e=.returned (.tuple #[.int .i64 (i3:Nat),.bool true])∧w'=W):=fun W hW=>by
      have h9:=qia (HL.out W hW) (q48 L.T (i3:Nat)) nm2;rw[nm1,HBb.out] at h9;exact h9
     clear nm1 nm2;go_wp2_with fail;refine cMo CS.out ?_;rintro e wz ⟨rfl,hwz⟩;subst wz;go_wp2_with fail;refine cMo CN.out ?_;rintro e w2 ⟨rfl,hb2⟩;have B2:=bTr BS hb2;clear hb2;go_wp2_with fail;refine cMo (CM.out w2 B2.out) ?_;rintro e wz ⟨rfl,hwz⟩;subst wz;go_wp2_with fail;exact⟨⟨i3 + 1,by omega,by go_num,B2.out⟩,by simp[intOf];omega⟩
    ·have m3:¬(i3:Int) < (nsy:Int):=by omega
     have BF:Hid (Below w.heap.size w wr):=BB.out.trans (BS.out.mono BB.out.size);go_wp2_with fail;refine cMo CS.out ?_;rintro e wz ⟨rfl,hwz⟩;subst wz;go_wp2_with fail
     go_ret
     exact⟨rfl,BF.out⟩
theorem qmy (w:World)(s:ByteArray)(hs:s.size≤140737488355328)(hR:S.RdW w)(f:S.Tok × Int)(hF:q2t s=.error f):Calls Tryz.prog 5 #[.string s] w fun e w'=>e=.returned (.bool true)∧Below w.heap.size w w':=by
 have L1:Hid (Calls Tryz.prog 9 #[.string s] w (Loaded w s)):=qbn w s (by omega) hR (qe4 s);have AL:Hid (∀wx,Below w.heap.size w wx→Calls Tryz.prog 10 #[] wx fun e w'=>e=.returned (.bool true)∧Below wx.heap.size wx w'):=fun wx hb=>alive_any wx (hR.under hb)
 clear hR hs;go_enter Tryz.func5,Tryz.ntmps5;go_wp2_with fail;refine cMo L1.out ?_;rintro e w1 ⟨hb1,hm⟩;rw[hF] at hm;obtain⟨B,rfl,_,_⟩:=hm;have A1:Hid _:=AL.out w1 hb1;have B1:=hid hb1;clear hb1 L1 hF AL;go_wp2_with fail;refine cMo A1.out ?_;rintro e w2 ⟨rfl,hb2⟩;have B2:=bTr B1 hb2;clear hb2 A1 B1;go_wp2_with fail
 go_ret
 exact⟨rfl,B2.out⟩
theorem qj3 (w:World)(s:ByteArray)(hs:s.size≤140737488355328)(hR:S.RdW w):Calls Tryz.prog 5 #[.string s] w fun e w'=>e=.returned (.bool true)∧Below w.heap.size w w':=by
 cases hF:q2t s with
 | error f=>exact qmy w s hs hR f hF
 | ok L=>exact qmx w s hs hR L hF
end B
namespace S
open Go.ChangeShapes Go.WideShapes Go.ChangeAt Go.RowKit Go.Deep Go.Shelf Go.Lib
theorem cells9:Tryz.prog.cellsOf 9=1:=by kernel_rfl
theorem cells3:Tryz.prog.cellsOf 3=1:=by kernel_rfl
theorem cells4:Tryz.prog.cellsOf 4=1:=by kernel_rfl
theorem qeo:Tryz.prog.cellsOf 193=4:=by kernel_rfl
theorem four {cs:List Value}(h:cs.length=4):∃a b c d,cs=[a,b,c,d]:=by
 match cs,h with
 | [a,b,c,d],_=>exact⟨a,b,c,d,rfl⟩
theorem qh7 {H:Type} {enc:TypeId × Value→H} {W:World} {fuel base:Nat} {sp:Nat→Bool} {held:Bool} {cs:List Value} {x:DataW H × List MemPlace}
  (h:DataW.trod enc Tryz.prog W base sp held fuel 193 cs=some x):∃(s:ByteArray) (b:Bool) (i j:Int),cs=[.string s,.bool b,.int .i64 i,.int .i64 j]∧x.1=.agg [.lit (.string s.data.toList),.lit (.bool b),.lit (.int .i64 i),.lit (.int .i64 j)]:=by
 obtain⟨xs,n,_,hx,hl,hlen,hf⟩:=DataW.trod_struct Tryz.underlying193 h;rw[qeo] at hl;obtain⟨c0,c1,c2,c3,rfl⟩:=four hl
 match xs,hlen with
 | [y0,y1,y2,y3],_ =>
  have h0:DataW.trod enc Tryz.prog W base sp held n 9 (List.take (Tryz.prog.cellsOf 9) (List.drop 0 [c0,c1,c2,c3]))=some y0:=hf 0 _ rfl;have h1:DataW.trod enc Tryz.prog W base sp held n 4 (List.take (Tryz.prog.cellsOf 4) (List.drop 1 [c0,c1,c2,c3]))=some y1:=hf 1 _ rfl;have h2:DataW.trod enc Tryz.prog W base sp held n 3 (List.take (Tryz.prog.cellsOf 3) (List.drop 2 [c0,c1,c2,c3]))=some y2:=hf 2 _ rfl;have h3:DataW.trod enc Tryz.prog W base sp held n 3 (List.take (Tryz.prog.cellsOf 3) (List.drop 3 [c0,c1,c2,c3]))=some y3:=hf 3 _ rfl;rw[cells9] at h0;rw[cells4] at h1;rw[cells3] at h2 h3;obtain⟨s,e0,r0,_⟩:=DataW.trod_string Tryz.underlying9 h0;obtain⟨b,e1,r1⟩:=DataW.trod_bool Tryz.underlying4 h1;obtain⟨i,e2,r2,_⟩:=DataW.trod_int Tryz.underlying3 h2;obtain⟨j,e3,r3,_⟩:=DataW.trod_int Tryz.underlying3 h3;simp at e0 e1 e2 e3;subst e0 e1 e2 e3;refine⟨s,b,i,j,rfl,?_⟩;rw[hx];simp only[List.map_cons,List.map_nil,r0,r1,r2,r3]
def qh8 (k:Nat):DataW Unit:=.agg [.lit (.string (q62.getD k ([],false,0,0)).1),.lit (.bool (qk5 k)),.lit (.int .i64 (q9n k)),.lit (.int .i64 (qe8 k))]
theorem qep:(Rows.laid_lemma_stmt_shapes:DataW Unit)=.agg ((List.range 10).map qh8):=by kernel_rfl
theorem qkz {W:World}(h:Lib.VarReads Tryz.prog W "lemma/stmt.shapes" Rows.laid_lemma_stmt_shapes):gy W:=fun k hk=>by
 obtain⟨g,t,cs,fuel,p,hg,hty,hvar,hd⟩:=h;obtain rfl:g=0:=Option.some.inj (hg.symm.trans (by kernel_rfl));obtain rfl:t=194:=Option.some.inj (hty.symm.trans (by kernel_rfl));rw[qep] at hd;obtain⟨fuel',d,q,hdi,he⟩:=Lib.array_elem Tryz.underlying194 hd k hk;simp only[List.getElem?_map,List.getElem?_range hk,Option.map_some,Option.some.injEq] at hdi;subst hdi;rw[qeo] at he;obtain⟨s,b,i,j,hcs,hx⟩:=qh7 he;have hx2:qh8 k=.agg [.lit (.string s.data.toList),.lit (.bool b),.lit (.int .i64 i),.lit (.int .i64 j)]:=hx;unfold qh8 at hx2;simp only[DataW.agg.injEq,List.cons.injEq,DataW.lit.injEq,Lit.string.injEq,Lit.bool.injEq,Lit.int.injEq,and_true,true_and] at hx2;obtain⟨t0,t1,t2,t3⟩:=hx2;have hs:s=kwB k:=by
  obtain⟨dd⟩:=s;unfold kwB;rw[t0]
 have hc:∀q,q < 4→W.cell? ⟨0,k * 4 + q,none⟩=((cs.toList.drop (k * 4)).take 4)[q]?:=fun q hq=>by
  rw[World.var?_cell hg hvar (k * 4 + q),List.getElem?_take,if_pos hq,List.getElem?_drop,←Array.getElem?_toList]
 rw[hcs] at hc;refine⟨?_,?_,?_,?_⟩
 ·rw[←hs];exact hc 0 (by omega)
 ·rw[t1];exact hc 1 (by omega)
 ·rw[t2];exact hc 2 (by omega)
 ·rw[t3];exact hc 3 (by omega)
theorem rown:ownKnob Tryz.prog.godebug=none:=by kernel_rfl
theorem qnr:Tryz.prog.globalNamed "lemma/scan.kinds"=some 1:=by kernel_rfl
theorem tKinds:(Tryz.prog.globals[1]?).map (·.type)=some 245:=by kernel_rfl
def qcj:List (String × DataW Unit):=[("lemma/scan.kinds",Rows.laid_lemma_scan_kinds),("lemma/stmt.shapes",Rows.laid_lemma_stmt_shapes)]
theorem ql0:qcj=[("lemma/scan.kinds",Lib.tabData .u8 K.tbl),("lemma/stmt.shapes",Rows.laid_lemma_stmt_shapes)]:=by kernel_rfl
theorem c5:Tryz.prog.cellsOf 5=1:=by kernel_rfl
theorem c245:Tryz.prog.cellsOf 245=128:=by kernel_rfl
theorem qeq {W:World}(h:laidMetH Tryz.prog qcj W)(hsh:W.ShapedOpen Tryz.prog):RdW W:=by
 rw[MakeChecks.laidMetH_plain _ _ _ (by kernel_rfl)] at h;have h2:=Lib.laidMet.reads h (List.Mem.tail _ (List.Mem.head _));rw[ql0] at h;have hv:=Lib.tabIs_of_head qnr tKinds Tryz.underlying245 Tryz.underlying5 c5 c245 h;refine⟨fun i hi=>?_,Tryz.laysM144.s1_3 W hsh,qkz h2⟩;have hc:=World.var?_cell qnr hv i;rw[hc];have hl:i < K.tbl.length:=hi;simp[hl]
theorem door_met (os:Os)(args:Array Value):laidMetH Tryz.prog qcj ((World.doorLaid Tryz.prog 400 os).forCall (fun _ _=>0) ⟨#[],args,[]⟩).memory :=
 laidMetH_of_parts3 (fuel:=8) (laidMet_of_run' 8 (by kernel_rfl) (by kernel_rfl)) (by kernel_rfl) (by kernel_rfl)
end S
end Go.Proofs.YtbancemhfjjmlaaGreatDoor
