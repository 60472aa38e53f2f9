/- Laid together. -/
import Derived.Test.YtbancemhfjjmlaaGreatDoorQF10
set_option maxRecDepth 100000
set_option maxHeartbeats 32000000
namespace Go.Proofs.YtbancemhfjjmlaaGreatDoor
namespace B
open Go.RowKit Go.Maps Go.WideMaps
open S (Tok Stm)
theorem AtT.ch {X:Nat→Prop}{N0:Nat}{W W':World}{hy:List F.Hy}{a:As}{v1 v2 v3 v4 v5 v6:Value}{ts us:List F.HyC}(h:AtT N0 W hy a v1 v2 v3 v4 v5 v6 ts us)(hc:S.M.Ch X W W')(hx:∀b,N0≤b→¬X b):AtT N0 W' hy a v1 v2 v3 v4 v5 v6 ts us :=
 ⟨h.fr.ch hc hx,h.sc.ch hc hx,S.M.qh h.f hc fun b e=>hx b (S.M.zh h.f b e),h.h2,h.p2,h.e2⟩
theorem AtT.low {N0 N1:Nat}{W:World}{hy:List F.Hy}{a:As}{v1 v2 v3 v4 v5 v6:Value}{ts us:List F.HyC}(h:AtT N1 W hy a v1 v2 v3 v4 v5 v6 ts us)(hn:N0≤N1):AtT N0 W hy a v1 v2 v3 v4 v5 v6 ts us :=
 ⟨h.fr.low hn,h.sc.low hn,S.M.qw h.f hn,h.h2,h.p2,h.e2⟩
theorem AtT.below {N0:Nat}{W W':World}{hy:List F.Hy}{a:As}{v1 v2 v3 v4 v5 v6:Value}{ts us:List F.HyC}(h:AtT N0 W hy a v1 v2 v3 v4 v5 v6 ts us)(hb:Below W.heap.size W W'):AtT N0 W' hy a v1 v2 v3 v4 v5 v6 ts us :=
 h.ch (S.M.Ch.oB (X:=fun _=>False) hb) fun _ _ e=>e
structure Parts (N0:Nat)(W:World)(hy:List F.Hy)(a:As)(a1 a2 a3 a4 a5 a6:Option Addr)(n1 n2 n3 n4 n5 n6 c1 c2 c3 c4 c5 c6:Nat)(ts us:List F.HyC):Prop where
 at':AtT N0 W hy a (.slice a1 n1 c1) (.slice a2 n2 c2) (.slice a3 n3 c3) (.slice a4 n4 c4) (.slice a5 n5 c5) (.slice a6 n6 c6) ts us
 l1:ts.length=n1
 l2:a.apart.length=n2
 l3:a.goal.length=n3
 l4:us.length=n4
 l5:a.pairs.length=n5
 l6:a.proof.length=n6
theorem AtT.parts {N0:Nat}{W:World}{hy:List F.Hy}{a:As}{v1 v2 v3 v4 v5 v6:Value}{ts us:List F.HyC}(h:AtT N0 W hy a v1 v2 v3 v4 v5 v6 ts us):∃a1 a2 a3 a4 a5 a6 n1 n2 n3 n4 n5 n6 c1 c2 c3 c4 c5 c6,v1=.slice a1 n1 c1∧v2=.slice a2 n2 c2∧v3=.slice a3 n3 c3∧v4=.slice a4 n4 c4∧v5=.slice a5 n5 c5∧v6=.slice a6 n6 c6∧Parts N0 W hy a a1 a2 a3 a4 a5 a6 n1 n2 n3 n4 n5 n6 c1 c2 c3 c4 c5 c6 ts us:=by
 obtain⟨a1,c1,e1,_⟩:=S.ql h.fr.t.own;obtain⟨a2,c2,e2,_⟩:=S.ql h.fr.p;obtain⟨a3,c3,e3,_⟩:=S.ql h.fr.g;obtain⟨a4,c4,e4,_⟩:=S.ql h.sc.t.own;obtain⟨a5,c5,e5,_⟩:=S.ql h.sc.p;obtain⟨a6,c6,e6,_⟩:=S.ql h.f;subst e1 e2 e3 e4 e5 e6;exact⟨_,_,_,_,_,_,_,_,_,_,_,_,_,_,_,_,_,_,rfl,rfl,rfl,rfl,rfl,rfl,h,rfl,rfl,rfl,rfl,rfl,rfl⟩
section
variable {N:Nat} {w:World} {lb:Nat} {txt:ByteArray} {k:Nat} {L:Ld} {nf:ByteArray→Option Nat} {m:LdM}
theorem q9j (h:xk N w lb txt k L nf m)(i:Nat)(x:AsC)(hx:m.ax[i]?=some x)(hi:qi7 L.hy x.a) :
  Calls Tryz.prog 24 #[.pointer (some ⟨m.Bb,0,none⟩),.int .i64 i] w fun e w'=>Below w.heap.size w w'∧∃v1 v2 v3 v4 v5 v6 ts us,e=.returned (.tuple #[.agg #[v4,v5,v1,.int .i64 i,v3],.int .i64 0])∧AtT w.heap.size w' L.hy x.a v1 v2 v3 v4 v5 v6 ts us:=by
 obtain⟨B,hB⟩:=eXb w.heap.size;have HB:=hid hB;obtain⟨wa,hwa⟩:=eXa (w.alloc (.cells #[.slice none 0 0,.slice none 0 0,.slice none 0 0,.int .i64 0,.slice none 0 0] 66));have HWA:=hid hwa;have ka:wa.heap[B]?=some (.cells #[.slice none 0 0,.slice none 0 0,.slice none 0 0,.int .i64 0,.slice none 0 0] 66 (0,0)):=by rw[hwa,←hB];exact World.alloc_heap_new w _
 have ba:Below w.heap.size w wa:=by rw[hwa];exact S.qg _ _
 have sa:wa.heap.size=B + 1:=by rw[hwa];simp[hB]
 have AT:Hid _:=at_in (h.below ba) i x hx hi;have KA:Hid (wa.heap[B]?=some (.cells #[.slice none 0 0,.slice none 0 0,.slice none 0 0,.int .i64 0,.slice none 0 0] 66 (0,0))∧wa.heap.size=B + 1∧Below w.heap.size w wa):=⟨ka,sa,ba⟩;generalize L.hy=hy at *;generalize m.Bb=Bb at *;clear h hwa ka ba sa hx hi;go_enter Tryz.func24,Tryz.ntmps24;go_upto_region 1 with fail;rw[←HWA.out];clear HWA;go_wp2_with fail;refine cMo AT.out ?_;rintro e w2 ⟨hb2,v1,v2,v3,v4,v5,v6,ts,us,rfl,ht⟩
 rename_i K0 k0
 obtain⟨a1,a2,a3,a4,a5,a6,n1,n2,n3,n4,n5,n6,c1,c2,c3,c4,c5,c6,rfl,rfl,rfl,rfl,rfl,rfl,hp⟩:=ht.parts;have HP:Hid _:=hp;have B2:=hid hb2;have L17:Hid (atV i x.a (.slice a1 n1 c1) (.slice a2 n2 c2) (.slice a3 n3 c3) (.slice a4 n4 c4) (.slice a5 n5 c5) (.slice a6 n6 c6)=#[.int .i64 (i:Nat),.string x.a.label.text,.bool x.a.thm,.slice a1 n1 c1,.slice a2 n2 c2,.slice a3 n3 c3,.slice a4 n4 c4,.slice a5 n5 c5,.slice a6 n6 c6,.string x.a.label.text,.int .i64 x.a.label.off,.int .i64 x.a.label.line,.int .i64 x.a.label.col,.string x.a.fin.text,.int .i64 x.a.fin.off,.int .i64 x.a.fin.line,.int .i64 x.a.fin.col]):=rfl;rw[L17.out];clear ht hp hb2 L17 AT;dsimp only;refine k0 _ _ ?_;clear k0 K0;obtain⟨R,hRR⟩:=eXb w2.heap.size;have HRR:=hid hRR;have KR:Hid ((w2.alloc (.cells #[.int .i64 0,.string ⟨#[]⟩,.bool false,.slice none 0 0,.slice none 0 0,.slice none 0 0,.slice none 0 0,.slice none 0 0,.slice none 0 0,.string ⟨#[]⟩,.int .i64 0,.int .i64 0,.int .i64 0,.string ⟨#[]⟩,.int .i64 0,.int .i64 0,.int .i64 0] 51)).heap[R]?=some (.cells #[.int .i64 0,.string ⟨#[]⟩,.bool false,.slice none 0 0,.slice none 0 0,.slice none 0 0,.slice none 0 0,.slice none 0 0,.slice none 0 0,.string ⟨#[]⟩,.int .i64 0,.int .i64 0,.int .i64 0,.string ⟨#[]⟩,.int .i64 0,.int .i64 0,.int .i64 0] 51 (0,0))):=by show _=_;rw[←hRR];exact World.alloc_heap_new w2 _
 refine wpList_plain rfl fun K hK=>?_
 go_simp;refine hK _ _ ?_;clear hK K;refine wpList_plain rfl fun K hK=>?_
 go_simp;refine hK _ _ ?_;clear hK K;refine wpList_plain rfl fun K hK=>?_
 go_simp;refine hK _ _ ?_;clear hK K;refine wpList_plain rfl fun K hK=>?_
 go_simp;refine hK _ _ ?_;clear hK K
 try rw[hRR]
 refine wpList_store_mid rfl 51 _ _ rfl R 0 #[.int .i64 (i:Nat),.string x.a.label.text,.bool x.a.thm,.slice a1 n1 c1,.slice a2 n2 c2,.slice a3 n3 c3,.slice a4 n4 c4,.slice a5 n5 c5,.slice a6 n6 c6,.string x.a.label.text,.int .i64 x.a.label.off,.int .i64 x.a.label.line,.int .i64 x.a.label.col,.string x.a.fin.text,.int .i64 x.a.fin.off,.int .i64 x.a.fin.line,.int .i64 x.a.fin.col] rfl rfl (show (w2.alloc (.cells #[.int .i64 0,.string ⟨#[]⟩,.bool false,.slice none 0 0,.slice none 0 0,.slice none 0 0,.slice none 0 0,.slice none 0 0,.slice none 0 0,.string ⟨#[]⟩,.int .i64 0,.int .i64 0,.int .i64 0,.string ⟨#[]⟩,.int .i64 0,.int .i64 0,.int .i64 0] 51)).there R 0 17 from S.q2k (cs:=#[.int .i64 0,.string ⟨#[]⟩,.bool false,.slice none 0 0,.slice none 0 0,.slice none 0 0,.slice none 0 0,.slice none 0 0,.slice none 0 0,.string ⟨#[]⟩,.int .i64 0,.int .i64 0,.int .i64 0,.string ⟨#[]⟩,.int .i64 0,.int .i64 0,.int .i64 0]) (t:=51) KR.out) (by kernel_rfl) (by simp[Value.oneCell']) ?_;obtain⟨w3,hw3⟩:=eXa ((w2.alloc (.cells #[.int .i64 0,.string ⟨#[]⟩,.bool false,.slice none 0 0,.slice none 0 0,.slice none 0 0,.slice none 0 0,.slice none 0 0,.slice none 0 0,.string ⟨#[]⟩,.int .i64 0,.int .i64 0,.int .i64 0,.string ⟨#[]⟩,.int .i64 0,.int .i64 0,.int .i64 0] 51)).setCells R 0 (#[.int .i64 (i:Nat),.string x.a.label.text,.bool x.a.thm,.slice a1 n1 c1,.slice a2 n2 c2,.slice a3 n3 c3,.slice a4 n4 c4,.slice a5 n5 c5,.slice a6 n6 c6,.string x.a.label.text,.int .i64 x.a.label.off,.int .i64 x.a.label.line,.int .i64 x.a.label.col,.string x.a.fin.text,.int .i64 x.a.fin.off,.int .i64 x.a.fin.line,.int .i64 x.a.fin.col]:Array Value).toList);have K3:w3.heap[R]?=some (.cells #[.int .i64 (i:Nat),.string x.a.label.text,.bool x.a.thm,.slice a1 n1 c1,.slice a2 n2 c2,.slice a3 n3 c3,.slice a4 n4 c4,.slice a5 n5 c5,.slice a6 n6 c6,.string x.a.label.text,.int .i64 x.a.label.off,.int .i64 x.a.label.line,.int .i64 x.a.label.col,.string x.a.fin.text,.int .i64 x.a.fin.off,.int .i64 x.a.fin.line,.int .i64 x.a.fin.col] 51 (0,0)):=by rw[hw3];exact S.q0l R 51 [.int .i64 (i:Nat),.string x.a.label.text,.bool x.a.thm,.slice a1 n1 c1,.slice a2 n2 c2,.slice a3 n3 c3,.slice a4 n4 c4,.slice a5 n5 c5,.slice a6 n6 c6,.string x.a.label.text,.int .i64 x.a.label.off,.int .i64 x.a.label.line,.int .i64 x.a.label.col,.string x.a.fin.text,.int .i64 x.a.fin.off,.int .i64 x.a.fin.line,.int .i64 x.a.fin.col] [] [.int .i64 0,.string ⟨#[]⟩,.bool false,.slice none 0 0,.slice none 0 0,.slice none 0 0,.slice none 0 0,.slice none 0 0,.slice none 0 0,.string ⟨#[]⟩,.int .i64 0,.int .i64 0,.int .i64 0,.string ⟨#[]⟩,.int .i64 0,.int .i64 0,.int .i64 0] _ KR.out rfl
 have ch3:S.M.Ch (fun b=>b=R) (w2.alloc (.cells #[.int .i64 0,.string ⟨#[]⟩,.bool false,.slice none 0 0,.slice none 0 0,.slice none 0 0,.slice none 0 0,.slice none 0 0,.slice none 0 0,.string ⟨#[]⟩,.int .i64 0,.int .i64 0,.int .i64 0,.string ⟨#[]⟩,.int .i64 0,.int .i64 0,.int .i64 0] 51)) w3:=by rw[hw3];exact F.q5w R _ 0 _
 have b23:Below w2.heap.size w2 w3:=(S.qg w2 _).trans (ch3.below (by simp) fun b e=>by omega);rw[←hw3];have HK3:Hid (w3.heap[R]?=some (.cells #[.int .i64 (i:Nat),.string x.a.label.text,.bool x.a.thm,.slice a1 n1 c1,.slice a2 n2 c2,.slice a3 n3 c3,.slice a4 n4 c4,.slice a5 n5 c5,.slice a6 n6 c6,.string x.a.label.text,.int .i64 x.a.label.off,.int .i64 x.a.label.line,.int .i64 x.a.label.col,.string x.a.fin.text,.int .i64 x.a.fin.off,.int .i64 x.a.fin.line,.int .i64 x.a.fin.col] 51 (0,0))∧Below w2.heap.size w2 w3):=⟨K3,b23⟩;clear hw3 K3 ch3 b23 KR hRR;have z3:w3.cell? ⟨R,3,none⟩=some (.slice a1 n1 c1):=S.M.qc HK3.out.1 3;have z5:w3.cell? ⟨R,5,none⟩=some (.slice a3 n3 c3):=S.M.qc HK3.out.1 5;have z6:w3.cell? ⟨R,6,none⟩=some (.slice a4 n4 c4):=S.M.qc HK3.out.1 6;have z7:w3.cell? ⟨R,7,none⟩=some (.slice a5 n5 c5):=S.M.qc HK3.out.1 7;have hsz:=KA.out.2.1;have kb:w3.heap[B]?=some (.cells #[.slice none 0 0,.slice none 0 0,.slice none 0 0,.int .i64 0,.slice none 0 0] 66 (0,0)):=(HK3.out.2.block B (by have:=B2.out.size;omega)).trans ((B2.out.block B (by omega)).trans KA.out.1);have r0:w3.cell? ⟨B,0,none⟩=some (.slice none 0 0):=S.M.qc kb 0;have r1:w3.cell? ⟨B,1,none⟩=some (.slice none 0 0):=S.M.qc kb 1;have r2:w3.cell? ⟨B,2,none⟩=some (.slice none 0 0):=S.M.qc kb 2;have r3:w3.cell? ⟨B,3,none⟩=some (.int .i64 0):=S.M.qc kb 3;have r4:w3.cell? ⟨B,4,none⟩=some (.slice none 0 0):=S.M.qc kb 4;have g0:w3.frozen? ⟨B,0,none⟩=false:=by simp[World.frozen?,kb]
 have g1:w3.frozen? ⟨B,1,none⟩=false:=by simp[World.frozen?,kb]
 have g2:w3.frozen? ⟨B,2,none⟩=false:=by simp[World.frozen?,kb]
 have g3:w3.frozen? ⟨B,3,none⟩=false:=by simp[World.frozen?,kb]
 have g4:w3.frozen? ⟨B,4,none⟩=false:=by simp[World.frozen?,kb]
 obtain⟨w9,hw9⟩:=eXa (((((w3.setCell ⟨B,0,none⟩ (.slice a4 n4 c4)).setCell ⟨B,1,none⟩ (.slice a5 n5 c5)).setCell ⟨B,2,none⟩ (.slice a1 n1 c1)).setCell ⟨B,3,none⟩ (.int .i64 i)).setCell ⟨B,4,none⟩ (.slice a3 n3 c3));have HW9:=hid hw9;have k9:w9.heap[B]?=some (.cells #[.slice a4 n4 c4,.slice a5 n5 c5,.slice a1 n1 c1,.int .i64 i,.slice a3 n3 c3] 66 (0,0)):=by rw[hw9];exact S.M.qj (S.M.qj (S.M.qj (S.M.qj (S.M.qj kb))))
 have ch9:S.M.Ch (fun b=>b=B) w3 w9:=by rw[hw9];exact ((((S.M.zx w3 B 0 _).trans (S.M.zx _ B 1 _)).trans (S.M.zx _ B 2 _)).trans (S.M.zx _ B 3 _)).trans (S.M.zx _ B 4 _)
 have b3:Below w.heap.size w w3:=(KA.out.2.2.trans (B2.out.mono KA.out.2.2.size)).trans (HK3.out.2.mono (nLt KA.out.2.2.size B2.out.size));have FI:Hid (Below w.heap.size w w9∧AtT w.heap.size w9 hy x.a (.slice a1 n1 c1) (.slice a2 n2 c2) (.slice a3 n3 c3) (.slice a4 n4 c4) (.slice a5 n5 c5) (.slice a6 n6 c6) ts us):=⟨b3.trans (ch9.below b3.size fun b e=>by have:=HB.out;omega),((HP.out.at'.below HK3.out.2).ch ch9 fun b hb e=>by omega).low KA.out.2.2.size⟩;have z0:w9.cell? ⟨B,0,none⟩=some (.slice a4 n4 c4):=S.M.qc k9 0;have z1:w9.cell? ⟨B,1,none⟩=some (.slice a5 n5 c5):=S.M.qc k9 1;have z2:w9.cell? ⟨B,2,none⟩=some (.slice a1 n1 c1):=S.M.qc k9 2;have z8:w9.cell? ⟨B,3,none⟩=some (.int .i64 i):=S.M.qc k9 3;have z9:w9.cell? ⟨B,4,none⟩=some (.slice a3 n3 c3):=S.M.qc k9 4;clear hsz kb hw9 k9 ch9 b3 HK3 KA HP B2 HB;go_wp2_with fail;rw[←HW9.out];clear HW9;refine bodyPost_ret (by simp[results,Tryz.results24,go_sem,z0,z1,z2,z8,z9];try rfl) rfl ?_;exact⟨FI.out.1,_,_,_,_,_,_,ts,us,rfl,FI.out.2⟩
end
open F (jr HyC je zq)
section
variable {N:Nat} {w:World} {lb:Nat} {txt:ByteArray} {k:Nat} {L:Ld} {nf:ByteArray→Option Nat} {m:LdM}
structure BehT (N0:Nat)(W:World)(T:Y.Tab)(hy:List F.Hy)(a:As)(goal:List Int)(v4 v5 v7 v8:Value)(us ms:List HyC):Prop where
 s:F.jc N0 W v4 us
 sh:us.map (·.h)=a.active.map (q3b hy)
 p:W.ownsRow N0 130 2 v5 a.pairs.length (F.jk a.pairs)
 m:F.jc N0 W v7 ms
 mh:ms.map (·.h)=(us.filter (q61 T goal us)).map (·.h)
 g:W.ownsRow N0 3 1 v8 goal.length (zq goal)
theorem qfx {N0:Nat}{W W':World}{v:Value}{ts:List HyC}{b0:Nat}{cs:Array Value}(h:F.jc N0 W v ts)(k0:W.heap[b0]?=some (.cells cs 66 (0,0)))(hc:S.M.Ch (fun b=>b=b0) W W'):F.jc N0 W' v ts :=
 ⟨S.M.qh h.own hc fun b hb e=>F.own_ne h.own k0 (by decide) (by rw[hb,e]),fun y hy=>S.M.qh (h.e y hy) hc fun b hb e=>F.own_ne (h.e y hy) k0 (by decide) (by rw[hb,e]),h.ap⟩
structure qdv (N0:Nat)(W:World)(a:As)(v4 v5 v7:Value)(us ms:List HyC):Prop where
 s:F.jc N0 W v4 us
 p:W.ownsRow N0 130 2 v5 a.pairs.length (F.jk a.pairs)
 m:F.jc N0 W v7 ms
theorem qdv.off {N0:Nat}{W W':World}{a:As}{v4 v5 v7:Value}{us ms:List HyC}{b0:Nat}{cs:Array Value}(h:qdv N0 W a v4 v5 v7 us ms)(k0:W.heap[b0]?=some (.cells cs 66 (0,0)))(hc:S.M.Ch (fun b=>b=b0) W W'):qdv N0 W' a v4 v5 v7 us ms :=
 ⟨qfx h.s k0 hc,S.M.qh h.p hc fun b hb e=>F.own_ne h.p k0 (by decide) (by rw[hb,e]),qfx h.m k0 hc⟩
theorem qdv.below {N0:Nat}{W W':World}{a:As}{v4 v5 v7:Value}{us ms:List HyC}(h:qdv N0 W a v4 v5 v7 us ms)(hb:Below W.heap.size W W'):qdv N0 W' a v4 v5 v7 us ms :=
 ⟨h.s.below hb,S.M.qh h.p (S.M.Ch.oB (X:=fun _=>False) hb) fun _ _ e=>e,h.m.below hb⟩
theorem qib (h:xk N w lb txt k L nf m)(hT:L.T.syms.length≤4611686018427387904)(i:Nat)(x:AsC)(hx:m.ax[i]?=some x)(hi:qi7 L.hy x.a)(a0:Option Addr)(n0 c0:Nat)(goal:List Int)(hg:goal.length=n0)(hA:jr w a0 goal)(hE:∀us:List HyC,us.map (·.h)=x.a.active.map (q3b L.hy)→goal.length + (je us).length≤17592186043904∧∀y ∈ us,y.h.ex.length≤17592186044416) :
  Calls Tryz.prog 28 #[.pointer (some ⟨m.Bb,0,none⟩),.int .i64 i,.slice a0 n0 c0] w fun e w'=>Below w.heap.size w w'∧∃v4 v5 v7 v8 us ms,e=.returned (.tuple #[.agg #[v4,v5,v7,.int .i64 L.al.length,v8],.int .i64 0])∧BehT w.heap.size w' L.T L.hy x.a goal v4 v5 v7 v8 us ms:=by
 obtain⟨B,hB⟩:=eXb w.heap.size;have HB:=hid hB;obtain⟨wa,hwa⟩:=eXa (w.alloc (.cells #[.slice none 0 0,.slice none 0 0,.slice none 0 0,.int .i64 0,.slice none 0 0] 66));have HWA:=hid hwa;have ka:wa.heap[B]?=some (.cells #[.slice none 0 0,.slice none 0 0,.slice none 0 0,.int .i64 0,.slice none 0 0] 66 (0,0)):=by rw[hwa,←hB];exact World.alloc_heap_new w _
 have ba:Below w.heap.size w wa:=by rw[hwa];exact S.qg _ _
 have sa:wa.heap.size=B + 1:=by rw[hwa];simp[hB]
 have AT:Hid _:=q9j (h.below ba) i x hx hi;have KA:Hid (wa.heap[B]?=some (.cells #[.slice none 0 0,.slice none 0 0,.slice none 0 0,.int .i64 0,.slice none 0 0] 66 (0,0))∧wa.heap.size=B + 1∧Below w.heap.size w wa):=⟨ka,sa,ba⟩;have MA:Hid (∀(W:World),Below w.heap.size w W→∀(N1:Nat) (a1:Option Addr) (n c1:Nat) (ts:List HyC),F.jc N1 W (.slice a1 n c1) ts→ts.length=n→n≤1048576→ts.map (·.h)=x.a.active.map (q3b L.hy)→Calls Tryz.prog 71 #[.pointer (some ⟨m.Bb,0,none⟩),.slice a1 n c1,.slice a0 n0 c0] W fun e w'=>Below W.heap.size W w'∧∃v us,e=.returned v∧F.jc W.heap.size w' v us∧us.map (·.h)=(ts.filter (q61 L.T goal ts)).map (·.h)):=fun W hW N1 a1 n c1 ts ht hn hn2 hm=>qm4 (h.below hW) hT N1 a1 a0 n c1 n0 c0 ts goal ht hn hn2 hg (hA.under hW) (hE ts hm).1 (hE ts hm).2
 have CT:Hid (∀W,Below w.heap.size w W→Calls Tryz.prog 15 #[.pointer (some ⟨m.Bb,0,none⟩)] W fun e w'=>e=.returned (.int .i64 L.al.length)∧w'=W):=fun W hW=>count_any (h.below hW)
 have hn0:n0≤17592186043904:=by have h1:=(hE (x.a.active.map fun p=>⟨q3b L.hy p,.slice none 0 0⟩) (by rw[List.map_map];rfl)).1;omega
 have CG:Hid (∀W,Below w.heap.size w W→Calls Tryz.prog 72 #[.slice a0 n0 c0] W fun e w'=>∃v',e=.returned v'∧w'.ownsRow W.heap.size 3 1 v' n0 (zq goal)∧Below W.heap.size W w'):=fun W hW=>F.clone_any W a0 n0 c0 goal hg (by omega) (hA.under hW)
 have HX:Hid (x.a.active.length≤1048576∧goal.length=n0):=⟨hi.a.1,hg⟩;generalize hal:L.al.length=na at *;generalize L.hy=hy at *;generalize L.T=TT at *;generalize m.Bb=Bb at *;clear h hT hwa ka ba sa hx hi hg hA hE hal hn0;go_enter Tryz.func28,Tryz.ntmps28;go_upto_region 1 with fail;rw[←HWA.out];clear HWA;go_wp2_with fail;refine cMo AT.out ?_;rintro e w2 ⟨hb2,v1,v2,v3,v4,v5,v6,ts,us,rfl,ht⟩;obtain⟨a1,a2,a3,a4,a5,a6,n1,n2,n3,n4,n5,n6,c1,c2,c3,c4,c5,c6,rfl,rfl,rfl,rfl,rfl,rfl,hp⟩:=ht.parts;have HP:Hid _:=hp;have B2:Hid (Below w.heap.size w w2∧Below wa.heap.size wa w2):=⟨KA.out.2.2.trans (hb2.mono KA.out.2.2.size),hb2⟩;obtain⟨R,hRR⟩:=eXb w2.heap.size;have HRR:=hid hRR;obtain⟨w3,hw3⟩:=eXa (w2.alloc (.cells #[.slice a4 n4 c4,.slice a5 n5 c5,.slice a1 n1 c1,.int .i64 i,.slice a3 n3 c3] 66));have HW3:=hid hw3;have k3:w3.heap[R]?=some (.cells #[.slice a4 n4 c4,.slice a5 n5 c5,.slice a1 n1 c1,.int .i64 i,.slice a3 n3 c3] 66 (0,0)):=by rw[hw3,←hRR];exact World.alloc_heap_new w2 _
 have b3:Below w2.heap.size w2 w3:=by rw[hw3];exact S.qg _ _
 have B3:Hid (Below w.heap.size w w3∧w3.heap.size=R + 1∧R≤w3.heap.size∧w.heap.size≤R∧B < R):=⟨B2.out.1.trans (b3.mono B2.out.1.size),by rw[hw3];simp[hRR],by rw[hw3];simp[hRR],by rw[←hRR];exact B2.out.1.size,by have h1:=B2.out.2.size;have h2:=KA.out.2.1;omega⟩;have K3:Hid (w3.heap[R]?=some (.cells #[.slice a4 n4 c4,.slice a5 n5 c5,.slice a1 n1 c1,.int .i64 i,.slice a3 n3 c3] 66 (0,0))):=k3;have KB3:Hid (w3.heap[B]?=some (.cells #[.slice none 0 0,.slice none 0 0,.slice none 0 0,.int .i64 0,.slice none 0 0] 66 (0,0))):=(b3.block B (by have:=B3.out.2.2.2.2;omega)).trans ((B2.out.2.block B (by have:=KA.out.2.1;omega)).trans KA.out.1);have P3:Hid (AtT w.heap.size w3 hy x.a (.slice a1 n1 c1) (.slice a2 n2 c2) (.slice a3 n3 c3) (.slice a4 n4 c4) (.slice a5 n5 c5) (.slice a6 n6 c6) ts us):=(HP.out.at'.below b3).low KA.out.2.2.size;have y0:w3.cell? ⟨R,0,none⟩=some (.slice a4 n4 c4):=S.M.qc k3 0;have M3:Hid _:=MA.out w3 B3.out.1 w.heap.size a4 n4 c4 us P3.out.sc.t HP.out.l4 (by have h1:=congrArg List.length P3.out.sc.h;rw[lMa,lMa] at h1;have h2:=HX.out.1;have h3:=HP.out.l4;omega) P3.out.sc.h;clear ht hp hb2 AT hw3 k3 b3;go_upto_region 2 with fail;rw[←HW3.out];clear HW3;go_wp2_with fail;refine cMo M3.out ?_;rintro e w4 ⟨hb4,v7,ms,rfl,hm4,hq4⟩;obtain⟨a7,c7,rfl,_⟩:=S.ql hm4.own;obtain⟨n7,hn7⟩:=eXb ms.length;rw[hn7] at hm4;rw[hn7];have k4:w4.heap[R]?=some (.cells #[.slice a4 n4 c4,.slice a5 n5 c5,.slice a1 n1 c1,.int .i64 i,.slice a3 n3 c3] 66 (0,0)):=(hb4.block R (by have:=B3.out.2.1;omega)).trans K3.out;have KB4:w4.heap[B]?=some (.cells #[.slice none 0 0,.slice none 0 0,.slice none 0 0,.int .i64 0,.slice none 0 0] 66 (0,0)):=(hb4.block B (aIx KB3.out)).trans KB3.out;have B4:Hid (Below w.heap.size w w4):=B3.out.1.trans (hb4.mono B3.out.1.size);have P4:Hid _:=P3.out.below hb4;have M4:Hid (F.jc w.heap.size w4 (.slice a7 n7 c7) ms):=⟨S.M.qw hm4.own B3.out.1.size,fun y hy=>S.M.qw (hm4.e y hy) B3.out.1.size,hm4.ap⟩;have Q4:=hid hq4;have x2:w4.cell? ⟨R,2,none⟩=some (.slice a1 n1 c1):=S.M.qc k4 2
 have xf2:w4.frozen? ⟨R,2,none⟩=false:=by simp[World.frozen?,k4]
 obtain⟨w5,hw5⟩:=eXa (w4.setCell ⟨R,2,none⟩ (.slice a7 n7 c7));have HW5:=hid hw5;have k5:w5.heap[R]?=some (.cells #[.slice a4 n4 c4,.slice a5 n5 c5,.slice a7 n7 c7,.int .i64 i,.slice a3 n3 c3] 66 (0,0)):=by rw[hw5];exact S.M.qj k4
 have ch5:S.M.Ch (fun b=>b=R) w4 w5:=by rw[hw5];exact S.M.zx w4 R 2 _
 have S5:Hid (qdv w.heap.size w5 x.a (.slice a4 n4 c4) (.slice a5 n5 c5) (.slice a7 n7 c7) us ms):=(qdv.mk P4.out.sc.t P4.out.sc.p M4.out).off k4 ch5;have SH:Hid (us.map (·.h)=x.a.active.map (q3b hy)):=P4.out.sc.h;have K5:Hid (w5.heap[R]?=some (.cells #[.slice a4 n4 c4,.slice a5 n5 c5,.slice a7 n7 c7,.int .i64 i,.slice a3 n3 c3] 66 (0,0))):=k5;have lt4:B < w4.heap.size∧R < w4.heap.size:=⟨(aIx KB4),(aIx k4)⟩;have hBR:=B3.out.2.2.2.2;have KB5:Hid (w5.heap[B]?=some (.cells #[.slice none 0 0,.slice none 0 0,.slice none 0 0,.int .i64 0,.slice none 0 0] 66 (0,0))):=(ch5.block B lt4.1 (by omega)).trans KB4;have B5:Hid (Below w.heap.size w w5):=B4.out.trans (ch5.below B4.out.size fun b e=>by have:=B3.out.2.2.2.1;omega);have HBR:Hid (B < R∧w.heap.size≤R∧w.heap.size≤B):=⟨hBR,B3.out.2.2.2.1,by have:=HB.out;omega⟩;have C5:Hid _:=CT.out w5 B5.out;have u3:w5.cell? ⟨R,3,none⟩=some (.int .i64 i):=S.M.qc k5 3;have uf3:w5.frozen? ⟨R,3,none⟩=false:=by simp[World.frozen?,k5]
 obtain⟨w6,hw6⟩:=eXa (w5.setCell ⟨R,3,none⟩ (.int .i64 na));have HW6:=hid hw6;have k6:w6.heap[R]?=some (.cells #[.slice a4 n4 c4,.slice a5 n5 c5,.slice a7 n7 c7,.int .i64 na,.slice a3 n3 c3] 66 (0,0)):=by rw[hw6];exact S.M.qj k5
 have ch6:S.M.Ch (fun b=>b=R) w5 w6:=by rw[hw6];exact S.M.zx w5 R 3 _
 have K6:Hid (w6.heap[R]?=some (.cells #[.slice a4 n4 c4,.slice a5 n5 c5,.slice a7 n7 c7,.int .i64 na,.slice a3 n3 c3] 66 (0,0))):=k6;have S6:Hid (qdv w.heap.size w6 x.a (.slice a4 n4 c4) (.slice a5 n5 c5) (.slice a7 n7 c7) us ms):=S5.out.off k5 ch6;have KB6:Hid (w6.heap[B]?=some (.cells #[.slice none 0 0,.slice none 0 0,.slice none 0 0,.int .i64 0,.slice none 0 0] 66 (0,0))):=(ch6.block B (aIx KB5.out) (by omega)).trans KB5.out;have B6:Hid (Below w.heap.size w w6):=B5.out.trans (ch6.below B5.out.size fun b e=>by have:=HBR.out.2.1;omega);have G6:Hid _:=CG.out w6 B6.out;clear hm4 hq4 hb4 hn7 M3 K3 KB3 P3 y0 hw5 k4 KB4 k5 ch5 lt4 hBR M4 P4 hw6 k6 ch6 S5 K5 KB5 B4 B3;go_upto_region 5 with fail;rw[←HW5.out];clear HW5 x2 xf2;go_wp2_with fail;refine cMo C5.out ?_;rintro e wz ⟨rfl,hwz⟩;subst wz;clear C5;go_upto_region 6 with fail;rw[←HW6.out];clear HW6 u3 uf3 B5;go_wp2_with fail;refine cMo G6.out ?_;rintro e w7 ⟨v8,rfl,hv8,hb7⟩;obtain⟨a8,c8,rfl,_⟩:=S.ql hv8;have k7:w7.heap[R]?=some (.cells #[.slice a4 n4 c4,.slice a5 n5 c5,.slice a7 n7 c7,.int .i64 na,.slice a3 n3 c3] 66 (0,0)):=(hb7.block R (aIx K6.out)).trans K6.out;have kB7:w7.heap[B]?=some (.cells #[.slice none 0 0,.slice none 0 0,.slice none 0 0,.int .i64 0,.slice none 0 0] 66 (0,0)):=(hb7.block B (aIx KB6.out)).trans KB6.out;have s7:=S6.out.below hb7;have b7:Below w.heap.size w w7:=B6.out.trans (hb7.mono B6.out.size);have x4:w7.cell? ⟨R,4,none⟩=some (.slice a3 n3 c3):=S.M.qc k7 4;have xf4:w7.frozen? ⟨R,4,none⟩=false:=by simp[World.frozen?,k7]
 obtain⟨w8,hw8⟩:=eXa (w7.setCell ⟨R,4,none⟩ (.slice a8 n0 c8));have HW8:=hid hw8;have k8:w8.heap[R]?=some (.cells #[.slice a4 n4 c4,.slice a5 n5 c5,.slice a7 n7 c7,.int .i64 na,.slice a8 n0 c8] 66 (0,0)):=by rw[hw8];exact S.M.qj k7
 have ch8:S.M.Ch (fun b=>b=R) w7 w8:=by rw[hw8];exact S.M.zx w7 R 4 _
 have s8:=s7.off k7 ch8;have gv8:w8.ownsRow w.heap.size 3 1 (.slice a8 n0 c8) n0 (zq goal):=S.M.qw (S.M.qh hv8 ch8 fun b hb e=>F.own_ne hv8 k7 (by decide) (by rw[hb,e])) B6.out.size;have kB8:w8.heap[B]?=some (.cells #[.slice none 0 0,.slice none 0 0,.slice none 0 0,.int .i64 0,.slice none 0 0] 66 (0,0)):=(ch8.block B (aIx kB7) (by have:=HBR.out.1;omega)).trans kB7;have b8:Below w.heap.size w w8:=b7.trans (ch8.below b7.size fun b e=>by have:=HBR.out.2.1;omega);have l0:w8.cell? ⟨R,0,none⟩=some (.slice a4 n4 c4):=S.M.qc k8 0;have l1:w8.cell? ⟨R,1,none⟩=some (.slice a5 n5 c5):=S.M.qc k8 1;have l2:w8.cell? ⟨R,2,none⟩=some (.slice a7 n7 c7):=S.M.qc k8 2;have l3:w8.cell? ⟨R,3,none⟩=some (.int .i64 na):=S.M.qc k8 3;have l4:w8.cell? ⟨R,4,none⟩=some (.slice a8 n0 c8):=S.M.qc k8 4;have m0:w8.cell? ⟨B,0,none⟩=some (.slice none 0 0):=S.M.qc kB8 0;have m1:w8.cell? ⟨B,1,none⟩=some (.slice none 0 0):=S.M.qc kB8 1;have m2:w8.cell? ⟨B,2,none⟩=some (.slice none 0 0):=S.M.qc kB8 2;have m3:w8.cell? ⟨B,3,none⟩=some (.int .i64 0):=S.M.qc kB8 3;have m4:w8.cell? ⟨B,4,none⟩=some (.slice none 0 0):=S.M.qc kB8 4;have mf0:w8.frozen? ⟨B,0,none⟩=false:=by simp[World.frozen?,kB8]
 have mf1:w8.frozen? ⟨B,1,none⟩=false:=by simp[World.frozen?,kB8]
 have mf2:w8.frozen? ⟨B,2,none⟩=false:=by simp[World.frozen?,kB8]
 have mf3:w8.frozen? ⟨B,3,none⟩=false:=by simp[World.frozen?,kB8]
 have mf4:w8.frozen? ⟨B,4,none⟩=false:=by simp[World.frozen?,kB8]
 obtain⟨w9,hw9⟩:=eXa (((((w8.setCell ⟨B,0,none⟩ (.slice a4 n4 c4)).setCell ⟨B,1,none⟩ (.slice a5 n5 c5)).setCell ⟨B,2,none⟩ (.slice a7 n7 c7)).setCell ⟨B,3,none⟩ (.int .i64 na)).setCell ⟨B,4,none⟩ (.slice a8 n0 c8));have HW9:=hid hw9;have k9:w9.heap[B]?=some (.cells #[.slice a4 n4 c4,.slice a5 n5 c5,.slice a7 n7 c7,.int .i64 na,.slice a8 n0 c8] 66 (0,0)):=by rw[hw9];exact S.M.qj (S.M.qj (S.M.qj (S.M.qj (S.M.qj kB8))))
 have ch9:S.M.Ch (fun b=>b=B) w8 w9:=by rw[hw9];exact ((((S.M.zx w8 B 0 _).trans (S.M.zx _ B 1 _)).trans (S.M.zx _ B 2 _)).trans (S.M.zx _ B 3 _)).trans (S.M.zx _ B 4 _)
 have s9:=s8.off kB8 ch9;have FI:Hid (Below w.heap.size w w9∧BehT w.heap.size w9 TT hy x.a goal (.slice a4 n4 c4) (.slice a5 n5 c5) (.slice a7 n7 c7) (.slice a8 n0 c8) us ms):=⟨b8.trans (ch9.below b8.size fun b e=>by have:=HBR.out.2.2;omega),s9.s,SH.out,s9.p,s9.m,Q4.out,by rw[HX.out.2];exact S.M.qh gv8 ch9 fun b hb e=>F.own_ne gv8 kB8 (by decide) (by rw[hb,e])⟩;have ez0:w9.cell? ⟨B,0,none⟩=some (.slice a4 n4 c4):=S.M.qc k9 0;have ez1:w9.cell? ⟨B,1,none⟩=some (.slice a5 n5 c5):=S.M.qc k9 1;have ez2:w9.cell? ⟨B,2,none⟩=some (.slice a7 n7 c7):=S.M.qc k9 2;have ez3:w9.cell? ⟨B,3,none⟩=some (.int .i64 na):=S.M.qc k9 3;have ez4:w9.cell? ⟨B,4,none⟩=some (.slice a8 n0 c8):=S.M.qc k9 4;clear hv8 hb7 k7 kB7 s7 b7 hw8 k8 ch8 s8 gv8 kB8 b8 hw9 k9 ch9 s9 S6 K6 KB6 B6 G6 SH Q4 HBR;go_upto_region 7 with fail;rw[←HW8.out];clear HW8 x4 xf4;go_wp2_with fail;rw[←HW9.out];clear HW9;refine bodyPost_ret (by simp[results,Tryz.results28,go_sem,ez0,ez1,ez2,ez3,ez4];try rfl) rfl ?_;exact⟨FI.out.1,_,_,_,_,us,ms,rfl,FI.out.2⟩
end
open Go.Maps Go.RowKit Go.WideMaps
open F (jr jh HyC Pp)
def q2x (w:World)(a:Option Addr)(ts:List HyC):Prop:=∀(i:Nat) (y:HyC),ts[i]?=some y→∃g,a=some ⟨g,0,none⟩∧w.cell? ⟨g,i * 4,none⟩=some (.string y.h.lab)∧w.cell? ⟨g,i * 4 + 1,none⟩=some (.bool y.h.fl)∧w.cell? ⟨g,i * 4 + 2,none⟩=some (.int .i64 y.h.var)∧∃a' c',w.cell? ⟨g,i * 4 + 3,none⟩=some (.slice a' y.h.ex.length c')∧jr w a' y.h.ex∧y.ve=.slice a' y.h.ex.length c'
theorem qm {w w':World}(hb:Below w.heap.size w w'){g i:Nat}{u:Value}(h:w.cell? ⟨g,i,none⟩=some u):w'.cell? ⟨g,i,none⟩=some u:=(hb.cell (p:=⟨g,i,none⟩) (bLt h)).trans h
theorem q2x.under {w w':World}{a:Option Addr}{ts:List HyC}(h:q2x w a ts)(hb:Below w.heap.size w w'):q2x w' a ts:=fun i y hi=>by
 obtain⟨g,e,h0,h1,h2,a',c',h3,h4,h5⟩:=h i y hi;exact⟨g,e,qm hb h0,qm hb h1,qm hb h2,a',c',qm hb h3,h4.under hb,h5⟩
theorem q72 {N:Nat}{W:World}{v:Value}{ts:List HyC}(h:F.jc N W v ts):∃a c,v=.slice a ts.length c∧ts.length≤c∧q2x W a ts:=by
 obtain⟨a,c,rfl,hc,hcell⟩:=S.M.xq h.own;refine⟨a,c,rfl,hc,fun i y hi=>?_⟩;have hlt:=(List.getElem?_eq_some_iff.1 hi).1;obtain⟨g,c',e,_,_,_⟩:=S.M.q02 h.own (by omega)
 cases e;obtain⟨h0,h1,h2,h3⟩:=F.q7e h.own i y hi;obtain⟨a',c',e,_,h4⟩:=F.q1p (h.e y (mGe hi));rw[e] at h3;exact⟨g,rfl,h0,h1,h2,a',c',h3,h4,e⟩
def q3f (l:List Int)(x:Int):Bool:=l.contains x
theorem qic {ts us:List HyC}(h:ts.map (·.h)=us.map (·.h)){i:Nat}{y:HyC}(hi:ts[i]?=some y):∃z,us[i]?=some z∧z.h=y.h:=by
 have h1:=congrArg (fun l=>l[i]?) h;simp only[List.getElem?_map,hi,Option.map_some] at h1;obtain⟨z,hz,e⟩:=Option.map_eq_some_iff.1 h1.symm;exact⟨z,hz,e⟩
theorem q7i (w:World)(a b:Option Addr)(n c d:Nat)(l:List Int)(hl:l.length=n)(hn:n≤17592186044416)(hA:jr w a l)(hB:jr w b l) :
  Calls Tryz.prog 27 #[.slice a n c,.slice b n d] w fun e w'=>e=.returned (.bool true)∧Below w.heap.size w w':=by
 have HA:=hid hA;have HB:=hid hB;have HL:=hid hl;clear hA hB hl;go_enter Tryz.func27,Tryz.ntmps27;go_wp2_with fail
 go_loopw [5] (fun v5 wx=>∃j:Nat,j≤n∧v5=.int .i64 j∧Hid (Below w.heap.size w wx)) (fun v5 _=>n - (intOf v5).toNat)
 case atStart=>exact⟨0,Nat.zero_le _,rfl,bRf⟩
 case round =>
  obtain⟨j,hj,rfl,hB0⟩:=hrel
  by_cases hlt:j < n
  ·have n1:(j:Int) < (n:Int):=by omega
   obtain⟨x,hx⟩:∃x,l[j]?=some x:=⟨_,gEq (by rw[HL.out];exact hlt)⟩;obtain⟨ga,oa,ea,ca⟩:=(HA.out.under hB0.out) j x hx;obtain⟨gb,ob,eb,cb⟩:=(HB.out.under hB0.out) j x hx;subst ea;subst eb;clear hx;go_upto_region 6 with fail
   go_quiet (fail)
   go_wp2
   exact⟨⟨j + 1,by omega,by go_num,S.below_drewN hB0.out _⟩,by simp[intOf];omega⟩
  ·have n1:¬(j:Int) < (n:Int):=by omega
   go_wp2
   go_ret
   exact⟨rfl,hB0.out⟩
theorem q9k (w:World)(a b:Option Addr)(n c d:Nat)(l:List Pp)(hl:l.length=n)(hn:n≤1048576)(hA:jh w a l)(hB:jh w b l) :
  Calls Tryz.prog 26 #[.slice a n c,.slice b n d] w fun e w'=>e=.returned (.bool true)∧Below w.heap.size w w':=by
 have HA:=hid hA;have HB:=hid hB;have HL:=hid hl;clear hA hB hl;go_enter Tryz.func26,Tryz.ntmps26;go_wp2_with fail
 go_loopw [5] (fun v5 wx=>∃j:Nat,j≤n∧v5=.int .i64 j∧Hid (Below w.heap.size w wx)) (fun v5 _=>n - (intOf v5).toNat)
 case atStart=>exact⟨0,Nat.zero_le _,rfl,bRf⟩
 case round =>
  obtain⟨j,hj,rfl,hB0⟩:=hrel
  by_cases hlt:j < n
  ·have n1:(j:Int) < (n:Int):=by omega
   obtain⟨⟨x,y⟩,hx⟩:∃x,l[j]?=some x:=⟨_,gEq (by rw[HL.out];exact hlt)⟩;obtain⟨ga,oa,ea,ca,da⟩:=(HA.out.under hB0.out) j _ hx;obtain⟨gb,ob,eb,cb,db⟩:=(HB.out.under hB0.out) j _ hx;subst ea;subst eb;clear hx;go_wp2_with fail
   go_quiet (fail)
   go_wp2
   exact⟨⟨j + 1,by omega,by go_num,S.below_drewN hB0.out _⟩,by simp[intOf];omega⟩
  ·have n1:¬(j:Int) < (n:Int):=by omega
   go_wp2
   go_ret
   exact⟨rfl,hB0.out⟩
theorem q7j (w:World)(a:Option Addr)(n c:Nat)(l:List Int)(x:Int)(hl:l.length=n)(hn:n≤17592186044416)(hA:jr w a l) :
  Calls Tryz.prog 69 #[.slice a n c,.int .i64 x] w fun e w'=>e=.returned (.bool (q3f l x))∧w'=w:=by
 have HA:=hid hA;have HL:=hid hl;clear hA hl;go_enter Tryz.func69,Tryz.ntmps69;go_wp2_with fail
 go_loop [5] (fun i=>∃j:Nat,j≤n∧i=.int .i64 j∧Hid (q3f (l.take j) x=false)) (fun i=>n - (intOf i).toNat)
 case atStart=>exact⟨0,Nat.zero_le _,rfl,rfl⟩
 case round =>
  obtain⟨j,hj,rfl,hI⟩:=hrel
  by_cases hlt:j < n
  ·have n1:(j:Int) < (n:Int):=by omega
   obtain⟨y,hy⟩:∃y,l[j]?=some y:=⟨_,gEq (by rw[HL.out];exact hlt)⟩;obtain⟨ga,oa,ea,ca⟩:=HA.out j y hy;subst ea
   by_cases e:y=x
   ·subst e;have HR:Hid (q3f l y=true):=List.contains_iff_mem.2 (mGe hy);clear hy hI
    go_wp2
    go_ret
    exact⟨by rw[HR.out];rfl,rfl⟩
   ·have HI2:Hid (q3f (l.take (j + 1)) x=false):=by
     have h:=hI.out
     show _=_
     unfold q3f at h ⊢;rw[←Bool.not_eq_true,List.contains_iff_mem] at h ⊢;rw[List.take_add_one,hy];intro h2;rcases mAp.1 h2 with h3 | h3
     ·exact h h3
     ·simp at h3;exact e h3.symm
    clear hy hI
    go_wp2
    exact⟨⟨j + 1,by omega,by go_num,HI2.out⟩,by simp[intOf];omega⟩
  ·have n1:¬(j:Int) < (n:Int):=by omega
   have HR:Hid (q3f l x=false):=by have h:=hI.out;rw[List.take_of_length_le (by rw[HL.out];omega)] at h;exact h
   clear hI
   go_wp2
   go_ret
   exact⟨by rw[HR.out];rfl,rfl⟩
theorem q73 (w:World)(a b:Option Addr)(c d:Nat)(h:F.Hy)(hn:h.ex.length≤17592186044416)(hA:jr w a h.ex)(hB:jr w b h.ex) :
  Calls Tryz.prog 22 #[.agg #[.string h.lab,.bool h.fl,.int .i64 h.var,.slice a h.ex.length c],.agg #[.string h.lab,.bool h.fl,.int .i64 h.var,.slice b h.ex.length d]] w fun e w'=>e=.returned (.bool true)∧Below w.heap.size w w':=by
 obtain⟨w1,hw1⟩:=eXa ((w.alloc (.cells #[.string h.lab,.bool h.fl,.int .i64 h.var,.slice a h.ex.length c] 57)).alloc (.cells #[.string h.lab,.bool h.fl,.int .i64 h.var,.slice b h.ex.length d] 57));obtain⟨A,hA0⟩:=eXb w.heap.size;obtain⟨B,hB0⟩:=eXb (w.heap.size + 1);have b0:Below w.heap.size w (w.alloc (.cells #[.string h.lab,.bool h.fl,.int .i64 h.var,.slice a h.ex.length c] 57)):=S.qg _ _;have b1:Below (w.alloc (.cells #[.string h.lab,.bool h.fl,.int .i64 h.var,.slice a h.ex.length c] 57)).heap.size (w.alloc (.cells #[.string h.lab,.bool h.fl,.int .i64 h.var,.slice a h.ex.length c] 57)) w1:=by rw[hw1];exact S.qg _ _
 have k0:(w.alloc (.cells #[.string h.lab,.bool h.fl,.int .i64 h.var,.slice a h.ex.length c] 57)).heap[A]?=some (.cells #[.string h.lab,.bool h.fl,.int .i64 h.var,.slice a h.ex.length c] 57 (0,0)):=by rw[←hA0];exact World.alloc_heap_new w _
 have k1:w1.heap[B]?=some (.cells #[.string h.lab,.bool h.fl,.int .i64 h.var,.slice b h.ex.length d] 57 (0,0)):=by rw[hw1,←hB0,←show (w.alloc (.cells #[.string h.lab,.bool h.fl,.int .i64 h.var,.slice a h.ex.length c] 57)).heap.size=w.heap.size + 1 from Array.size_push _];exact World.alloc_heap_new _ _
 have k2:w1.heap[A]?=some (.cells #[.string h.lab,.bool h.fl,.int .i64 h.var,.slice a h.ex.length c] 57 (0,0)):=(b1.block A (aIx k0)).trans k0;have bb:Below w.heap.size w w1:=b0.trans (b1.mono b0.size);have B1:=hid bb;have HW1:=hid hw1;have HA0:=hid hA0;have HB0:=hid hB0;have x0:=S.M.qc k2 0;have y0:=S.M.qc k1 0;have x1:=S.M.qc k2 1;have y1:=S.M.qc k1 1;have x2:=S.M.qc k2 2;have y2:=S.M.qc k1 2;have x3:=S.M.qc k2 3;have y3:=S.M.qc k1 3;simp only[List.getElem?_toArray,List.getElem?_cons_zero,List.getElem?_cons_succ] at x0 y0 x1 y1 x2 y2 x3 y3;have C1:Hid _:=q7i w1 a b h.ex.length c d h.ex rfl hn (hA.under bb) (hB.under bb);clear hw1 hA0 hB0 b0 b1 k0 k1 k2 bb hA hB;go_enter Tryz.func22,Tryz.ntmps22;go_upto_region 1 with fail;rw[←HW1.out,HB0.out,HA0.out];clear HW1 HB0;go_wp2_with fail;refine cMo C1.out ?_;rintro e w2 ⟨rfl,hb2⟩;have B2:=bTr B1 hb2;rw[HA0.out] at B2;clear hb2 C1
 go_wp2
 go_ret
 exact⟨rfl,by first | exact B2.out | (rw[HA0.out];exact B2.out)⟩
theorem q7k (w:World)(a b:Option Addr)(n c d:Nat)(ts us:List HyC)(hl:ts.length=n)(hn:n≤1048576)(he:∀y ∈ ts,y.h.ex.length≤17592186044416)(heq:ts.map (·.h)=us.map (·.h))(hA:q2x w a ts)(hB:q2x w b us) :
  Calls Tryz.prog 25 #[.slice a n c,.slice b n d] w fun e w'=>e=.returned (.bool true)∧Below w.heap.size w w':=by
 have HA:=hid hA;have HB:=hid hB;have HL:Hid (ts.length=n∧ts.map (·.h)=us.map (·.h)∧∀y ∈ ts,y.h.ex.length≤17592186044416):=⟨hl,heq,he⟩;clear hA hB hl heq he;go_enter Tryz.func25,Tryz.ntmps25;go_wp2_with fail
 go_loopw [5] (fun v5 wx=>∃j:Nat,j≤n∧v5=.int .i64 j∧Hid (Below w.heap.size w wx)) (fun v5 _=>n - (intOf v5).toNat)
 case atStart=>exact⟨0,Nat.zero_le _,rfl,bRf⟩
 case round =>
  obtain⟨j,hj,rfl,hB0⟩:=hrel
  by_cases hlt:j < n
  ·have n1:(j:Int) < (n:Int):=by omega
   obtain⟨y,hy⟩:∃y,ts[j]?=some y:=⟨_,gEq (by rw[HL.out.1];exact hlt)⟩;obtain⟨z,hz,ez⟩:=qic HL.out.2.1 hy;obtain⟨ga,ea,p0,p1,p2,a1,c1,p3,p4,_⟩:=(HA.out.under hB0.out) j y hy;obtain⟨gb,eb,q0,q1,q2,a2,c2,q3,q4,_⟩:=(HB.out.under hB0.out) j z hz;rw[ez] at q0 q1 q2 q3 q4;have hex:=HL.out.2.2 y (mGe hy);subst ea;subst eb;have SA:Hid (∀W,Below wr.heap.size wr W→W.cell? ⟨ga,j * 4,none⟩=some (.string y.h.lab)∧W.cell? ⟨ga,j * 4 + 1,none⟩=some (.bool y.h.fl)∧W.cell? ⟨ga,j * 4 + 2,none⟩=some (.int .i64 y.h.var)∧W.cell? ⟨ga,j * 4 + 3,none⟩=some (.slice a1 y.h.ex.length c1)∧W.cell? ⟨gb,j * 4,none⟩=some (.string y.h.lab)∧W.cell? ⟨gb,j * 4 + 1,none⟩=some (.bool y.h.fl)∧W.cell? ⟨gb,j * 4 + 2,none⟩=some (.int .i64 y.h.var)∧W.cell? ⟨gb,j * 4 + 3,none⟩=some (.slice a2 y.h.ex.length c2)):=fun W hW=>⟨qm hW p0,qm hW p1,qm hW p2,qm hW p3,qm hW q0,qm hW q1,qm hW q2,qm hW q3⟩
   have C:Hid (∀W,Below wr.heap.size wr W→Calls Tryz.prog 22 #[.agg #[.string y.h.lab,.bool y.h.fl,.int .i64 y.h.var,.slice a1 y.h.ex.length c1],.agg #[.string y.h.lab,.bool y.h.fl,.int .i64 y.h.var,.slice a2 y.h.ex.length c2]] W fun e w'=>e=.returned (.bool true)∧w'.cell? ⟨ga,j * 4,none⟩=some (.string y.h.lab)∧w'.cell? ⟨ga,j * 4 + 1,none⟩=some (.bool y.h.fl)∧w'.cell? ⟨ga,j * 4 + 2,none⟩=some (.int .i64 y.h.var)∧w'.cell? ⟨ga,j * 4 + 3,none⟩=some (.slice a1 y.h.ex.length c1)∧w'.cell? ⟨gb,j * 4,none⟩=some (.string y.h.lab)∧w'.cell? ⟨gb,j * 4 + 1,none⟩=some (.bool y.h.fl)∧w'.cell? ⟨gb,j * 4 + 2,none⟩=some (.int .i64 y.h.var)∧w'.cell? ⟨gb,j * 4 + 3,none⟩=some (.slice a2 y.h.ex.length c2)∧Hid (Below wr.heap.size wr w')):=fun W hW=>by
    refine (q73 W a1 a2 c1 c2 y.h hex (p4.under hW) (q4.under hW)).mono ?_;rintro e w' ⟨he,hb⟩;have hb2:=hW.trans (hb.mono hW.size);obtain⟨s0,s1,s2,s3,s4,s5,s6,s7⟩:=SA.out w' hb2;exact⟨he,s0,s1,s2,s3,s4,s5,s6,s7,hb2⟩
   have BW:=hid hB0;have BR:Hid (Below wr.heap.size wr wr.drew):=S.below_drewN bRf 1;have SR:Hid (wr.drew.cell? ⟨ga,j * 4,none⟩=some (.string y.h.lab)∧wr.drew.cell? ⟨ga,j * 4 + 1,none⟩=some (.bool y.h.fl)∧wr.drew.cell? ⟨ga,j * 4 + 2,none⟩=some (.int .i64 y.h.var)∧wr.drew.cell? ⟨ga,j * 4 + 3,none⟩=some (.slice a1 y.h.ex.length c1)∧wr.drew.cell? ⟨gb,j * 4,none⟩=some (.string y.h.lab)∧wr.drew.cell? ⟨gb,j * 4 + 1,none⟩=some (.bool y.h.fl)∧wr.drew.cell? ⟨gb,j * 4 + 2,none⟩=some (.int .i64 y.h.var)∧wr.drew.cell? ⟨gb,j * 4 + 3,none⟩=some (.slice a2 y.h.ex.length c2)):=SA.out _ BR.out;clear p0 p1 p2 p3 p4 q0 q1 q2 q3 q4 hy hz ez hex hB0;go_upto_region 6 with fail;refine wp_region_held_drew (S:=fun w'=>w'.cell? ⟨ga,j * 4,none⟩=some (.string y.h.lab)∧w'.cell? ⟨ga,j * 4 + 1,none⟩=some (.bool y.h.fl)∧w'.cell? ⟨ga,j * 4 + 2,none⟩=some (.int .i64 y.h.var)∧w'.cell? ⟨ga,j * 4 + 3,none⟩=some (.slice a1 y.h.ex.length c1)∧w'.cell? ⟨gb,j * 4,none⟩=some (.string y.h.lab)∧w'.cell? ⟨gb,j * 4 + 1,none⟩=some (.bool y.h.fl)∧w'.cell? ⟨gb,j * 4 + 2,none⟩=some (.int .i64 y.h.var)∧w'.cell? ⟨gb,j * 4 + 3,none⟩=some (.slice a2 y.h.ex.length c2)) (by kernel_rfl) ?_ (fun hZ=>?_)
   ·exact SR.out
   refine tkq 0 hZ ?_;refine tkq 1 hZ ?_;refine tkq 2 hZ ?_;refine tkq 3 hZ ?_;refine tkq 4 hZ ?_;refine tkq 5 hZ ?_;refine tkq 6 hZ ?_;refine tkq 7 hZ ?_;refine rkq 8 fun K hK=>?_
   go_simp;go_at_call 22;refine cMo (C.out _ BR.out) ?_;rintro e w1 ⟨rfl,d0,d1,d2,d3,d4,d5,d6,d7,d8⟩
   try go_wp2_with fail
   refine aQq hK ?_ fun hZ_8=>?_
   ·exact⟨d0,d1,d2,d3,d4,d5,d6,d7⟩
   clear hK K;refine tkq 9 hZ_8 ?_;refine wpAnyH_done (by kernel_rfl) ?_ _;clear SA SR BR;have BE:Hid (Below w.heap.size w w1):=BW.out.trans (d8.out.mono BW.out.size)
   go_wp2
   exact⟨⟨j + 1,by omega,by go_num,BE.out⟩,by simp[intOf];omega⟩
  ·have n1:¬(j:Int) < (n:Int):=by omega
   go_wp2
   go_ret
   exact⟨rfl,hB0.out⟩
end B
end Go.Proofs.YtbancemhfjjmlaaGreatDoor
