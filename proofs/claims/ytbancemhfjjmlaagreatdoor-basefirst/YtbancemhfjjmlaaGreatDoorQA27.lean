/- Laid together: BAlive, BFirstW, BFirstC, BFirstX, BFirstY, BFirst, BLaid. -/
import Derived.Test.YtbancemhfjjmlaaGreatDoorQA24
import Derived.Test.YtbancemhfjjmlaaGreatDoorQA26
import Derived.BigQuiet
import Derived.Test.YtbancemhfjjmlaaGreatDoorQA25
import Derived.Laws.StructEq
import Derived.Test.YtbancemhfjjmlaaGreatDoorRows
import Derived.Test.YtbancemhfjjmlaaGreatDoorQA00
import Derived.Lib.LaidU8
import Derived.ChangeSame
import Derived.Deep.Slices
import Derived.OpenShut
import Derived.Deep.DeepHandedRow
import Derived.ChangeArms
import Derived.ChangeSlices
import Derived.Carry
import Derived.Test.YtbancemhfjjmlaaGreatDoorQA06
import Derived.ProofKit
import Derived.LaidMore
import Derived.ShutString
import Derived.Stop.Joined
import Derived.Lib.LaidTab
import Derived.MakeChecks
import Derived.Lay
set_option maxRecDepth 100000
set_option maxHeartbeats 32000000
namespace Go.Proofs.YtbancemhfjjmlaaGreatDoor
namespace B
open Go.RowKit Go.Maps Go.WideMaps
open S (Tok Stm)
theorem qls (w:World):Calls Tryz.prog 59 #[] w fun e w'=>e=.returned (.string q6t)∧w'=w:=by
 go_enter Tryz.func59,Tryz.ntmps59
 go_wp2
 go_ret
 exact⟨by kernel_rfl,rfl⟩
theorem alive_any (w:World)(hR:S.RdW w):Calls Tryz.prog 10 #[] w fun e w'=>e=.returned (.bool true)∧Below w.heap.size w w':=by
 have SM:Hid _:=qls w
 have LD:Hid (∀wx,Below w.heap.size w wx→∀t:ByteArray,t.size≤281474976710656→Calls Tryz.prog 9 #[.string t] wx (Loaded wx t)):=fun wx hb t ht=>q63 wx t ht (hR.under hb) (q7i t)
 go_enter Tryz.func10,Tryz.ntmps10
 go_wp2_with fail
 refine Calls.mono SM.out ?_
 rintro e wz ⟨rfl,hwz⟩
 subst wz
 clear SM
 have L1:Hid _:=LD.out w (Below.refl _ _) q6t (by decide)
 go_wp2_with fail
 refine Calls.mono L1.out ?_
 rintro e w1 ⟨hb1,hm⟩
 rw[qo8] at hm
 obtain⟨lb,m,rfl,hI⟩:=hm
 have I1:Hid (zq w.heap.size w1 lb q6t 1000000000 LS (Y.numOf LS.T.syms) m):=hI
 have B1:Hid (Below w.heap.size w w1):=hb1
 have CT:Hid (Calls Tryz.prog 15 #[.pointer (some ⟨m.Bb,0,none⟩)] w1 fun e w'=>e=.returned (.int .i64 3)∧w'=w1):=by
  have h:=count_any hI
  rw[qfs] at h
  exact h
 have SY:Hid (Calls Tryz.prog 30 #[.pointer (some ⟨m.Bb,0,none⟩)] w1 fun e w'=>e=.returned (.int .i64 6)∧w'=w1):=by
  have h:=qfg hI
  rw[qcg] at h
  exact h
 obtain⟨x,hx,hxa⟩:∃x,m.ax[1]?=some x∧x.a=aS:=by
  have h:=qoa
  rw[←hI.asa,List.getElem?_map] at h
  cases hx:m.ax[1]? with
  | none=>rw[hx] at h;cases h
  | some x=>rw[hx] at h;exact⟨x,rfl,by simpa using h⟩
 have AT:Hid (Calls Tryz.prog 16 #[.pointer (some ⟨m.Bb,0,none⟩),.int .i64 1] w1 fun e w'=>Below w1.heap.size w1 w'∧∃v1 v2 v3 v4 v5 v6 ts us,e=.returned (.tuple #[.agg (atV 1 aS v1 v2 v3 v4 v5 v6),.int .i64 0])∧AtT w1.heap.size w' LS.hy aS v1 v2 v3 v4 v5 v6 ts us):=by
  have h:=at_in hI 1 x hx (by rw[hxa];exact qob)
  rw[hxa] at h
  exact h
 have PR:Hid (∀wx,Below w1.heap.size w1 wx→∀(a:Option Addr) (c:Nat),F.q1a wx a aS.goal→Calls Tryz.prog 48 #[.pointer (some ⟨m.Bb,0,none⟩),.slice a 5 c] wx fun e w'=>e=.returned (.string ⟨#[124,45,32,40,32,112,32,45,62,32,113]⟩)∧Below wx.heap.size wx w'):=fun wx hb a c ha=>by
  have h:=print_any (hI.below hb) (by rw[qcg];omega) qfu a 5 c aS.goal q8g (by omega) ha
  rw[qi2] at h
  exact h
 generalize m.Bb=Bb at *
 clear hI hb1 hx hxa L1 I1
 go_wp2_with fail
 refine Calls.mono CT.out ?_
 rintro e wz ⟨rfl,hwz⟩
 subst wz
 clear CT
 go_wp2_with fail
 refine Calls.mono SY.out ?_
 rintro e wz ⟨rfl,hwz⟩
 subst wz
 clear SY
 go_upto_region 4 with fail
 go_wp2_with fail
 refine Calls.mono AT.out ?_
 rintro e w2 ⟨hb2,v1,v2,v3,v4,v5,v6,ts,us,rfl,ht⟩
 rename_i K0 k0 K1 k1
 have hts:ts.length=3:=by
  have h:=congrArg List.length ht.fr.h
  rw[List.length_map,List.length_map,q7j] at h
  exact h
 obtain⟨a1,c1,e1,_⟩:=S.qm ht.fr.t.own
 obtain⟨a2,c2,e2,_⟩:=S.qm ht.fr.p
 obtain⟨a3,c3,e3,_,hn3⟩:=F.q3o ht.fr.g
 obtain⟨a4,c4,e4,_⟩:=S.qm ht.sc.t.own
 obtain⟨a5,c5,e5,_⟩:=S.qm ht.sc.p
 obtain⟨a6,c6,e6,_⟩:=S.qm ht.f
 rw[hts] at e1
 rw[q8v] at e2
 rw[q8g] at e3
 subst e1 e2 e3 e4 e5 e6
 have N3:Hid (F.q1a w2 a3 aS.goal):=hn3
 have B2:Hid (Below w1.heap.size w1 w2):=hb2
 have L17:Hid (atV 1 aS (.slice a1 3 c1) (.slice a2 1 c2) (.slice a3 5 c3) (.slice a4 us.length c4) (.slice a5 aS.pairs.length c5) (.slice a6 aS.proof.length c6)=#[.int .i64 ((1:Nat):Int),.string ⟨#[109,112]⟩,.bool false,.slice a1 3 c1,.slice a2 1 c2,.slice a3 5 c3,.slice a4 us.length c4,.slice a5 aS.pairs.length c5,.slice a6 aS.proof.length c6,.string aS.label.text,.int .i64 aS.label.off,.int .i64 aS.label.line,.int .i64 aS.label.col,.string aS.fin.text,.int .i64 aS.fin.off,.int .i64 aS.fin.line,.int .i64 aS.fin.col]):=by
  show _=_
  unfold atV
  rw[qft,qlr]
 rw[L17.out]
 obtain⟨n4,hn4⟩:∃n4,us.length=n4:=⟨_,rfl⟩
 obtain⟨n5,hn5⟩:∃n5,aS.pairs.length=n5:=⟨_,rfl⟩
 obtain⟨n6,hn6⟩:∃n6,aS.proof.length=n6:=⟨_,rfl⟩
 rw[hn4,hn5,hn6]
 clear hts ht hn3 hb2 L17 hn4 hn5 hn6 AT
 dsimp only
 refine k1 _ _ ?_
 clear k1 K1
 obtain⟨R,hRR⟩:∃R,w2.heap.size=R:=⟨_,rfl⟩
 have KR:Hid ((w2.alloc (.cells #[.int .i64 0,.string ⟨#[]⟩,.bool false,.slice none 0 0,.slice none 0 0,.slice none 0 0,.slice none 0 0,.slice none 0 0,.slice none 0 0,.string ⟨#[]⟩,.int .i64 0,.int .i64 0,.int .i64 0,.string ⟨#[]⟩,.int .i64 0,.int .i64 0,.int .i64 0] 51)).heap[R]?=some (.cells #[.int .i64 0,.string ⟨#[]⟩,.bool false,.slice none 0 0,.slice none 0 0,.slice none 0 0,.slice none 0 0,.slice none 0 0,.slice none 0 0,.string ⟨#[]⟩,.int .i64 0,.int .i64 0,.int .i64 0,.string ⟨#[]⟩,.int .i64 0,.int .i64 0,.int .i64 0] 51 (0,0))):=by show _=_;rw[←hRR];exact World.alloc_heap_new w2 _
 refine wpList_plain rfl fun K hK=>?_
 go_simp
 refine hK _ _ ?_
 clear hK K
 refine wpList_plain rfl fun K hK=>?_
 go_simp
 refine hK _ _ ?_
 clear hK K
 refine wpList_plain rfl fun K hK=>?_
 go_simp
 refine hK _ _ ?_
 clear hK K
 refine wpList_plain rfl fun K hK=>?_
 go_simp
 refine hK _ _ ?_
 clear hK K
 try rw[hRR]
 refine wpList_store_mid rfl 51 _ _ rfl R 0 #[.int .i64 ((1:Nat):Int),.string ⟨#[109,112]⟩,.bool false,.slice a1 3 c1,.slice a2 1 c2,.slice a3 5 c3,.slice a4 n4 c4,.slice a5 n5 c5,.slice a6 n6 c6,.string aS.label.text,.int .i64 aS.label.off,.int .i64 aS.label.line,.int .i64 aS.label.col,.string aS.fin.text,.int .i64 aS.fin.off,.int .i64 aS.fin.line,.int .i64 aS.fin.col] rfl rfl (show (w2.alloc (.cells #[.int .i64 0,.string ⟨#[]⟩,.bool false,.slice none 0 0,.slice none 0 0,.slice none 0 0,.slice none 0 0,.slice none 0 0,.slice none 0 0,.string ⟨#[]⟩,.int .i64 0,.int .i64 0,.int .i64 0,.string ⟨#[]⟩,.int .i64 0,.int .i64 0,.int .i64 0] 51)).there R 0 17 from S.q2o (cs:=#[.int .i64 0,.string ⟨#[]⟩,.bool false,.slice none 0 0,.slice none 0 0,.slice none 0 0,.slice none 0 0,.slice none 0 0,.slice none 0 0,.string ⟨#[]⟩,.int .i64 0,.int .i64 0,.int .i64 0,.string ⟨#[]⟩,.int .i64 0,.int .i64 0,.int .i64 0]) (t:=51) KR.out) (by kernel_rfl) (by simp[Value.oneCell']) ?_
 obtain⟨w3,hw3⟩:∃w3,w3=(w2.alloc (.cells #[.int .i64 0,.string ⟨#[]⟩,.bool false,.slice none 0 0,.slice none 0 0,.slice none 0 0,.slice none 0 0,.slice none 0 0,.slice none 0 0,.string ⟨#[]⟩,.int .i64 0,.int .i64 0,.int .i64 0,.string ⟨#[]⟩,.int .i64 0,.int .i64 0,.int .i64 0] 51)).setCells R 0 (#[.int .i64 ((1:Nat):Int),.string ⟨#[109,112]⟩,.bool false,.slice a1 3 c1,.slice a2 1 c2,.slice a3 5 c3,.slice a4 n4 c4,.slice a5 n5 c5,.slice a6 n6 c6,.string aS.label.text,.int .i64 aS.label.off,.int .i64 aS.label.line,.int .i64 aS.label.col,.string aS.fin.text,.int .i64 aS.fin.off,.int .i64 aS.fin.line,.int .i64 aS.fin.col]:Array Value).toList:=⟨_,rfl⟩
 have K3:w3.heap[R]?=some (.cells #[.int .i64 ((1:Nat):Int),.string ⟨#[109,112]⟩,.bool false,.slice a1 3 c1,.slice a2 1 c2,.slice a3 5 c3,.slice a4 n4 c4,.slice a5 n5 c5,.slice a6 n6 c6,.string aS.label.text,.int .i64 aS.label.off,.int .i64 aS.label.line,.int .i64 aS.label.col,.string aS.fin.text,.int .i64 aS.fin.off,.int .i64 aS.fin.line,.int .i64 aS.fin.col] 51 (0,0)):=by rw[hw3];exact S.q14 R 51 [.int .i64 ((1:Nat):Int),.string ⟨#[109,112]⟩,.bool false,.slice a1 3 c1,.slice a2 1 c2,.slice a3 5 c3,.slice a4 n4 c4,.slice a5 n5 c5,.slice a6 n6 c6,.string aS.label.text,.int .i64 aS.label.off,.int .i64 aS.label.line,.int .i64 aS.label.col,.string aS.fin.text,.int .i64 aS.fin.off,.int .i64 aS.fin.line,.int .i64 aS.fin.col] [] [.int .i64 0,.string ⟨#[]⟩,.bool false,.slice none 0 0,.slice none 0 0,.slice none 0 0,.slice none 0 0,.slice none 0 0,.slice none 0 0,.string ⟨#[]⟩,.int .i64 0,.int .i64 0,.int .i64 0,.string ⟨#[]⟩,.int .i64 0,.int .i64 0,.int .i64 0] _ KR.out rfl
 have ch3:S.M.Ch (fun b=>b=R) (w2.alloc (.cells #[.int .i64 0,.string ⟨#[]⟩,.bool false,.slice none 0 0,.slice none 0 0,.slice none 0 0,.slice none 0 0,.slice none 0 0,.slice none 0 0,.string ⟨#[]⟩,.int .i64 0,.int .i64 0,.int .i64 0,.string ⟨#[]⟩,.int .i64 0,.int .i64 0,.int .i64 0] 51)) w3:=by rw[hw3];exact F.q69 R _ 0 _
 have b23:Below w2.heap.size w2 w3:=(S.qg w2 _).trans (ch3.below (by simp) fun b e=>by omega)
 have B3:Hid (Below w1.heap.size w1 w3):=B2.out.trans (b23.mono B2.out.size)
 have P3:Hid _:=PR.out w3 B3.out a3 c3 (N3.out.under b23)
 rw[←hw3]
 have z1:w3.cell? ⟨R,1,none⟩=some (.string ⟨#[109,112]⟩):=S.M.qc K3 1
 have z2:w3.cell? ⟨R,2,none⟩=some (.bool false):=S.M.qc K3 2
 have z3:w3.cell? ⟨R,3,none⟩=some (.slice a1 3 c1):=S.M.qc K3 3
 have z4:w3.cell? ⟨R,4,none⟩=some (.slice a2 1 c2):=S.M.qc K3 4
 have z5:w3.cell? ⟨R,5,none⟩=some (.slice a3 5 c3):=S.M.qc K3 5
 clear hw3 K3 ch3 b23 KR N3 B2 PR hRR
 go_wp2_with fail
 refine Calls.mono P3.out ?_
 rintro e w4 ⟨rfl,hb4⟩
 have B4:Hid (Below w1.heap.size w1 w4):=B3.out.trans (hb4.mono B3.out.size)
 clear hb4 P3 B3 z1 z2 z3 z4 z5
 have BW:Hid (Below w.heap.size w w4):=B1.out.trans (B4.out.mono B1.out.size)
 have L2:Hid (Calls Tryz.prog 9 #[.string ⟨#[36,99,32,97,32,97,32,36,46]⟩] w4 (Loaded w4 qhw)):=LD.out w4 BW.out qhw (by decide)
 clear LD B4 B1
 go_wp2_with fail
 refine Calls.mono L2.out ?_
 rintro e w5 ⟨hb5,hm⟩
 rw[qo9] at hm
 obtain⟨b,rfl,hge,hf⟩:=hm
 have B5:Hid (Below w.heap.size w w5):=BW.out.trans (hb5.mono BW.out.size)
 have f0:w5.cell? ⟨b,0,none⟩=some (.int .i64 5):=S.M.qc hf 0
 have f4:w5.cell? ⟨b,4,none⟩=some (.int .i64 20):=S.M.qc hf 4
 clear hb5 hge hf L2 BW
 go_wp2
 go_ret
 exact⟨rfl,B5.out⟩
end B
namespace B
open Go.RowKit Go.Maps Go.WideMaps
open S (Tok Stm)
theorem qoc (w:World)(s u:ByteArray)(hs:s.size≤140737488355328)(hu:u.size≤140737488355328)(hR:S.RdW w)(L:Ld)(hF:q19 s=.ok L):Calls Tryz.prog 3 #[.string s,.string u] w fun e w'=>e=.returned (.bool true)∧Below w.heap.size w w':=by
 have LD:Hid (∀wx,Below w.heap.size w wx→∀t:ByteArray,t.size≤281474976710656→Calls Tryz.prog 9 #[.string t] wx (Loaded wx t)):=fun wx hb t ht=>q63 wx t ht (hR.under hb) (q7i t)
 have AL:Hid (∀wx,Below w.heap.size w wx→Calls Tryz.prog 10 #[] wx fun e w'=>e=.returned (.bool true)∧Below wx.heap.size wx w'):=fun wx hb=>alive_any wx (hR.under hb)
 have SC:Hid (∀wx,Below w.heap.size w wx→Calls Tryz.prog 11 #[.string s] wx (S.K.q2i s wx)):=fun wx hb=>by
  obtain⟨mx,hmx⟩:=(hR.under hb).mx
  exact callsIn_wide.1 (S.K.scan_in s wx mx (by omega) (hR.under hb).kb hmx)
 have L1:Hid _:=LD.out w (Below.refl _ _) s (by omega)
 have HS:Hid (s.size≤140737488355328∧u.size≤140737488355328):=⟨hs,hu⟩
 clear hR
 go_enter Tryz.func3,Tryz.ntmps3
 go_wp2_with fail
 refine Calls.mono L1.out ?_
 rintro e w1 ⟨hb1,hm⟩
 rw[hF] at hm
 obtain⟨lb,m,rfl,_⟩:=hm
 have B1:Hid (Below w.heap.size w w1):=hb1
 have A1:Hid _:=AL.out w1 hb1
 generalize m.Bb=Bb at *
 clear hb1 L1 hF
 go_wp2_with fail
 refine Calls.mono A1.out ?_
 rintro e w2 ⟨rfl,hb2⟩
 have B2:Hid (Below w.heap.size w w2):=B1.out.trans (hb2.mono B1.out.size)
 clear hb2 A1 B1
 go_wp2_with fail
 go_quiet (fail)
 go_wp2
 go_ret
 exact⟨rfl,S.below_drewN B2.out _⟩
theorem qci (w:World)(s u:ByteArray)(hs:s.size≤140737488355328)(hu:u.size≤140737488355328)(hR:S.RdW w)(tx:ByteArray)(off ln cl c:Int)(hF:q19 s=.error (⟨tx,off,ln,cl⟩,c))(hlow:tx.toList.isEmpty=true∨c < 20):Calls Tryz.prog 3 #[.string s,.string u] w fun e w'=>e=.returned (.bool true)∧Below w.heap.size w w':=by
 have LD:Hid (∀wx,Below w.heap.size w wx→∀t:ByteArray,t.size≤281474976710656→Calls Tryz.prog 9 #[.string t] wx (Loaded wx t)):=fun wx hb t ht=>q63 wx t ht (hR.under hb) (q7i t)
 have AL:Hid (∀wx,Below w.heap.size w wx→Calls Tryz.prog 10 #[] wx fun e w'=>e=.returned (.bool true)∧Below wx.heap.size wx w'):=fun wx hb=>alive_any wx (hR.under hb)
 have SC:Hid (∀wx,Below w.heap.size w wx→Calls Tryz.prog 11 #[.string s] wx (S.K.q2i s wx)):=fun wx hb=>by
  obtain⟨mx,hmx⟩:=(hR.under hb).mx
  exact callsIn_wide.1 (S.K.scan_in s wx mx (by omega) (hR.under hb).kb hmx)
 have L1:Hid _:=LD.out w (Below.refl _ _) s (by omega)
 have HS:Hid (s.size≤140737488355328∧u.size≤140737488355328):=⟨hs,hu⟩
 clear hR
 go_enter Tryz.func3,Tryz.ntmps3
 go_wp2_with fail
 refine Calls.mono L1.out ?_
 rintro e w1 ⟨hb1,hm⟩
 rw[hF] at hm
 obtain⟨Bf,rfl,hge,hf⟩:=hm
 have B1:Hid (Below w.heap.size w w1):=hb1
 have A1:Hid _:=AL.out w1 hb1
 have F1:Hid (w1.heap[Bf]?=some (.cells #[.int .i64 off,.int .i64 ln,.int .i64 cl,.string tx,.int .i64 c] 31 (0,0))):=hf
 clear hb1 hge hf L1
 go_wp2_with fail
 refine Calls.mono A1.out ?_
 rintro e w2 ⟨rfl,hb2⟩
 have B2:Hid (Below w.heap.size w w2):=B1.out.trans (hb2.mono B1.out.size)
 have F2:Hid (w2.heap[Bf]?=some (.cells #[.int .i64 off,.int .i64 ln,.int .i64 cl,.string tx,.int .i64 c] 31 (0,0))):=(hb2.block Bf (Array.getElem?_eq_some_iff.1 F1.out).1).trans F1.out
 have y0:w2.cell? ⟨Bf,0,none⟩=some (.int .i64 off):=S.M.qc F2.out 0
 have y3:w2.cell? ⟨Bf,3,none⟩=some (.string tx):=S.M.qc F2.out 3
 have y4:w2.cell? ⟨Bf,4,none⟩=some (.int .i64 c):=S.M.qc F2.out 4
 clear hb2 A1 B1 F1
 have CX:(tx.toList.isEmpty=true∧decide (c < 20)=true)∨(tx.toList.isEmpty=true∧decide (c < 20)=false)∨(tx.toList.isEmpty=false∧decide (c < 20)=true):=by
  cases h:tx.toList.isEmpty with
  | true=>by_cases hc:c < 20 <;> simp[hc]
  | false=>exact .inr (.inr ⟨rfl,decide_eq_true (hlow.resolve_left (by simp[h]))⟩)
 clear hlow
 rcases CX with ⟨he,hc⟩ | ⟨he,hc⟩ | ⟨he,hc⟩
 all_goals
  go_wp2_with fail
  go_quiet (fail)
  have z0:(w2.drewN nq).cell? ⟨Bf,0,none⟩=some (.int .i64 off):=y0
  have z3:(w2.drewN nq).cell? ⟨Bf,3,none⟩=some (.string tx):=y3
  have z4:(w2.drewN nq).cell? ⟨Bf,4,none⟩=some (.int .i64 c):=y4
  go_wp2
  go_ret
  exact⟨rfl,S.below_drewN B2.out _⟩
end B
namespace B
open Go.RowKit
open S (Tok Stm)
theorem qod {s:ByteArray}{q:Nat}{l:List S.K.Tok}(h:S.K.ToldTo s q l):∀(i:Nat) (t:S.K.Tok),l[i]?=some t→∃n m:Nat,t.off=n∧n < m∧m < q:=by
 induction h with
 | nil=>intro i t h;simp at h
 | @snoc p q n m l x a b c d e f ih =>
  intro i t ht
  by_cases hi:i < l.length
  ·rw[List.getElem?_append_left hi] at ht
   obtain⟨n',m',h1,h2,h3⟩:=ih i t ht
   exact⟨n',m',h1,h2,by have:=c.lt;omega⟩
  ·have hi':i=l.length:=by
    have:=(List.getElem?_eq_some_iff.1 ht).1
    simp only[List.length_append,List.length_singleton] at this
    omega
   subst hi'
   simp only[List.getElem?_concat_length,Option.some.injEq] at ht
   subst ht
   exact⟨n,m,c.off,c.lt,f⟩
theorem qj2 {s:ByteArray}{q:Nat}{l:List S.K.Tok}(h:S.K.ToldTo s q l):∀(i j:Nat) (t u:S.K.Tok),i < j→l[i]?=some t→l[j]?=some u→t.off < u.off:=by
 induction h with
 | nil=>intro i j t u _ h;simp at h
 | @snoc p q n m l x a b c d e f ih =>
  intro i j t u hij ht hu
  have hj:j < l.length + 1:=by
   have:=(List.getElem?_eq_some_iff.1 hu).1
   simpa only[List.length_append,List.length_singleton] using this
  rw[List.getElem?_append_left (by omega)] at ht
  by_cases hj2:j < l.length
  ·rw[List.getElem?_append_left hj2] at hu
   exact ih i j t u hij ht hu
  ·obtain rfl:j=l.length:=by omega
   simp only[List.getElem?_concat_length,Option.some.injEq] at hu
   subst hu
   obtain⟨n',m',h1,h2,h3⟩:=qod a i t ht
   rw[h1,c.off]
   omega
theorem qlt {s:ByteArray}{i j:Nat}{t u:Tok}(ht:(S.vk s)[i]?=some t)(hu:(S.vk s)[j]?=some u)(he:t.off=u.off):i=j:=by
 obtain⟨q,hq⟩:=(S.K.q5o s).1
 unfold S.vk at ht hu
 rw[List.getElem?_map] at ht hu
 cases ha:(S.K.q0t s).1[i]? with
 | none=>rw[ha] at ht;cases ht
 | some a =>
  cases hb:(S.K.q0t s).1[j]? with
  | none=>rw[hb] at hu;cases hu
  | some b =>
   rw[ha] at ht
   rw[hb] at hu
   have e1:a.off=t.off:=by cases ht;rfl
   have e2:b.off=u.off:=by cases hu;rfl
   rcases Nat.lt_trichotomy i j with h | h | h
   ·have:=qj2 hq i j a b h ha hb
    omega
   ·exact h
   ·have:=qj2 hq j i b a h hb ha
    omega
structure Good (s u:ByteArray)(f:Tok × Int)(j:Nat):Prop where
 le:j≤s.size
 cut:j < 65536→q19 ((s.extract 0 j++⟨#[32]⟩)++u)=.error f
theorem qj3 {s:ByteArray}(u:ByteArray){i:Nat}{t:Tok}{f:Tok × Int}(ht:(S.vk s)[i]?=some t) :
  ∃n kk:Nat,t.off=n∧n < kk∧kk≤s.size∧t.text=s.extract n kk∧(q8u s i f→Good s u f kk):=by
 have ht':=ht
 unfold S.vk at ht'
 rw[List.getElem?_map] at ht'
 cases ha:(S.K.q0t s).1[i]? with
 | none=>rw[ha] at ht';cases ht'
 | some a =>
  rw[ha] at ht'
  obtain⟨n,kk,h1,h2,h3,h4,h5⟩:=S.K.qln s u i a ha
  refine⟨n,kk,by cases ht';exact h1,h2,h3,by cases ht';exact h4,fun hS=>⟨h3,fun hk=>?_⟩⟩
  obtain⟨rest,hr⟩:=h5 hk
  refine hS _ (rest.map S.toT) ?_
  unfold S.vk
  rw[hr,List.map_append,List.map_take]
theorem qav (s:ByteArray)(f:Tok × Int)(h:q19 s=.error f)(ht:f.1.text.size≠0)(hc:20≤f.2) :
  ∃i,(S.vk s)[i]?=some f.1∧q8u s (i + 1) f∧(q8u s i f∨(q5f f.2∧i + 1 < (S.vk s).length)):=by
 obtain⟨i,t,h1,h2,h3⟩:=qhv s f h ht hc
 rcases h3 with rfl | ⟨h3,h4,h5⟩
 ·exact⟨i,h1,h2.up (by omega),.inl h2⟩
 ·have hl:=(List.getElem?_eq_some_iff.1 h1).1
  exact⟨i - 1,h5,by rw[show i - 1 + 1=i by omega];exact h2,.inr ⟨h3,by omega⟩⟩
def qbc (s u:ByteArray)(f:Tok × Int)(k j:Nat):Prop:=j≤s.size∧(Good s u f j∨∃i,k≤i∧i + 1 < (S.vk s).length∧(S.vk s)[i]?=some f.1)
theorem qoe {s u:ByteArray}{f:Tok × Int}{k j:Nat}{t:Tok}(h:qbc s u f k j)(ht:(S.vk s)[k]?=some t)(hne:t.off≠f.1.off):qbc s u f (k + 1) j:=by
 refine⟨h.1,h.2.imp id ?_⟩
 rintro⟨i,h1,h2,h3⟩
 refine⟨i,?_,h2,h3⟩
 by_cases e:k=i
 ·subst e
  rw[h3] at ht
  cases ht
  exact absurd rfl hne
 ·omega
theorem qof {s u:ByteArray}{f:Tok × Int}{k:Nat}{t x:Tok}(h:q19 s=.error f)(hz:f.1.text.size≠0)(hc:20≤f.2)(ht:(S.vk s)[k]?=some t)(hx:(S.vk s)[k + 1]?=some x)(he:t.off=f.1.off) :
  ∃n kk:Nat,x.off=n∧n < kk∧kk≤s.size∧x.text=s.extract n kk∧qbc s u f (k + 1) kk:=by
 obtain⟨i,h1,h2,_⟩:=qav s f h hz hc
 obtain rfl:=qlt ht h1 he
 obtain⟨n,kk,g1,g2,g3,g4,g5⟩:=qj3 u (f:=f) hx
 exact⟨n,kk,g1,g2,g3,g4,g3,.inl (g5 h2)⟩
theorem cut_end {s u:ByteArray}{f:Tok × Int}{k j:Nat}(h:qbc s u f k j)(hk:(S.vk s).length≤k + 1):Good s u f j:=by
 rcases h.2 with g | ⟨i,h1,h2,_⟩
 ·exact g
 ·omega
theorem qcj {s:ByteArray}(u:ByteArray){f:Tok × Int}(h:q19 s=.error f)(hz:f.1.text.size≠0)(hc:20≤f.2) :
  ∃n kk:Nat,f.1.off=n∧n < kk∧kk≤s.size∧f.1.text=s.extract n kk∧qbc s u f 0 kk∧(¬q5f f.2→Good s u f kk):=by
 obtain⟨i,h1,_,h3⟩:=qav s f h hz hc
 obtain⟨n,kk,g1,g2,g3,g4,g5⟩:=qj3 u (f:=f) h1
 refine⟨n,kk,g1,g2,g3,g4,⟨g3,?_⟩,fun hn=>?_⟩
 ·rcases h3 with h3 | ⟨_,h3⟩
  ·exact .inl (g5 h3)
  ·exact .inr ⟨i,Nat.zero_le _,h3,h1⟩
 ·rcases h3 with h3 | ⟨h3,_⟩
  ·exact g5 h3
  ·exact absurd h3 hn
theorem qaw {s:ByteArray}{n kk:Nat}(h1:n < kk)(h2:kk≤s.size):(s.extract n kk).size=kk - n:=by
 simp[ByteArray.size_extract];omega
end B
namespace B
open Go.RowKit Go.Maps Go.WideMaps
open S (Tok Stm)
set_option pp.deepTerms true in
set_option pp.maxSteps 400000 in
theorem qog (w:World)(s u:ByteArray)(hs:s.size≤140737488355328)(hu:u.size≤140737488355328)(hR:S.RdW w)(tx:ByteArray)(off ln cl c:Int)(hF:q19 s=.error (⟨tx,off,ln,cl⟩,c))(he:tx.toList.isEmpty=false)(hc:¬c < 20)(hL:¬q5f c):Calls Tryz.prog 3 #[.string s,.string u] w fun e w'=>e=.returned (.bool true)∧Below w.heap.size w w':=by
 have LD:Hid (∀wx,Below w.heap.size w wx→∀t:ByteArray,t.size≤281474976710656→Calls Tryz.prog 9 #[.string t] wx (Loaded wx t)):=fun wx hb t ht=>q63 wx t ht (hR.under hb) (q7i t)
 have AL:Hid (∀wx,Below w.heap.size w wx→Calls Tryz.prog 10 #[] wx fun e w'=>e=.returned (.bool true)∧Below wx.heap.size wx w'):=fun wx hb=>alive_any wx (hR.under hb)
 have SC:Hid (∀wx,Below w.heap.size w wx→Calls Tryz.prog 11 #[.string s] wx (S.K.q2i s wx)):=fun wx hb=>by
  obtain⟨mx,hmx⟩:=(hR.under hb).mx
  exact callsIn_wide.1 (S.K.scan_in s wx mx (by omega) (hR.under hb).kb hmx)
 have L1:Hid _:=LD.out w (Below.refl _ _) s (by omega)
 have hz:tx.size≠0:=fun e=>by
  have h0:tx.toList=[]:=by rw[ByteArray.toList_eq];exact Array.toList_eq_nil_iff.2 (Array.eq_empty_of_size_eq_zero e)
  rw[h0] at he
  cases he
 obtain⟨n,kk,g1,g2,g3,g4,g5,g6⟩:=qcj u hF hz (by show 20≤c;omega)
 replace g1:off=n:=g1
 replace g4:tx=s.extract n kk:=g4
 subst g1
 obtain⟨t,rfl⟩:∃t,kk=n + t:=⟨kk - n,by omega⟩
 have tsz:tx.size=t:=by have h:=congrArg ByteArray.size g4;rw[qaw g2 g3] at h;omega
 have HF:Hid (q19 s=.error (⟨tx,(n:Int),ln,cl⟩,c)):=hF
 have HZ:Hid (tx.size≠0∧20≤c):=⟨hz,by omega⟩
 have HS:Hid (s.size≤140737488355328∧u.size≤140737488355328∧n + t≤s.size):=⟨hs,hu,g3⟩
 have HT:Hid (tx=s.extract n (n + t)):=g4
 have HI:Hid (qbc s u (⟨tx,(n:Int),ln,cl⟩,c) 0 (n + t)):=g5
 have HG:Hid (¬q5f c→Good s u (⟨tx,(n:Int),ln,cl⟩,c) (n + t)):=g6
 obtain⟨q,hq⟩:∃q,n + t=q:=⟨_,rfl⟩
 have m1:¬((s.size:Int) < (q:Int)):=by omega
 have m2:¬((n:Int) < 0):=by omega
 have m3:IntKind.i64.wrap ((n:Int) + (t:Int))=(q:Int):=by rw[IntKind.wrap_i64];omega
 have m4:decide (c < 20)=false:=decide_eq_false hc
 have m5:(n:Int)≤(q:Int):=by omega
 have m6:(q:Int)≤(s.size:Int):=by omega
 have m7:decide ((n:Int) < 0)=false:=decide_eq_false (by omega)
 have m11:decide ((s.size:Int) < (q:Int))=false:=decide_eq_false (by omega)
 have m8:¬s.size < q:=by omega
 have m9:n≤q:=by omega
 have m10:q≤s.size:=by omega
 rw[hq] at HS HT HI HG
 clear hc hq hR hz g2 g3 g4 g5 g6
 go_enter Tryz.func3,Tryz.ntmps3
 go_wp2_with fail
 refine Calls.mono L1.out ?_
 rintro e w1 ⟨hb1,hm⟩
 rw[HF.out] at hm
 obtain⟨Bf,rfl,hge,hf⟩:=hm
 have B1:Hid (Below w.heap.size w w1):=hb1
 have A1:Hid _:=AL.out w1 hb1
 have F1:Hid (w1.heap[Bf]?=some (.cells #[.int .i64 n,.int .i64 ln,.int .i64 cl,.string tx,.int .i64 c] 31 (0,0))):=hf
 clear hb1 hge hf L1 hF
 go_wp2_with fail
 refine Calls.mono A1.out ?_
 rintro e w2 ⟨rfl,hb2⟩
 have B2:Hid (Below w.heap.size w w2):=B1.out.trans (hb2.mono B1.out.size)
 have F2:Hid (w2.heap[Bf]?=some (.cells #[.int .i64 n,.int .i64 ln,.int .i64 cl,.string tx,.int .i64 c] 31 (0,0))):=(hb2.block Bf (Array.getElem?_eq_some_iff.1 F1.out).1).trans F1.out
 have y0:w2.cell? ⟨Bf,0,none⟩=some (.int .i64 n):=S.M.qc F2.out 0
 have y3:w2.cell? ⟨Bf,3,none⟩=some (.string tx):=S.M.qc F2.out 3
 have y4:w2.cell? ⟨Bf,4,none⟩=some (.int .i64 c):=S.M.qc F2.out 4
 clear hb2 A1 B1 F1
 go_wp2_with fail
 go_quiet (fail)
 obtain⟨w3,hw3⟩:∃wB,wB=w2.drewN nq:=⟨_,rfl⟩
 rw[←hw3]
 have F3:Hid (w3.heap[Bf]?=some (.cells #[.int .i64 n,.int .i64 ln,.int .i64 cl,.string tx,.int .i64 c] 31 (0,0))):=by show _=_;rw[hw3];exact F2.out
 have y0:w3.cell? ⟨Bf,0,none⟩=some (.int .i64 n):=S.M.qc F3.out 0
 have y3:w3.cell? ⟨Bf,3,none⟩=some (.string tx):=S.M.qc F3.out 3
 have y4:w3.cell? ⟨Bf,4,none⟩=some (.int .i64 c):=S.M.qc F3.out 4
 have B3:Hid (Below w.heap.size w w3):=by show Below _ _ _;rw[hw3];exact S.below_drewN B2.out _
 clear hw3 nq F2 B2
 go_wp2_with fail
 go_quiet (fail)
 obtain⟨w4,hw4⟩:∃wB,wB=w3.drewN nq:=⟨_,rfl⟩
 rw[←hw4]
 have F4:Hid (w4.heap[Bf]?=some (.cells #[.int .i64 n,.int .i64 ln,.int .i64 cl,.string tx,.int .i64 c] 31 (0,0))):=by show _=_;rw[hw4];exact F3.out
 have y0:w4.cell? ⟨Bf,0,none⟩=some (.int .i64 n):=S.M.qc F4.out 0
 have y3:w4.cell? ⟨Bf,3,none⟩=some (.string tx):=S.M.qc F4.out 3
 have y4:w4.cell? ⟨Bf,4,none⟩=some (.int .i64 c):=S.M.qc F4.out 4
 have B4:Hid (Below w.heap.size w w4):=by show Below _ _ _;rw[hw4];exact S.below_drewN B3.out _
 clear hw4 nq F3 B3
 go_wp2_with fail
 go_quiet (fail)
 obtain⟨w5,hw5⟩:∃wB,wB=w4.drewN nq:=⟨_,rfl⟩
 rw[←hw5]
 have F5:Hid (w5.heap[Bf]?=some (.cells #[.int .i64 n,.int .i64 ln,.int .i64 cl,.string tx,.int .i64 c] 31 (0,0))):=by show _=_;rw[hw5];exact F4.out
 have y0:w5.cell? ⟨Bf,0,none⟩=some (.int .i64 n):=S.M.qc F5.out 0
 have y3:w5.cell? ⟨Bf,3,none⟩=some (.string tx):=S.M.qc F5.out 3
 have y4:w5.cell? ⟨Bf,4,none⟩=some (.int .i64 c):=S.M.qc F5.out 4
 have B5:Hid (Below w.heap.size w w5):=by show Below _ _ _;rw[hw5];exact S.below_drewN B4.out _
 clear hw5 nq F4 B4
 rw[show (!((s.extract n q).toList == tx.toList))=false by rw[←HT.out,beq_self_eq_true];rfl]
 have HM:Hid ((n:Int)≤(q:Int)∧(q:Int)≤(s.size:Int)∧n≤q∧q≤s.size):=⟨m5,m6,m9,m10⟩
 have HL:Hid (¬q5f c):=hL
 clear m1 m2 m3 m4 m5 m6 m7 m8 m9 m10 m11 tsz hu hs he hL
 go_upto_region 9 with fail
 have c0:(c == 20)=false:=by have h:=HL.out;unfold q5f at h;simp at h;simp[h]
 have c1:(c == 21)=false:=by have h:=HL.out;unfold q5f at h;simp at h;simp[h]
 have c2:(c == 22)=false:=by have h:=HL.out;unfold q5f at h;simp at h;simp[h]
 by_cases hk:q < 65536
 ·have HK:Hid (q < 65536):=hk
  have k3:decide (65536≤(q:Int))=false:=decide_eq_false (by omega)
  clear hk
  have e1:q≤s.size:=HM.out.2.2.2
  go_wp2_with fail
  all_goals first | (exfalso;have h1:=HM.out;have h2:=HS.out;have h3:=HK.out;omega) | skip
  have G:q19 ((s.extract 0 q++⟨#[32]⟩)++u)=.error (⟨tx,(n:Int),ln,cl⟩,c):=(HG.out HL.out).cut HK.out
  have SZ:((s.extract 0 q++⟨#[32]⟩)++u).size≤281474976710656:=by have h1:=HM.out;have h2:=HS.out;have h3:=HK.out;rw[ByteArray.size_append,ByteArray.size_append,ByteArray.size_extract,show (⟨#[32]⟩:ByteArray).size=1 from rfl];omega
  generalize (s.extract 0 q++⟨#[32]⟩)++u=X at *
  have L2:Hid _:=LD.out w5 B5.out X SZ
  refine Calls.mono L2.out ?_
  rintro e w6 ⟨hb6,hm⟩
  rw[G] at hm
  obtain⟨Bg,rfl,hge,hf⟩:=hm
  have B6:Hid (Below w.heap.size w w6):=B5.out.trans (hb6.mono B5.out.size)
  have F6:Hid (w6.heap[Bf]?=some (.cells #[.int .i64 n,.int .i64 ln,.int .i64 cl,.string tx,.int .i64 c] 31 (0,0))):=(hb6.block Bf (Array.getElem?_eq_some_iff.1 F5.out).1).trans F5.out
  have y0:w6.cell? ⟨Bf,0,none⟩=some (.int .i64 n):=S.M.qc F6.out 0
  have y1:w6.cell? ⟨Bf,1,none⟩=some (.int .i64 ln):=S.M.qc F6.out 1
  have y2:w6.cell? ⟨Bf,2,none⟩=some (.int .i64 cl):=S.M.qc F6.out 2
  have y3:w6.cell? ⟨Bf,3,none⟩=some (.string tx):=S.M.qc F6.out 3
  have y4:w6.cell? ⟨Bf,4,none⟩=some (.int .i64 c):=S.M.qc F6.out 4
  have x0:w6.cell? ⟨Bg,0,none⟩=some (.int .i64 n):=S.M.qc hf 0
  have x1:w6.cell? ⟨Bg,1,none⟩=some (.int .i64 ln):=S.M.qc hf 1
  have x2:w6.cell? ⟨Bg,2,none⟩=some (.int .i64 cl):=S.M.qc hf 2
  have x3:w6.cell? ⟨Bg,3,none⟩=some (.string tx):=S.M.qc hf 3
  have x4:w6.cell? ⟨Bg,4,none⟩=some (.int .i64 c):=S.M.qc hf 4
  clear hb6 hge hf L2 G F5 B5 LD AL SC HF HS HT HI HG HM HK
  go_wp2_with fail
  go_quiet (fail)
  go_wp2
  go_ret
  exact⟨rfl,S.below_drewN B6.out _⟩
 ·have k3:decide (65536≤(q:Int))=true:=decide_eq_true (by omega)
  clear hk
  go_wp2
  go_ret
  exact⟨rfl,B5.out⟩
end B
namespace B
open Go.RowKit Go.Maps Go.WideMaps
open S (Tok Stm)
theorem qoh (w:World)(s u:ByteArray)(hs:s.size≤140737488355328)(hu:u.size≤140737488355328)(hR:S.RdW w)(tx:ByteArray)(off ln cl c:Int)(hF:q19 s=.error (⟨tx,off,ln,cl⟩,c))(he:tx.toList.isEmpty=false)(hc:¬c < 20)(hL:q5f c):Calls Tryz.prog 3 #[.string s,.string u] w fun e w'=>e=.returned (.bool true)∧Below w.heap.size w w':=by
 have LD:Hid (∀wx,Below w.heap.size w wx→∀t:ByteArray,t.size≤281474976710656→Calls Tryz.prog 9 #[.string t] wx (Loaded wx t)):=fun wx hb t ht=>q63 wx t ht (hR.under hb) (q7i t)
 have AL:Hid (∀wx,Below w.heap.size w wx→Calls Tryz.prog 10 #[] wx fun e w'=>e=.returned (.bool true)∧Below wx.heap.size wx w'):=fun wx hb=>alive_any wx (hR.under hb)
 have SC:Hid (∀wx,Below w.heap.size w wx→Calls Tryz.prog 11 #[.string s] wx (S.K.q2i s wx)):=fun wx hb=>by
  obtain⟨mx,hmx⟩:=(hR.under hb).mx
  exact callsIn_wide.1 (S.K.scan_in s wx mx (by omega) (hR.under hb).kb hmx)
 have L1:Hid _:=LD.out w (Below.refl _ _) s (by omega)
 have hz:tx.size≠0:=fun e=>by
  have h0:tx.toList=[]:=by rw[ByteArray.toList_eq];exact Array.toList_eq_nil_iff.2 (Array.eq_empty_of_size_eq_zero e)
  rw[h0] at he
  cases he
 obtain⟨n,kk,g1,g2,g3,g4,g5,g6⟩:=qcj u hF hz (by show 20≤c;omega)
 replace g1:off=n:=g1
 replace g4:tx=s.extract n kk:=g4
 subst g1
 obtain⟨t,rfl⟩:∃t,kk=n + t:=⟨kk - n,by omega⟩
 have tsz:tx.size=t:=by have h:=congrArg ByteArray.size g4;rw[qaw g2 g3] at h;omega
 have HF:Hid (q19 s=.error (⟨tx,(n:Int),ln,cl⟩,c)):=hF
 have HZ:Hid (tx.size≠0∧20≤c):=⟨hz,by omega⟩
 have HS:Hid (s.size≤140737488355328∧u.size≤140737488355328∧n + t≤s.size):=⟨hs,hu,g3⟩
 have HT:Hid (tx=s.extract n (n + t)):=g4
 have HI:Hid (qbc s u (⟨tx,(n:Int),ln,cl⟩,c) 0 (n + t)):=g5
 have HG:Hid (¬q5f c→Good s u (⟨tx,(n:Int),ln,cl⟩,c) (n + t)):=g6
 obtain⟨q,hq⟩:∃q,n + t=q:=⟨_,rfl⟩
 have m1:¬((s.size:Int) < (q:Int)):=by omega
 have m2:¬((n:Int) < 0):=by omega
 have m3:IntKind.i64.wrap ((n:Int) + (t:Int))=(q:Int):=by rw[IntKind.wrap_i64];omega
 have m4:decide (c < 20)=false:=decide_eq_false hc
 have m5:(n:Int)≤(q:Int):=by omega
 have m6:(q:Int)≤(s.size:Int):=by omega
 have m7:decide ((n:Int) < 0)=false:=decide_eq_false (by omega)
 have m11:decide ((s.size:Int) < (q:Int))=false:=decide_eq_false (by omega)
 have m8:¬s.size < q:=by omega
 have m9:n≤q:=by omega
 have m10:q≤s.size:=by omega
 rw[hq] at HS HT HI HG
 clear hc hq hR hz g2 g3 g4 g5 g6
 go_enter Tryz.func3,Tryz.ntmps3
 go_wp2_with fail
 refine Calls.mono L1.out ?_
 rintro e w1 ⟨hb1,hm⟩
 rw[HF.out] at hm
 obtain⟨Bf,rfl,hge,hf⟩:=hm
 have B1:Hid (Below w.heap.size w w1):=hb1
 have A1:Hid _:=AL.out w1 hb1
 have F1:Hid (w1.heap[Bf]?=some (.cells #[.int .i64 n,.int .i64 ln,.int .i64 cl,.string tx,.int .i64 c] 31 (0,0))):=hf
 clear hb1 hge hf L1 hF
 go_wp2_with fail
 refine Calls.mono A1.out ?_
 rintro e w2 ⟨rfl,hb2⟩
 have B2:Hid (Below w.heap.size w w2):=B1.out.trans (hb2.mono B1.out.size)
 have F2:Hid (w2.heap[Bf]?=some (.cells #[.int .i64 n,.int .i64 ln,.int .i64 cl,.string tx,.int .i64 c] 31 (0,0))):=(hb2.block Bf (Array.getElem?_eq_some_iff.1 F1.out).1).trans F1.out
 have y0:w2.cell? ⟨Bf,0,none⟩=some (.int .i64 n):=S.M.qc F2.out 0
 have y3:w2.cell? ⟨Bf,3,none⟩=some (.string tx):=S.M.qc F2.out 3
 have y4:w2.cell? ⟨Bf,4,none⟩=some (.int .i64 c):=S.M.qc F2.out 4
 clear hb2 A1 B1 F1
 go_wp2_with fail
 go_quiet (fail)
 clear y0 y3 y4
 obtain⟨w3,hw3⟩:∃wB,wB=w2.drewN nq:=⟨_,rfl⟩
 rw[←hw3]
 have F3:Hid (w3.heap[Bf]?=some (.cells #[.int .i64 n,.int .i64 ln,.int .i64 cl,.string tx,.int .i64 c] 31 (0,0))):=by show _=_;rw[hw3];exact F2.out
 have y0:w3.cell? ⟨Bf,0,none⟩=some (.int .i64 n):=S.M.qc F3.out 0
 have y3:w3.cell? ⟨Bf,3,none⟩=some (.string tx):=S.M.qc F3.out 3
 have y4:w3.cell? ⟨Bf,4,none⟩=some (.int .i64 c):=S.M.qc F3.out 4
 have B3:Hid (Below w.heap.size w w3):=by show Below _ _ _;rw[hw3];exact S.below_drewN B2.out _
 clear hw3 nq F2 B2
 go_wp2_with fail
 go_quiet (fail)
 clear y0 y3 y4
 obtain⟨w4,hw4⟩:∃wB,wB=w3.drewN nq:=⟨_,rfl⟩
 rw[←hw4]
 have F4:Hid (w4.heap[Bf]?=some (.cells #[.int .i64 n,.int .i64 ln,.int .i64 cl,.string tx,.int .i64 c] 31 (0,0))):=by show _=_;rw[hw4];exact F3.out
 have y0:w4.cell? ⟨Bf,0,none⟩=some (.int .i64 n):=S.M.qc F4.out 0
 have y3:w4.cell? ⟨Bf,3,none⟩=some (.string tx):=S.M.qc F4.out 3
 have y4:w4.cell? ⟨Bf,4,none⟩=some (.int .i64 c):=S.M.qc F4.out 4
 have B4:Hid (Below w.heap.size w w4):=by show Below _ _ _;rw[hw4];exact S.below_drewN B3.out _
 clear hw4 nq F3 B3
 go_wp2_with fail
 go_quiet (fail)
 clear y0 y3 y4
 obtain⟨w5,hw5⟩:∃wB,wB=w4.drewN nq:=⟨_,rfl⟩
 rw[←hw5]
 have F5:Hid (w5.heap[Bf]?=some (.cells #[.int .i64 n,.int .i64 ln,.int .i64 cl,.string tx,.int .i64 c] 31 (0,0))):=by show _=_;rw[hw5];exact F4.out
 have y0:w5.cell? ⟨Bf,0,none⟩=some (.int .i64 n):=S.M.qc F5.out 0
 have y3:w5.cell? ⟨Bf,3,none⟩=some (.string tx):=S.M.qc F5.out 3
 have y4:w5.cell? ⟨Bf,4,none⟩=some (.int .i64 c):=S.M.qc F5.out 4
 have B5:Hid (Below w.heap.size w w5):=by show Below _ _ _;rw[hw5];exact S.below_drewN B4.out _
 clear hw5 nq F4 B4
 rw[show (!((s.extract n q).toList == tx.toList))=false by rw[←HT.out,beq_self_eq_true];rfl]
 have HM:Hid ((n:Int)≤(q:Int)∧(q:Int)≤(s.size:Int)∧n≤q∧q≤s.size):=⟨m5,m6,m9,m10⟩
 have HL:Hid (q5f c):=hL
 clear m1 m2 m3 m4 m5 m6 m7 m8 m9 m10 m11 tsz hu hs he hL
 go_upto_region 9 with fail
 have CX:((c == 21)=false∧(c == 20)=true)∨(c == 21)=true∨((c == 21)=false∧(c == 20)=false∧(c == 22)=true):=by
  rcases HL.out with rfl | rfl | rfl
  ·exact .inl ⟨rfl,rfl⟩
  ·exact .inr (.inl rfl)
  ·exact .inr (.inr ⟨rfl,rfl,rfl⟩)
 clear HL
 rcases CX with ⟨c1,c0⟩ | c1 | ⟨c1,c0,c2⟩
 all_goals
  go_wp2_with fail
  refine Calls.mono (SC.out w5 B5.out) ?_
  rintro e w6 ⟨v,fv,rfl,ho,hb6⟩
  replace ho:=ho.1
  rw[S.qbk] at ho
  obtain⟨nw,hnw⟩:∃nw,(S.vk s).length=nw:=⟨_,rfl⟩
  have hnw2:(S.K.q0t s).1.length=nw:=by rw[←hnw];unfold S.vk;rw[List.length_map]
  rw[hnw2] at ho
  obtain⟨av,cv,rfl,_,hto⟩:=S.gu ho
  have HW:Hid (S.q3m w6 av (S.vk s)):=hto
  have HNW:Hid ((S.vk s).length=nw∧nw≤16384):=⟨hnw,by rw[←hnw];exact S.q7w s⟩
  have hnb:nw≤16384:=HNW.out.2
  have B6:Hid (Below w.heap.size w w6):=B5.out.trans (hb6.mono B5.out.size)
  have F6:Hid (w6.heap[Bf]?=some (.cells #[.int .i64 n,.int .i64 ln,.int .i64 cl,.string tx,.int .i64 c] 31 (0,0))):=(hb6.block Bf (Array.getElem?_eq_some_iff.1 F5.out).1).trans F5.out
  clear ho hb6 hnw hnw2 hto AL F5 B5 y0 y3 y4
  go_wp2_with fail
  go_loopw [7,10] (fun v7 v10 wx=>∃k j:Nat,v10=.int .i64 k∧v7=.int .i64 j∧k≤nw∧Hid (qbc s u (⟨tx,(n:Int),ln,cl⟩,c) k j)∧Hid (Below w6.heap.size w6 wx)) (fun _ v10 _=>nw - (intOf v10).toNat)
  case atStart=>exact⟨0,q,rfl,rfl,Nat.zero_le _,HI.out,Below.refl _ _⟩
  case round =>
   obtain⟨k,j,rfl,rfl,hk,hC,hB⟩:=hrel
   by_cases hlt:k + 1 < nw
   ·have n1:(k:Int) + 1 < (nw:Int):=by omega
    have n2:(k:Int) < (nw:Int):=by omega
    obtain⟨t0,ht0⟩:∃t,(S.vk s)[k]?=some t:=⟨_,List.getElem?_eq_getElem (by rw[HNW.out.1];omega)⟩
    obtain⟨t1,ht1⟩:∃t,(S.vk s)[k + 1]?=some t:=⟨_,List.getElem?_eq_getElem (by rw[HNW.out.1];omega)⟩
    obtain⟨g,o,rfl,_,z1,_,_⟩:=(HW.out.under hB.out) k t0 ht0
    obtain⟨g2,o2,e2,u0,u1,_,_⟩:=(HW.out.under hB.out) (k + 1) t1 ht1
    cases e2
    have FR:Hid (wr.heap[Bf]?=some (.cells #[.int .i64 n,.int .i64 ln,.int .i64 cl,.string tx,.int .i64 c] 31 (0,0))):=(hB.out.block Bf (Array.getElem?_eq_some_iff.1 F6.out).1).trans F6.out
    have y0:wr.cell? ⟨Bf,0,none⟩=some (.int .i64 n):=S.M.qc FR.out 0
    by_cases he:t0.off=(n:Int)
    ·obtain⟨n',kk,q1,q2,q3,q4,q5⟩:=qof (u:=u) HF.out HZ.out.1 HZ.out.2 ht0 ht1 he
     have z5:wr.cell? ⟨g,o + k * 4 + 1,none⟩=some (.int .i64 n):=by rw[←he];exact z1
     obtain⟨X,hX⟩:∃X,t1.text=X:=⟨_,rfl⟩
     have u5:wr.cell? ⟨g,o + (k + 1) * 4,none⟩=some (.string X):=by rw[←hX];exact u0
     have u6:wr.cell? ⟨g,o + (k + 1) * 4 + 1,none⟩=some (.int .i64 n'):=by rw[←q1];exact u1
     clear z1 u0 u1
     have xs:X.size=kk - n':=by rw[←hX,q4,qaw q2 q3]
     obtain⟨d,rfl⟩:∃d,kk=n' + d:=⟨kk - n',by omega⟩
     have xs2:X.size=d:=by omega
     have i1:IntKind.i64.wrap ((n':Int) + (d:Int))=((n' + d:Nat):Int):=by rw[IntKind.wrap_i64];have h2:=HS.out;omega
     have C2:Hid (qbc s u (⟨tx,(n:Int),ln,cl⟩,c) (k + 1) (n' + d)):=q5
     have e3:((n:Int) == (n:Int))=true:=beq_self_eq_true _
     clear q1 q2 q3 q4 q5 ht0 ht1 he hX xs hC FR
     go_upto_region 14 with fail
     go_quiet (fail)
     obtain⟨wd,hwd⟩:∃wd,wd=wr.drewN nq:=⟨_,rfl⟩
     rw[←hwd]
     have BD:Hid (Below w6.heap.size w6 wd):=by show Below _ _ _;rw[hwd];exact S.below_drewN hB.out _
     have v0:wd.cell? ⟨g,o + (k + 1) * 4,none⟩=some (.string X):=by rw[hwd];exact u5
     have v1:wd.cell? ⟨g,o + (k + 1) * 4 + 1,none⟩=some (.int .i64 n'):=by rw[hwd];exact u6
     clear u5 u6 y0 z5 hwd hB
     go_upto_region 15 with fail
     go_quiet (fail)
     go_wp2
     exact⟨⟨k + 1,n' + d,by go_num,by go_num,by omega,C2.out,S.below_drewN BD.out _⟩,by simp[intOf];omega⟩
    ·have C2:Hid (qbc s u (⟨tx,(n:Int),ln,cl⟩,c) (k + 1) j):=qoe hC.out ht0 he
     obtain⟨o1,ho1⟩:∃o1,t0.off=o1:=⟨_,rfl⟩
     rw[ho1] at z1 he
     have e3:(o1 == (n:Int))=false:=beq_false_of_ne he
     clear ht0 ht1 ho1 hC FR u0 u1 he
     go_upto_region 14 with fail
     go_quiet (fail)
     go_wp2
     exact⟨⟨k + 1,j,by go_num,rfl,by omega,C2.out,S.below_drewN hB.out _⟩,by simp[intOf];omega⟩
   ·have n1:¬(k:Int) + 1 < (nw:Int):=by omega
    have BR:Hid (Below w.heap.size w wr):=B6.out.trans (hB.out.mono B6.out.size)
    have FR:Hid (wr.heap[Bf]?=some (.cells #[.int .i64 n,.int .i64 ln,.int .i64 cl,.string tx,.int .i64 c] 31 (0,0))):=(hB.out.block Bf (Array.getElem?_eq_some_iff.1 F6.out).1).trans F6.out
    have GD:Hid (Good s u (⟨tx,(n:Int),ln,cl⟩,c) j):=cut_end hC.out (by rw[HNW.out.1];omega)
    clear hC hB F6 B6 HI HG HNW HW HM
    by_cases hk:j < 65536
    ·have HK:Hid (j < 65536):=hk
     have k3:decide (65536≤(j:Int))=false:=decide_eq_false (by omega)
     clear hk
     have e1:j≤s.size:=GD.out.le
     go_wp2_with fail
     all_goals first | (exfalso;have h1:j≤s.size:=GD.out.le;have h2:=HS.out;have h3:=HK.out;omega) | skip
     have G:q19 ((s.extract 0 j++⟨#[32]⟩)++u)=.error (⟨tx,(n:Int),ln,cl⟩,c):=GD.out.cut HK.out
     have SZ:((s.extract 0 j++⟨#[32]⟩)++u).size≤281474976710656:=by have h1:j≤s.size:=GD.out.le;have h2:=HS.out;have h3:=HK.out;rw[ByteArray.size_append,ByteArray.size_append,ByteArray.size_extract,show (⟨#[32]⟩:ByteArray).size=1 from rfl];omega
     generalize (s.extract 0 j++⟨#[32]⟩)++u=X at *
     have L2:Hid _:=LD.out wr BR.out X SZ
     refine Calls.mono L2.out ?_
     rintro e w9 ⟨hb9,hm⟩
     rw[G] at hm
     obtain⟨Bg,rfl,hge,hf⟩:=hm
     have B9:Hid (Below w.heap.size w w9):=BR.out.trans (hb9.mono BR.out.size)
     have F9:Hid (w9.heap[Bf]?=some (.cells #[.int .i64 n,.int .i64 ln,.int .i64 cl,.string tx,.int .i64 c] 31 (0,0))):=(hb9.block Bf (Array.getElem?_eq_some_iff.1 FR.out).1).trans FR.out
     have y0:w9.cell? ⟨Bf,0,none⟩=some (.int .i64 n):=S.M.qc F9.out 0
     have y1:w9.cell? ⟨Bf,1,none⟩=some (.int .i64 ln):=S.M.qc F9.out 1
     have y2:w9.cell? ⟨Bf,2,none⟩=some (.int .i64 cl):=S.M.qc F9.out 2
     have y3:w9.cell? ⟨Bf,3,none⟩=some (.string tx):=S.M.qc F9.out 3
     have y4:w9.cell? ⟨Bf,4,none⟩=some (.int .i64 c):=S.M.qc F9.out 4
     have x0:w9.cell? ⟨Bg,0,none⟩=some (.int .i64 n):=S.M.qc hf 0
     have x1:w9.cell? ⟨Bg,1,none⟩=some (.int .i64 ln):=S.M.qc hf 1
     have x2:w9.cell? ⟨Bg,2,none⟩=some (.int .i64 cl):=S.M.qc hf 2
     have x3:w9.cell? ⟨Bg,3,none⟩=some (.string tx):=S.M.qc hf 3
     have x4:w9.cell? ⟨Bg,4,none⟩=some (.int .i64 c):=S.M.qc hf 4
     clear hb9 hge hf L2 G FR BR LD HK
     go_wp2_with fail
     go_quiet (fail)
     go_wp2
     go_ret
     exact⟨rfl,S.below_drewN B9.out _⟩
    ·have k3:decide (65536≤(j:Int))=true:=decide_eq_true (by omega)
     clear hk
     go_wp2
     go_ret
     exact⟨rfl,BR.out⟩
end B
namespace B
open Go.RowKit
open S (Tok Stm)
theorem first_any (w:World)(s u:ByteArray)(hs:s.size≤140737488355328)(hu:u.size≤140737488355328)(hR:S.RdW w):Calls Tryz.prog 3 #[.string s,.string u] w fun e w'=>e=.returned (.bool true)∧Below w.heap.size w w':=by
 cases hF:q19 s with
 | ok L=>exact qoc w s u hs hu hR L hF
 | error f =>
  obtain⟨⟨tx,off,ln,cl⟩,c⟩:=f
  cases he:tx.toList.isEmpty with
  | true=>exact qci w s u hs hu hR tx off ln cl c hF (.inl he)
  | false =>
   by_cases hc:c < 20
   ·exact qci w s u hs hu hR tx off ln cl c hF (.inr hc)
   ·by_cases hL:q5f c
    ·exact qoh w s u hs hu hR tx off ln cl c hF he hc hL
    ·exact qog w s u hs hu hR tx off ln cl c hF he hc hL
end B
namespace S
open Go.ChangeShapes Go.WideShapes Go.ChangeAt Go.RowKit Go.Deep Go.Shelf Go.Lib
theorem cells9:Tryz.prog.cellsOf 9=1:=by kernel_rfl
theorem cells3:Tryz.prog.cellsOf 3=1:=by kernel_rfl
theorem cells4:Tryz.prog.cellsOf 4=1:=by kernel_rfl
theorem qdy:Tryz.prog.cellsOf 193=4:=by kernel_rfl
theorem four {cs:List Value}(h:cs.length=4):∃a b c d,cs=[a,b,c,d]:=by
 match cs,h with
 | [a,b,c,d],_=>exact⟨a,b,c,d,rfl⟩
theorem qgd {H:Type} {enc:TypeId × Value→H} {W:World} {fuel base:Nat} {sp:Nat→Bool} {held:Bool} {cs:List Value} {x:DataW H × List MemPlace}
  (h:DataW.trod enc Tryz.prog W base sp held fuel 193 cs=some x):∃(s:ByteArray) (b:Bool) (i j:Int),cs=[.string s,.bool b,.int .i64 i,.int .i64 j]∧x.1=.agg [.lit (.string s.data.toList),.lit (.bool b),.lit (.int .i64 i),.lit (.int .i64 j)]:=by
 obtain⟨xs,n,_,hx,hl,hlen,hf⟩:=DataW.trod_struct Tryz.underlying193 h
 rw[qdy] at hl
 obtain⟨c0,c1,c2,c3,rfl⟩:=four hl
 match xs,hlen with
 | [y0,y1,y2,y3],_ =>
  have h0:DataW.trod enc Tryz.prog W base sp held n 9 (List.take (Tryz.prog.cellsOf 9) (List.drop 0 [c0,c1,c2,c3]))=some y0:=hf 0 _ rfl
  have h1:DataW.trod enc Tryz.prog W base sp held n 4 (List.take (Tryz.prog.cellsOf 4) (List.drop 1 [c0,c1,c2,c3]))=some y1:=hf 1 _ rfl
  have h2:DataW.trod enc Tryz.prog W base sp held n 3 (List.take (Tryz.prog.cellsOf 3) (List.drop 2 [c0,c1,c2,c3]))=some y2:=hf 2 _ rfl
  have h3:DataW.trod enc Tryz.prog W base sp held n 3 (List.take (Tryz.prog.cellsOf 3) (List.drop 3 [c0,c1,c2,c3]))=some y3:=hf 3 _ rfl
  rw[cells9] at h0
  rw[cells4] at h1
  rw[cells3] at h2 h3
  obtain⟨s,e0,r0,_⟩:=DataW.trod_string Tryz.underlying9 h0
  obtain⟨b,e1,r1⟩:=DataW.trod_bool Tryz.underlying4 h1
  obtain⟨i,e2,r2,_⟩:=DataW.trod_int Tryz.underlying3 h2
  obtain⟨j,e3,r3,_⟩:=DataW.trod_int Tryz.underlying3 h3
  simp at e0 e1 e2 e3
  subst e0 e1 e2 e3
  refine⟨s,b,i,j,rfl,?_⟩
  rw[hx]
  simp only[List.map_cons,List.map_nil,r0,r1,r2,r3]
def qge (k:Nat):DataW Unit:=.agg [.lit (.string (q5g.getD k ([],false,0,0)).1),.lit (.bool (qj5 k)),.lit (.int .i64 (q8x k)),.lit (.int .i64 (qdl k))]
theorem qdz:(Rows.laid_lemma_stmt_shapes:DataW Unit)=.agg ((List.range 10).map qge):=by kernel_rfl
theorem qjx {W:World}(h:Lib.VarReads Tryz.prog W "lemma/stmt.shapes" Rows.laid_lemma_stmt_shapes):yh W:=fun k hk=>by
 obtain⟨g,t,cs,fuel,p,hg,hty,hvar,hd⟩:=h
 obtain rfl:g=0:=Option.some.inj (hg.symm.trans (by kernel_rfl))
 obtain rfl:t=194:=Option.some.inj (hty.symm.trans (by kernel_rfl))
 rw[qdz] at hd
 obtain⟨fuel',d,q,hdi,he⟩:=Lib.array_elem Tryz.underlying194 hd k hk
 simp only[List.getElem?_map,List.getElem?_range hk,Option.map_some,Option.some.injEq] at hdi
 subst hdi
 rw[qdy] at he
 obtain⟨s,b,i,j,hcs,hx⟩:=qgd he
 have hx2:qge k=.agg [.lit (.string s.data.toList),.lit (.bool b),.lit (.int .i64 i),.lit (.int .i64 j)]:=hx
 unfold qge at hx2
 simp only[DataW.agg.injEq,List.cons.injEq,DataW.lit.injEq,Lit.string.injEq,Lit.bool.injEq,Lit.int.injEq,and_true,true_and] at hx2
 obtain⟨t0,t1,t2,t3⟩:=hx2
 have hs:s=kwB k:=by
  obtain⟨dd⟩:=s
  unfold kwB
  rw[t0]
 have hc:∀q,q < 4→W.cell? ⟨0,k * 4 + q,none⟩=((cs.toList.drop (k * 4)).take 4)[q]?:=fun q hq=>by
  rw[World.var?_cell hg hvar (k * 4 + q),List.getElem?_take,if_pos hq,List.getElem?_drop,←Array.getElem?_toList]
 rw[hcs] at hc
 refine⟨?_,?_,?_,?_⟩
 ·rw[←hs];exact hc 0 (by omega)
 ·rw[t1];exact hc 1 (by omega)
 ·rw[t2];exact hc 2 (by omega)
 ·rw[t3];exact hc 3 (by omega)
theorem rown:ownKnob Tryz.prog.godebug=none:=by kernel_rfl
theorem qml:Tryz.prog.globalNamed "lemma/scan.kinds"=some 1:=by kernel_rfl
theorem tKinds:(Tryz.prog.globals[1]?).map (·.type)=some 245:=by kernel_rfl
def qbl:List (String × DataW Unit):=[("lemma/scan.kinds",Rows.laid_lemma_scan_kinds),("lemma/stmt.shapes",Rows.laid_lemma_stmt_shapes)]
theorem qjy:qbl=[("lemma/scan.kinds",Lib.tabData .u8 K.tbl),("lemma/stmt.shapes",Rows.laid_lemma_stmt_shapes)]:=by kernel_rfl
theorem c5:Tryz.prog.cellsOf 5=1:=by kernel_rfl
theorem c245:Tryz.prog.cellsOf 245=128:=by kernel_rfl
theorem qe0 {W:World}(h:laidMetH Tryz.prog qbl W)(hsh:W.ShapedOpen Tryz.prog):RdW W:=by
 rw[MakeChecks.laidMetH_plain _ _ _ (by kernel_rfl)] at h
 have h2:=Lib.laidMet.reads h (List.Mem.tail _ (List.Mem.head _))
 rw[qjy] at h
 have hv:=Lib.tabIs_of_head qml tKinds Tryz.underlying245 Tryz.underlying5 c5 c245 h
 refine⟨fun i hi=>?_,Tryz.laysM144.s1_3 W hsh,qjx h2⟩
 have hc:=World.var?_cell qml hv i
 rw[hc]
 have hl:i < K.tbl.length:=hi
 simp[hl]
theorem door_met (os:Os)(args:Array Value):laidMetH Tryz.prog qbl ((World.doorLaid Tryz.prog 400 os).forCall (fun _ _=>0) ⟨#[],args,[]⟩).memory :=
 laidMetH_of_parts3 (fuel:=8) (laidMet_of_run' 8 (by kernel_rfl) (by kernel_rfl)) (by kernel_rfl) (by kernel_rfl)
end S
end Go.Proofs.YtbancemhfjjmlaaGreatDoor
