/- Laid together. -/
import Derived.Test.YtbancemhfjjmlaaGreatDoorQF09
set_option maxRecDepth 100000
set_option maxHeartbeats 32000000
namespace Go.Proofs.YtbancemhfjjmlaaGreatDoor
namespace B
open Go.RowKit Go.Maps Go.WideMaps
open S (Tok Stm)
theorem qfw:∀(l:List AsC) (i j:Nat) (x:AsC),l[i]?=some x→j < 15→(q4u l)[i * 15 + j]?=(asC x)[j]?
 | [],i,j,x,h,_=>by simp at h
 | y :: r,0,j,x,h,hj=>by
  simp at h;subst h
  show (asC y++q4u r)[0 * 15 + j]?=_
  rw[Nat.zero_mul,Nat.zero_add,List.getElem?_append_left (by simp[asC];omega)]
 | y :: r,i + 1,j,x,h,hj=>by
  show (asC y++q4u r)[(i + 1) * 15 + j]?=_
  rw[List.getElem?_append_right (by simp[asC];omega)];have e:(i + 1) * 15 + j - (asC y).length=i * 15 + j:=by simp[asC];omega
  rw[e];exact qfw r i j x (by simpa using h) hj
structure AtT (N:Nat)(W:World)(hy:List F.Hy)(a:As)(v1 v2 v3 v4 v5 v6:Value)(ts us:List F.HyC):Prop where
 fr:FrT N W hy a v1 v2 v3 ts
 sc:ScT N W hy a v4 v5 us
 f:W.ownsRow N 36 4 v6 a.proof.length (S.rowT a.proof)
 h2:∀b,v1.ownBlock=some b→v4.ownBlock≠some b
 p2:∀b,v2.ownBlock=some b→v5.ownBlock≠some b
 e2:∀z ∈ us,∀b,z.ve.ownBlock=some b→v3.ownBlock≠some b∧∀y ∈ ts,y.ve.ownBlock≠some b
def atV (i:Nat)(a:As)(v1 v2 v3 v4 v5 v6:Value):Array Value:=#[.int .i64 (i:Nat),.string a.label.text,.bool a.thm,v1,v2,v3,v4,v5,v6,.string a.label.text,.int .i64 a.label.off,.int .i64 a.label.line,.int .i64 a.label.col,.string a.fin.text,.int .i64 a.fin.off,.int .i64 a.fin.line,.int .i64 a.fin.col]
section
variable {N:Nat} {w:World} {lb:Nat} {txt:ByteArray} {k:Nat} {L:Ld} {nf:ByteArray→Option Nat} {m:LdM}
theorem FrT.ch {X:Nat→Prop}{N0:Nat}{W W':World}{hy:List F.Hy}{a:As}{vh vp vg:Value}{ts:List F.HyC}(h:FrT N0 W hy a vh vp vg ts)(hc:S.M.Ch X W W')(hx:∀b,N0≤b→¬X b):FrT N0 W' hy a vh vp vg ts :=
 ⟨⟨S.M.qh h.t.own hc fun b e=>hx b (S.M.zh h.t.own b e),fun y hy=>S.M.qh (h.t.e y hy) hc fun b e=>hx b (S.M.zh (h.t.e y hy) b e),h.t.ap⟩,h.h,S.M.qh h.p hc fun b e=>hx b (S.M.zh h.p b e),S.M.qh h.g hc fun b e=>hx b (S.M.zh h.g b e),h.ap⟩
theorem ScT.ch {X:Nat→Prop}{N0:Nat}{W W':World}{hy:List F.Hy}{a:As}{vh vp:Value}{ts:List F.HyC}(h:ScT N0 W hy a vh vp ts)(hc:S.M.Ch X W W')(hx:∀b,N0≤b→¬X b):ScT N0 W' hy a vh vp ts :=
 ⟨⟨S.M.qh h.t.own hc fun b e=>hx b (S.M.zh h.t.own b e),fun y hy=>S.M.qh (h.t.e y hy) hc fun b e=>hx b (S.M.zh (h.t.e y hy) b e),h.t.ap⟩,h.h,S.M.qh h.p hc fun b e=>hx b (S.M.zh h.p b e)⟩
theorem FrT.low {N0 N1:Nat}{W:World}{hy:List F.Hy}{a:As}{vh vp vg:Value}{ts:List F.HyC}(h:FrT N1 W hy a vh vp vg ts)(hn:N0≤N1):FrT N0 W hy a vh vp vg ts :=
 ⟨⟨S.M.qw h.t.own hn,fun y hy=>S.M.qw (h.t.e y hy) hn,h.t.ap⟩,h.h,S.M.qw h.p hn,S.M.qw h.g hn,h.ap⟩
theorem ScT.low {N0 N1:Nat}{W:World}{hy:List F.Hy}{a:As}{vh vp:Value}{ts:List F.HyC}(h:ScT N1 W hy a vh vp ts)(hn:N0≤N1):ScT N0 W hy a vh vp ts :=
 ⟨⟨S.M.qw h.t.own hn,fun y hy=>S.M.qw (h.t.e y hy) hn,h.t.ap⟩,h.h,S.M.qw h.p hn⟩
theorem at_in (h:xk N w lb txt k L nf m)(i:Nat)(x:AsC)(hx:m.ax[i]?=some x)(hi:qi7 L.hy x.a) :
  Calls Tryz.prog 16 #[.pointer (some ⟨m.Bb,0,none⟩),.int .i64 i] w fun e w'=>Below w.heap.size w w'∧∃v1 v2 v3 v4 v5 v6 ts us,e=.returned (.tuple #[.agg (atV i x.a v1 v2 v3 v4 v5 v6),.int .i64 0])∧AtT w.heap.size w' L.hy x.a v1 v2 v3 v4 v5 v6 ts us:=by
 obtain⟨R,hR⟩:=eXb w.heap.size;have HR:=hid hR;rw[hR];obtain⟨w1,hw1⟩:=eXa (w.alloc (.cells #[.int .i64 0,.string ⟨#[]⟩,.bool false,.slice none 0 0,.slice none 0 0,.slice none 0 0,.slice none 0 0,.slice none 0 0,.slice none 0 0,.string ⟨#[]⟩,.int .i64 0,.int .i64 0,.int .i64 0,.string ⟨#[]⟩,.int .i64 0,.int .i64 0,.int .i64 0] 51));have HW1:=hid hw1;have b1:Below w.heap.size w w1:=by rw[hw1];exact S.qg _ _
 have k1:w1.heap[R]?=some (.cells #[.int .i64 0,.string ⟨#[]⟩,.bool false,.slice none 0 0,.slice none 0 0,.slice none 0 0,.slice none 0 0,.slice none 0 0,.slice none 0 0,.string ⟨#[]⟩,.int .i64 0,.int .i64 0,.int .i64 0,.string ⟨#[]⟩,.int .i64 0,.int .i64 0,.int .i64 0] 51 (0,0)):=by rw[hw1,←hR];exact World.alloc_heap_new w _
 have s1:w1.heap.size=R + 1:=by rw[hw1];simp[hR]
 have h1:=h.below b1;have CT:Hid _:=count_any h1;have hlen:m.ax.length=L.al.length:=by rw[←h.asa,lMa]
 have hin:i < L.al.length:=by rw[←hlen];exact (List.getElem?_eq_some_iff.1 hx).1
 have hrow:=h1.asr;obtain⟨g,ca,ea,_,_,_⟩:=S.M.q02 hrow (by omega);have b5:w1.cell? ⟨m.Bb,5,none⟩=some m.va:=S.M.qc h1.bbox 5;rw[ea] at hrow b5;have hok:=(h.cold.a x (mGe hx)).1;obtain⟨ag,cg,eg,_⟩:=S.ql hok.g;obtain⟨an,cn,en,_⟩:=S.ql hok.n;obtain⟨ap,cp,ep,_⟩:=S.ql hok.p;obtain⟨aa,cc,ec,_⟩:=S.ql hok.a;obtain⟨aq,cq,eq,_⟩:=S.ql hok.q;obtain⟨af,cf,ef,_⟩:=S.ql hok.f;have hAC:asC x=[.string x.a.label.text,.int .i64 x.a.label.off,.int .i64 x.a.label.line,.int .i64 x.a.label.col,.bool x.a.thm,.slice ag x.a.goal.length cg,.slice an x.a.needed.length cn,.slice ap x.a.apart.length cp,.slice aa x.a.active.length cc,.slice aq x.a.pairs.length cq,.slice af x.a.proof.length cf,.string x.a.fin.text,.int .i64 x.a.fin.off,.int .i64 x.a.fin.line,.int .i64 x.a.fin.col]:=by unfold asC;rw[eg,en,ep,ec,eq,ef]
 have hAA:asA x=#[.string x.a.label.text,.int .i64 x.a.label.off,.int .i64 x.a.label.line,.int .i64 x.a.label.col,.bool x.a.thm,.slice ag x.a.goal.length cg,.slice an x.a.needed.length cn,.slice ap x.a.apart.length cp,.slice aa x.a.active.length cc,.slice aq x.a.pairs.length cq,.slice af x.a.proof.length cf,.string x.a.fin.text,.int .i64 x.a.fin.off,.int .i64 x.a.fin.line,.int .i64 x.a.fin.col]:=by unfold asA;rw[eg,en,ep,ec,eq,ef]
 have y:∀j,j < 15→∀u,(asC x)[j]?=some u→w1.cell? ⟨g,i * 15 + j,none⟩=some u:=fun j hj u hu=>by
  obtain⟨ad,e,h0⟩:=F.q1f hrow (i * 15 + j) u ((qfw m.ax i j x hx hj).trans hu)
  cases e;rw[Addr.add_lit,Nat.zero_add] at h0;exact h0
 have yr:Hid (w1.rangeAt g (i * 15) [.string x.a.label.text,.int .i64 x.a.label.off,.int .i64 x.a.label.line,.int .i64 x.a.label.col,.bool x.a.thm,.slice ag x.a.goal.length cg,.slice an x.a.needed.length cn,.slice ap x.a.apart.length cp,.slice aa x.a.active.length cc,.slice aq x.a.pairs.length cq,.slice af x.a.proof.length cf,.string x.a.fin.text,.int .i64 x.a.fin.off,.int .i64 x.a.fin.line,.int .i64 x.a.fin.col]):=fun j v hv=>y j (by have:=(List.getElem?_eq_some_iff.1 hv).1;simpa using this) v (by rw[hAC];exact hv)
 obtain⟨Q,hQ⟩:=eXb w1.heap.size;obtain⟨w2,hw2⟩:=eXa ((w1.alloc (.cells #[.string ⟨#[]⟩,.int .i64 0,.int .i64 0,.int .i64 0,.bool false,.slice none 0 0,.slice none 0 0,.slice none 0 0,.slice none 0 0,.slice none 0 0,.slice none 0 0,.string ⟨#[]⟩,.int .i64 0,.int .i64 0,.int .i64 0] 123)).setCells Q 0 (#[.string x.a.label.text,.int .i64 x.a.label.off,.int .i64 x.a.label.line,.int .i64 x.a.label.col,.bool x.a.thm,.slice ag x.a.goal.length cg,.slice an x.a.needed.length cn,.slice ap x.a.apart.length cp,.slice aa x.a.active.length cc,.slice aq x.a.pairs.length cq,.slice af x.a.proof.length cf,.string x.a.fin.text,.int .i64 x.a.fin.off,.int .i64 x.a.fin.line,.int .i64 x.a.fin.col]:Array Value).toList);have HW2:=hid hw2;have kq0:(w1.alloc (.cells #[.string ⟨#[]⟩,.int .i64 0,.int .i64 0,.int .i64 0,.bool false,.slice none 0 0,.slice none 0 0,.slice none 0 0,.slice none 0 0,.slice none 0 0,.slice none 0 0,.string ⟨#[]⟩,.int .i64 0,.int .i64 0,.int .i64 0] 123)).heap[Q]?=some (.cells #[.string ⟨#[]⟩,.int .i64 0,.int .i64 0,.int .i64 0,.bool false,.slice none 0 0,.slice none 0 0,.slice none 0 0,.slice none 0 0,.slice none 0 0,.slice none 0 0,.string ⟨#[]⟩,.int .i64 0,.int .i64 0,.int .i64 0] 123 (0,0)):=by rw[←hQ];exact World.alloc_heap_new w1 _
 have k2:w2.heap[Q]?=some (.cells #[.string x.a.label.text,.int .i64 x.a.label.off,.int .i64 x.a.label.line,.int .i64 x.a.label.col,.bool x.a.thm,.slice ag x.a.goal.length cg,.slice an x.a.needed.length cn,.slice ap x.a.apart.length cp,.slice aa x.a.active.length cc,.slice aq x.a.pairs.length cq,.slice af x.a.proof.length cf,.string x.a.fin.text,.int .i64 x.a.fin.off,.int .i64 x.a.fin.line,.int .i64 x.a.fin.col] 123 (0,0)):=by rw[hw2];exact S.q0l Q 123 [.string x.a.label.text,.int .i64 x.a.label.off,.int .i64 x.a.label.line,.int .i64 x.a.label.col,.bool x.a.thm,.slice ag x.a.goal.length cg,.slice an x.a.needed.length cn,.slice ap x.a.apart.length cp,.slice aa x.a.active.length cc,.slice aq x.a.pairs.length cq,.slice af x.a.proof.length cf,.string x.a.fin.text,.int .i64 x.a.fin.off,.int .i64 x.a.fin.line,.int .i64 x.a.fin.col] [] [.string ⟨#[]⟩,.int .i64 0,.int .i64 0,.int .i64 0,.bool false,.slice none 0 0,.slice none 0 0,.slice none 0 0,.slice none 0 0,.slice none 0 0,.slice none 0 0,.string ⟨#[]⟩,.int .i64 0,.int .i64 0,.int .i64 0] _ kq0 rfl
 have ch2:S.M.Ch (fun b=>b=Q) (w1.alloc (.cells #[.string ⟨#[]⟩,.int .i64 0,.int .i64 0,.int .i64 0,.bool false,.slice none 0 0,.slice none 0 0,.slice none 0 0,.slice none 0 0,.slice none 0 0,.slice none 0 0,.string ⟨#[]⟩,.int .i64 0,.int .i64 0,.int .i64 0] 123)) w2:=by rw[hw2];exact F.q5w Q _ 0 _
 have b12:Below w1.heap.size w1 w2:=(S.qg w1 _).trans (ch2.below (by simp) fun b e=>by omega);have s2:w2.heap.size≥Q + 1:=by have:=(aIx k2);omega
 have b2:Below w.heap.size w w2:=b1.trans (b12.mono b1.size);have kr:w2.heap[R]?=some (.cells #[.int .i64 0,.string ⟨#[]⟩,.bool false,.slice none 0 0,.slice none 0 0,.slice none 0 0,.slice none 0 0,.slice none 0 0,.slice none 0 0,.string ⟨#[]⟩,.int .i64 0,.int .i64 0,.int .i64 0,.string ⟨#[]⟩,.int .i64 0,.int .i64 0,.int .i64 0] 51 (0,0)):=(b12.block R (by omega)).trans k1;have SA:Hid (∀wx,Below w2.heap.size w2 wx→(fun w'=>w'.cell? ⟨Q,0,none⟩=some (.string x.a.label.text)∧w'.cell? ⟨Q,1,none⟩=some (.int .i64 x.a.label.off)∧w'.cell? ⟨Q,2,none⟩=some (.int .i64 x.a.label.line)∧w'.cell? ⟨Q,3,none⟩=some (.int .i64 x.a.label.col)∧w'.cell? ⟨Q,4,none⟩=some (.bool x.a.thm)∧w'.cell? ⟨Q,5,none⟩=some (.slice ag x.a.goal.length cg)∧w'.cell? ⟨Q,6,none⟩=some (.slice an x.a.needed.length cn)∧w'.cell? ⟨Q,7,none⟩=some (.slice ap x.a.apart.length cp)∧w'.cell? ⟨Q,8,none⟩=some (.slice aa x.a.active.length cc)∧w'.cell? ⟨Q,9,none⟩=some (.slice aq x.a.pairs.length cq)∧w'.cell? ⟨Q,10,none⟩=some (.slice af x.a.proof.length cf)∧w'.cell? ⟨Q,11,none⟩=some (.string x.a.fin.text)∧w'.cell? ⟨Q,12,none⟩=some (.int .i64 x.a.fin.off)∧w'.cell? ⟨Q,13,none⟩=some (.int .i64 x.a.fin.line)∧w'.cell? ⟨Q,14,none⟩=some (.int .i64 x.a.fin.col)) wx):=fun wx hb=>by
  have kx:=(hb.block Q (by omega)).trans k2;exact⟨S.M.qc kx 0,S.M.qc kx 1,S.M.qc kx 2,S.M.qc kx 3,S.M.qc kx 4,S.M.qc kx 5,S.M.qc kx 6,S.M.qc kx 7,S.M.qc kx 8,S.M.qc kx 9,S.M.qc kx 10,S.M.qc kx 11,S.M.qc kx 12,S.M.qc kx 13,S.M.qc kx 14⟩
 have SR:Hid (∀wx,Below w2.heap.size w2 wx→wx.heap[R]?=some (.cells #[.int .i64 0,.string ⟨#[]⟩,.bool false,.slice none 0 0,.slice none 0 0,.slice none 0 0,.slice none 0 0,.slice none 0 0,.slice none 0 0,.string ⟨#[]⟩,.int .i64 0,.int .i64 0,.int .i64 0,.string ⟨#[]⟩,.int .i64 0,.int .i64 0,.int .i64 0] 51 (0,0))):=fun wx hb=>(hb.block R (by omega)).trans kr
 have own:∀wx,Below w2.heap.size w2 wx→Below w.heap.size w wx:=fun wx hb=>b2.trans (hb.mono b2.size)
 have C1:Hid (∀wx,Below w2.heap.size w2 wx→Calls Tryz.prog 65 #[.pointer (some ⟨m.Bb,0,none⟩),.agg #[.string x.a.label.text,.int .i64 x.a.label.off,.int .i64 x.a.label.line,.int .i64 x.a.label.col,.bool x.a.thm,.slice ag x.a.goal.length cg,.slice an x.a.needed.length cn,.slice ap x.a.apart.length cp,.slice aa x.a.active.length cc,.slice aq x.a.pairs.length cq,.slice af x.a.proof.length cf,.string x.a.fin.text,.int .i64 x.a.fin.off,.int .i64 x.a.fin.line,.int .i64 x.a.fin.col]] wx fun e w'=>Below wx.heap.size wx w'∧∃vh vp vg ts,e=.returned (.agg #[vh,vp,vg])∧FrT wx.heap.size w' L.hy x.a vh vp vg ts):=fun wx hb=>by
  rw[←hAA];exact qfs (h.below (own wx hb)) x (hok.ch (S.M.Ch.oB (X:=fun _=>False) (own wx hb)) fun _ _ e=>e) hi
 have C2:Hid (∀wx,Below w2.heap.size w2 wx→Calls Tryz.prog 66 #[.pointer (some ⟨m.Bb,0,none⟩),.agg #[.string x.a.label.text,.int .i64 x.a.label.off,.int .i64 x.a.label.line,.int .i64 x.a.label.col,.bool x.a.thm,.slice ag x.a.goal.length cg,.slice an x.a.needed.length cn,.slice ap x.a.apart.length cp,.slice aa x.a.active.length cc,.slice aq x.a.pairs.length cq,.slice af x.a.proof.length cf,.string x.a.fin.text,.int .i64 x.a.fin.off,.int .i64 x.a.fin.line,.int .i64 x.a.fin.col]] wx fun e w'=>Below wx.heap.size wx w'∧∃vh vp ts,e=.returned (.agg #[vh,vp])∧ScT wx.heap.size w' L.hy x.a vh vp ts):=fun wx hb=>by
  rw[←hAA];exact qft (h.below (own wx hb)) x (hok.ch (S.M.Ch.oB (X:=fun _=>False) (own wx hb)) fun _ _ e=>e) hi
 have C3:Hid (∀wx,Below w2.heap.size w2 wx→Calls Tryz.prog 67 #[.slice af x.a.proof.length cf] wx fun e w'=>∃v',e=.returned v'∧w'.ownsRow wx.heap.size 36 4 v' x.a.proof.length (S.rowT x.a.proof)∧Below wx.heap.size wx w'):=fun wx hb=>by
  rw[←ef];exact qi6 wx N _ _ _ rfl (by have:=hi.f;omega) (hok.ch (S.M.Ch.oB (X:=fun _=>False) (own wx hb)) fun _ _ e=>e).f
 have LQ:Hid (Q < w2.heap.size):=by show Q < _;omega
 have BA:Hid (Below R w w2∧R + 1≤w2.heap.size∧R < Q):=⟨by rw[←hR];exact b2,by omega,by omega⟩;have i0:¬(i:Int) < 0:=by omega
 have i00:(0:Int)≤(i:Int):=by omega
 have i1:¬(L.al.length:Int)≤(i:Int):=by omega
 obtain⟨na,hna⟩:=eXb L.al.length;rw[hlen,hna] at b5;rw[hna] at i1 CT;have i2:(i:Int) < (na:Int):=by omega
 generalize m.Bb=Bb at *;have KQ:=hid kq0;clear s1 hw1 b1 k1 h1 hlen hin hrow y ea hAA hAC eg en ep ec eq ef hw2 kq0 k2 ch2 b12 b2 s2 kr own hok hx hi h hna;go_enter Tryz.func16,Tryz.ntmps16;go_upto_region 1 with fail;rw[←HW1.out];clear HW1;go_wp2_with fail;refine cMo CT.out ?_;rintro e wz ⟨rfl,hwz⟩;subst wz;clear CT;go_upto_region 3 with fail;refine wp_region_list ?_;refine wpList_plain rfl fun K hK=>?_
 go_simp;refine hK _ _ ?_;clear hK K;refine wpList_plain rfl fun K hK=>?_
 go_simp;refine hK _ _ ?_;clear hK K;refine wpList_plain rfl fun K hK=>?_
 go_simp;refine hK _ _ ?_;clear hK K;refine wpList_plain rfl fun K hK=>?_
 go_simp;refine hK _ _ ?_;clear hK K;refine wpList_plain rfl fun K hK=>?_
 go_simp;refine hK _ _ ?_;clear hK K;refine wpList_plain rfl fun K hK=>?_
 go_simp;refine hK _ _ ?_;clear hK K;refine wpList_load_mid rfl 123 _ rfl g (i * 15) rfl [.string x.a.label.text,.int .i64 x.a.label.off,.int .i64 x.a.label.line,.int .i64 x.a.label.col,.bool x.a.thm,.slice ag x.a.goal.length cg,.slice an x.a.needed.length cn,.slice ap x.a.apart.length cp,.slice aa x.a.active.length cc,.slice aq x.a.pairs.length cq,.slice af x.a.proof.length cf,.string x.a.fin.text,.int .i64 x.a.fin.off,.int .i64 x.a.fin.line,.int .i64 x.a.fin.col] _ yr.out Tryz.underlying123 rfl (by kernel_rfl) ?_;refine wpList_plain rfl fun K hK=>?_
 go_simp;refine hK _ _ ?_;clear hK K
 try rw[hQ]
 refine wpList_store_mid rfl 123 _ _ rfl Q 0 #[.string x.a.label.text,.int .i64 x.a.label.off,.int .i64 x.a.label.line,.int .i64 x.a.label.col,.bool x.a.thm,.slice ag x.a.goal.length cg,.slice an x.a.needed.length cn,.slice ap x.a.apart.length cp,.slice aa x.a.active.length cc,.slice aq x.a.pairs.length cq,.slice af x.a.proof.length cf,.string x.a.fin.text,.int .i64 x.a.fin.off,.int .i64 x.a.fin.line,.int .i64 x.a.fin.col] rfl rfl (show (w1.alloc (.cells #[.string ⟨#[]⟩,.int .i64 0,.int .i64 0,.int .i64 0,.bool false,.slice none 0 0,.slice none 0 0,.slice none 0 0,.slice none 0 0,.slice none 0 0,.slice none 0 0,.string ⟨#[]⟩,.int .i64 0,.int .i64 0,.int .i64 0] 123)).there Q 0 15 from S.q2k (cs:=#[.string ⟨#[]⟩,.int .i64 0,.int .i64 0,.int .i64 0,.bool false,.slice none 0 0,.slice none 0 0,.slice none 0 0,.slice none 0 0,.slice none 0 0,.slice none 0 0,.string ⟨#[]⟩,.int .i64 0,.int .i64 0,.int .i64 0]) (t:=123) KQ.out) (by kernel_rfl) (by simp[Value.oneCell']) ?_;rw[←HW2.out];go_upto_region 4 with fail;clear HW2 b5 hQ hR KQ yr;have BD:Hid (Below w2.heap.size w2 w2.drew):=S.M.zo bRf 1;refine wp_region_held_drew (S:=fun w'=>w'.cell? ⟨Q,0,none⟩=some (.string x.a.label.text)∧w'.cell? ⟨Q,1,none⟩=some (.int .i64 x.a.label.off)∧w'.cell? ⟨Q,2,none⟩=some (.int .i64 x.a.label.line)∧w'.cell? ⟨Q,3,none⟩=some (.int .i64 x.a.label.col)∧w'.cell? ⟨Q,4,none⟩=some (.bool x.a.thm)∧w'.cell? ⟨Q,5,none⟩=some (.slice ag x.a.goal.length cg)∧w'.cell? ⟨Q,6,none⟩=some (.slice an x.a.needed.length cn)∧w'.cell? ⟨Q,7,none⟩=some (.slice ap x.a.apart.length cp)∧w'.cell? ⟨Q,8,none⟩=some (.slice aa x.a.active.length cc)∧w'.cell? ⟨Q,9,none⟩=some (.slice aq x.a.pairs.length cq)∧w'.cell? ⟨Q,10,none⟩=some (.slice af x.a.proof.length cf)∧w'.cell? ⟨Q,11,none⟩=some (.string x.a.fin.text)∧w'.cell? ⟨Q,12,none⟩=some (.int .i64 x.a.fin.off)∧w'.cell? ⟨Q,13,none⟩=some (.int .i64 x.a.fin.line)∧w'.cell? ⟨Q,14,none⟩=some (.int .i64 x.a.fin.col)) (by kernel_rfl) ?_ (fun hZ=>?_)
 ·exact SA.out _ BD.out
 refine tkq 0 hZ ?_;refine tkq 1 hZ ?_;refine tkq 2 hZ ?_;refine tkq 3 hZ ?_;refine tkq 4 hZ ?_;refine tkq 5 hZ ?_;refine tkq 6 hZ ?_;refine tkq 7 hZ ?_;refine tkq 9 hZ ?_;refine tkq 10 hZ ?_;refine tkq 12 hZ ?_;refine tkq 13 hZ ?_;refine tkq 15 hZ ?_;refine tkq 16 hZ ?_;refine tkq 17 hZ ?_;refine tkq 18 hZ ?_;refine rkq 8 fun K hK=>?_
 go_simp;go_at_call 65;refine cMo (C1.out _ BD.out) ?_;rintro ee w3 ⟨hb3,v1,v2,v3,ts,rfl,ht3⟩;have B3:=bTr BD hb3;have T3:Hid (FrT w2.heap.size w3 L.hy x.a v1 v2 v3 ts):=ht3.low BD.out.size;clear hb3 ht3;refine aQq hK ?_ fun hZ_8=>?_
 ·exact SA.out _ B3.out
 clear hK K;refine rkq 11 fun K hK=>?_
 go_simp;go_at_call 66;refine cMo (C2.out _ B3.out) ?_;rintro ee w4 ⟨hb4,v4,v5,us,rfl,ht4⟩;have D4:=hid hb4;have B4:=bTr B3 hb4;have T4:=hid ht4;clear hb4 ht4;refine aQq hK ?_ fun hZ_11=>?_
 ·exact SA.out _ B4.out
 clear hK K;refine rkq 14 fun K hK=>?_
 go_simp;go_at_call 67;refine cMo (C3.out _ B4.out) ?_;rintro ee w5 ⟨v6,rfl,ho5,hb5⟩;have D5:=hid hb5;have B5:=bTr B4 hb5;have O5:=hid ho5;clear hb5 ho5;obtain⟨a1,n1,q1,rfl⟩:∃a n c,v1=.slice a n c:=by (obtain⟨a,c,e,_⟩:=S.ql T3.out.t.own;exact⟨a,_,c,e⟩)
 obtain⟨a2,n2,q2,rfl⟩:∃a n c,v2=.slice a n c:=by (obtain⟨a,c,e,_⟩:=S.ql T3.out.p;exact⟨a,_,c,e⟩)
 obtain⟨a3,n3,q3,rfl⟩:∃a n c,v3=.slice a n c:=by (obtain⟨a,c,e,_⟩:=S.ql T3.out.g;exact⟨a,_,c,e⟩)
 obtain⟨a4,n4,q4,rfl⟩:∃a n c,v4=.slice a n c:=by (obtain⟨a,c,e,_⟩:=S.ql T4.out.t.own;exact⟨a,_,c,e⟩)
 obtain⟨a5,n5,q5,rfl⟩:∃a n c,v5=.slice a n c:=by (obtain⟨a,c,e,_⟩:=S.ql T4.out.p;exact⟨a,_,c,e⟩)
 obtain⟨a6,n6,q6,rfl⟩:∃a n c,v6=.slice a n c:=by (obtain⟨a,c,e,_⟩:=S.ql O5.out;exact⟨a,_,c,e⟩)
 refine aQq hK ?_ fun hZ_14=>?_
 ·exact SA.out _ B5.out
 clear hK K;refine tkq 19 hZ_14 ?_;refine rkq 20 fun K hK=>?_
 have kR:=SR.out _ B5.out;refine wp_store_mid 51 _ _ rfl R 0 #[.int .i64 (i:Nat),.string x.a.label.text,.bool x.a.thm,.slice a1 n1 q1,.slice a2 n2 q2,.slice a3 n3 q3,.slice a4 n4 q4,.slice a5 n5 q5,.slice a6 n6 q6,.string x.a.label.text,.int .i64 x.a.label.off,.int .i64 x.a.label.line,.int .i64 x.a.label.col,.string x.a.fin.text,.int .i64 x.a.fin.off,.int .i64 x.a.fin.line,.int .i64 x.a.fin.col] rfl rfl (show w5.there R 0 17 from S.q2k (cs:=#[.int .i64 0,.string ⟨#[]⟩,.bool false,.slice none 0 0,.slice none 0 0,.slice none 0 0,.slice none 0 0,.slice none 0 0,.slice none 0 0,.string ⟨#[]⟩,.int .i64 0,.int .i64 0,.int .i64 0,.string ⟨#[]⟩,.int .i64 0,.int .i64 0,.int .i64 0]) (t:=51) kR) (by kernel_rfl) (by simp[Value.oneCell']) ?_;obtain⟨w9,hw9⟩:=eXa (w5.setCells R 0 (#[.int .i64 (i:Nat),.string x.a.label.text,.bool x.a.thm,.slice a1 n1 q1,.slice a2 n2 q2,.slice a3 n3 q3,.slice a4 n4 q4,.slice a5 n5 q5,.slice a6 n6 q6,.string x.a.label.text,.int .i64 x.a.label.off,.int .i64 x.a.label.line,.int .i64 x.a.label.col,.string x.a.fin.text,.int .i64 x.a.fin.off,.int .i64 x.a.fin.line,.int .i64 x.a.fin.col]:Array Value).toList);have K9:Hid (w9.heap[R]?=some (.cells #[.int .i64 (i:Nat),.string x.a.label.text,.bool x.a.thm,.slice a1 n1 q1,.slice a2 n2 q2,.slice a3 n3 q3,.slice a4 n4 q4,.slice a5 n5 q5,.slice a6 n6 q6,.string x.a.label.text,.int .i64 x.a.label.off,.int .i64 x.a.label.line,.int .i64 x.a.label.col,.string x.a.fin.text,.int .i64 x.a.fin.off,.int .i64 x.a.fin.line,.int .i64 x.a.fin.col] 51 (0,0))):=by (show _=_;rw[hw9];exact S.q0l R 51 [.int .i64 (i:Nat),.string x.a.label.text,.bool x.a.thm,.slice a1 n1 q1,.slice a2 n2 q2,.slice a3 n3 q3,.slice a4 n4 q4,.slice a5 n5 q5,.slice a6 n6 q6,.string x.a.label.text,.int .i64 x.a.label.off,.int .i64 x.a.label.line,.int .i64 x.a.label.col,.string x.a.fin.text,.int .i64 x.a.fin.off,.int .i64 x.a.fin.line,.int .i64 x.a.fin.col] [] [.int .i64 0,.string ⟨#[]⟩,.bool false,.slice none 0 0,.slice none 0 0,.slice none 0 0,.slice none 0 0,.slice none 0 0,.slice none 0 0,.string ⟨#[]⟩,.int .i64 0,.int .i64 0,.int .i64 0,.string ⟨#[]⟩,.int .i64 0,.int .i64 0,.int .i64 0] w5 kR rfl)
 have ch9:S.M.Ch (fun b=>b=R) w5 w9:=by (rw[hw9];exact F.q5w R _ 0 w5)
 have S9:Hid ((fun w'=>w'.cell? ⟨Q,0,none⟩=some (.string x.a.label.text)∧w'.cell? ⟨Q,1,none⟩=some (.int .i64 x.a.label.off)∧w'.cell? ⟨Q,2,none⟩=some (.int .i64 x.a.label.line)∧w'.cell? ⟨Q,3,none⟩=some (.int .i64 x.a.label.col)∧w'.cell? ⟨Q,4,none⟩=some (.bool x.a.thm)∧w'.cell? ⟨Q,5,none⟩=some (.slice ag x.a.goal.length cg)∧w'.cell? ⟨Q,6,none⟩=some (.slice an x.a.needed.length cn)∧w'.cell? ⟨Q,7,none⟩=some (.slice ap x.a.apart.length cp)∧w'.cell? ⟨Q,8,none⟩=some (.slice aa x.a.active.length cc)∧w'.cell? ⟨Q,9,none⟩=some (.slice aq x.a.pairs.length cq)∧w'.cell? ⟨Q,10,none⟩=some (.slice af x.a.proof.length cf)∧w'.cell? ⟨Q,11,none⟩=some (.string x.a.fin.text)∧w'.cell? ⟨Q,12,none⟩=some (.int .i64 x.a.fin.off)∧w'.cell? ⟨Q,13,none⟩=some (.int .i64 x.a.fin.line)∧w'.cell? ⟨Q,14,none⟩=some (.int .i64 x.a.fin.col)) w9):=by (have hb:=ch9.block Q (by have:=B5.out.size;have:=LQ.out;omega) (by have:=BA.out.2.2;omega);have hs:=SA.out _ B5.out;have o:∀j,w9.cell? ⟨Q,j,none⟩=w5.cell? ⟨Q,j,none⟩:=(fun j=>World.cell?_of_block (a:=⟨Q,j,none⟩) hb);simp only[←o] at hs;exact hs)
 have FI:Hid (Below R w w9∧AtT R w9 L.hy x.a (.slice a1 n1 q1) (.slice a2 n2 q2) (.slice a3 n3 q3) (.slice a4 n4 q4) (.slice a5 n5 q5) (.slice a6 n6 q6) ts us):=by (have sz:=BA.out;have s3:=B3.out.size;have s4:=D4.out.size;have s5:=D5.out.size;have T3':=((T3.out.ch (S.M.Ch.oB (X:=fun _=>False) D4.out) fun _ _ e=>e).ch (S.M.Ch.oB (X:=fun _=>False) D5.out) fun _ _ e=>e).ch ch9 (fun b hb e=>by omega);have T4':=(T4.out.ch (S.M.Ch.oB (X:=fun _=>False) D5.out) fun _ _ e=>e).ch ch9 (fun b hb e=>by omega);have O5':=S.M.qh O5.out ch9 (fun b hb e=>by have:=S.M.zh O5.out b hb;omega);refine⟨(BA.out.1.trans (B5.out.mono (by omega))).trans (ch9.below (by have:=B5.out.size;omega) fun b e=>by omega),⟨T3'.low (by omega),T4'.low (by omega),S.M.qw O5' (by omega),(fun b hb e=>by have h1:=S.M.vk T3.out.t.own b hb;have h2:=S.M.zh T4.out.t.own b e;omega),(fun b hb e=>by have h1:=S.M.vk T3.out.p b hb;have h2:=S.M.zh T4.out.p b e;omega),fun z hz b hb=>⟨(fun e=>by have h1:=S.M.vk T3.out.g b e;have h2:=S.M.zh (T4.out.t.e z hz) b hb;omega),fun y hy e=>by have h1:=S.M.vk (T3.out.t.e y hy) b e;have h2:=S.M.zh (T4.out.t.e z hz) b hb;omega⟩⟩⟩)
 rw[←hw9];clear hw9 ch9 kR;refine hK.out _ _ ?_ (fun hZ_20=>?_)
 ·exact S9.out
 clear hK K
 try simp only[Act.put]
 refine tkq 21 hZ_20 ?_;refine wpAnyH_done (by kernel_rfl) ?_ _;have z0:w9.cell? ⟨R,0,none⟩=some (.int .i64 (i:Nat)):=S.M.qc K9.out 0;have z1:w9.cell? ⟨R,1,none⟩=some (.string x.a.label.text):=S.M.qc K9.out 1;have z2:w9.cell? ⟨R,2,none⟩=some (.bool x.a.thm):=S.M.qc K9.out 2;have z3:w9.cell? ⟨R,3,none⟩=some (.slice a1 n1 q1):=S.M.qc K9.out 3;have z4:w9.cell? ⟨R,4,none⟩=some (.slice a2 n2 q2):=S.M.qc K9.out 4;have z5:w9.cell? ⟨R,5,none⟩=some (.slice a3 n3 q3):=S.M.qc K9.out 5;have z6:w9.cell? ⟨R,6,none⟩=some (.slice a4 n4 q4):=S.M.qc K9.out 6;have z7:w9.cell? ⟨R,7,none⟩=some (.slice a5 n5 q5):=S.M.qc K9.out 7;have z8:w9.cell? ⟨R,8,none⟩=some (.slice a6 n6 q6):=S.M.qc K9.out 8;have z9:w9.cell? ⟨R,9,none⟩=some (.string x.a.label.text):=S.M.qc K9.out 9;have z10:w9.cell? ⟨R,10,none⟩=some (.int .i64 x.a.label.off):=S.M.qc K9.out 10;have z11:w9.cell? ⟨R,11,none⟩=some (.int .i64 x.a.label.line):=S.M.qc K9.out 11;have z12:w9.cell? ⟨R,12,none⟩=some (.int .i64 x.a.label.col):=S.M.qc K9.out 12;have z13:w9.cell? ⟨R,13,none⟩=some (.string x.a.fin.text):=S.M.qc K9.out 13;have z14:w9.cell? ⟨R,14,none⟩=some (.int .i64 x.a.fin.off):=S.M.qc K9.out 14;have z15:w9.cell? ⟨R,15,none⟩=some (.int .i64 x.a.fin.line):=S.M.qc K9.out 15;have z16:w9.cell? ⟨R,16,none⟩=some (.int .i64 x.a.fin.col):=S.M.qc K9.out 16;go_wp2_with fail;refine bodyPost_ret (v:=.tuple #[.agg #[.int .i64 (i:Nat),.string x.a.label.text,.bool x.a.thm,.slice a1 n1 q1,.slice a2 n2 q2,.slice a3 n3 q3,.slice a4 n4 q4,.slice a5 n5 q5,.slice a6 n6 q6,.string x.a.label.text,.int .i64 x.a.label.off,.int .i64 x.a.label.line,.int .i64 x.a.label.col,.string x.a.fin.text,.int .i64 x.a.fin.off,.int .i64 x.a.fin.line,.int .i64 x.a.fin.col],.int .i64 0]) (by simp[results,Tryz.results16,go_sem,z0,z1,z2,z3,z4,z5,z6,z7,z8,z9,z10,z11,z12,z13,z14,z15,z16];try rfl) rfl ?_;exact⟨FI.out.1,_,_,_,_,_,_,rfl,ts,us,FI.out.2⟩
end
end B
namespace B.V
open S (ql)
open Go.RowKit
open F hiding q0h q1i q1i.up q6u q4h
variable {tq:Nat} {isV:Int→Bool}
def q0h (tq:Nat):Value:=.func (.func 23) #[.pointer (some ⟨tq,0,none⟩)] #[]
def q1i (tq:Nat)(isV:Int→Bool)(w:World):Prop:=∀(wx:World) (n:Int),Below w.heap.size w wx→Calls Tryz.prog 23 #[.pointer (some ⟨tq,0,none⟩),.int .i64 n] wx fun e w'=>e=.returned (.bool (isV n))∧Below wx.heap.size wx w'
theorem q1i.up {tq:Nat}{isV:Int→Bool}{w w':World}(h:q1i tq isV w)(hb:Below w.heap.size w w'):q1i tq isV w':=fun wx n hx=>h wx n (hb.trans (hx.mono hb.size))
theorem q6u (w:World)(a:Option Addr)(n c:Nat)(l:List Int)(hl:l.length=n)(hn:n≤17592186043904)(hA:jr w a l)(hV:q1i tq isV w) :
  Calls Tryz.prog 180 #[.slice a n c,(q0h tq)] w fun e w'=>Below w.heap.size w w'∧∃a2 c2 m,e=.returned (.slice a2 m.length c2)∧jr w' a2 m∧m.length≤c2∧q1x (isV:=isV) l m:=by
 obtain⟨iN,hiN,iNz,iNs,iNb⟩:=info_parts q5u;have HA:=hid hA;have HL:=hid hl;have VA:=hid hV;obtain⟨N,hN⟩:=eXb w.heap.size;have HN:=hid hN;rw[hN];clear hA hl hN hV;unfold q0h;go_enter Tryz.func180,Tryz.ntmps180;go_wp2_with fail
 go_loopw [5,10] (fun v5 v10 wx=>∃j k:Nat,j≤n∧k≤j∧v10=.int .i64 j∧Hid (((l.take j).filter isV).length=k)∧Hid (wx.ownsRow N 3 1 v5 k (((l.take j).filter isV).map q5h))∧Hid (Below N w wx)) (fun _ v10 _=>n - (intOf v10).toNat)
 case atStart=>exact⟨0,0,Nat.zero_le _,Nat.zero_le _,rfl,rfl,World.ownsRow_nil _ _ _ _,bRf⟩
 case round =>
  obtain⟨j,k,hj,hkj,rfl,hK,hO,hB⟩:=hrel
  by_cases hlt:j < n
  ·have n1:(j:Int) < (n:Int):=by omega
   obtain⟨x,hx⟩:∃x,l[j]?=some x:=⟨_,gEq (by rw[HL.out];exact hlt)⟩;obtain⟨g,off,rfl,y0⟩:=(HA.out.under (by rw[HN.out];exact hB.out)) j x hx;have htk:l.take (j + 1)=l.take j++[x]:=by rw[List.take_add_one,hx];rfl
   have V1:Hid _:=VA.out wr x (by rw[HN.out];exact hB.out);have HNr:Hid (N≤wr.heap.size):=by have h1:=hB.out.size;have h2:=HN.out;show N≤_;omega
   cases e1:isV x with
   | false =>
    rw[e1] at V1;have hf:(l.take (j + 1)).filter isV=(l.take j).filter isV:=by rw[htk,List.filter_append];simp[e1]
    have K2:Hid (((l.take (j + 1)).filter isV).length=k):=by show _=_;rw[hf];exact hK.out
    have O2:Hid (wr.ownsRow N 3 1 u5 k (((l.take (j + 1)).filter isV).map q5h)):=by show World.ownsRow _ _ _ _ _ _ _;rw[hf];exact hO.out
    clear hf htk hx e1 hO hK;go_wp2_with fail;refine cMo V1.out ?_;rintro e w1 ⟨rfl,hb1⟩;have O3:Hid (w1.ownsRow N 3 1 u5 k (((l.take (j + 1)).filter isV).map q5h)):=S.M.qh O2.out (S.M.Ch.oB (X:=fun _=>False) hb1) fun _ _ e=>e
    have B1:Hid (Below N w w1):=hB.out.trans (hb1.mono HNr.out);clear hb1
    go_wp2
    exact⟨⟨j + 1,k,by omega,by omega,by go_num,K2.out,O3.out,B1.out⟩,by simp[intOf];omega⟩
   | true =>
    rw[e1] at V1;have hf:(l.take (j + 1)).filter isV=(l.take j).filter isV++[x]:=by rw[htk,List.filter_append];simp[e1]
    have K2:Hid (((l.take (j + 1)).filter isV).length=k + 1):=by show _=_;rw[hf,lAp,hK.out];rfl
    have HF:Hid (((l.take (j + 1)).filter isV).map q5h=((l.take j).filter isV).map q5h++[.int .i64 x]):=by show _=_;rw[hf,List.map_append];rfl
    clear hf htk hx e1 hK;go_wp2_with fail;refine cMo V1.out ?_;rintro e w1 ⟨rfl,hb1⟩;have HO1:Hid (w1.ownsRow N 3 1 u5 k (((l.take j).filter isV).map q5h)):=S.M.qh hO.out (S.M.Ch.oB (X:=fun _=>False) hb1) fun _ _ e=>e
    have HB1:Hid (Below N w w1):=hB.out.trans (hb1.mono HNr.out);have HN1:Hid (N≤w1.heap.size):=nLt HNr.out hb1.size;clear hb1 hO hB
    go_wp2_with (at_builtin;refine wpList_append_lies (w:=w1.alloc (.cells #[.int .i64 x] 3)) rfl _ _ 38 rfl N 3 iN _ 1 8 Tryz.underlying38 hiN iNz iNs iNb rfl (by decide) _ k (((l.take j).filter isV).map q5h) (by rfl) (S.M.zk HO1.out _) ⟨w1.heap.size,0,none⟩ 1 1 [.int .i64 x] (by rfl) (by rfl) (World.news_of_block (cs:=#[.int .i64 x]) (t:=3) (fr:=(0,0)) (heap_alloc_new w1 _)) (by simp[Value.oneCell']) (by omega) (by unfold maxLen;omega) (by omega) (nLt HN1.out (qo w1 _).size) _ rfl ?_;intro gg cap' w8 hown8 hgrow hat hlt8;have O8:Hid (w8.ownsRow N 3 1 (.slice (some ⟨gg,0,none⟩) (k + 1) cap') (k + 1) (((l.take (j + 1)).filter isV).map q5h)):=(by show World.ownsRow _ _ _ _ _ _ _;rw[HF.out];exact hown8);have B8:Hid (Below N w w8):=HB1.out.trans (((Below.refl _ w1).alloc HN1.out _).trans (bRf.grown hgrow (nLt HN1.out (qo w1 _).size) (S.M.zh HO1.out)));clear hown8 hgrow hat hlt8)
    exact⟨⟨j + 1,k + 1,by omega,by omega,by go_num,K2.out,O8.out,B8.out⟩,by simp[intOf];omega⟩
  ·have n1:¬(j:Int) < (n:Int):=by omega
   have hall:l.take j=l:=List.take_of_length_le (by rw[HL.out];omega);have hO2:=hO.out;have hK2:=hK.out;rw[hall] at hO2 hK2
   by_cases h0:k=0
   ·subst h0;obtain⟨a5,c5,rfl,_⟩:=ql hO2;have S1:Hid _:=Tryz.slices_Sort_int_none a5 c5 wr;have S2:Hid _:=Tryz.slices_Compact_int_empty a5 c5 wr;have HV:Hid (q1x (isV:=isV) l []):=by
     have he:l.filter isV=[]:=List.eq_nil_of_length_eq_zero hK2;refine⟨List.Pairwise.nil,fun x=>⟨(fun h=>by cases h),fun h=>?_⟩,Nat.zero_le _⟩;have hm:x ∈ l.filter isV:=List.mem_filter.2 h;rw[he] at hm;exact hm
    clear hO hO2 hK hK2 hall;go_wp2_with fail;refine cMo S1.out ?_;rintro e wz ⟨rfl,hwz⟩;subst wz;go_wp2_with fail;refine cMo S2.out ?_;rintro e wz ⟨rfl,hwz⟩;subst wz
    go_wp2
    go_ret
    exact⟨hB.out,a5,c5,[],rfl,(fun i x hi=>by simp at hi),Nat.zero_le _,HV.out⟩
   ·obtain⟨g,c5,rfl,hc5,hg5,_⟩:=S.M.q02 hO2 (by omega);obtain⟨ms,hms⟩:=eXb ((l.filter isV).mergeSort (fun x y=>decide (x≤y)));have hperm:ms.Perm (l.filter isV):=by rw[←hms];exact List.mergeSort_perm _ _
    have hml:ms.length=k:=by rw[hperm.length_eq,hK2]
    have S1:Hid _:=q6e wr N k g c5 (l.filter isV) hK2 (by omega) hO2;rw[hms] at S1;have HV:Hid (q1x (isV:=isV) l (Lib.compact ms)):=by
     obtain⟨h1,h2⟩:=q34 (q5i (l.filter isV));rw[hms] at h1 h2;refine⟨h1,fun x=>(h2 x).trans (hperm.mem_iff.trans List.mem_filter),?_⟩;have:=q2q ms
     rw[HL.out];omega
    have hle:=q2q ms;rw[hml] at hle;have HM:=hid hml;clear hO hO2 hK hK2 hall hms hperm hml;go_wp2_with fail;refine cMo S1.out ?_;rintro e w2 ⟨rfl,hb2,_,hH⟩;have B2:Hid (Below N w w2):=hB.out.trans hb2;have C1:Hid _:=q4q w2 N k g c5 ms HM.out (by omega) hc5 hg5 hH;clear S1 hb2 hH hB;generalize Lib.compact ms=m at *;go_wp2_with fail;refine cMo C1.out ?_;rintro e w3 ⟨rfl,hb3,hI⟩;have B3:Hid (Below N w w3):=B2.out.trans hb3;have HI:=hid hI;clear C1 hb3 hI;obtain⟨nm,hnm⟩:=eXb m.length;have HNM:Hid (m.length=nm∧nm≤c5):=⟨hnm,by omega⟩;rw[hnm];clear hnm hle
    go_wp2
    go_ret
    exact⟨B3.out,some ⟨g,0,none⟩,c5,m,by rw[HNM.out.1];rfl,HI.out,by rw[HNM.out.1];exact HNM.out.2,HV.out⟩
theorem q4h (w:World)(a:Option Addr)(n c:Nat)(l:List Int)(hl:l.length=n)(hn:n≤17592186043904)(hA:jr w a l)(hV:q1i tq isV w) :
  Calls Tryz.prog 126 #[.slice a n c,(q0h tq)] w fun e w'=>Below w.heap.size w w'∧∃a2 c2 m,e=.returned (.slice a2 m.length c2)∧jr w' a2 m∧m.length≤c2∧q1x (isV:=isV) l m:=by
 have P:Hid _:=q6u w a n c l hl hn hA hV;clear hA hV;unfold q0h at P ⊢;go_enter Tryz.func126,Tryz.ntmps126;go_wp2_with fail;refine cMo P.out ?_;rintro e w2 ⟨hb,a2,c2,m,rfl,h1,h2,h3⟩;have HB:Hid (Below w.heap.size w w2∧jr w2 a2 m∧m.length≤c2∧q1x (isV:=isV) l m):=⟨hb,h1,h2,h3⟩;clear hb h1 h2 h3 P;obtain⟨nm,hnm⟩:=eXb m.length;have HN:=hid hnm;rw[hnm];clear hnm
 go_wp2
 go_ret
 exact⟨HB.out.1,a2,c2,m,by rw[HN.out];rfl,HB.out.2.1,HB.out.2.2.1,HB.out.2.2.2⟩
end B.V
namespace B
open Go.RowKit
open S (Tok Stm)
section
variable {N:Nat} {w:World} {lb:Nat} {txt:ByteArray} {k:Nat} {L:Ld} {nf:ByteArray→Option Nat} {m:LdM}
theorem xk.base (h:xk N w lb txt k L nf m):w.cell? ⟨m.Bb,0,none⟩=some (.string txt)∧w.cell? ⟨m.Bb,1,none⟩=some (.pointer (some ⟨m.tq,0,none⟩))∧w.cell? ⟨m.Bb,2,none⟩=some (.map (some m.nb))∧w.cell? ⟨m.Bb,3,none⟩=some m.vh∧w.cell? ⟨m.Bb,4,none⟩=some (.map (some m.hb))∧w.cell? ⟨m.Bb,5,none⟩=some m.va∧w.cell? ⟨m.Bb,6,none⟩=some (.map (some m.ab)) :=
 ⟨S.M.qc h.bbox 0,S.M.qc h.bbox 1,S.M.qc h.bbox 2,S.M.qc h.bbox 3,S.M.qc h.bbox 4,S.M.qc h.bbox 5,S.M.qc h.bbox 6⟩
theorem q6p (h:xk N w lb txt k L nf m):Calls Tryz.prog 30 #[.pointer (some ⟨m.Bb,0,none⟩)] w fun e w'=>e=.returned (.int .i64 L.T.syms.length)∧w'=w:=by
 obtain⟨_,b1,_⟩:=h.base;have CT:=Y.count_any w _ _ _ _ h.tab;generalize m.tq=tq at *;replace CT:=show Hid _ from CT;clear h;go_enter Tryz.func30,Tryz.ntmps30;go_wp2_with fail;refine cMo CT.out ?_;rintro e wz ⟨rfl,hwz⟩;subst wz;clear CT
 go_wp2
 go_ret
 exact⟨rfl,rfl⟩
theorem q5y (h:xk N w lb txt k L nf m)(hT:L.T.syms.length≤4611686018427387904)(n:Int):Calls Tryz.prog 23 #[.pointer (some ⟨m.Bb,0,none⟩),.int .i64 n] w fun e w'=>e=.returned (.bool (zu L.T n))∧Below w.heap.size w w':=by
 obtain⟨_,b1,_⟩:=h.base;have CT:=Y.isVar_of w _ _ _ _ n hT h.tab;generalize m.tq=tq at *;replace CT:=show Hid _ from CT;clear h;go_enter Tryz.func23,Tryz.ntmps23;go_wp2_with fail;refine cMo CT.out ?_;rintro e w1 ⟨rfl,hb⟩;clear CT
 go_wp2
 go_ret
 exact⟨rfl,hb⟩
def q48 (T:Y.Tab)(n:Int):ByteArray:=Y.nameOf (Y.q2w T n)
theorem qcy (h:xk N w lb txt k L nf m)(hT:L.T.syms.length≤4611686018427387904)(n:Int):Calls Tryz.prog 32 #[.pointer (some ⟨m.Bb,0,none⟩),.int .i64 n] w fun e w'=>e=.returned (.string (q48 L.T n))∧Below w.heap.size w w':=by
 obtain⟨_,b1,_⟩:=h.base;have CT:=Y.name_of w _ _ _ _ n hT h.tab;generalize m.tq=tq at *;replace CT:=show Hid _ from CT;clear h;go_enter Tryz.func32,Tryz.ntmps32;go_wp2_with fail;refine cMo CT.out ?_;rintro e w1 ⟨rfl,hb⟩;clear CT
 go_wp2
 go_ret
 exact⟨rfl,hb⟩
theorem qia (h:xk N w lb txt k L nf m)(s:ByteArray)(hs:s.size≤maxLen):Calls Tryz.prog 31 #[.pointer (some ⟨m.Bb,0,none⟩),.string s] w fun e w'=>e=.returned (.tuple #[.int .i64 ((nf s).getD 0:Nat),.bool (nf s).isSome])∧w'=w:=by
 obtain⟨_,_,b1,_,_,_,_⟩:=h.base;obtain⟨_,_,hm⟩:=h.num;have hl:=hm.look s hs;generalize nf s=r at *;clear h hm;go_enter Tryz.func31,Tryz.ntmps31
 go_wp2
 refine bodyPost_ret (v:=.tuple #[.int .i64 (r.getD 0:Nat),.bool r.isSome]) (by simp[results,Tryz.results31,go_sem]) rfl ⟨rfl,rfl⟩
theorem qm1 (h:xk N w lb txt k L nf m)(s:ByteArray)(hs:s.size≤maxLen):Calls Tryz.prog 17 #[.pointer (some ⟨m.Bb,0,none⟩),.string s] w fun e w'=>e=.returned (.tuple #[.int .i64 ((q2h L.al s).getD 0:Nat),.bool (q2h L.al s).isSome])∧w'=w:=by
 obtain⟨_,_,_,_,_,_,b1⟩:=h.base;obtain⟨_,_,hm⟩:=h.asm;have hl:=hm.look s hs;generalize q2h L.al s=r at *;clear h hm;go_enter Tryz.func17,Tryz.ntmps17
 go_wp2
 refine bodyPost_ret (v:=.tuple #[.int .i64 (r.getD 0:Nat),.bool r.isSome]) (by simp[results,Tryz.results17,go_sem]) rfl ⟨rfl,rfl⟩
theorem qm2 (h:xk N w lb txt k L nf m)(s:ByteArray)(hs:s.size≤maxLen):Calls Tryz.prog 19 #[.pointer (some ⟨m.Bb,0,none⟩),.string s] w fun e w'=>e=.returned (.bool ((q2h L.al s).isSome || (q1c L.hy s).isSome))∧w'=w:=by
 obtain⟨_,_,_,_,b4,_,b6⟩:=h.base;obtain⟨_,_,hm⟩:=h.asm;have hl:=hm.look s hs;obtain⟨_,_,hm2⟩:=h.hym;have hl2:=hm2.look s hs;generalize q2h L.al s=r at *;generalize q1c L.hy s=r2 at *;clear h hm hm2
 cases hr:r.isSome <;> rw[hr] at hl
 all_goals
  go_enter Tryz.func19,Tryz.ntmps19
  go_wp2
  go_ret
  first | exact⟨rfl,rfl⟩ | (refine⟨by simp,rfl⟩)
end
open Go.RowKit Go.Maps Go.WideMaps
open F (HyC je q4j q6w zq yj jr)
def q61 (T:Y.Tab)(goal:List Int)(ts:List HyC)(y:HyC):Bool:=(zu T y.h.var && (goal++je ts).contains y.h.var) || !y.h.fl
def q88 (T:Y.Tab)(goal:List Int)(ts:List HyC)(j:Nat):List HyC:=(ts.take j).filter (q61 T goal ts)
theorem qm3 {T:Y.Tab}{goal:List Int}{ts:List HyC}{j:Nat}{y:HyC}(h:ts[j]?=some y):q88 T goal ts (j + 1)=q88 T goal ts j++if q61 T goal ts y=true then [y] else []:=by
 unfold q88;rw[List.take_add_one,h,List.filter_append,Option.toList_some];rw[List.filter_cons,List.filter_nil]
theorem qov {isV:Int→Bool}{l m:List Int}(h:F.q1x (isV:=isV) l m)(x:Int):m.contains x=(isV x && l.contains x):=by
 have:=h.mem x
 rw[Bool.eq_iff_iff,List.contains_iff_mem,this,Bool.and_eq_true,List.contains_iff_mem];exact And.comm
section
variable {N:Nat} {w:World} {lb:Nat} {txt:ByteArray} {k:Nat} {L:Ld} {nf:ByteArray→Option Nat} {m:LdM}
theorem qm4 (h:xk N w lb txt k L nf m)(hT:L.T.syms.length≤4611686018427387904)(N1:Nat)(a1 a0:Option Addr)(n c1 n0 c0:Nat)(ts:List HyC)(goal:List Int)(ht:F.jc N1 w (.slice a1 n c1) ts)(hn:ts.length=n)(hn2:n≤1048576)(hg:goal.length=n0)(hA:jr w a0 goal)(hlen:goal.length + (je ts).length≤17592186043904)(hex:∀y ∈ ts,y.h.ex.length≤17592186044416) :
  Calls Tryz.prog 71 #[.pointer (some ⟨m.Bb,0,none⟩),.slice a1 n c1,.slice a0 n0 c0] w fun e w'=>Below w.heap.size w w'∧∃v us,e=.returned v∧F.jc w.heap.size w' v us∧us.map (·.h)=(ts.filter (q61 L.T goal ts)).map (·.h):=by
 obtain⟨iN,hiN,iNz,iNs,iNb⟩:=info_parts F.q5u;obtain⟨iH,hiH,iHz,iHs,iHb⟩:=info_parts F.q8v;obtain⟨N0,hN⟩:∃N,w.heap.size=N:=⟨_,rfl⟩;have CL:Hid _:=F.clone_any w a0 n0 c0 goal hg (by omega) hA;have IV:Hid (∀wx,Below w.heap.size w wx→V.q1i m.Bb (zu L.T) wx):=fun wx hb wy x hy=>q5y ((h.below hb).below hy) hT x
 have HN:=hid hN;have HT:=hid ht;have HL:Hid (ts.length=n∧n≤1048576∧goal.length=n0∧goal.length + (je ts).length≤17592186043904∧∀y ∈ ts,y.h.ex.length≤17592186044416):=⟨hn,hn2,hg,hlen,hex⟩;have TA:Hid (∀wx,Below w.heap.size w wx→∀(j:Nat) (y:HyC),ts[j]?=some y→∃g ae ce,a1=some ⟨g,0,none⟩∧wx.cell? ⟨g,j * 4,none⟩=some (.string y.h.lab)∧wx.cell? ⟨g,j * 4 + 1,none⟩=some (.bool y.h.fl)∧wx.cell? ⟨g,j * 4 + 2,none⟩=some (.int .i64 y.h.var)∧wx.cell? ⟨g,j * 4 + 3,none⟩=some (.slice ae y.h.ex.length ce)∧wx.ownsRow N1 3 1 (.slice ae y.h.ex.length ce) y.h.ex.length (zq y.h.ex)):=fun wx hb j y hy=>by
  have t2:=ht.below hb;have hlt:=(List.getElem?_eq_some_iff.1 hy).1;have ho:=t2.own;rw[hn] at ho;obtain⟨g,c',e,_,_,_⟩:=S.M.q02 ho (by omega)
  cases e;obtain⟨y0,y1,y2,y3⟩:=F.q7e ho j y hy;have he:=t2.e y (mGe hy);obtain⟨ae,ce,ee,_⟩:=S.ql he;rw[ee] at y3 he;exact⟨g,ae,ce,rfl,y0,y1,y2,y3,he⟩
 rw[hN] at CL;rw[hN];generalize m.Bb=Bb at *;generalize hTT:L.T=TT at *;clear h hT ht hn hg hA hlen hex hTT hN;go_enter Tryz.func71,Tryz.ntmps71;go_wp2_with fail;refine cMo CL.out ?_;rintro e w1 ⟨v1,rfl,hv1,hb1⟩;have V1:=hid hv1;have B1:=hid hb1;clear hv1 hb1 CL;go_wp2_with fail
 go_loopw [7,20] (fun v7 v20 wx=>∃(j k:Nat),j≤n∧v20=.int .i64 j∧k≤17592186043904∧Hid ((goal++je (ts.take j)).length=k)∧Hid (wx.ownsRow N0 3 1 v7 k (zq (goal++je (ts.take j))))∧Hid (Below N0 w wx)) (fun _ v20 _=>n - (intOf v20).toNat)
 case atStart =>
  have e0:je (ts.take 0)=[]:=rfl;refine⟨0,n0,Nat.zero_le _,rfl,by have:=HL.out;omega,?_,?_,B1.out⟩
  ·show _=_;rw[e0,List.append_nil];exact HL.out.2.2.1
  ·show World.ownsRow _ _ _ _ _ _ _;rw[e0,List.append_nil];exact V1.out
 case round =>
  obtain⟨j,k,hj,rfl,hk,hK,hU,hB⟩:=hrel;have HNr:N0≤wr.heap.size:=by have h1:=hB.out.size;have h2:=HN.out;omega
  by_cases hlt:j < n
  ·have n1:(j:Int) < (n:Int):=by omega
   obtain⟨y,hy⟩:∃y,ts[j]?=some y:=⟨_,gEq (by rw[HL.out.1];exact hlt)⟩;obtain⟨g,ae,ce,rfl,y0,y1,y2,y3,her⟩:=TA.out wr (by rw[HN.out];exact hB.out) j y hy;have WT:=q4j hy;have hle:=q6w ts (j + 1);obtain⟨ne,hne⟩:=eXb y.h.ex.length;rw[hne] at y3 her;obtain⟨⟨lab,fl,var,ex⟩,ve⟩:=y;dsimp only at *;obtain⟨Bx,hBx⟩:=eXb wr.heap.size;obtain⟨wa,hwa⟩:=eXa (wr.alloc (.cells #[.string lab,.bool fl,.int .i64 var,.slice ae ne ce] 57));have HWA:=hid hwa;have ba:Below wr.heap.size wr wa:=by rw[hwa];exact S.qg _ _
   have ka:wa.heap[Bx]?=some (.cells #[.string lab,.bool fl,.int .i64 var,.slice ae ne ce] 57 (0,0)):=by rw[hwa,←hBx];exact World.alloc_heap_new wr _
   have z1:wa.cell? ⟨Bx,1,none⟩=some (.bool fl):=S.M.qc ka 1;have z3:wa.cell? ⟨Bx,3,none⟩=some (.slice ae ne ce):=S.M.qc ka 3;have BA:Hid (Below N0 w wa∧N0≤wa.heap.size):=⟨hB.out.trans (ba.mono HNr),nLt HNr ba.size⟩;have UA:Hid (wa.ownsRow N0 3 1 u7 k (zq (goal++je (ts.take j)))):=S.M.qh hU.out (S.M.Ch.oB (X:=fun _=>False) ba) fun _ _ e=>e
   have EA:Hid (wa.ownsRow N1 3 1 (.slice ae ne ce) ne (zq ex)∧(zq ex).length=ne * 1):=⟨S.M.qh her (S.M.Ch.oB (X:=fun _=>False) ba) (fun _ _ e=>e),by unfold zq;rw[lMa,hne];omega⟩;have HB:=hid hBx;have LK:=HL.out.2.2.2.1;have KK:=hK.out;rw[lAp] at KK;clear her hwa ba HNr ka hy hBx
   cases fl with
   | true =>
    have E2:Hid (je (ts.take (j + 1))=je (ts.take j)):=by show _=_;rw[WT];simp
    have U2:Hid (wa.ownsRow N0 3 1 u7 k (zq (goal++je (ts.take (j + 1))))∧(goal++je (ts.take (j + 1))).length=k):=by rw[E2.out];exact⟨UA.out,hK.out⟩
    clear WT E2 UA hK KK LK hle EA hne;go_upto_region 5 with fail;rw[←HWA.out,HB.out];clear HWA y0 y1 y2 y3
    go_wp2
    exact⟨⟨j + 1,k,by omega,by go_num,by omega,U2.out.2,U2.out.1,BA.out.1⟩,by simp[intOf];omega⟩
   | false =>
    have E2:Hid (je (ts.take (j + 1))=je (ts.take j)++ex):=by show _=_;rw[WT];simp
    have hkn:k + ne≤17592186043904:=by
     rw[E2.out,lAp] at hle;omega
    have K2:Hid ((goal++je (ts.take (j + 1))).length=k + ne):=by show _=_;rw[E2.out,←List.append_assoc,lAp,hK.out,hne]
    have HF:Hid (zq (goal++je (ts.take (j + 1)))=zq (goal++je (ts.take j))++zq ex):=by show _=_;rw[E2.out,←List.append_assoc,F.q0p]
    clear WT E2 hK KK LK hle hne;go_upto_region 5 with fail;rw[←HWA.out,HB.out];clear HWA y0 y1 y2 y3
    go_wp2_with (at_builtin;refine S.jf (w:=wa) rfl _ _ 38 rfl N0 3 iN _ 1 8 Tryz.underlying38 hiN iNz iNs iNb rfl (by decide) _ k (zq (goal++je (ts.take j))) (by rfl) UA.out ae ne ce (zq ex) (by rfl) EA.out.2 (F.q1f EA.out.1) (F.qas _) (by unfold maxLen;omega) (by omega) BA.out.2 ?_;intro a8 c8 w8 ho8 hb8;have O8:Hid (w8.ownsRow N0 3 1 (.slice a8 (k + ne) c8) (k + ne) (zq (goal++je (ts.take (j + 1))))):=(by show World.ownsRow _ _ _ _ _ _ _;rw[HF.out];exact ho8);have B8:Hid (Below N0 w w8):=BA.out.1.trans hb8;clear ho8 hb8)
    exact⟨⟨j + 1,k + ne,by omega,by go_num,by omega,K2.out,O8.out,B8.out⟩,by simp[intOf];omega⟩
  ·have n1:¬(j:Int) < (n:Int):=by omega
   have hall:ts.take j=ts:=List.take_of_length_le (by rw[HL.out.1];omega);have h1:=hU.out;have h2:=hK.out;rw[hall] at h1 h2;obtain⟨a5,c5,rfl,_,hns⟩:=F.q1p h1;have EV:Hid _:=V.q4h (tq:=Bb) (isV:=zu TT) wr a5 k c5 _ h2 hk hns (IV.out wr (by rw[HN.out];exact hB.out));clear hall hU hK h1 h2 hns V1 B1;unfold V.q0h at EV;go_wp2_with fail;refine cMo EV.out ?_;rintro e w2 ⟨hb2,a2,c2,mv,rfl,hns2,hc2,hiv⟩;have B2:Hid (Below N0 w w2):=hB.out.trans (hb2.mono HNr);have HM:Hid (jr w2 a2 mv∧mv.Pairwise (· < ·)∧mv.length≤17592186043904∧∀x,mv.contains x=(zu TT x && (goal++je ts).contains x)):=⟨hns2,hiv.up,by have h3:=hiv.le;rw[lAp] at h3;have h4:=HL.out.2.2.2.1;omega,fun x=>qov hiv x⟩;obtain⟨nv,hnv⟩:=eXb mv.length;rw[hnv];have HV:=hid hnv;clear hb2 EV hB hns2 hc2 hiv hnv;go_wp2_with fail;obtain⟨NN,hNN⟩:=eXb w2.heap.size;have HNN:Hid (w2.heap.size=NN∧N0≤NN):=⟨hNN,by have h1:=B2.out.size;have h2:=HN.out;omega⟩;have NV2:Hid (jr w2 a2 mv):=HM.out.1;clear hNN
   go_loopw [11,38] (fun v11 v38 wx=>∃(j:Nat) (us:List HyC),j≤n∧v38=.int .i64 j∧us.length≤j∧Hid (F.jc NN wx v11 us)∧Hid (us.map (·.h)=(q88 TT goal ts j).map (·.h))∧Hid (Below NN w2 wx)) (fun _ v38 _=>n - (intOf v38).toNat)
   case atStart=>exact⟨0,[],Nat.zero_le _,rfl,Nat.zero_le _,F.jc.nil _ _,rfl,bRf⟩
   case round =>
    obtain⟨j2,us,hj2,rfl,hul,hU,hS,hB⟩:=hrel;have HNr2:NN≤wr.heap.size:=by have h1:=hB.out.size;have h2:=HNN.out.1;omega
    have BW:Hid (Below N0 w wr):=B2.out.trans (hB.out.mono HNN.out.2);have hNV:jr wr a2 mv:=NV2.out.under (by rw[HNN.out.1];exact hB.out)
    by_cases hlt:j2 < n
    ·have n1:(j2:Int) < (n:Int):=by omega
     obtain⟨y,hy⟩:∃y,ts[j2]?=some y:=⟨_,gEq (by rw[HL.out.1];exact hlt)⟩;obtain⟨g,ae,ce,rfl,y0,y1,y2,y3,her⟩:=TA.out wr (by rw[HN.out];exact BW.out) j2 y hy;have WT:Hid (q88 TT goal ts (j2 + 1)=q88 TT goal ts j2++if q61 TT goal ts y=true then [y] else []):=qm3 hy;have hex:=HL.out.2.2.2.2 y (mGe hy);have hc:=HM.out.2.2.2 y.h.var;obtain⟨⟨lab,fl,var,ex⟩,ve⟩:=y;dsimp only at *;obtain⟨ne,hne⟩:=eXb ex.length;rw[hne] at y3 her hex;obtain⟨Bx,hBx⟩:=eXb wr.heap.size;obtain⟨wa,hwa⟩:=eXa (wr.alloc (.cells #[.string lab,.bool fl,.int .i64 var,.slice ae ne ce] 57));have HWA:=hid hwa;have ba:Below wr.heap.size wr wa:=by rw[hwa];exact S.qg _ _
     have ka:wa.heap[Bx]?=some (.cells #[.string lab,.bool fl,.int .i64 var,.slice ae ne ce] 57 (0,0)):=by rw[hwa,←hBx];exact World.alloc_heap_new wr _
     have z2:wa.cell? ⟨Bx,2,none⟩=some (.int .i64 var):=S.M.qc ka 2;have BA:Hid (Below NN w2 wa∧NN≤wa.heap.size∧Below wr.heap.size wr wa):=⟨hB.out.trans (ba.mono HNr2),nLt HNr2 ba.size,ba⟩;have SE:Hid _:=F.q6g wa a2 nv c2 mv var HV.out (by have:=HM.out.2.2.1;rw[HV.out] at this;exact this) (HM.out.2.1.imp fun h=>Int.le_of_lt h) (hNV.under ba);have KA:Hid (wa.heap[Bx]?=some (.cells #[.string lab,.bool fl,.int .i64 var,.slice ae ne ce] 57 (0,0))∧wa.ownsRow N1 3 1 (.slice ae ne ce) ne (zq ex)):=⟨ka,S.M.qh her (S.M.Ch.oB (X:=fun _=>False) ba) (fun _ _ e=>e)⟩;have HB:=hid hBx;rw[hc] at SE;have UA:Hid (F.jc NN wa u11 us):=hU.out.below ba;obtain⟨bb,hbb⟩:=eXb ((zu TT var && (goal++je ts).contains var));rw[hbb] at SE;have WT2:Hid (q88 TT goal ts (j2 + 1)=q88 TT goal ts j2++if (bb || !fl)=true then [⟨⟨lab,fl,var,ex⟩,ve⟩] else []):=by
      show _=_
      rw[WT.out];unfold q61;dsimp only;rw[hbb]
     have HNE:=hid hne;clear her hwa ba ka hy hBx hU hc hbb WT hne hNV;go_upto_region 13 with fail;rw[←HWA.out,HB.out];clear HWA y0 y1 y2 y3;go_wp2_with fail;refine cMo SE.out ?_;rintro e w3 ⟨⟨i,rfl⟩,q,hw3⟩;have b3:Below wa.heap.size wa w3:=by rw[hw3];exact S.below_drewN bRf q
     have k3:=(b3.block Bx (aIx KA.out.1)).trans KA.out.1;have x0:w3.cell? ⟨Bx,0,none⟩=some (.string lab):=S.M.qc k3 0;have x1:w3.cell? ⟨Bx,1,none⟩=some (.bool fl):=S.M.qc k3 1;have x2:w3.cell? ⟨Bx,2,none⟩=some (.int .i64 var):=S.M.qc k3 2;have x3:w3.cell? ⟨Bx,3,none⟩=some (.slice ae ne ce):=S.M.qc k3 3;have B3:Hid (Below NN w2 w3∧NN≤w3.heap.size):=⟨BA.out.1.trans (b3.mono BA.out.2.1),nLt BA.out.2.1 b3.size⟩;have U3:Hid (F.jc NN w3 u11 us):=UA.out.below b3;have CC:Hid _:=q7h w3 N1 lab fl var (.slice ae ne ce) ex (by rw[HNE.out];exact S.M.qh KA.out.2 (S.M.Ch.oB (X:=fun _=>False) b3) (fun _ _ e=>e)) (by rw[HNE.out];exact hex);rw[HNE.out] at CC;have HLT:Hid (∀z ∈ us,∀b,z.ve.ownBlock=some b→b < w3.heap.size):=fun z hz b hb=>S.M.vk (U3.out.e z hz) b hb
     clear hw3 b3 k3 SE KA UA BA z2 hex
     cases bb with
     | true =>
      obtain⟨ku,hku⟩:=eXb us.length;have HU:=hid hku;have kul:ku≤j2:=by omega
      clear hku hul;go_wp2_with fail;refine cMo CC.out ?_;rintro e w4 ⟨a3,c3,rfl,ho4,hb4⟩;have V4:=hid ho4;have U4:Hid (F.jc NN w4 u11 us):=U3.out.below hb4;have O4:Hid (w4.ownsRow NN 57 4 u11 ku (yj us)):=by have h:=U4.out.own;rw[HU.out] at h;exact h
      have B4:Hid (Below NN w2 w4∧NN≤w4.heap.size∧NN≤w3.heap.size):=⟨B3.out.1.trans (hb4.mono B3.out.2),nLt B3.out.2 hb4.size,B3.out.2⟩;clear hb4 ho4 CC x0 x1 x2 x3 B3 U3
      go_wp2_with (at_builtin;refine wpList_append_lies (w:=w4.alloc (.cells #[.string lab,.bool fl,.int .i64 var,.slice a3 ne c3] 57)) rfl _ _ 44 rfl NN 57 iH _ 4 56 Tryz.underlying44 hiH iHz iHs iHb rfl (by decide) _ ku (F.yj us) (by rfl) (S.M.zk O4.out _) ⟨w4.heap.size,0,none⟩ 1 1 [.string lab,.bool fl,.int .i64 var,.slice a3 ne c3] (by rfl) (by rfl) (World.news_of_block (cs:=#[.string lab,.bool fl,.int .i64 var,.slice a3 ne c3]) (t:=57) (fr:=(0,0)) (World.alloc_heap_new w4 _)) (by simp[Value.oneCell']) (by omega) (by unfold maxLen;omega) (by omega) (nLt B4.out.2.1 (S.qg w4 _).size) _ rfl ?_;intro gg cap' w8 hown8 hgrow hat hlt8;have O8:=hid hown8;have C8:Hid (S.M.Ch (fun b=>Value.ownBlock u11=some b) w4 w8):=((S.M.Ch.oB (S.qg w4 _)).trans (S.M.Ch.jm hgrow));clear hown8 hgrow hat hlt8)
      have hT8:Hid (F.jc NN w8 (.slice (some ⟨gg,0,none⟩) (ku + 1) cap') (us++[⟨⟨lab,fl,var,ex⟩,.slice a3 ne c3⟩])):=by
       show F.jc _ _ _ _
       refine⟨?_,fun z hz=>?_,List.pairwise_append.2 ⟨U4.out.ap,by simp,fun z hz z' hz'=>?_⟩⟩
       ·rw[lAp,HU.out,F.q1w];exact O8.out
       ·rcases mAp.1 hz with hz | hz
        ·have h1:=U4.out.e z hz;exact S.M.qh h1 C8.out fun b hb e=>F.yh h1 U4.out.own (by decide) b hb e
        ·rw[mSg.1 hz]
         show w8.ownsRow NN 3 1 (.slice a3 ne c3) ex.length (F.zq ex)
         rw[HNE.out];exact S.M.qw (S.M.qh V4.out C8.out fun b hb e=>F.yh V4.out U4.out.own (by decide) b hb e) B4.out.2.2
       ·rw[mSg.1 hz'];intro b hb e;have h1:=HLT.out z hz b hb;have h2:=S.M.zh V4.out b e;omega
      have hB8:Hid (Below NN w2 w8):=B4.out.1.trans (C8.out.below B4.out.2.1 fun b e=>S.M.zh U4.out.own b e);exact⟨⟨j2 + 1,us++[F.HyC.mk (F.Hy.mk lab fl var ex) (Value.slice a3 ne c3)],by omega,by go_num,by rw[lAp,HU.out];simp;omega,hT8.out,by show _=_;rw[WT2.out,List.map_append,hS.out,List.map_append];rfl,hB8.out⟩,by simp[intOf];omega⟩
     | false =>
      cases fl with
      | true =>
       clear CC
       go_wp2
       exact⟨⟨j2 + 1,us,by omega,by go_num,by omega,U3.out,by show _=_;rw[WT2.out,hS.out];simp,B3.out.1⟩,by simp[intOf];omega⟩
      | false =>
       obtain⟨ku,hku⟩:=eXb us.length;have HU:=hid hku;have kul:ku≤j2:=by omega
       clear hku hul;go_wp2_with fail;refine cMo CC.out ?_;rintro e w4 ⟨a3,c3,rfl,ho4,hb4⟩;have V4:=hid ho4;have U4:Hid (F.jc NN w4 u11 us):=U3.out.below hb4;have O4:Hid (w4.ownsRow NN 57 4 u11 ku (yj us)):=by have h:=U4.out.own;rw[HU.out] at h;exact h
       have B4:Hid (Below NN w2 w4∧NN≤w4.heap.size∧NN≤w3.heap.size):=⟨B3.out.1.trans (hb4.mono B3.out.2),nLt B3.out.2 hb4.size,B3.out.2⟩;clear hb4 ho4 CC x0 x1 x2 x3 B3 U3
       go_wp2_with (at_builtin;refine wpList_append_lies (w:=w4.alloc (.cells #[.string lab,.bool false,.int .i64 var,.slice a3 ne c3] 57)) rfl _ _ 44 rfl NN 57 iH _ 4 56 Tryz.underlying44 hiH iHz iHs iHb rfl (by decide) _ ku (F.yj us) (by rfl) (S.M.zk O4.out _) ⟨w4.heap.size,0,none⟩ 1 1 [.string lab,.bool false,.int .i64 var,.slice a3 ne c3] (by rfl) (by rfl) (World.news_of_block (cs:=#[.string lab,.bool false,.int .i64 var,.slice a3 ne c3]) (t:=57) (fr:=(0,0)) (World.alloc_heap_new w4 _)) (by simp[Value.oneCell']) (by omega) (by unfold maxLen;omega) (by omega) (nLt B4.out.2.1 (S.qg w4 _).size) _ rfl ?_;intro gg cap' w8 hown8 hgrow hat hlt8;have O8:=hid hown8;have C8:Hid (S.M.Ch (fun b=>Value.ownBlock u11=some b) w4 w8):=((S.M.Ch.oB (S.qg w4 _)).trans (S.M.Ch.jm hgrow));clear hown8 hgrow hat hlt8)
       have hT8:Hid (F.jc NN w8 (.slice (some ⟨gg,0,none⟩) (ku + 1) cap') (us++[⟨⟨lab,false,var,ex⟩,.slice a3 ne c3⟩])):=by
        show F.jc _ _ _ _
        refine⟨?_,fun z hz=>?_,List.pairwise_append.2 ⟨U4.out.ap,by simp,fun z hz z' hz'=>?_⟩⟩
        ·rw[lAp,HU.out,F.q1w];exact O8.out
        ·rcases mAp.1 hz with hz | hz
         ·have h1:=U4.out.e z hz;exact S.M.qh h1 C8.out fun b hb e=>F.yh h1 U4.out.own (by decide) b hb e
         ·rw[mSg.1 hz]
          show w8.ownsRow NN 3 1 (.slice a3 ne c3) ex.length (F.zq ex)
          rw[HNE.out];exact S.M.qw (S.M.qh V4.out C8.out fun b hb e=>F.yh V4.out U4.out.own (by decide) b hb e) B4.out.2.2
        ·rw[mSg.1 hz'];intro b hb e;have h1:=HLT.out z hz b hb;have h2:=S.M.zh V4.out b e;omega
       have hB8:Hid (Below NN w2 w8):=B4.out.1.trans (C8.out.below B4.out.2.1 fun b e=>S.M.zh U4.out.own b e);exact⟨⟨j2 + 1,us++[F.HyC.mk (F.Hy.mk lab false var ex) (Value.slice a3 ne c3)],by omega,by go_num,by rw[lAp,HU.out];simp;omega,hT8.out,by show _=_;rw[WT2.out,List.map_append,hS.out,List.map_append];rfl,hB8.out⟩,by simp[intOf];omega⟩
    ·have n1:¬(j2:Int) < (n:Int):=by omega
     have hje:j2=n:=by omega
     subst hje;have hS2:Hid (us.map (·.h)=(ts.filter (q61 TT goal ts)).map (·.h)):=by
      have h:=hS.out;unfold q88 at h;rw[List.take_of_length_le (Nat.le_of_eq HL.out.1)] at h;exact h
     obtain⟨a5,c5,rfl,_⟩:=S.ql hU.out.own;clear hS
     go_wp2
     go_ret
     exact⟨BW.out,_,rfl,us,⟨S.M.qw hU.out.own HNN.out.2,fun y hy=>S.M.qw (hU.out.e y hy) HNN.out.2,hU.out.ap⟩,hS2.out⟩
end
end B
end Go.Proofs.YtbancemhfjjmlaaGreatDoor
