/- Laid together. -/
import Derived.Test.YtbancemhfjjmlaaGreatDoorQB10
set_option maxRecDepth 100000
set_option maxHeartbeats 32000000
namespace Go.Proofs.YtbancemhfjjmlaaGreatDoor
namespace B
open Go.RowKit Go.Maps Go.WideMaps
open S (Tok Stm)
theorem qgs:∀(l:List AsC) (i j:Nat) (x:AsC),l[i]?=some x→j < 15→(q4t l)[i * 15 + j]?=(asC x)[j]?
 | [],i,j,x,h,_=>by simp at h
 | y :: r,0,j,x,h,hj=>by
  simp at h;subst h
  show (asC y++q4t r)[0 * 15 + j]?=_
  rw[Nat.zero_mul,Nat.zero_add,List.getElem?_append_left (by simp[asC];omega)]
 | y :: r,i + 1,j,x,h,hj=>by
  show (asC y++q4t r)[(i + 1) * 15 + j]?=_
  rw[List.getElem?_append_right (by simp[asC];omega)];have e:(i + 1) * 15 + j - (asC y).length=i * 15 + j:=by simp[asC];omega
  rw[e];exact qgs r i j x (by simpa using h) hj
structure AtT (N:Nat)(W:World)(hy:List F.Hy)(a:As)(v1 v2 v3 v4 v5 v6:Value)(ts us:List F.HyC):Prop where
 fr:FrT N W hy a v1 v2 v3 ts
 sc:ScT N W hy a v4 v5 us
 f:W.ownsRow N 36 4 v6 a.proof.length (S.rowT a.proof)
 h2:∀b,v1.ownBlock=some b→v4.ownBlock≠some b
 p2:∀b,v2.ownBlock=some b→v5.ownBlock≠some b
 e2:∀z ∈ us,∀b,z.ve.ownBlock=some b→v3.ownBlock≠some b∧∀y ∈ ts,y.ve.ownBlock≠some b
def atV (i:Nat)(a:As)(v1 v2 v3 v4 v5 v6:Value):Array Value:=#[.int .i64 (i:Nat),.string a.label.text,.bool a.thm,v1,v2,v3,v4,v5,v6,.string a.label.text,.int .i64 a.label.off,.int .i64 a.label.line,.int .i64 a.label.col,.string a.fin.text,.int .i64 a.fin.off,.int .i64 a.fin.line,.int .i64 a.fin.col]
section
variable {N:Nat} {w:World} {lb:Nat} {txt:ByteArray} {k:Nat} {L:Ld} {nf:ByteArray→Option Nat} {m:LdM}
theorem FrT.ch {X:Nat→Prop}{N0:Nat}{W W':World}{hy:List F.Hy}{a:As}{vh vp vg:Value}{ts:List F.HyC}(h:FrT N0 W hy a vh vp vg ts)(hc:S.M.Ch X W W')(hx:∀b,N0≤b→¬X b):FrT N0 W' hy a vh vp vg ts :=
 ⟨⟨S.M.qh h.t.own hc fun b e=>hx b (S.M.zf h.t.own b e),fun y hy=>S.M.qh (h.t.e y hy) hc fun b e=>hx b (S.M.zf (h.t.e y hy) b e),h.t.ap⟩,h.h,S.M.qh h.p hc fun b e=>hx b (S.M.zf h.p b e),S.M.qh h.g hc fun b e=>hx b (S.M.zf h.g b e),h.ap⟩
theorem ScT.ch {X:Nat→Prop}{N0:Nat}{W W':World}{hy:List F.Hy}{a:As}{vh vp:Value}{ts:List F.HyC}(h:ScT N0 W hy a vh vp ts)(hc:S.M.Ch X W W')(hx:∀b,N0≤b→¬X b):ScT N0 W' hy a vh vp ts :=
 ⟨⟨S.M.qh h.t.own hc fun b e=>hx b (S.M.zf h.t.own b e),fun y hy=>S.M.qh (h.t.e y hy) hc fun b e=>hx b (S.M.zf (h.t.e y hy) b e),h.t.ap⟩,h.h,S.M.qh h.p hc fun b e=>hx b (S.M.zf h.p b e)⟩
theorem FrT.low {N0 N1:Nat}{W:World}{hy:List F.Hy}{a:As}{vh vp vg:Value}{ts:List F.HyC}(h:FrT N1 W hy a vh vp vg ts)(hn:N0≤N1):FrT N0 W hy a vh vp vg ts :=
 ⟨⟨S.M.qp h.t.own hn,fun y hy=>S.M.qp (h.t.e y hy) hn,h.t.ap⟩,h.h,S.M.qp h.p hn,S.M.qp h.g hn,h.ap⟩
theorem ScT.low {N0 N1:Nat}{W:World}{hy:List F.Hy}{a:As}{vh vp:Value}{ts:List F.HyC}(h:ScT N1 W hy a vh vp ts)(hn:N0≤N1):ScT N0 W hy a vh vp ts :=
 ⟨⟨S.M.qp h.t.own hn,fun y hy=>S.M.qp (h.t.e y hy) hn,h.t.ap⟩,h.h,S.M.qp h.p hn⟩
theorem at_in (h:xg N w lb txt k L nf m)(i:Nat)(x:AsC)(hx:m.ax[i]?=some x)(hi:qa8 L.hy x.a) :
  Calls Tryz.prog 16 #[.pointer (some ⟨m.Bb,0,none⟩),.int .i64 i] w fun e w'=>Below w.heap.size w w'∧∃v1 v2 v3 v4 v5 v6 ts us,e=.returned (.tuple #[.agg (atV i x.a v1 v2 v3 v4 v5 v6),.int .i64 0])∧AtT w.heap.size w' L.hy x.a v1 v2 v3 v4 v5 v6 ts us:=by
 obtain⟨R,hR⟩:=eXb w.heap.size;have HR:=hid hR;rw[hR];obtain⟨w1,hw1⟩:=eXa (w.alloc (.cells #[.int .i64 0,.string ⟨#[]⟩,.bool false,.slice none 0 0,.slice none 0 0,.slice none 0 0,.slice none 0 0,.slice none 0 0,.slice none 0 0,.string ⟨#[]⟩,.int .i64 0,.int .i64 0,.int .i64 0,.string ⟨#[]⟩,.int .i64 0,.int .i64 0,.int .i64 0] 51));have HW1:=hid hw1;have b1:Below w.heap.size w w1:=by rw[hw1];exact S.qg _ _
 have k1:w1.heap[R]?=some (.cells #[.int .i64 0,.string ⟨#[]⟩,.bool false,.slice none 0 0,.slice none 0 0,.slice none 0 0,.slice none 0 0,.slice none 0 0,.slice none 0 0,.string ⟨#[]⟩,.int .i64 0,.int .i64 0,.int .i64 0,.string ⟨#[]⟩,.int .i64 0,.int .i64 0,.int .i64 0] 51 (0,0)):=by rw[hw1,←hR];exact World.alloc_heap_new w _
 have s1:w1.heap.size=R + 1:=by rw[hw1];simp[hR]
 have h1:=h.below b1;have CT:Hid _:=count_any h1;have hlen:m.ax.length=L.al.length:=by rw[←h.asa,lMa]
 have hin:i < L.al.length:=by rw[←hlen];exact (List.getElem?_eq_some_iff.1 hx).1
 have hrow:=h1.asr;obtain⟨g,ca,ea,_,_,_⟩:=S.M.q0h hrow (by omega);have b5:w1.cell? ⟨m.Bb,5,none⟩=some m.va:=S.M.qc h1.bbox 5;rw[ea] at hrow b5;have hok:=(h.cold.a x (mGe hx)).1;obtain⟨ag,cg,eg,_⟩:=S.ql hok.g;obtain⟨an,cn,en,_⟩:=S.ql hok.n;obtain⟨ap,cp,ep,_⟩:=S.ql hok.p;obtain⟨aa,cc,ec,_⟩:=S.ql hok.a;obtain⟨aq,cq,eq,_⟩:=S.ql hok.q;obtain⟨af,cf,ef,_⟩:=S.ql hok.f;have hAC:asC x=[.string x.a.label.text,.int .i64 x.a.label.off,.int .i64 x.a.label.line,.int .i64 x.a.label.col,.bool x.a.thm,.slice ag x.a.goal.length cg,.slice an x.a.needed.length cn,.slice ap x.a.apart.length cp,.slice aa x.a.active.length cc,.slice aq x.a.pairs.length cq,.slice af x.a.proof.length cf,.string x.a.fin.text,.int .i64 x.a.fin.off,.int .i64 x.a.fin.line,.int .i64 x.a.fin.col]:=by unfold asC;rw[eg,en,ep,ec,eq,ef]
 have hAA:asA x=#[.string x.a.label.text,.int .i64 x.a.label.off,.int .i64 x.a.label.line,.int .i64 x.a.label.col,.bool x.a.thm,.slice ag x.a.goal.length cg,.slice an x.a.needed.length cn,.slice ap x.a.apart.length cp,.slice aa x.a.active.length cc,.slice aq x.a.pairs.length cq,.slice af x.a.proof.length cf,.string x.a.fin.text,.int .i64 x.a.fin.off,.int .i64 x.a.fin.line,.int .i64 x.a.fin.col]:=by unfold asA;rw[eg,en,ep,ec,eq,ef]
 have y:∀j,j < 15→∀u,(asC x)[j]?=some u→w1.cell? ⟨g,i * 15 + j,none⟩=some u:=fun j hj u hu=>by
  obtain⟨ad,e,h0⟩:=F.q29 hrow (i * 15 + j) u ((qgs m.ax i j x hx hj).trans hu)
  cases e;rw[Addr.add_lit,Nat.zero_add] at h0;exact h0
 have yr:Hid (w1.rangeAt g (i * 15) [.string x.a.label.text,.int .i64 x.a.label.off,.int .i64 x.a.label.line,.int .i64 x.a.label.col,.bool x.a.thm,.slice ag x.a.goal.length cg,.slice an x.a.needed.length cn,.slice ap x.a.apart.length cp,.slice aa x.a.active.length cc,.slice aq x.a.pairs.length cq,.slice af x.a.proof.length cf,.string x.a.fin.text,.int .i64 x.a.fin.off,.int .i64 x.a.fin.line,.int .i64 x.a.fin.col]):=fun j v hv=>y j (by have:=(List.getElem?_eq_some_iff.1 hv).1;simpa using this) v (by rw[hAC];exact hv)
 obtain⟨Q,hQ⟩:=eXb w1.heap.size;obtain⟨w2,hw2⟩:=eXa ((w1.alloc (.cells #[.string ⟨#[]⟩,.int .i64 0,.int .i64 0,.int .i64 0,.bool false,.slice none 0 0,.slice none 0 0,.slice none 0 0,.slice none 0 0,.slice none 0 0,.slice none 0 0,.string ⟨#[]⟩,.int .i64 0,.int .i64 0,.int .i64 0] 123)).setCells Q 0 (#[.string x.a.label.text,.int .i64 x.a.label.off,.int .i64 x.a.label.line,.int .i64 x.a.label.col,.bool x.a.thm,.slice ag x.a.goal.length cg,.slice an x.a.needed.length cn,.slice ap x.a.apart.length cp,.slice aa x.a.active.length cc,.slice aq x.a.pairs.length cq,.slice af x.a.proof.length cf,.string x.a.fin.text,.int .i64 x.a.fin.off,.int .i64 x.a.fin.line,.int .i64 x.a.fin.col]:Array Value).toList);have HW2:=hid hw2;have kq0:(w1.alloc (.cells #[.string ⟨#[]⟩,.int .i64 0,.int .i64 0,.int .i64 0,.bool false,.slice none 0 0,.slice none 0 0,.slice none 0 0,.slice none 0 0,.slice none 0 0,.slice none 0 0,.string ⟨#[]⟩,.int .i64 0,.int .i64 0,.int .i64 0] 123)).heap[Q]?=some (.cells #[.string ⟨#[]⟩,.int .i64 0,.int .i64 0,.int .i64 0,.bool false,.slice none 0 0,.slice none 0 0,.slice none 0 0,.slice none 0 0,.slice none 0 0,.slice none 0 0,.string ⟨#[]⟩,.int .i64 0,.int .i64 0,.int .i64 0] 123 (0,0)):=by rw[←hQ];exact World.alloc_heap_new w1 _
 have k2:w2.heap[Q]?=some (.cells #[.string x.a.label.text,.int .i64 x.a.label.off,.int .i64 x.a.label.line,.int .i64 x.a.label.col,.bool x.a.thm,.slice ag x.a.goal.length cg,.slice an x.a.needed.length cn,.slice ap x.a.apart.length cp,.slice aa x.a.active.length cc,.slice aq x.a.pairs.length cq,.slice af x.a.proof.length cf,.string x.a.fin.text,.int .i64 x.a.fin.off,.int .i64 x.a.fin.line,.int .i64 x.a.fin.col] 123 (0,0)):=by rw[hw2];exact S.q1f Q 123 [.string x.a.label.text,.int .i64 x.a.label.off,.int .i64 x.a.label.line,.int .i64 x.a.label.col,.bool x.a.thm,.slice ag x.a.goal.length cg,.slice an x.a.needed.length cn,.slice ap x.a.apart.length cp,.slice aa x.a.active.length cc,.slice aq x.a.pairs.length cq,.slice af x.a.proof.length cf,.string x.a.fin.text,.int .i64 x.a.fin.off,.int .i64 x.a.fin.line,.int .i64 x.a.fin.col] [] [.string ⟨#[]⟩,.int .i64 0,.int .i64 0,.int .i64 0,.bool false,.slice none 0 0,.slice none 0 0,.slice none 0 0,.slice none 0 0,.slice none 0 0,.slice none 0 0,.string ⟨#[]⟩,.int .i64 0,.int .i64 0,.int .i64 0] _ kq0 rfl
 have ch2:S.M.Ch (fun b=>b=Q) (w1.alloc (.cells #[.string ⟨#[]⟩,.int .i64 0,.int .i64 0,.int .i64 0,.bool false,.slice none 0 0,.slice none 0 0,.slice none 0 0,.slice none 0 0,.slice none 0 0,.slice none 0 0,.string ⟨#[]⟩,.int .i64 0,.int .i64 0,.int .i64 0] 123)) w2:=by rw[hw2];exact F.q77 Q _ 0 _
 have b12:Below w1.heap.size w1 w2:=(S.qg w1 _).trans (ch2.below (by simp) fun b e=>by omega);have s2:w2.heap.size≥Q + 1:=by have:=(aIx k2);omega
 have b2:Below w.heap.size w w2:=b1.trans (b12.mono b1.size);have kr:w2.heap[R]?=some (.cells #[.int .i64 0,.string ⟨#[]⟩,.bool false,.slice none 0 0,.slice none 0 0,.slice none 0 0,.slice none 0 0,.slice none 0 0,.slice none 0 0,.string ⟨#[]⟩,.int .i64 0,.int .i64 0,.int .i64 0,.string ⟨#[]⟩,.int .i64 0,.int .i64 0,.int .i64 0] 51 (0,0)):=(b12.block R (by omega)).trans k1;have SA:Hid (∀wx,Below w2.heap.size w2 wx→(fun w'=>w'.cell? ⟨Q,0,none⟩=some (.string x.a.label.text)∧w'.cell? ⟨Q,1,none⟩=some (.int .i64 x.a.label.off)∧w'.cell? ⟨Q,2,none⟩=some (.int .i64 x.a.label.line)∧w'.cell? ⟨Q,3,none⟩=some (.int .i64 x.a.label.col)∧w'.cell? ⟨Q,4,none⟩=some (.bool x.a.thm)∧w'.cell? ⟨Q,5,none⟩=some (.slice ag x.a.goal.length cg)∧w'.cell? ⟨Q,6,none⟩=some (.slice an x.a.needed.length cn)∧w'.cell? ⟨Q,7,none⟩=some (.slice ap x.a.apart.length cp)∧w'.cell? ⟨Q,8,none⟩=some (.slice aa x.a.active.length cc)∧w'.cell? ⟨Q,9,none⟩=some (.slice aq x.a.pairs.length cq)∧w'.cell? ⟨Q,10,none⟩=some (.slice af x.a.proof.length cf)∧w'.cell? ⟨Q,11,none⟩=some (.string x.a.fin.text)∧w'.cell? ⟨Q,12,none⟩=some (.int .i64 x.a.fin.off)∧w'.cell? ⟨Q,13,none⟩=some (.int .i64 x.a.fin.line)∧w'.cell? ⟨Q,14,none⟩=some (.int .i64 x.a.fin.col)) wx):=fun wx hb=>by
  have kx:=(hb.block Q (by omega)).trans k2;exact⟨S.M.qc kx 0,S.M.qc kx 1,S.M.qc kx 2,S.M.qc kx 3,S.M.qc kx 4,S.M.qc kx 5,S.M.qc kx 6,S.M.qc kx 7,S.M.qc kx 8,S.M.qc kx 9,S.M.qc kx 10,S.M.qc kx 11,S.M.qc kx 12,S.M.qc kx 13,S.M.qc kx 14⟩
 have SR:Hid (∀wx,Below w2.heap.size w2 wx→wx.heap[R]?=some (.cells #[.int .i64 0,.string ⟨#[]⟩,.bool false,.slice none 0 0,.slice none 0 0,.slice none 0 0,.slice none 0 0,.slice none 0 0,.slice none 0 0,.string ⟨#[]⟩,.int .i64 0,.int .i64 0,.int .i64 0,.string ⟨#[]⟩,.int .i64 0,.int .i64 0,.int .i64 0] 51 (0,0))):=fun wx hb=>(hb.block R (by omega)).trans kr
 have own:∀wx,Below w2.heap.size w2 wx→Below w.heap.size w wx:=fun wx hb=>b2.trans (hb.mono b2.size)
 have C1:Hid (∀wx,Below w2.heap.size w2 wx→Calls Tryz.prog 65 #[.pointer (some ⟨m.Bb,0,none⟩),.agg #[.string x.a.label.text,.int .i64 x.a.label.off,.int .i64 x.a.label.line,.int .i64 x.a.label.col,.bool x.a.thm,.slice ag x.a.goal.length cg,.slice an x.a.needed.length cn,.slice ap x.a.apart.length cp,.slice aa x.a.active.length cc,.slice aq x.a.pairs.length cq,.slice af x.a.proof.length cf,.string x.a.fin.text,.int .i64 x.a.fin.off,.int .i64 x.a.fin.line,.int .i64 x.a.fin.col]] wx fun e w'=>Below wx.heap.size wx w'∧∃vh vp vg ts,e=.returned (.agg #[vh,vp,vg])∧FrT wx.heap.size w' L.hy x.a vh vp vg ts):=fun wx hb=>by
  rw[←hAA];exact qgo (h.below (own wx hb)) x (hok.ch (S.M.Ch.oB (X:=fun _=>False) (own wx hb)) fun _ _ e=>e) hi
 have C2:Hid (∀wx,Below w2.heap.size w2 wx→Calls Tryz.prog 66 #[.pointer (some ⟨m.Bb,0,none⟩),.agg #[.string x.a.label.text,.int .i64 x.a.label.off,.int .i64 x.a.label.line,.int .i64 x.a.label.col,.bool x.a.thm,.slice ag x.a.goal.length cg,.slice an x.a.needed.length cn,.slice ap x.a.apart.length cp,.slice aa x.a.active.length cc,.slice aq x.a.pairs.length cq,.slice af x.a.proof.length cf,.string x.a.fin.text,.int .i64 x.a.fin.off,.int .i64 x.a.fin.line,.int .i64 x.a.fin.col]] wx fun e w'=>Below wx.heap.size wx w'∧∃vh vp ts,e=.returned (.agg #[vh,vp])∧ScT wx.heap.size w' L.hy x.a vh vp ts):=fun wx hb=>by
  rw[←hAA];exact qgp (h.below (own wx hb)) x (hok.ch (S.M.Ch.oB (X:=fun _=>False) (own wx hb)) fun _ _ e=>e) hi
 have C3:Hid (∀wx,Below w2.heap.size w2 wx→Calls Tryz.prog 67 #[.slice af x.a.proof.length cf] wx fun e w'=>∃v',e=.returned v'∧w'.ownsRow wx.heap.size 36 4 v' x.a.proof.length (S.rowT x.a.proof)∧Below wx.heap.size wx w'):=fun wx hb=>by
  rw[←ef];exact qja wx N _ _ _ rfl (by have:=hi.f;omega) (hok.ch (S.M.Ch.oB (X:=fun _=>False) (own wx hb)) fun _ _ e=>e).f
 have LQ:Hid (Q < w2.heap.size):=by show Q < _;omega
 have BA:Hid (Below R w w2∧R + 1≤w2.heap.size∧R < Q):=⟨by rw[←hR];exact b2,by omega,by omega⟩;have i0:¬(i:Int) < 0:=by omega
 have i00:(0:Int)≤(i:Int):=by omega
 have i1:¬(L.al.length:Int)≤(i:Int):=by omega
 obtain⟨na,hna⟩:=eXb L.al.length;rw[hlen,hna] at b5;rw[hna] at i1 CT;have i2:(i:Int) < (na:Int):=by omega
 generalize m.Bb=Bb at *;have KQ:=hid kq0;clear s1 hw1 b1 k1 h1 hlen hin hrow y ea hAA hAC eg en ep ec eq ef hw2 kq0 k2 ch2 b12 b2 s2 kr own hok hx hi h hna;go_enter Tryz.func16,Tryz.ntmps16;go_upto_region 1 with fail;rw[←HW1.out];clear HW1;go_wp2_with fail;refine cMo CT.out ?_;rintro e wz ⟨rfl,hwz⟩;subst wz;clear CT;go_upto_region 3 with fail;refine wp_region_list ?_;refine wpList_plain rfl fun K hK=>?_
 go_simp;refine hK _ _ ?_;clear hK K;refine wpList_plain rfl fun K hK=>?_
 go_simp;refine hK _ _ ?_;clear hK K;refine wpList_plain rfl fun K hK=>?_
 go_simp;refine hK _ _ ?_;clear hK K;refine wpList_plain rfl fun K hK=>?_
 go_simp;refine hK _ _ ?_;clear hK K;refine wpList_plain rfl fun K hK=>?_
 go_simp;refine hK _ _ ?_;clear hK K;refine wpList_plain rfl fun K hK=>?_
 go_simp;refine hK _ _ ?_;clear hK K;refine wpList_load_mid rfl 123 _ rfl g (i * 15) rfl [.string x.a.label.text,.int .i64 x.a.label.off,.int .i64 x.a.label.line,.int .i64 x.a.label.col,.bool x.a.thm,.slice ag x.a.goal.length cg,.slice an x.a.needed.length cn,.slice ap x.a.apart.length cp,.slice aa x.a.active.length cc,.slice aq x.a.pairs.length cq,.slice af x.a.proof.length cf,.string x.a.fin.text,.int .i64 x.a.fin.off,.int .i64 x.a.fin.line,.int .i64 x.a.fin.col] _ yr.out Tryz.underlying123 rfl (by kernel_rfl) ?_;refine wpList_plain rfl fun K hK=>?_
 go_simp;refine hK _ _ ?_;clear hK K
 try rw[hQ]
 refine wpList_store_mid rfl 123 _ _ rfl Q 0 #[.string x.a.label.text,.int .i64 x.a.label.off,.int .i64 x.a.label.line,.int .i64 x.a.label.col,.bool x.a.thm,.slice ag x.a.goal.length cg,.slice an x.a.needed.length cn,.slice ap x.a.apart.length cp,.slice aa x.a.active.length cc,.slice aq x.a.pairs.length cq,.slice af x.a.proof.length cf,.string x.a.fin.text,.int .i64 x.a.fin.off,.int .i64 x.a.fin.line,.int .i64 x.a.fin.col] rfl rfl (show (w1.alloc (.cells #[.string ⟨#[]⟩,.int .i64 0,.int .i64 0,.int .i64 0,.bool false,.slice none 0 0,.slice none 0 0,.slice none 0 0,.slice none 0 0,.slice none 0 0,.slice none 0 0,.string ⟨#[]⟩,.int .i64 0,.int .i64 0,.int .i64 0] 123)).there Q 0 15 from S.q3d (cs:=#[.string ⟨#[]⟩,.int .i64 0,.int .i64 0,.int .i64 0,.bool false,.slice none 0 0,.slice none 0 0,.slice none 0 0,.slice none 0 0,.slice none 0 0,.slice none 0 0,.string ⟨#[]⟩,.int .i64 0,.int .i64 0,.int .i64 0]) (t:=123) KQ.out) (by kernel_rfl) (by simp[Value.oneCell']) ?_;rw[←HW2.out];go_upto_region 4 with fail;clear HW2 b5 hQ hR KQ yr;have BD:Hid (Below w2.heap.size w2 w2.drew):=S.M.zi bRf 1;refine wp_region_held_drew (S:=fun w'=>w'.cell? ⟨Q,0,none⟩=some (.string x.a.label.text)∧w'.cell? ⟨Q,1,none⟩=some (.int .i64 x.a.label.off)∧w'.cell? ⟨Q,2,none⟩=some (.int .i64 x.a.label.line)∧w'.cell? ⟨Q,3,none⟩=some (.int .i64 x.a.label.col)∧w'.cell? ⟨Q,4,none⟩=some (.bool x.a.thm)∧w'.cell? ⟨Q,5,none⟩=some (.slice ag x.a.goal.length cg)∧w'.cell? ⟨Q,6,none⟩=some (.slice an x.a.needed.length cn)∧w'.cell? ⟨Q,7,none⟩=some (.slice ap x.a.apart.length cp)∧w'.cell? ⟨Q,8,none⟩=some (.slice aa x.a.active.length cc)∧w'.cell? ⟨Q,9,none⟩=some (.slice aq x.a.pairs.length cq)∧w'.cell? ⟨Q,10,none⟩=some (.slice af x.a.proof.length cf)∧w'.cell? ⟨Q,11,none⟩=some (.string x.a.fin.text)∧w'.cell? ⟨Q,12,none⟩=some (.int .i64 x.a.fin.off)∧w'.cell? ⟨Q,13,none⟩=some (.int .i64 x.a.fin.line)∧w'.cell? ⟨Q,14,none⟩=some (.int .i64 x.a.fin.col)) (by kernel_rfl) ?_ (fun hZ=>?_)
 ·exact SA.out _ BD.out
 refine tkq 0 hZ ?_;refine tkq 1 hZ ?_;refine tkq 2 hZ ?_;refine tkq 3 hZ ?_;refine tkq 4 hZ ?_;refine tkq 5 hZ ?_;refine tkq 6 hZ ?_;refine tkq 7 hZ ?_;refine tkq 9 hZ ?_;refine tkq 10 hZ ?_;refine tkq 12 hZ ?_;refine tkq 13 hZ ?_;refine tkq 15 hZ ?_;refine tkq 16 hZ ?_;refine tkq 17 hZ ?_;refine tkq 18 hZ ?_;refine rkq 8 fun K hK=>?_
 go_simp;go_at_call 65;refine cMo (C1.out _ BD.out) ?_;rintro ee w3 ⟨hb3,v1,v2,v3,ts,rfl,ht3⟩;have B3:=bTr BD hb3;have T3:Hid (FrT w2.heap.size w3 L.hy x.a v1 v2 v3 ts):=ht3.low BD.out.size;clear hb3 ht3;refine aQq hK ?_ fun hZ_8=>?_
 ·exact SA.out _ B3.out
 clear hK K;refine rkq 11 fun K hK=>?_
 go_simp;go_at_call 66;refine cMo (C2.out _ B3.out) ?_;rintro ee w4 ⟨hb4,v4,v5,us,rfl,ht4⟩;have D4:=hid hb4;have B4:=bTr B3 hb4;have T4:=hid ht4;clear hb4 ht4;refine aQq hK ?_ fun hZ_11=>?_
 ·exact SA.out _ B4.out
 clear hK K;refine rkq 14 fun K hK=>?_
 go_simp;go_at_call 67;refine cMo (C3.out _ B4.out) ?_;rintro ee w5 ⟨v6,rfl,ho5,hb5⟩;have D5:=hid hb5;have B5:=bTr B4 hb5;have O5:=hid ho5;clear hb5 ho5;obtain⟨a1,n1,q1,rfl⟩:∃a n c,v1=.slice a n c:=by (obtain⟨a,c,e,_⟩:=S.ql T3.out.t.own;exact⟨a,_,c,e⟩)
 obtain⟨a2,n2,q2,rfl⟩:∃a n c,v2=.slice a n c:=by (obtain⟨a,c,e,_⟩:=S.ql T3.out.p;exact⟨a,_,c,e⟩)
 obtain⟨a3,n3,q3,rfl⟩:∃a n c,v3=.slice a n c:=by (obtain⟨a,c,e,_⟩:=S.ql T3.out.g;exact⟨a,_,c,e⟩)
 obtain⟨a4,n4,q4,rfl⟩:∃a n c,v4=.slice a n c:=by (obtain⟨a,c,e,_⟩:=S.ql T4.out.t.own;exact⟨a,_,c,e⟩)
 obtain⟨a5,n5,q5,rfl⟩:∃a n c,v5=.slice a n c:=by (obtain⟨a,c,e,_⟩:=S.ql T4.out.p;exact⟨a,_,c,e⟩)
 obtain⟨a6,n6,q6,rfl⟩:∃a n c,v6=.slice a n c:=by (obtain⟨a,c,e,_⟩:=S.ql O5.out;exact⟨a,_,c,e⟩)
 refine aQq hK ?_ fun hZ_14=>?_
 ·exact SA.out _ B5.out
 clear hK K;refine tkq 19 hZ_14 ?_;refine rkq 20 fun K hK=>?_
 have kR:=SR.out _ B5.out;refine wp_store_mid 51 _ _ rfl R 0 #[.int .i64 (i:Nat),.string x.a.label.text,.bool x.a.thm,.slice a1 n1 q1,.slice a2 n2 q2,.slice a3 n3 q3,.slice a4 n4 q4,.slice a5 n5 q5,.slice a6 n6 q6,.string x.a.label.text,.int .i64 x.a.label.off,.int .i64 x.a.label.line,.int .i64 x.a.label.col,.string x.a.fin.text,.int .i64 x.a.fin.off,.int .i64 x.a.fin.line,.int .i64 x.a.fin.col] rfl rfl (show w5.there R 0 17 from S.q3d (cs:=#[.int .i64 0,.string ⟨#[]⟩,.bool false,.slice none 0 0,.slice none 0 0,.slice none 0 0,.slice none 0 0,.slice none 0 0,.slice none 0 0,.string ⟨#[]⟩,.int .i64 0,.int .i64 0,.int .i64 0,.string ⟨#[]⟩,.int .i64 0,.int .i64 0,.int .i64 0]) (t:=51) kR) (by kernel_rfl) (by simp[Value.oneCell']) ?_;obtain⟨w9,hw9⟩:=eXa (w5.setCells R 0 (#[.int .i64 (i:Nat),.string x.a.label.text,.bool x.a.thm,.slice a1 n1 q1,.slice a2 n2 q2,.slice a3 n3 q3,.slice a4 n4 q4,.slice a5 n5 q5,.slice a6 n6 q6,.string x.a.label.text,.int .i64 x.a.label.off,.int .i64 x.a.label.line,.int .i64 x.a.label.col,.string x.a.fin.text,.int .i64 x.a.fin.off,.int .i64 x.a.fin.line,.int .i64 x.a.fin.col]:Array Value).toList);have K9:Hid (w9.heap[R]?=some (.cells #[.int .i64 (i:Nat),.string x.a.label.text,.bool x.a.thm,.slice a1 n1 q1,.slice a2 n2 q2,.slice a3 n3 q3,.slice a4 n4 q4,.slice a5 n5 q5,.slice a6 n6 q6,.string x.a.label.text,.int .i64 x.a.label.off,.int .i64 x.a.label.line,.int .i64 x.a.label.col,.string x.a.fin.text,.int .i64 x.a.fin.off,.int .i64 x.a.fin.line,.int .i64 x.a.fin.col] 51 (0,0))):=by (show _=_;rw[hw9];exact S.q1f R 51 [.int .i64 (i:Nat),.string x.a.label.text,.bool x.a.thm,.slice a1 n1 q1,.slice a2 n2 q2,.slice a3 n3 q3,.slice a4 n4 q4,.slice a5 n5 q5,.slice a6 n6 q6,.string x.a.label.text,.int .i64 x.a.label.off,.int .i64 x.a.label.line,.int .i64 x.a.label.col,.string x.a.fin.text,.int .i64 x.a.fin.off,.int .i64 x.a.fin.line,.int .i64 x.a.fin.col] [] [.int .i64 0,.string ⟨#[]⟩,.bool false,.slice none 0 0,.slice none 0 0,.slice none 0 0,.slice none 0 0,.slice none 0 0,.slice none 0 0,.string ⟨#[]⟩,.int .i64 0,.int .i64 0,.int .i64 0,.string ⟨#[]⟩,.int .i64 0,.int .i64 0,.int .i64 0] w5 kR rfl)
 have ch9:S.M.Ch (fun b=>b=R) w5 w9:=by (rw[hw9];exact F.q77 R _ 0 w5)
 have S9:Hid ((fun w'=>w'.cell? ⟨Q,0,none⟩=some (.string x.a.label.text)∧w'.cell? ⟨Q,1,none⟩=some (.int .i64 x.a.label.off)∧w'.cell? ⟨Q,2,none⟩=some (.int .i64 x.a.label.line)∧w'.cell? ⟨Q,3,none⟩=some (.int .i64 x.a.label.col)∧w'.cell? ⟨Q,4,none⟩=some (.bool x.a.thm)∧w'.cell? ⟨Q,5,none⟩=some (.slice ag x.a.goal.length cg)∧w'.cell? ⟨Q,6,none⟩=some (.slice an x.a.needed.length cn)∧w'.cell? ⟨Q,7,none⟩=some (.slice ap x.a.apart.length cp)∧w'.cell? ⟨Q,8,none⟩=some (.slice aa x.a.active.length cc)∧w'.cell? ⟨Q,9,none⟩=some (.slice aq x.a.pairs.length cq)∧w'.cell? ⟨Q,10,none⟩=some (.slice af x.a.proof.length cf)∧w'.cell? ⟨Q,11,none⟩=some (.string x.a.fin.text)∧w'.cell? ⟨Q,12,none⟩=some (.int .i64 x.a.fin.off)∧w'.cell? ⟨Q,13,none⟩=some (.int .i64 x.a.fin.line)∧w'.cell? ⟨Q,14,none⟩=some (.int .i64 x.a.fin.col)) w9):=by (have hb:=ch9.block Q (by have:=B5.out.size;have:=LQ.out;omega) (by have:=BA.out.2.2;omega);have hs:=SA.out _ B5.out;have o:∀j,w9.cell? ⟨Q,j,none⟩=w5.cell? ⟨Q,j,none⟩:=(fun j=>World.cell?_of_block (a:=⟨Q,j,none⟩) hb);simp only[←o] at hs;exact hs)
 have FI:Hid (Below R w w9∧AtT R w9 L.hy x.a (.slice a1 n1 q1) (.slice a2 n2 q2) (.slice a3 n3 q3) (.slice a4 n4 q4) (.slice a5 n5 q5) (.slice a6 n6 q6) ts us):=by (have sz:=BA.out;have s3:=B3.out.size;have s4:=D4.out.size;have s5:=D5.out.size;have T3':=((T3.out.ch (S.M.Ch.oB (X:=fun _=>False) D4.out) fun _ _ e=>e).ch (S.M.Ch.oB (X:=fun _=>False) D5.out) fun _ _ e=>e).ch ch9 (fun b hb e=>by omega);have T4':=(T4.out.ch (S.M.Ch.oB (X:=fun _=>False) D5.out) fun _ _ e=>e).ch ch9 (fun b hb e=>by omega);have O5':=S.M.qh O5.out ch9 (fun b hb e=>by have:=S.M.zf O5.out b hb;omega);refine⟨(BA.out.1.trans (B5.out.mono (by omega))).trans (ch9.below (by have:=B5.out.size;omega) fun b e=>by omega),⟨T3'.low (by omega),T4'.low (by omega),S.M.qp O5' (by omega),(fun b hb e=>by have h1:=S.M.jr T3.out.t.own b hb;have h2:=S.M.zf T4.out.t.own b e;omega),(fun b hb e=>by have h1:=S.M.jr T3.out.p b hb;have h2:=S.M.zf T4.out.p b e;omega),fun z hz b hb=>⟨(fun e=>by have h1:=S.M.jr T3.out.g b e;have h2:=S.M.zf (T4.out.t.e z hz) b hb;omega),fun y hy e=>by have h1:=S.M.jr (T3.out.t.e y hy) b e;have h2:=S.M.zf (T4.out.t.e z hz) b hb;omega⟩⟩⟩)
 rw[←hw9];clear hw9 ch9 kR;refine hK.out _ _ ?_ (fun hZ_20=>?_)
 ·exact S9.out
 clear hK K
 try simp only[Act.put]
 refine tkq 21 hZ_20 ?_;refine wpAnyH_done (by kernel_rfl) ?_ _;have z0:w9.cell? ⟨R,0,none⟩=some (.int .i64 (i:Nat)):=S.M.qc K9.out 0;have z1:w9.cell? ⟨R,1,none⟩=some (.string x.a.label.text):=S.M.qc K9.out 1;have z2:w9.cell? ⟨R,2,none⟩=some (.bool x.a.thm):=S.M.qc K9.out 2;have z3:w9.cell? ⟨R,3,none⟩=some (.slice a1 n1 q1):=S.M.qc K9.out 3;have z4:w9.cell? ⟨R,4,none⟩=some (.slice a2 n2 q2):=S.M.qc K9.out 4;have z5:w9.cell? ⟨R,5,none⟩=some (.slice a3 n3 q3):=S.M.qc K9.out 5;have z6:w9.cell? ⟨R,6,none⟩=some (.slice a4 n4 q4):=S.M.qc K9.out 6;have z7:w9.cell? ⟨R,7,none⟩=some (.slice a5 n5 q5):=S.M.qc K9.out 7;have z8:w9.cell? ⟨R,8,none⟩=some (.slice a6 n6 q6):=S.M.qc K9.out 8;have z9:w9.cell? ⟨R,9,none⟩=some (.string x.a.label.text):=S.M.qc K9.out 9;have z10:w9.cell? ⟨R,10,none⟩=some (.int .i64 x.a.label.off):=S.M.qc K9.out 10;have z11:w9.cell? ⟨R,11,none⟩=some (.int .i64 x.a.label.line):=S.M.qc K9.out 11;have z12:w9.cell? ⟨R,12,none⟩=some (.int .i64 x.a.label.col):=S.M.qc K9.out 12;have z13:w9.cell? ⟨R,13,none⟩=some (.string x.a.fin.text):=S.M.qc K9.out 13;have z14:w9.cell? ⟨R,14,none⟩=some (.int .i64 x.a.fin.off):=S.M.qc K9.out 14;have z15:w9.cell? ⟨R,15,none⟩=some (.int .i64 x.a.fin.line):=S.M.qc K9.out 15;have z16:w9.cell? ⟨R,16,none⟩=some (.int .i64 x.a.fin.col):=S.M.qc K9.out 16;go_wp2_with fail;refine bodyPost_ret (v:=.tuple #[.agg #[.int .i64 (i:Nat),.string x.a.label.text,.bool x.a.thm,.slice a1 n1 q1,.slice a2 n2 q2,.slice a3 n3 q3,.slice a4 n4 q4,.slice a5 n5 q5,.slice a6 n6 q6,.string x.a.label.text,.int .i64 x.a.label.off,.int .i64 x.a.label.line,.int .i64 x.a.label.col,.string x.a.fin.text,.int .i64 x.a.fin.off,.int .i64 x.a.fin.line,.int .i64 x.a.fin.col],.int .i64 0]) (by simp[results,Tryz.results16,go_sem,z0,z1,z2,z3,z4,z5,z6,z7,z8,z9,z10,z11,z12,z13,z14,z15,z16];try rfl) rfl ?_;exact⟨FI.out.1,_,_,_,_,_,_,rfl,ts,us,FI.out.2⟩
end
end B
namespace B.V
open S (ql)
open Go.RowKit
open F hiding q0r q1r q1r.up q74 q5j
variable {tq:Nat} {isV:Int→Bool}
def q0r (tq:Nat):Value:=.func (.func 23) #[.pointer (some ⟨tq,0,none⟩)] #[]
def q1r (tq:Nat)(isV:Int→Bool)(w:World):Prop:=∀(wx:World) (n:Int),Below w.heap.size w wx→Calls Tryz.prog 23 #[.pointer (some ⟨tq,0,none⟩),.int .i64 n] wx fun e w'=>e=.returned (.bool (isV n))∧Below wx.heap.size wx w'
theorem q1r.up {tq:Nat}{isV:Int→Bool}{w w':World}(h:q1r tq isV w)(hb:Below w.heap.size w w'):q1r tq isV w':=fun wx n hx=>h wx n (hb.trans (hx.mono hb.size))
theorem q74 (w:World)(a:Option Addr)(n c:Nat)(l:List Int)(hl:l.length=n)(hn:n≤17592186043904)(hA:uj w a l)(hV:q1r tq isV w) :
  Calls Tryz.prog 180 #[.slice a n c,(q0r tq)] w fun e w'=>Below w.heap.size w w'∧∃a2 c2 m,e=.returned (.slice a2 m.length c2)∧uj w' a2 m∧m.length≤c2∧q2c (isV:=isV) l m:=by
 obtain⟨iN,hiN,iNz,iNs,iNb⟩:=info_parts q7l;have HA:=hid hA;have HL:=hid hl;have VA:=hid hV;obtain⟨N,hN⟩:=eXb w.heap.size;have HN:=hid hN;rw[hN];clear hA hl hN hV;unfold q0r;go_enter Tryz.func180,Tryz.ntmps180;go_wp2_with fail
 go_loopw [5,10] (fun v5 v10 wx=>∃j k:Nat,j≤n∧k≤j∧v10=.int .i64 j∧Hid (((l.take j).filter isV).length=k)∧Hid (wx.ownsRow N 3 1 v5 k (((l.take j).filter isV).map q5h))∧Hid (Below N w wx)) (fun _ v10 _=>n - (intOf v10).toNat)
 case atStart=>exact⟨0,0,Nat.zero_le _,Nat.zero_le _,rfl,rfl,World.ownsRow_nil _ _ _ _,bRf⟩
 case round =>
  obtain⟨j,k,hj,hkj,rfl,hK,hO,hB⟩:=hrel
  by_cases hlt:j < n
  ·have n1:(j:Int) < (n:Int):=by omega
   obtain⟨x,hx⟩:∃x,l[j]?=some x:=⟨_,gEq (by rw[HL.out];exact hlt)⟩;obtain⟨g,off,rfl,y0⟩:=(HA.out.under (by rw[HN.out];exact hB.out)) j x hx;have htk:l.take (j + 1)=l.take j++[x]:=by rw[List.take_add_one,hx];rfl
   have V1:Hid _:=VA.out wr x (by rw[HN.out];exact hB.out);have HNr:Hid (N≤wr.heap.size):=by have h1:=hB.out.size;have h2:=HN.out;show N≤_;omega
   cases e1:isV x with
   | false =>
    rw[e1] at V1;have hf:(l.take (j + 1)).filter isV=(l.take j).filter isV:=by rw[htk,List.filter_append];simp[e1]
    have K2:Hid (((l.take (j + 1)).filter isV).length=k):=by show _=_;rw[hf];exact hK.out
    have O2:Hid (wr.ownsRow N 3 1 u5 k (((l.take (j + 1)).filter isV).map q5h)):=by show World.ownsRow _ _ _ _ _ _ _;rw[hf];exact hO.out
    clear hf htk hx e1 hO hK;go_wp2_with fail;refine cMo V1.out ?_;rintro e w1 ⟨rfl,hb1⟩;have O3:Hid (w1.ownsRow N 3 1 u5 k (((l.take (j + 1)).filter isV).map q5h)):=S.M.qh O2.out (S.M.Ch.oB (X:=fun _=>False) hb1) fun _ _ e=>e
    have B1:Hid (Below N w w1):=hB.out.trans (hb1.mono HNr.out);clear hb1
    go_wp2
    exact⟨⟨j + 1,k,by omega,by omega,by go_num,K2.out,O3.out,B1.out⟩,by simp[intOf];omega⟩
   | true =>
    rw[e1] at V1;have hf:(l.take (j + 1)).filter isV=(l.take j).filter isV++[x]:=by rw[htk,List.filter_append];simp[e1]
    have K2:Hid (((l.take (j + 1)).filter isV).length=k + 1):=by show _=_;rw[hf,lAp,hK.out];rfl
    have HF:Hid (((l.take (j + 1)).filter isV).map q5h=((l.take j).filter isV).map q5h++[.int .i64 x]):=by show _=_;rw[hf,List.map_append];rfl
    clear hf htk hx e1 hK;go_wp2_with fail;refine cMo V1.out ?_;rintro e w1 ⟨rfl,hb1⟩;have HO1:Hid (w1.ownsRow N 3 1 u5 k (((l.take j).filter isV).map q5h)):=S.M.qh hO.out (S.M.Ch.oB (X:=fun _=>False) hb1) fun _ _ e=>e
    have HB1:Hid (Below N w w1):=hB.out.trans (hb1.mono HNr.out);have HN1:Hid (N≤w1.heap.size):=nLt HNr.out hb1.size;clear hb1 hO hB
    go_wp2_with (at_builtin;refine wpList_append_lies (w:=w1.alloc (.cells #[.int .i64 x] 3)) rfl _ _ 38 rfl N 3 iN _ 1 8 Tryz.underlying38 hiN iNz iNs iNb rfl (by decide) _ k (((l.take j).filter isV).map q5h) (by rfl) (S.M.zk HO1.out _) ⟨w1.heap.size,0,none⟩ 1 1 [.int .i64 x] (by rfl) (by rfl) (World.news_of_block (cs:=#[.int .i64 x]) (t:=3) (fr:=(0,0)) (heap_alloc_new w1 _)) (by simp[Value.oneCell']) (by omega) (by unfold maxLen;omega) (by omega) (nLt HN1.out (qo w1 _).size) _ rfl ?_;intro gg cap' w8 hown8 hgrow hat hlt8;have O8:Hid (w8.ownsRow N 3 1 (.slice (some ⟨gg,0,none⟩) (k + 1) cap') (k + 1) (((l.take (j + 1)).filter isV).map q5h)):=(by show World.ownsRow _ _ _ _ _ _ _;rw[HF.out];exact hown8);have B8:Hid (Below N w w8):=HB1.out.trans (((Below.refl _ w1).alloc HN1.out _).trans (bRf.grown hgrow (nLt HN1.out (qo w1 _).size) (S.M.zf HO1.out)));clear hown8 hgrow hat hlt8)
    exact⟨⟨j + 1,k + 1,by omega,by omega,by go_num,K2.out,O8.out,B8.out⟩,by simp[intOf];omega⟩
  ·have n1:¬(j:Int) < (n:Int):=by omega
   have hall:l.take j=l:=List.take_of_length_le (by rw[HL.out];omega);have hO2:=hO.out;have hK2:=hK.out;rw[hall] at hO2 hK2
   by_cases h0:k=0
   ·subst h0;obtain⟨a5,c5,rfl,_⟩:=ql hO2;have S1:Hid _:=Tryz.slices_Sort_int_none a5 c5 wr;have S2:Hid _:=Tryz.slices_Compact_int_empty a5 c5 wr;have HV:Hid (q2c (isV:=isV) l []):=by
     have he:l.filter isV=[]:=List.eq_nil_of_length_eq_zero hK2;refine⟨List.Pairwise.nil,fun x=>⟨(fun h=>by cases h),fun h=>?_⟩,Nat.zero_le _⟩;have hm:x ∈ l.filter isV:=List.mem_filter.2 h;rw[he] at hm;exact hm
    clear hO hO2 hK hK2 hall;go_wp2_with fail;refine cMo S1.out ?_;rintro e wz ⟨rfl,hwz⟩;subst wz;go_wp2_with fail;refine cMo S2.out ?_;rintro e wz ⟨rfl,hwz⟩;subst wz
    go_wp2
    go_ret
    exact⟨hB.out,a5,c5,[],rfl,(fun i x hi=>by simp at hi),Nat.zero_le _,HV.out⟩
   ·obtain⟨g,c5,rfl,hc5,hg5,_⟩:=S.M.q0h hO2 (by omega);obtain⟨ms,hms⟩:=eXb ((l.filter isV).mergeSort (fun x y=>decide (x≤y)));have hperm:ms.Perm (l.filter isV):=by rw[←hms];exact List.mergeSort_perm _ _
    have hml:ms.length=k:=by rw[hperm.length_eq,hK2]
    have S1:Hid _:=q6o wr N k g c5 (l.filter isV) hK2 (by omega) hO2;rw[hms] at S1;have HV:Hid (q2c (isV:=isV) l (Lib.compact ms)):=by
     obtain⟨h1,h2⟩:=q2y (q5i (l.filter isV));rw[hms] at h1 h2;refine⟨h1,fun x=>(h2 x).trans (hperm.mem_iff.trans List.mem_filter),?_⟩;have:=q2m ms
     rw[HL.out];omega
    have hle:=q2m ms;rw[hml] at hle;have HM:=hid hml;clear hO hO2 hK hK2 hall hms hperm hml;go_wp2_with fail;refine cMo S1.out ?_;rintro e w2 ⟨rfl,hb2,_,hH⟩;have B2:Hid (Below N w w2):=hB.out.trans hb2;have C1:Hid _:=q4p w2 N k g c5 ms HM.out (by omega) hc5 hg5 hH;clear S1 hb2 hH hB;generalize Lib.compact ms=m at *;go_wp2_with fail;refine cMo C1.out ?_;rintro e w3 ⟨rfl,hb3,hI⟩;have B3:Hid (Below N w w3):=B2.out.trans hb3;have HI:=hid hI;clear C1 hb3 hI;obtain⟨nm,hnm⟩:=eXb m.length;have HNM:Hid (m.length=nm∧nm≤c5):=⟨hnm,by omega⟩;rw[hnm];clear hnm hle
    go_wp2
    go_ret
    exact⟨B3.out,some ⟨g,0,none⟩,c5,m,by rw[HNM.out.1];rfl,HI.out,by rw[HNM.out.1];exact HNM.out.2,HV.out⟩
theorem q5j (w:World)(a:Option Addr)(n c:Nat)(l:List Int)(hl:l.length=n)(hn:n≤17592186043904)(hA:uj w a l)(hV:q1r tq isV w) :
  Calls Tryz.prog 126 #[.slice a n c,(q0r tq)] w fun e w'=>Below w.heap.size w w'∧∃a2 c2 m,e=.returned (.slice a2 m.length c2)∧uj w' a2 m∧m.length≤c2∧q2c (isV:=isV) l m:=by
 have P:Hid _:=q74 w a n c l hl hn hA hV;clear hA hV;unfold q0r at P ⊢;go_enter Tryz.func126,Tryz.ntmps126;go_wp2_with fail;refine cMo P.out ?_;rintro e w2 ⟨hb,a2,c2,m,rfl,h1,h2,h3⟩;have HB:Hid (Below w.heap.size w w2∧uj w2 a2 m∧m.length≤c2∧q2c (isV:=isV) l m):=⟨hb,h1,h2,h3⟩;clear hb h1 h2 h3 P;obtain⟨nm,hnm⟩:=eXb m.length;have HN:=hid hnm;rw[hnm];clear hnm
 go_wp2
 go_ret
 exact⟨HB.out.1,a2,c2,m,by rw[HN.out];rfl,HB.out.2.1,HB.out.2.2.1,HB.out.2.2.2⟩
end B.V
namespace B
open Go.RowKit
open S (Tok Stm)
section
variable {N:Nat} {w:World} {lb:Nat} {txt:ByteArray} {k:Nat} {L:Ld} {nf:ByteArray→Option Nat} {m:LdM}
theorem xg.base (h:xg N w lb txt k L nf m):w.cell? ⟨m.Bb,0,none⟩=some (.string txt)∧w.cell? ⟨m.Bb,1,none⟩=some (.pointer (some ⟨m.tq,0,none⟩))∧w.cell? ⟨m.Bb,2,none⟩=some (.map (some m.nb))∧w.cell? ⟨m.Bb,3,none⟩=some m.vh∧w.cell? ⟨m.Bb,4,none⟩=some (.map (some m.hb))∧w.cell? ⟨m.Bb,5,none⟩=some m.va∧w.cell? ⟨m.Bb,6,none⟩=some (.map (some m.ab)) :=
 ⟨S.M.qc h.bbox 0,S.M.qc h.bbox 1,S.M.qc h.bbox 2,S.M.qc h.bbox 3,S.M.qc h.bbox 4,S.M.qc h.bbox 5,S.M.qc h.bbox 6⟩
theorem q6w (h:xg N w lb txt k L nf m):Calls Tryz.prog 30 #[.pointer (some ⟨m.Bb,0,none⟩)] w fun e w'=>e=.returned (.int .i64 L.T.syms.length)∧w'=w:=by
 obtain⟨_,b1,_⟩:=h.base;have CT:=Y.count_any w _ _ _ _ h.tab;generalize m.tq=tq at *;replace CT:=show Hid _ from CT;clear h;go_enter Tryz.func30,Tryz.ntmps30;go_wp2_with fail;refine cMo CT.out ?_;rintro e wz ⟨rfl,hwz⟩;subst wz;clear CT
 go_wp2
 go_ret
 exact⟨rfl,rfl⟩
theorem qbx (h:xg N w lb txt k L nf m)(hT:L.T.syms.length≤4611686018427387904)(n:Int):Calls Tryz.prog 23 #[.pointer (some ⟨m.Bb,0,none⟩),.int .i64 n] w fun e w'=>e=.returned (.bool (zn L.T n))∧Below w.heap.size w w':=by
 obtain⟨_,b1,_⟩:=h.base;have CT:=Y.isVar_of w _ _ _ _ n hT h.tab;generalize m.tq=tq at *;replace CT:=show Hid _ from CT;clear h;go_enter Tryz.func23,Tryz.ntmps23;go_wp2_with fail;refine cMo CT.out ?_;rintro e w1 ⟨rfl,hb⟩;clear CT
 go_wp2
 go_ret
 exact⟨rfl,hb⟩
def q7g (T:Y.Tab)(n:Int):ByteArray:=Y.nameOf (Y.q31 T n)
theorem q9f (h:xg N w lb txt k L nf m)(hT:L.T.syms.length≤4611686018427387904)(n:Int):Calls Tryz.prog 32 #[.pointer (some ⟨m.Bb,0,none⟩),.int .i64 n] w fun e w'=>e=.returned (.string (q7g L.T n))∧Below w.heap.size w w':=by
 obtain⟨_,b1,_⟩:=h.base;have CT:=Y.name_of w _ _ _ _ n hT h.tab;generalize m.tq=tq at *;replace CT:=show Hid _ from CT;clear h;go_enter Tryz.func32,Tryz.ntmps32;go_wp2_with fail;refine cMo CT.out ?_;rintro e w1 ⟨rfl,hb⟩;clear CT
 go_wp2
 go_ret
 exact⟨rfl,hb⟩
end
open Go.RowKit Go.Maps Go.WideMaps
open F (HyC q03 q99 qem xw uf uj)
def qqj (T:Y.Tab)(goal:List Int)(ts:List HyC)(y:HyC):Bool:=(zn T y.h.var && (goal++q03 ts).contains y.h.var) || !y.h.fl
section
variable {N:Nat} {w:World} {lb:Nat} {txt:ByteArray} {k:Nat} {L:Ld} {nf:ByteArray→Option Nat} {m:LdM}
end
theorem AtT.ch {X:Nat→Prop}{N0:Nat}{W W':World}{hy:List F.Hy}{a:As}{v1 v2 v3 v4 v5 v6:Value}{ts us:List F.HyC}(h:AtT N0 W hy a v1 v2 v3 v4 v5 v6 ts us)(hc:S.M.Ch X W W')(hx:∀b,N0≤b→¬X b):AtT N0 W' hy a v1 v2 v3 v4 v5 v6 ts us :=
 ⟨h.fr.ch hc hx,h.sc.ch hc hx,S.M.qh h.f hc fun b e=>hx b (S.M.zf h.f b e),h.h2,h.p2,h.e2⟩
theorem AtT.low {N0 N1:Nat}{W:World}{hy:List F.Hy}{a:As}{v1 v2 v3 v4 v5 v6:Value}{ts us:List F.HyC}(h:AtT N1 W hy a v1 v2 v3 v4 v5 v6 ts us)(hn:N0≤N1):AtT N0 W hy a v1 v2 v3 v4 v5 v6 ts us :=
 ⟨h.fr.low hn,h.sc.low hn,S.M.qp h.f hn,h.h2,h.p2,h.e2⟩
theorem AtT.below {N0:Nat}{W W':World}{hy:List F.Hy}{a:As}{v1 v2 v3 v4 v5 v6:Value}{ts us:List F.HyC}(h:AtT N0 W hy a v1 v2 v3 v4 v5 v6 ts us)(hb:Below W.heap.size W W'):AtT N0 W' hy a v1 v2 v3 v4 v5 v6 ts us :=
 h.ch (S.M.Ch.oB (X:=fun _=>False) hb) fun _ _ e=>e
structure Parts (N0:Nat)(W:World)(hy:List F.Hy)(a:As)(a1 a2 a3 a4 a5 a6:Option Addr)(n1 n2 n3 n4 n5 n6 c1 c2 c3 c4 c5 c6:Nat)(ts us:List F.HyC):Prop where
 at':AtT N0 W hy a (.slice a1 n1 c1) (.slice a2 n2 c2) (.slice a3 n3 c3) (.slice a4 n4 c4) (.slice a5 n5 c5) (.slice a6 n6 c6) ts us
 l1:ts.length=n1
 l2:a.apart.length=n2
 l3:a.goal.length=n3
 l4:us.length=n4
 l5:a.pairs.length=n5
 l6:a.proof.length=n6
theorem AtT.parts {N0:Nat}{W:World}{hy:List F.Hy}{a:As}{v1 v2 v3 v4 v5 v6:Value}{ts us:List F.HyC}(h:AtT N0 W hy a v1 v2 v3 v4 v5 v6 ts us):∃a1 a2 a3 a4 a5 a6 n1 n2 n3 n4 n5 n6 c1 c2 c3 c4 c5 c6,v1=.slice a1 n1 c1∧v2=.slice a2 n2 c2∧v3=.slice a3 n3 c3∧v4=.slice a4 n4 c4∧v5=.slice a5 n5 c5∧v6=.slice a6 n6 c6∧Parts N0 W hy a a1 a2 a3 a4 a5 a6 n1 n2 n3 n4 n5 n6 c1 c2 c3 c4 c5 c6 ts us:=by
 obtain⟨a1,c1,e1,_⟩:=S.ql h.fr.t.own;obtain⟨a2,c2,e2,_⟩:=S.ql h.fr.p;obtain⟨a3,c3,e3,_⟩:=S.ql h.fr.g;obtain⟨a4,c4,e4,_⟩:=S.ql h.sc.t.own;obtain⟨a5,c5,e5,_⟩:=S.ql h.sc.p;obtain⟨a6,c6,e6,_⟩:=S.ql h.f;subst e1 e2 e3 e4 e5 e6;exact⟨_,_,_,_,_,_,_,_,_,_,_,_,_,_,_,_,_,_,rfl,rfl,rfl,rfl,rfl,rfl,h,rfl,rfl,rfl,rfl,rfl,rfl⟩
section
variable {N:Nat} {w:World} {lb:Nat} {txt:ByteArray} {k:Nat} {L:Ld} {nf:ByteArray→Option Nat} {m:LdM}
end
open Go.Maps Go.RowKit Go.WideMaps
open F (uj yw HyC Pp)
open S (Tok q0i Stm)
structure AsEq (p:Bool)(a b:As):Prop where
 thm:a.thm=b.thm
 goal:a.goal=b.goal
 needed:a.needed=b.needed
 apart:a.apart=b.apart
 active:a.active=b.active
 pairs:a.pairs=b.pairs
 lab:q67 p a.label b.label
 fin:q67 p a.fin b.fin
 proof:q57 p a.proof b.proof
structure qng (p:Bool)(L M:Ld):Prop where
 T:L.T=M.T
 hy:L.hy=M.hy
 al:L.al.length=M.al.length
 ass:∀(i:Nat) (a b:As),L.al[i]?=some a→M.al[i]?=some b→AsEq p a b
theorem Parts.lay {N0:Nat}{W:World}{hy:List F.Hy}{a:As}{a1 a2 a3 a4 a5 a6:Option Addr}{n1 n2 n3 n4 n5 n6 c1 c2 c3 c4 c5 c6:Nat}{ts us:List HyC}(hp:Parts N0 W hy a a1 a2 a3 a4 a5 a6 n1 n2 n3 n4 n5 n6 c1 c2 c3 c4 c5 c6 ts us):q66 W a1 ts∧yw W a2 a.apart∧uj W a3 a.goal∧q66 W a4 us∧yw W a5 a.pairs:=by
 obtain⟨b1,d1,e1,_,q1⟩:=qkt hp.at'.fr.t;obtain⟨b3,d3,e3,_,q3⟩:=F.q3n hp.at'.fr.g;obtain⟨b4,d4,e4,_,q4⟩:=qkt hp.at'.sc.t
 cases e1
 cases e3
 cases e4;exact⟨q1,F.q3v (l:=a.apart) (by have h2:=hp.at'.fr.p;rw[hp.l2] at h2;exact h2),q3,q4,F.q3v (l:=a.pairs) (by have h2:=hp.at'.sc.p;rw[hp.l5] at h2;exact h2)⟩
theorem at_same {p:Bool}{N0 N1 i:Nat}{W:World}{hy:List F.Hy}{a b:As}{v1 v2 v3 v4 v5 v6 u1 u2 u3 u4 u5 u6:Value}{ts us ts' us':List HyC}(h:AsEq p a b)(hi:qa8 hy a)(hA:AtT N0 W hy a v1 v2 v3 v4 v5 v6 ts us)(hB:AtT N1 W hy b u1 u2 u3 u4 u5 u6 ts' us') :
  Yes 39 #[.agg (atV i a v1 v2 v3 v4 v5 v6),.agg (atV i b u1 u2 u3 u4 u5 u6),.bool p] W:=by
 obtain⟨a1,a2,a3,a4,a5,a6,n1,n2,n3,n4,n5,n6,c1,c2,c3,c4,c5,c6,rfl,rfl,rfl,rfl,rfl,rfl,hp⟩:=hA.parts;obtain⟨b1,b2,b3,b4,b5,b6,k1,k2,k3,k4,k5,k6,d1,d2,d3,d4,d5,d6,rfl,rfl,rfl,rfl,rfl,rfl,hq⟩:=hB.parts;obtain⟨A1,A2,A3,A4,A5⟩:=hp.lay;obtain⟨B1,B2,B3,B4,B5⟩:=hq.lay;obtain⟨_,_,e6,_,A6⟩:=S.wo (by have h9:=hp.at'.f;rw[hp.l6] at h9;exact h9)
 cases e6;obtain⟨_,_,e6,_,B6⟩:=S.wo (by have h9:=hq.at'.f;rw[hq.l6] at h9;exact h9)
 cases e6;have M1:ts.map (·.h)=ts'.map (·.h):=by rw[hp.at'.fr.h,hq.at'.fr.h,h.needed]
 have M4:us.map (·.h)=us'.map (·.h):=by rw[hp.at'.sc.h,hq.at'.sc.h,h.active]
 have x1:ts.length=a.needed.length:=by have h9:=congrArg List.length hp.at'.fr.h;rw[lMa,lMa] at h9;exact h9
 have x4:us.length=a.active.length:=by have h9:=congrArg List.length hp.at'.sc.h;rw[lMa,lMa] at h9;exact h9
 have y1:=congrArg List.length M1;have y4:=congrArg List.length M4;rw[lMa,lMa] at y1 y4;have ex:∀(l:List HyC) (q:List Int),(∀p ∈ q,∃i:Nat,p=i∧i < hy.length)→l.map (·.h)=q.map (q3q hy)→∀y ∈ l,y.h.ex.length≤17592186044416:=fun l q hb he y hy1=>by
  have h1:y.h ∈ q.map (q3q hy):=by rw[←he];exact List.mem_map_of_mem hy1
  obtain⟨z,hz,e⟩:=List.mem_map.1 h1;obtain⟨j,rfl,hj⟩:=hb z hz;rw[←e];have e2:q3q hy (j:Int)=hy[j]:=by unfold q3q;simp[List.getD_eq_getElem?_getD,hj]
  rw[e2];exact hi.e _ (List.getElem_mem hj)
 obtain rfl:n1=k1:=by rw[←hp.l1,←hq.l1,y1]
 obtain rfl:n4=k4:=by rw[←hp.l4,←hq.l4,y4]
 obtain rfl:n2=k2:=by rw[←hp.l2,←hq.l2,h.apart]
 obtain rfl:n3=k3:=by rw[←hp.l3,←hq.l3,h.goal]
 obtain rfl:n5=k5:=by rw[←hp.l5,←hq.l5,h.pairs]
 obtain rfl:n6=k6:=by rw[←hp.l6,←hq.l6,h.proof.1]
 unfold atV;rw[←h.thm];have hl:=h.lab.1;rw[←hl];have key:=qa4 (w:=W) p (i:Nat) a.label.text a.thm h.lab h.fin (u3:=.slice a1 n1 c1) (v3:=.slice b1 n1 d1) (u4:=.slice a2 n2 c2) (v4:=.slice b2 n2 d2) (u5:=.slice a3 n3 c3) (v5:=.slice b3 n3 d3) (u6:=.slice a4 n4 c4) (v6:=.slice b4 n4 d4) (u7:=.slice a5 n5 c5) (v7:=.slice b5 n5 d5) (u8:=.slice a6 n6 c6) (v8:=.slice b6 n6 d6)
  ⟨a1,b1,n1,c1,d1,ts,ts',rfl,rfl,hp.l1,by rw[←hp.l1,x1];exact hi.n.1,ex ts a.needed hi.n.2 hp.at'.fr.h,M1,A1,B1⟩
  ⟨a2,b2,n2,c2,d2,a.apart,rfl,rfl,hp.l2,by rw[←hp.l2];exact hi.p,A2,by rw[h.apart];exact B2⟩
  ⟨a3,b3,n3,c3,d3,a.goal,rfl,rfl,hp.l3,by rw[←hp.l3];exact hi.g,A3,by rw[h.goal];exact B3⟩
  ⟨a4,b4,n4,c4,d4,us,us',rfl,rfl,hp.l4,by rw[←hp.l4,x4];exact hi.a.1,ex us a.active hi.a.2 hp.at'.sc.h,M4,A4,B4⟩
  ⟨a5,b5,n5,c5,d5,a.pairs,rfl,rfl,hp.l5,by rw[←hp.l5];exact hi.q,A5,by rw[h.pairs];exact B5⟩
  ⟨a6,b6,n6,c6,d6,a.proof,b.proof,rfl,rfl,hp.l6,by rw[←hp.l6];exact hi.f,h.proof,A6,B6⟩
 rw[←hl] at key;exact key
structure q68 (p:Bool)(s u:Stm):Prop where
 kind:s.kind=u.kind
 prov:s.proving=u.proving
 lab:q67 p s.label u.label
 key:q67 p s.key u.key
 fin:q67 p s.fin u.fin
 words:q57 p s.words u.words
 proof:q57 p s.proof u.proof
 few:s.words.length≤1048576∧s.proof.length≤1048576
def q46 (w:World)(a:Option Addr)(l:List Stm):Prop:=∀(j:Nat) (s:Stm),l[j]?=some s→∃g o aw cw ap cp,a=some ⟨g,o,none⟩∧(w.cell? ⟨g,o + j * 16,none⟩=some (.int .i64 s.kind)∧w.cell? ⟨g,o + j * 16 + 1,none⟩=some (.string s.label.text)∧w.cell? ⟨g,o + j * 16 + 1 + 1,none⟩=some (.int .i64 s.label.off)∧w.cell? ⟨g,o + j * 16 + 1 + 2,none⟩=some (.int .i64 s.label.line)∧w.cell? ⟨g,o + j * 16 + 1 + 3,none⟩=some (.int .i64 s.label.col)∧w.cell? ⟨g,o + j * 16 + 5,none⟩=some (.string s.key.text)∧w.cell? ⟨g,o + j * 16 + 5 + 1,none⟩=some (.int .i64 s.key.off)∧w.cell? ⟨g,o + j * 16 + 5 + 2,none⟩=some (.int .i64 s.key.line)∧w.cell? ⟨g,o + j * 16 + 5 + 3,none⟩=some (.int .i64 s.key.col)∧w.cell? ⟨g,o + j * 16 + 9,none⟩=some (.bool s.proving)∧w.cell? ⟨g,o + j * 16 + 10,none⟩=some (.slice aw s.words.length cw)∧w.cell? ⟨g,o + j * 16 + 11,none⟩=some (.slice ap s.proof.length cp)∧w.cell? ⟨g,o + j * 16 + 12,none⟩=some (.string s.fin.text)∧w.cell? ⟨g,o + j * 16 + 12 + 1,none⟩=some (.int .i64 s.fin.off)∧w.cell? ⟨g,o + j * 16 + 12 + 2,none⟩=some (.int .i64 s.fin.line)∧w.cell? ⟨g,o + j * 16 + 12 + 3,none⟩=some (.int .i64 s.fin.col))∧q0i w aw s.words∧q0i w ap s.proof
theorem q46.under {w w':World}{a:Option Addr}{l:List Stm}(h:q46 w a l)(hb:Below w.heap.size w w'):q46 w' a l:=fun j s hj=>by
 obtain⟨g,o,aw,cw,ap,cp,e,hc,hw,hp⟩:=h j s hj;have hg:g < w.heap.size:=bLt hc.1;refine⟨g,o,aw,cw,ap,cp,e,?_,hw.under hb,hp.under hb⟩;have q:∀i,w'.cell? ⟨g,i,none⟩=w.cell? ⟨g,i,none⟩:=fun i=>hb.cell (p:=⟨g,i,none⟩) hg
 simp only[q];exact hc
theorem toks3 {w:World}{X:Nat}{t u v:Tok}(h:w.heap[X]?=some (.cells #[.string t.text,.int .i64 t.off,.int .i64 t.line,.int .i64 t.col,.string u.text,.int .i64 u.off,.int .i64 u.line,.int .i64 u.col,.string v.text,.int .i64 v.off,.int .i64 v.line,.int .i64 v.col] 36 (0,0))):q0i w (some ⟨X,0,none⟩) [t,u,v]:=fun i x hi=>by
 match i,hi with
 | 0,hi=>cases hi;exact⟨X,0,rfl,S.M.qc h 0,S.M.qc h 1,S.M.qc h 2,S.M.qc h 3⟩
 | 1,hi=>cases hi;exact⟨X,0,rfl,S.M.qc h 4,S.M.qc h 5,S.M.qc h 6,S.M.qc h 7⟩
 | 2,hi=>cases hi;exact⟨X,0,rfl,S.M.qc h 8,S.M.qc h 9,S.M.qc h 10,S.M.qc h 11⟩
 | n + 3,hi=>simp at hi
theorem qqk {p:Bool}{t u v t' u' v':Tok}(h1:q67 p t t')(h2:q67 p u u')(h3:q67 p v v'):q57 p [t,u,v] [t',u',v']:=⟨rfl,fun i x y hx hy=>by
 match i,hx,hy with
 | 0,hx,hy=>cases hx;cases hy;exact h1
 | 1,hx,hy=>cases hx;cases hy;exact h2
 | 2,hx,hy=>cases hx;cases hy;exact h3
 | n + 3,hx,_=>simp at hx⟩
structure SOk (s:Stm):Prop where
 lab:s.kind=3∨s.kind=4∨s.kind=6∨s.kind=7→q0m s.label=true
 two:s.kind=3→s.words.length≤2∧(q0m s.fin=true→s.words.length=2)
 ls:s.label.text.size≤65536
 ws:∀t ∈ s.words,t.text.size≤65536
structure POk (P:S.PS):Prop where
 wt:P.wt.text.size≤65536
 all:∀s ∈ P.l,SOk s
 opn:P.opn=true→∀s,P.l.getLast?=some s→s.fin=S.q2i
theorem endB_wt (t:Tok):S.wtB t=q0m t:=by
 unfold S.wtB q0m;rw[ByteArray.toList_eq]
theorem ql5:S.q2i.text.size≤65536:=by decide
theorem endB_z:q0m S.q2i=false:=rfl
theorem ql6 {s:Stm}{t:Tok}(h:SOk s)(hz:s.fin=S.q2i)(ht:t.text.size≤65536):SOk (S.q69 s t).2∧(S.q69 s t).2.fin=S.q2i:=by
 unfold S.q69
 split
 ·exact⟨⟨h.lab,h.two,h.ls,h.ws⟩,hz⟩
 ·split
  ·exact⟨h,hz⟩
  ·rename_i h1 h2
   refine⟨⟨h.lab,fun h3=>?_,h.ls,fun u hu=>?_⟩,hz⟩
   ·have h3':s.kind=3:=h3;have hw:=(h.two h3').1;have h2':¬(s.words.length:Int)=2:=by rw[h3'] at h2;exact h2
    refine⟨by simp;omega,fun he=>?_⟩;have he':q0m s.fin=true:=he;rw[hz,endB_z] at he'
    cases he'
   ·rcases mAp.1 hu with hu | hu
    ·exact h.ws u hu
    ·rw[mSg.1 hu];exact ht
theorem ql7 {s:Stm}(h:SOk s)(hz:s.fin=S.q2i):SOk (S.q5t s).2∧(S.q5t s).2.fin=S.q2i:=by
 unfold S.q5t
 split
 ·split
  ·exact⟨h,hz⟩
  ·split
   ·exact⟨h,hz⟩
   ·exact⟨⟨h.lab,h.two,h.ls,h.ws⟩,hz⟩
 ·exact⟨h,hz⟩
theorem ql8 {s:Stm}{t:Tok}(h:SOk s)(hz:s.fin=S.q2i):SOk (S.q3f s t).2∧((S.q3f s t).1≠0→(S.q3f s t).2.fin=S.q2i):=by
 unfold S.q3f
 split
 ·exact⟨h,fun _=>hz⟩
 ·split
  ·exact⟨h,fun _=>hz⟩
  ·rename_i h1 h2
   refine⟨⟨h.lab,fun h3=>?_,h.ls,h.ws⟩,fun e=>absurd rfl e⟩;have h3':s.kind=3:=h3;have hw:=(h.two h3').1;have h2':¬(s.words.length:Int) < 2:=by rw[h3'] at h2;exact h2
   exact⟨hw,fun _=>by show s.words.length=2;omega⟩
theorem qje {s:Stm}{t:Tok}(h:SOk s)(hz:s.fin=S.q2i)(ht:t.text.size≤65536):SOk (S.yu s t).2.1∧((S.yu s t).2.2=false→(S.yu s t).2.1.fin=S.q2i):=by
 unfold S.yu
 split
 ·exact⟨(ql6 h hz ht).1,fun _=>(ql6 h hz ht).2⟩
 ·split
  ·exact⟨(ql7 h hz).1,fun _=>(ql7 h hz).2⟩
  ·split
   ·exact⟨(ql8 h hz).1,fun e=>(ql8 h hz).2 (of_decide_eq_false e)⟩
   ·exact⟨h,fun _=>hz⟩
theorem newS_ok {k:Int}{lb ky:Tok}(hl:k=3∨k=4∨k=6∨k=7→q0m lb=true)(hz:lb.text.size≤65536):SOk (S.newS k lb ky)∧(S.brk k=false→(S.newS k lb ky).fin=S.q2i):=by
 unfold S.newS
 by_cases hb:S.brk k=true
 ·rw[if_pos hb];refine⟨⟨fun h=>?_,fun h=>?_,ql5,fun u hu=>by cases hu⟩,fun e=>by rw[hb] at e;cases e⟩
  ·have h':k=3∨k=4∨k=6∨k=7:=h
   exfalso
   rcases h' with rfl | rfl | rfl | rfl <;> cases hb
  ·have h':k=3:=h;subst h'
   cases hb
 ·rw[if_neg hb];refine⟨⟨hl,fun _=>⟨Nat.zero_le _,fun e=>by cases e⟩,hz,fun u hu=>by cases hu⟩,fun _=>rfl⟩
theorem qql {P:S.PS}{t:Tok}(h:POk P)(ht:t.text.size≤65536):POk (S.qm P t).2:=by
 unfold S.qm
 split
 ·rename_i ho
  cases hl:P.l.getLast? with
  | none=>exact h
  | some s =>
   have hm:s ∈ P.l:=List.mem_of_getLast? hl;have hw:=qje (h.all s hm) (h.opn ho s hl) ht;refine⟨h.wt,fun u hu=>?_,fun e u hu=>?_⟩
   ·rcases mAp.1 hu with hu | hu
    ·exact h.all u (List.dropLast_subset _ hu)
    ·rw[mSg.1 hu];exact hw.1
   ·have e':(S.yu s t).2.2=false:=by simpa using e
    have hu':(P.l.dropLast++[(S.yu s t).2.1]).getLast?=some u:=hu;rw[List.getLast?_concat] at hu'
    cases hu';exact hw.2 e'
 ·rename_i ho
  unfold S.q0p
  split
  ·split
   ·exact h
   ·exact⟨ht,h.all,h.opn⟩
  ·split
   ·exact h
   ·split
    ·exact h
    ·rename_i h1 h2 h3
     have h3':S.qhs (S.q1d t.text)=S.wtB P.wt:=Decidable.of_not_not h3
     have hn:=newS_ok (k:=(S.q1d t.text:Int)) (lb:=P.wt) (ky:=t) (fun hk=>by
      rw[←endB_wt,←h3']
      have hk':S.q1d t.text=3∨S.q1d t.text=4∨S.q1d t.text=6∨S.q1d t.text=7:=by omega
      rcases hk' with e | e | e | e <;> rw[e] <;> rfl) h.wt
     refine⟨ql5,fun u hu=>?_,fun e u hu=>?_⟩
     ·rcases mAp.1 hu with hu | hu
      ·exact h.all u hu
      ·rw[mSg.1 hu];exact hn.1
     ·have hu':(P.l++[S.newS (S.q1d t.text) P.wt t]).getLast?=some u:=hu;rw[List.getLast?_concat] at hu'
      cases hu';exact hn.2 (by simpa using e)
theorem ql9:∀(ts:List Tok) (P:S.PS) (j:Nat),POk P→S.q6i P j→(∀t ∈ ts,t.text.size≤65536)→POk (S.runT P ts).1∧S.q6i (S.runT P ts).1 (j + ts.length)
 | [],P,j,h,hs,_=>⟨h,hs⟩
 | t :: ts,P,j,h,hs,ht=>by
  have h1:=qql h (ht t (List.mem_cons_self ..));have h2:=S.q6j (t:=t) hs;unfold S.runT
  split
  ·have:=ql9 ts _ (j + 1) h1 h2 fun u hu=>ht u (List.mem_cons_of_mem _ hu)
   have e:j + 1 + ts.length=j + (t :: ts).length:=by rw[List.length_cons];omega
   rw[e] at this;exact this
  ·refine⟨h1,nLt h2.1 (by rw[List.length_cons];omega),fun s hs=>?_⟩;have h3:=h2.2 s hs;exact⟨nLt h3.1 (by rw[List.length_cons];omega),nLt h3.2 (by rw[List.length_cons];omega)⟩
theorem readF_l (txt:ByteArray):(S.je txt).1=(S.runT S.ps0 (S.q0e txt)).1:=by
 unfold S.je
 split
 ·rename_i h;rw[h]
 ·rename_i h
  split
  ·rw[h]
  ·split <;> rw[h]
theorem qaf (txt:ByteArray):(S.je txt).1.l.length≤16384∧∀s ∈ (S.je txt).1.l,SOk s∧s.words.length≤16384∧s.proof.length≤16384:=by
 have h0:POk S.ps0:=⟨by decide,(fun s hs=>by cases hs),(fun e=>by cases e)⟩;have h1:S.q6i S.ps0 0:=⟨Nat.le_refl _,fun s hs=>by cases hs⟩;obtain⟨h2,h3⟩:=ql9 (S.q0e txt) S.ps0 0 h0 h1 (S.qat txt);have hw:=S.q8v txt;rw[readF_l];refine⟨nLt h3.1 (by omega),fun s hs=>⟨h2.all s hs,?_,?_⟩⟩
 ·exact nLt (h3.2 s hs).1 (by omega)
 ·exact nLt (h3.2 s hs).2 (by omega)
def q1j (txt:ByteArray):Res Ld:=match wu ld0 (S.je txt).1.l with
 | .error f=>.error f
 | .ok L=>match (S.je txt).2 with
  | some f=>.error f
  | none=>if 1 < L.sc.length then .error (S.q3l txt,23) else .ok L
end B
end Go.Proofs.YtbancemhfjjmlaaGreatDoor
