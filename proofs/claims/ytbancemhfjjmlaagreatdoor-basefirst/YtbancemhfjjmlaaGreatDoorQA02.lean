/- Laid together: SAddW, SItm, SEnd, SKindOf, SWithin. -/
import Derived.Test.YtbancemhfjjmlaaGreatDoorQA01
set_option maxRecDepth 100000
set_option maxHeartbeats 32000000
namespace Go.Proofs.YtbancemhfjjmlaaGreatDoor
namespace S
open Go.RowKit
def qck (w w':World)(N g:Nat)(cs:Array Value)(t:TypeId)(k:Nat)(v:Value)(ws:List Tok)(tk:Tok)(c:Int):Prop :=
 ((ws.length:Int)=qdl k∧c=62∧Below w.heap.size w w')∨((ws.length:Int)≠qdl k∧c=0∧q1y w w' N g 9 cs t v ws tk)
theorem q1y.from {w w0 w':World}{N g o:Nat}{cs:Array Value}{t:TypeId}{v:Value}{ts:List Tok}{tk:Tok}(h0:Below w.heap.size w w0)(h:q1y w0 w' N g o cs t v ts tk):q1y w w' N g o cs t v ts tk:=by
 obtain⟨v',h1,h2,h3,h4⟩:=h
 exact⟨v',h1,fun b e=>(h2 b e).elim .inl fun e=>.inr (Nat.le_trans h0.size e),(M.Ch.of_below h0).trans h3,h4⟩
theorem qck.from {w w0 w':World}{N g:Nat}{cs:Array Value}{t:TypeId}{k:Nat}{v:Value}{ws:List Tok}{tk:Tok}{c:Int}(h0:Below w.heap.size w w0)(h:qck w0 w' N g cs t k v ws tk c):qck w w' N g cs t k v ws tk c:=by
 rcases h with ⟨a,b,d⟩ | ⟨a,b,d⟩
 ·exact .inl ⟨a,b,h0.trans (d.mono h0.size)⟩
 ·exact .inr ⟨a,b,d.from h0⟩
theorem qi6 (w:World) (N g:Nat) (cs:Array Value) (t:TypeId) (k:Nat) (hk:k < 10) (aw:Option Addr) (nw cw:Nat) (tk:Tok) (ws:List Tok)
  (hB:w.heap[g]?=some (.cells cs t (0,0))) (h0:cs[0]?=some (.int .i64 k)) (h9:cs[9]?=some (.slice aw nw cw)) (hS:yh w) (hN:N≤w.heap.size) (hl:ws.length=nw) (hn:nw≤1048576)
  (hO:w.ownsRow N 36 4 (.slice aw nw cw) nw (rowT ws)) (hvg:(Value.slice aw nw cw).ownBlock≠some g) :
  Calls Tryz.prog 246 #[.pointer (some ⟨g,0,none⟩),zn tk] w fun e w'=>∃c,e=.returned (.int .i64 c)∧qck w w' N g cs t k (.slice aw nw cw) ws tk c:=by
 refine Calls.mono (add_any w N g cs t k hk aw nw cw tk ws hB h0 h9 hS hN hl hn hO hvg) ?_
 subst hl
 rintro e w' (⟨a,b,d⟩ | ⟨a,b,d⟩)
 ·exact⟨62,b,.inl ⟨a,rfl,d⟩⟩
 ·exact⟨0,b,.inr ⟨a,rfl,d⟩⟩
theorem qm1 (w:World) (N g:Nat) (cs:Array Value) (t:TypeId) (k:Nat) (hk:k < 10) (aw:Option Addr) (nw cw:Nat) (tk:Tok) (ws:List Tok)
  (hB:w.heap[g]?=some (.cells cs t (0,0))) (h0:cs[0]?=some (.int .i64 k)) (h9:cs[9]?=some (.slice aw nw cw)) (hS:yh w) (hN:N≤w.heap.size) (hl:ws.length=nw) (hn:nw≤1048576)
  (hO:w.ownsRow N 36 4 (.slice aw nw cw) nw (rowT ws)) (hvg:(Value.slice aw nw cw).ownBlock≠some g) :
  Calls Tryz.prog 208 #[.iface 202 (.pointer (some ⟨g,0,none⟩)),zn tk] w fun e w'=>∃c,e=.returned (.int .i64 c)∧qck w w' N g cs t k (.slice aw nw cw) ws tk c:=by
 obtain⟨w1,hw1⟩:∃w1,w1=w.alloc (.cells #[.string tk.text,.int .i64 tk.off,.int .i64 tk.line,.int .i64 tk.col] 36):=⟨_,rfl⟩
 have hb1:Below w.heap.size w w1:=by rw[hw1];exact qg _ _
 have hg:g < w.heap.size:=(Array.getElem?_eq_some_iff.1 hB).1
 have HN1:w1.heap[w.heap.size]?=some (.cells #[.string tk.text,.int .i64 tk.off,.int .i64 tk.line,.int .i64 tk.col] 36 (0,0)):=by rw[hw1];exact heap_alloc_new w _
 have x0:w1.cell? ⟨w.heap.size,0,none⟩=some (.string tk.text):=M.qc HN1 0
 have x1:w1.cell? ⟨w.heap.size,1,none⟩=some (.int .i64 tk.off):=M.qc HN1 1
 have x2:w1.cell? ⟨w.heap.size,2,none⟩=some (.int .i64 tk.line):=M.qc HN1 2
 have x3:w1.cell? ⟨w.heap.size,3,none⟩=some (.int .i64 tk.col):=M.qc HN1 3
 have HB:Hid (Below w.heap.size w w1):=hb1
 have AD:Hid _:=qi6 w1 N g cs t k hk aw nw cw tk ws ((hb1.block g hg).trans hB) h0 h9 (hS.under hb1) (Nat.le_trans hN hb1.size) hl hn (M.qh hO (M.Ch.of_below (X:=fun _=>False) hb1) fun _ _ e=>e) hvg
 unfold zn at AD ⊢
 clear hB h0 h9 hS hO hvg HN1 hb1
 have a1:=q65
 have a2:=q7k
 go_enter Tryz.func208,Tryz.ntmps208
 go_upto_region 1 with fail
 rw[←hw1]
 clear hw1
 go_wp2_with fail
 refine Calls.mono AD.out ?_
 rintro e w2 ⟨c,rfl,hp⟩
 have HP:Hid (qck w w2 N g cs t k (.slice aw nw cw) ws tk c):=hp.from HB.out
 clear hp AD
 go_wp2
 go_ret
 exact⟨c,rfl,HP.out⟩
theorem qm2 (w:World) (N g:Nat) (cs:Array Value) (t:TypeId) (k:Nat) (hk:k < 10) (aw:Option Addr) (nw cw:Nat) (tk:Tok) (ws:List Tok)
  (hB:w.heap[g]?=some (.cells cs t (0,0))) (h0:cs[0]?=some (.int .i64 k)) (h9:cs[9]?=some (.slice aw nw cw)) (h14:cs[14]?=some (.bool false)) (hS:yh w) (hN:N≤w.heap.size) (hl:ws.length=nw) (hn:nw≤1048576)
  (hO:w.ownsRow N 36 4 (.slice aw nw cw) nw (rowT ws)) (hvg:(Value.slice aw nw cw).ownBlock≠some g) :
  Calls Tryz.prog 208 #[.iface 197 (.pointer (some ⟨g,0,none⟩)),zn tk] w fun e w'=>∃c,e=.returned (.int .i64 c)∧qck w w' N g cs t k (.slice aw nw cw) ws tk c:=by
 obtain⟨w1,hw1⟩:∃w1,w1=w.alloc (.cells #[.string tk.text,.int .i64 tk.off,.int .i64 tk.line,.int .i64 tk.col] 36):=⟨_,rfl⟩
 have hb1:Below w.heap.size w w1:=by rw[hw1];exact qg _ _
 have hg:g < w.heap.size:=(Array.getElem?_eq_some_iff.1 hB).1
 have HN1:w1.heap[w.heap.size]?=some (.cells #[.string tk.text,.int .i64 tk.off,.int .i64 tk.line,.int .i64 tk.col] 36 (0,0)):=by rw[hw1];exact heap_alloc_new w _
 have x0:w1.cell? ⟨w.heap.size,0,none⟩=some (.string tk.text):=M.qc HN1 0
 have x1:w1.cell? ⟨w.heap.size,1,none⟩=some (.int .i64 tk.off):=M.qc HN1 1
 have x2:w1.cell? ⟨w.heap.size,2,none⟩=some (.int .i64 tk.line):=M.qc HN1 2
 have x3:w1.cell? ⟨w.heap.size,3,none⟩=some (.int .i64 tk.col):=M.qc HN1 3
 have HB1:w1.heap[g]?=some (.cells cs t (0,0)):=(hb1.block g hg).trans hB
 have c14:w1.cell? ⟨g,14,none⟩=some (.bool false):=(M.qc HB1 14).trans h14
 have HB:Hid (Below w.heap.size w w1.drew):=below_drewN hb1 1
 have AD:Hid _:=qi6 w1.drew N g cs t k hk aw nw cw tk ws HB1 h0 h9 (hS.under HB.out) (Nat.le_trans hN hb1.size) hl hn (M.qh hO (M.Ch.of_below (X:=fun _=>False) HB.out) fun _ _ e=>e) hvg
 unfold zn at AD ⊢
 clear hB h0 h9 h14 hS hO hvg HN1 hb1 HB1
 have a1:=q4q
 go_enter Tryz.func208,Tryz.ntmps208
 go_upto_region 1 with fail
 rw[←hw1]
 clear hw1
 go_upto_region 7 with fail
 go_region_law (go_simp;go_at_call 246;refine Calls.mono AD.out ?_;rintro e w2 ⟨c,rfl,hp⟩;have HP:Hid (qck w w2 N g cs t k (.slice aw nw cw) ws tk c):=hp.from HB.out;clear hp)
 go_wp2
 go_ret
 exact⟨c,rfl,HP.out⟩
theorem qm3 (w:World) (N g:Nat) (cs:Array Value) (t:TypeId) (aw:Option Addr) (nw cw:Nat) (tk:Tok) (ws:List Tok)
  (hB:w.heap[g]?=some (.cells cs t (0,0))) (h14:cs[14]?=some (.bool true)) (h15:cs[15]?=some (.slice aw nw cw)) (hN:N≤w.heap.size) (hl:ws.length=nw) (hn:nw≤1048576)
  (hO:w.ownsRow N 36 4 (.slice aw nw cw) nw (rowT ws)) (hvg:(Value.slice aw nw cw).ownBlock≠some g) :
  Calls Tryz.prog 208 #[.iface 197 (.pointer (some ⟨g,0,none⟩)),zn tk] w fun e w'=>e=.returned (.int .i64 0)∧q1y w w' N g 15 cs t (.slice aw nw cw) ws tk:=by
 obtain⟨ip,hip,ipz,ips,ipb⟩:=info_parts qlv
 obtain⟨w1,hw1⟩:∃w1,w1=w.alloc (.cells #[.string tk.text,.int .i64 tk.off,.int .i64 tk.line,.int .i64 tk.col] 36):=⟨_,rfl⟩
 have hb1:Below w.heap.size w w1:=by rw[hw1];exact qg _ _
 have hg:g < w.heap.size:=(Array.getElem?_eq_some_iff.1 hB).1
 have HN1:w1.heap[w.heap.size]?=some (.cells #[.string tk.text,.int .i64 tk.off,.int .i64 tk.line,.int .i64 tk.col] 36 (0,0)):=by rw[hw1];exact heap_alloc_new w _
 have x0:w1.cell? ⟨w.heap.size,0,none⟩=some (.string tk.text):=M.qc HN1 0
 have x1:w1.cell? ⟨w.heap.size,1,none⟩=some (.int .i64 tk.off):=M.qc HN1 1
 have x2:w1.cell? ⟨w.heap.size,2,none⟩=some (.int .i64 tk.line):=M.qc HN1 2
 have x3:w1.cell? ⟨w.heap.size,3,none⟩=some (.int .i64 tk.col):=M.qc HN1 3
 have HB1:w1.heap[g]?=some (.cells cs t (0,0)):=(hb1.block g hg).trans hB
 have c14:w1.cell? ⟨g,14,none⟩=some (.bool true):=(M.qc HB1 14).trans h14
 have HC1:Hid (Below w.heap.size w w1):=hb1
 have O1:Hid (w1.ownsRow N 36 4 (.slice aw nw cw) nw (rowT ws)):=M.qh hO (M.Ch.of_below (X:=fun _=>False) hb1) fun _ _ e=>e
 have HB:Hid (w.heap[g]?=some (.cells cs t (0,0))):=hB
 have HB2:Hid (w1.heap[g]?=some (.cells cs t (0,0))):=HB1
 have HV:Hid ((Value.slice aw nw cw).ownBlock≠some g):=hvg
 have HL:Hid (ws.length=nw):=hl
 have H9:Hid (cs[15]?=some (.slice aw nw cw)):=h15
 have d9:w1.cell? ⟨g,15,none⟩=some (.slice aw nw cw):=(M.qc HB1 15).trans h15
 have HG2:Hid (g < w1.heap.size):=Nat.lt_of_lt_of_le hg hb1.size
 have HZ:Hid (w.heap.size≤w1.heap.size):=hb1.size
 unfold zn
 clear hB h14 h15 hO hvg HN1 hb1 HB1 hl hg
 have a1:=q4q
 go_enter Tryz.func208,Tryz.ntmps208
 go_upto_region 1 with fail
 rw[←hw1]
 clear hw1
 go_upto_region 5 with fail
 have e9:(w1.alloc (.cells #[.string tk.text,.int .i64 tk.off,.int .i64 tk.line,.int .i64 tk.col] 36)).cell? ⟨g,15,none⟩=some (.slice aw nw cw):=(M.qc ((Below.heap_alloc _ _ g HG2.out).trans HB2.out) 15).trans H9.out
 go_region_law (refine step_append_lies _ (by rfl) _ _ _ (by rfl) N 36 ip _ 4 40 Tryz.underlying32 hip ipz ips ipb rfl (by omega) _ nw (rowT ws) (by rfl) (by exact (M.zk O1.out _)) ⟨w1.heap.size,0,none⟩ 1 1 (um tk) (by rfl) (by rfl) (World.news_of_block (cs:=#[.string tk.text,.int .i64 tk.off,.int .i64 tk.line,.int .i64 tk.col]) (t:=36) (fr:=(0,0)) (heap_alloc_new w1 _)) (by simp[um,Value.oneCell']) (by omega) (by unfold maxLen;omega) (by omega) (by have:=HZ.out;simp;omega) _ rfl ?_;intro gg cap' w3 hown3 hgrow hat hlt3;have K3:Hid (w3.heap[g]?=some (.cells cs t (0,0))):=(hgrow.block g (by have:=HG2.out;simp;omega) (fun e=>HV.out e.symm)).trans ((Below.heap_alloc _ _ g HG2.out).trans HB2.out);have d9':w3.cell? ⟨g,15,none⟩=some (.slice aw nw cw):=(M.qc K3.out 15).trans H9.out;have f9':w3.frozen? ⟨g,15,none⟩=false:=(by simp[World.frozen?,K3.out]);have PO:Hid (q1y w (w3.setCell ⟨g,15,none⟩ (.slice (some ⟨gg,0,none⟩) (nw + 1) cap')) N g 15 cs t (.slice aw nw cw) ws tk):=(by have hl:=HL.out;subst hl;exact q1y.of HB.out (show Below w.heap.size w (w1.alloc (.cells #[.string tk.text,.int .i64 tk.off,.int .i64 tk.line,.int .i64 tk.col] 36)).drew from below_drewN (HC1.out.alloc HC1.out.size _) 1) hgrow hat HV.out hown3 rfl);clear hgrow hat hown3 hlt3)
 all_goals go_wp2
 all_goals go_ret
 all_goals exact⟨rfl,PO.out⟩
theorem beginC (w:World)(g:Nat):Calls Tryz.prog 209 #[.iface 202 (.pointer (some ⟨g,0,none⟩))] w fun e w'=>e=.returned (.int .i64 60)∧w'=w:=by
 have a1:=q65
 go_enter Tryz.func209,Tryz.ntmps209
 go_wp2
 go_ret
 exact⟨rfl,rfl⟩
theorem beginT (w:World) (g:Nat) (cs:Array Value) (t:TypeId) (k:Nat) (hk:k < 10) (aw:Option Addr) (nw cw:Nat) (pr:Bool)
  (hB:w.heap[g]?=some (.cells cs t (0,0))) (h0:cs[0]?=some (.int .i64 k)) (h9:cs[9]?=some (.slice aw nw cw)) (h14:cs[14]?=some (.bool pr)) (hS:yh w) :
  Calls Tryz.prog 209 #[.iface 197 (.pointer (some ⟨g,0,none⟩))] w fun e w' =>
   e=.returned (.int .i64 (if pr then 60 else if (nw:Int) < q8x k then 62 else 0))∧M.Ch (fun b=>b=g) w w'∧w'.heap[g]?=some (.cells (if pr then cs else if (nw:Int) < q8x k then cs else cs.setIfInBounds 14 (.bool true)) t (0,0)):=by
 have a1:=q4q
 have HB:Hid (w.heap[g]?=some (.cells cs t (0,0))):=hB
 have c0:w.cell? ⟨g,0,none⟩=some (.int .i64 k):=(M.qc hB 0).trans h0
 have c9:w.cell? ⟨g,9,none⟩=some (.slice aw nw cw):=(M.qc hB 9).trans h9
 have c14:w.cell? ⟨g,14,none⟩=some (.bool pr):=(M.qc hB 14).trans h14
 obtain⟨_,_,l2,_⟩:=hS k hk
 have k0:(0:Int)≤(k:Int):=by omega
 have k1:(k:Int) < 10:=by omega
 obtain⟨L,hL⟩:∃L,q8x k=L:=⟨_,rfl⟩
 have H14:Hid (cs[14]?=some (.bool pr)):=h14
 rw[hL] at l2 ⊢
 clear hL hS hB h0 h9 h14
 cases pr with
 | true =>
  go_enter Tryz.func209,Tryz.ntmps209
  go_wp2
  go_ret
  exact⟨rfl,M.Ch.refl _ _,HB.out⟩
 | false =>
  go_enter Tryz.func209,Tryz.ntmps209
  go_upto_region 6 with fail
  go_quiet (fail)
  have HB2:Hid ((w.drewN nq).heap[g]?=some (.cells cs t (0,0))):=HB.out
  have HC2:Hid (M.Ch (fun b=>b=g) w (w.drewN nq)):=⟨rfl,rfl,rfl,Nat.le_refl _,fun _ _ _=>rfl⟩
  clear c0 c9 c14 l2
  generalize w.drewN nq=w2 at *
  by_cases hlt:(nw:Int) < L
  ·go_wp2
   go_ret
   exact⟨rfl,HC2.out,HB2.out⟩
  ·have d14:w2.cell? ⟨g,14,none⟩=some (.bool false):=(M.qc HB2.out 14).trans H14.out
   have f14:w2.frozen? ⟨g,14,none⟩=false:=by simp[World.frozen?,HB2.out]
   go_wp2
   go_ret
   exact⟨rfl,HC2.out.trans (M.xu _ _ _ _),M.qj HB2.out⟩
end S
namespace S
open Go.RowKit
def q1v:Tok:=⟨⟨#[]⟩,0,0,0⟩
def qi7 (k:Int)(lb ky:Tok)(wd:Value)(fn:Tok):Array Value:=#[.int .i64 k,.string lb.text,.int .i64 lb.off,.int .i64 lb.line,.int .i64 lb.col,.string ky.text,.int .i64 ky.off,.int .i64 ky.line,.int .i64 ky.col,wd,.string fn.text,.int .i64 fn.off,.int .i64 fn.line,.int .i64 fn.col]
def qdm (k:Int)(lb ky:Tok)(wd:Value)(fn:Tok)(pr:Bool)(pf:Value):Array Value:=#[.int .i64 k,.string lb.text,.int .i64 lb.off,.int .i64 lb.line,.int .i64 lb.col,.string ky.text,.int .i64 ky.off,.int .i64 ky.line,.int .i64 ky.col,wd,.string fn.text,.int .i64 fn.off,.int .i64 fn.line,.int .i64 fn.col,.bool pr,pf]
structure Itm where
 s:Stm
 g:Nat
 vw:Value
 vp:Value
def brk (k:Int):Bool:=decide (k=8) || decide (k=9)
def q2f (x:Itm):Array Value:=if brk x.s.kind then qfy x.s.kind x.s.key else if x.s.kind=7 then qdm x.s.kind x.s.label x.s.key x.vw x.s.fin x.s.proving x.vp else qi7 x.s.kind x.s.label x.s.key x.vw x.s.fin
def qax (x:Itm):TypeId:=if brk x.s.kind then 207 else if x.s.kind=7 then 201 else 199
def q3v (x:Itm):TypeId:=if brk x.s.kind then 204 else if x.s.kind=7 then 197 else 202
def yc (x:Itm):Value:=.iface (q3v x) (.pointer (some ⟨x.g,0,none⟩))
theorem ug {x:Itm}(h7:x.s.kind=7):q2f x=qdm x.s.kind x.s.label x.s.key x.vw x.s.fin x.s.proving x.vp:=by
 have hb:brk x.s.kind=false:=by rw[h7];rfl
 unfold q2f
 rw[if_neg (by rw[hb];exact Bool.false_ne_true),if_pos h7]
theorem q2s {x:Itm}(hb:brk x.s.kind=false)(h7:x.s.kind≠7):q2f x=qi7 x.s.kind x.s.label x.s.key x.vw x.s.fin:=by
 unfold q2f
 rw[if_neg (by rw[hb];exact Bool.false_ne_true),if_neg h7]
theorem qi8 {x:Itm}(hb:brk x.s.kind=true):q2f x=qfy x.s.kind x.s.key:=by
 unfold q2f
 rw[if_pos hb]
def blk (x:Itm)(b:Nat):Prop:=b=x.g∨x.vw.ownBlock=some b∨x.vp.ownBlock=some b
structure q05 (W:World)(N:Nat)(x:Itm):Prop where
 k1:1≤x.s.kind
 k9:x.s.kind≤9
 box:W.heap[x.g]?=some (.cells (q2f x) (qax x) (0,0))
 ge:N≤x.g
 ow:W.ownsRow N 36 4 x.vw x.s.words.length (rowT x.s.words)
 op:W.ownsRow N 36 4 x.vp x.s.proof.length (rowT x.s.proof)
 gw:x.vw.ownBlock≠some x.g
 gp:x.vp.ownBlock≠some x.g
 wp:∀b,x.vw.ownBlock=some b→x.vp.ownBlock≠some b
 nt:x.s.kind≠7→x.s.proof=[]∧x.s.proving=false∧x.vp=.slice none 0 0
 nb:brk x.s.kind=true→x.s.words=[]∧x.vw=.slice none 0 0∧x.s.label=q1v∧x.s.fin=x.s.key
theorem q05.lt {W:World}{N:Nat}{x:Itm}(h:q05 W N x):∀b,blk x b→b < W.heap.size:=fun b e=>by
 rcases e with rfl | e | e
 ·exact (Array.getElem?_eq_some_iff.1 h.box).1
 ·exact M.jl h.ow b e
 ·exact M.jl h.op b e
theorem q05.ch {W W':World}{N:Nat}{x:Itm}{X:Nat→Prop}(h:q05 W N x)(hc:M.Ch X W W')(hx:∀b,blk x b→¬X b):q05 W' N x :=
 ⟨h.k1,h.k9,(hc.block x.g (h.lt _ (.inl rfl)) (hx _ (.inl rfl))).trans h.box,h.ge,M.qh h.ow hc fun b e=>hx b (.inr (.inl e)),M.qh h.op hc fun b e=>hx b (.inr (.inr e)),h.gw,h.gp,h.wp,h.nt,h.nb⟩
theorem q05.under {W W':World}{N:Nat}{x:Itm}(h:q05 W N x)(hb:Below W.heap.size W W'):q05 W' N x:=h.ch (M.Ch.of_below (X:=fun _=>False) hb) fun _ _ e=>e
structure Step (w w':World)(N:Nat)(x x':Itm):Prop where
 at':q05 w' N x'
 g:x'.g=x.g
 y:q3v x'=q3v x
 bl:∀b,blk x' b→blk x b∨w.heap.size≤b
 ch:M.Ch (blk x) w w'
theorem Step.refl {w:World}{N:Nat}{x:Itm}(h:q05 w N x):Step w w N x x:=⟨h,rfl,rfl,fun _ e=>.inl e,M.Ch.refl _ _⟩
theorem Step.below {w w':World}{N:Nat}{x:Itm}(h:q05 w N x)(hb:Below w.heap.size w w'):Step w w' N x x:=⟨h.under hb,rfl,rfl,fun _ e=>.inl e,M.Ch.of_below hb⟩
theorem Step.from {w w0 w':World}{N:Nat}{x x':Itm}(hb:Below w.heap.size w w0)(h:Step w0 w' N x x'):Step w w' N x x' :=
 ⟨h.at',h.g,h.y,fun b e=>(h.bl b e).elim .inl fun e=>.inr (Nat.le_trans hb.size e),(M.Ch.of_below hb).trans h.ch⟩
theorem Step.iface {w w':World}{N:Nat}{x x':Itm}(h:Step w w' N x x'):yc x'=yc x:=by unfold yc;rw[h.y,h.g]
theorem qjd {w w':World}{N:Nat}{x:Itm}{tk:Tok}(h:q05 w N x)(hb:brk x.s.kind=false)(ha:q1y w w' N x.g 9 (q2f x) (qax x) x.vw x.s.words tk):∃x',x'.s={ x.s with words:=x.s.words++[tk] }∧Step w w' N x x':=by
 obtain⟨v',h1,h2,h3,h4⟩:=ha
 have hc:(q2f x).setIfInBounds 9 v'=q2f ⟨{ x.s with words:=x.s.words++[tk] },x.g,v',x.vp⟩:=by
  by_cases h7:x.s.kind=7
  ·rw[ug h7,ug (x:=⟨{ x.s with words:=x.s.words++[tk] },x.g,v',x.vp⟩) h7];rfl
  ·rw[q2s hb h7,q2s (x:=⟨{ x.s with words:=x.s.words++[tk] },x.g,v',x.vp⟩) hb h7];rfl
 have lg:x.g < w.heap.size:=h.lt _ (.inl rfl)
 refine⟨⟨{ x.s with words:=x.s.words++[tk] },x.g,v',x.vp⟩,rfl,⟨h.k1,h.k9,?_,h.ge,by simpa using h1,M.qh h.op h3 fun b e e2=>?_,fun e=>?_,h.gp,fun b e e2=>?_,h.nt,fun e=>?_⟩,rfl,rfl,fun b e=>?_,h3.mono fun b e=>?_⟩
 ·rw[←hc];exact h4
 ·rcases e2 with rfl | e2
  ·exact h.gp e
  ·exact h.wp b e2 e
 ·rcases h2 _ e with e | e
  ·exact h.gw e
  ·exact absurd lg (Nat.not_lt.2 e)
 ·rcases h2 _ e with e | e
  ·exact h.wp b e e2
  ·have:=M.jl h.op b e2;omega
 ·have e':brk x.s.kind=true:=e
  rw[hb] at e';cases e'
 ·rcases e with rfl | e | e
  ·exact .inl (.inl rfl)
  ·exact (h2 b e).elim (fun e=>.inl (.inr (.inl e))) .inr
  ·exact .inl (.inr (.inr e))
 ·exact e.elim .inl fun e=>.inr (.inl e)
theorem qje {w w':World}{N:Nat}{x:Itm}{tk:Tok}(h:q05 w N x)(h7:x.s.kind=7)(ha:q1y w w' N x.g 15 (q2f x) (qax x) x.vp x.s.proof tk):∃x',x'.s={ x.s with proof:=x.s.proof++[tk] }∧Step w w' N x x':=by
 obtain⟨v',h1,h2,h3,h4⟩:=ha
 have hb:brk x.s.kind=false:=by rw[h7];rfl
 have hc:(q2f x).setIfInBounds 15 v'=q2f ⟨{ x.s with proof:=x.s.proof++[tk] },x.g,x.vw,v'⟩:=by
  rw[ug h7,ug (x:=⟨{ x.s with proof:=x.s.proof++[tk] },x.g,x.vw,v'⟩) h7];rfl
 have lg:x.g < w.heap.size:=h.lt _ (.inl rfl)
 refine⟨⟨{ x.s with proof:=x.s.proof++[tk] },x.g,x.vw,v'⟩,rfl,⟨h.k1,h.k9,?_,h.ge,M.qh h.ow h3 fun b e e2=>?_,by simpa using h1,h.gw,fun e=>?_,fun b e e2=>?_,fun e=>absurd h7 e,fun e=>?_⟩,rfl,rfl,fun b e=>?_,h3.mono fun b e=>?_⟩
 ·rw[←hc];exact h4
 ·rcases e2 with rfl | e2
  ·exact h.gw e
  ·exact h.wp b e e2
 ·rcases h2 _ e with e | e
  ·exact h.gp e
  ·exact absurd lg (Nat.not_lt.2 e)
 ·rcases h2 _ e2 with e2 | e2
  ·exact h.wp b e e2
  ·have:=M.jl h.ow b e;omega
 ·have e':brk x.s.kind=true:=e
  rw[hb] at e';cases e'
 ·rcases e with rfl | e | e
  ·exact .inl (.inl rfl)
  ·exact .inl (.inr (.inl e))
  ·exact (h2 b e).elim (fun e=>.inl (.inr (.inr e))) .inr
 ·exact e.elim .inl fun e=>.inr (.inr e)
theorem qdn {w w':World}{N:Nat}{x:Itm}(h:q05 w N x)(h7:x.s.kind=7)(h3:M.Ch (fun b=>b=x.g) w w')(h4:w'.heap[x.g]?=some (.cells ((q2f x).setIfInBounds 14 (.bool true)) (qax x) (0,0))):∃x',x'.s={ x.s with proving:=true }∧Step w w' N x x':=by
 have hb:brk x.s.kind=false:=by rw[h7];rfl
 have hc:(q2f x).setIfInBounds 14 (.bool true)=q2f ⟨{ x.s with proving:=true },x.g,x.vw,x.vp⟩:=by
  rw[ug h7,ug (x:=⟨{ x.s with proving:=true },x.g,x.vw,x.vp⟩) h7];rfl
 refine⟨⟨{ x.s with proving:=true },x.g,x.vw,x.vp⟩,rfl,⟨h.k1,h.k9,?_,h.ge,M.qh h.ow h3 fun b e e2=>h.gw (by rw[←e2];exact e),M.qh h.op h3 fun b e e2=>h.gp (by rw[←e2];exact e),h.gw,h.gp,h.wp,fun e=>absurd h7 e,fun e=>?_⟩,rfl,rfl,fun b e=>.inl e,h3.mono fun b e=>.inl e⟩
 ·rw[←hc];exact h4
 ·have e':brk x.s.kind=true:=e
  rw[hb] at e';cases e'
theorem itm_fin {w w':World}{N:Nat}{x:Itm}{tk:Tok}(h:q05 w N x)(hb:brk x.s.kind=false)(h3:M.Ch (fun b=>b=x.g) w w')(h4:w'.heap[x.g]?=some (.cells (put4 (q2f x) 10 tk) (qax x) (0,0))):∃x',x'.s={ x.s with fin:=tk }∧Step w w' N x x':=by
 have hc:put4 (q2f x) 10 tk=q2f ⟨{ x.s with fin:=tk },x.g,x.vw,x.vp⟩:=by
  by_cases h7:x.s.kind=7
  ·rw[ug h7,ug (x:=⟨{ x.s with fin:=tk },x.g,x.vw,x.vp⟩) h7];rfl
  ·rw[q2s hb h7,q2s (x:=⟨{ x.s with fin:=tk },x.g,x.vw,x.vp⟩) hb h7];rfl
 refine⟨⟨{ x.s with fin:=tk },x.g,x.vw,x.vp⟩,rfl,⟨h.k1,h.k9,?_,h.ge,M.qh h.ow h3 fun b e e2=>h.gw (by rw[←e2];exact e),M.qh h.op h3 fun b e e2=>h.gp (by rw[←e2];exact e),h.gw,h.gp,h.wp,h.nt,fun e=>?_⟩,rfl,rfl,fun b e=>.inl e,h3.mono fun b e=>.inl e⟩
 ·rw[←hc];exact h4
 ·have e':brk x.s.kind=true:=e
  rw[hb] at e';cases e'
def q6e (s:Stm)(t:Tok):Int × Stm:=if s.kind=7∧s.proving=true then (0,{ s with proof:=s.proof++[t] }) else if (s.words.length:Int)=qdl s.kind.toNat then (62,s) else (0,{ s with words:=s.words++[t] })
def q5i (s:Stm):Int × Stm:=if s.kind=7 then (if s.proving=true then (60,s) else if (s.words.length:Int) < q8x 7 then (62,s) else (0,{ s with proving:=true })) else (60,s)
def q31 (s:Stm)(t:Tok):Int × Stm:=if s.kind=7∧s.proving=false then (62,s) else if (s.words.length:Int) < q8x s.kind.toNat then (62,s) else (0,{ s with fin:=t })
def Turns (w:World)(N:Nat)(x:Itm)(r:Int × Stm)(e:Ending)(w':World):Prop:=∃x',e=.returned (.int .i64 r.1)∧x'.s=r.2∧Step w w' N x x'
theorem jf {W:World}{N n:Nat}{v:Value}{xs:List Value}(h:W.ownsRow N 36 4 v n xs):∃a c,v=.slice a n c:=by
 obtain⟨a,c,e,_⟩:=qm h
 exact⟨a,c,e⟩
theorem qdo (w:World)(N:Nat)(x:Itm)(tk:Tok)(h:q05 w N x)(hb:brk x.s.kind=false)(hS:yh w)(hN:N≤w.heap.size)(hw:x.s.words.length≤1048576)(hp:x.s.proof.length≤1048576) :
  Calls Tryz.prog 208 #[yc x,zn tk] w (Turns w N x (q6e x.s tk)):=by
 obtain⟨k,hk⟩:∃k:Nat,x.s.kind=k:=⟨x.s.kind.toNat,by have:=h.k1;omega⟩
 have hk10:k < 10:=by have:=h.k9;omega
 obtain⟨aw,cw,ew⟩:=jf h.ow
 obtain⟨ap,cp,ep⟩:=jf h.op
 have how:=h.ow
 have hop:=h.op
 have hgw:=h.gw
 have hgp:=h.gp
 rw[ew] at how hgw
 rw[ep] at hop hgp
 have c0:(q2f x)[0]?=some (.int .i64 k):=by
  by_cases h7:x.s.kind=7
  ·rw[ug h7,←hk];rfl
  ·rw[q2s hb h7,←hk];rfl
 have c9:(q2f x)[9]?=some (.slice aw x.s.words.length cw):=by
  by_cases h7:x.s.kind=7
  ·rw[ug h7,ew];rfl
  ·rw[q2s hb h7,ew];rfl
 have fin:∀e w',(x.s.kind≠7∨x.s.proving≠true)→(∃c,e=Ending.returned (.int .i64 c)∧qck w w' N x.g (q2f x) (qax x) k (.slice aw x.s.words.length cw) x.s.words tk c)→Turns w N x (q6e x.s tk) e w':=by
  rintro e w' hn ⟨c,rfl,hr⟩
  have hnn:¬(x.s.kind=7∧x.s.proving=true):=fun e=>hn.elim (fun h=>h e.1) fun h=>h e.2
  have kt:x.s.kind.toNat=k:=by omega
  rcases hr with ⟨h1,rfl,h3⟩ | ⟨h1,rfl,h3⟩
  ·refine⟨x,?_,?_,Step.below h h3⟩ <;> unfold q6e <;> rw[if_neg hnn,kt,if_pos h1]
  ·rw[←ew] at h3
   obtain⟨x',e1,e2⟩:=qjd h hb h3
   refine⟨x',?_,?_,e2⟩
   ·unfold q6e;rw[if_neg hnn,kt,if_neg h1]
   ·rw[e1];unfold q6e;rw[if_neg hnn,kt,if_neg h1]
 by_cases h7:x.s.kind=7
 ·have ey:yc x=.iface 197 (.pointer (some ⟨x.g,0,none⟩)):=by unfold yc q3v;simp only[h7];rfl
  rw[ey]
  cases hpr:x.s.proving with
  | true =>
   have c14:(q2f x)[14]?=some (.bool true):=by rw[ug h7,hpr];rfl
   have c15:(q2f x)[15]?=some (.slice ap x.s.proof.length cp):=by rw[ug h7,ep];rfl
   refine Calls.mono (qm3 w N x.g _ _ ap _ cp tk x.s.proof h.box c14 c15 hN rfl hp hop hgp) ?_
   rintro e w' ⟨rfl,ha⟩
   rw[←ep] at ha
   obtain⟨x',e1,e2⟩:=qje h h7 ha
   refine⟨x',?_,?_,e2⟩
   ·unfold q6e;rw[if_pos ⟨h7,hpr⟩]
   ·rw[e1];unfold q6e;rw[if_pos ⟨h7,hpr⟩]
  | false =>
   have c14:(q2f x)[14]?=some (.bool false):=by rw[ug h7,hpr];rfl
   exact Calls.mono (qm2 w N x.g _ _ k hk10 aw _ cw tk x.s.words h.box c0 c9 c14 hS hN rfl hw how hgw) fun e w' he=>fin e w' (.inr (by rw[hpr];exact Bool.false_ne_true)) he
 ·have ey:yc x=.iface 202 (.pointer (some ⟨x.g,0,none⟩)):=by unfold yc q3v;simp only[hb,h7];rfl
  rw[ey]
  exact Calls.mono (qm1 w N x.g _ _ k hk10 aw _ cw tk x.s.words h.box c0 c9 hS hN rfl hw how hgw) fun e w' he=>fin e w' (.inl h7) he
theorem q9c (w:World)(N:Nat)(x:Itm)(h:q05 w N x)(hb:brk x.s.kind=false)(hS:yh w) :
  Calls Tryz.prog 209 #[yc x] w (Turns w N x (q5i x.s)):=by
 by_cases h7:x.s.kind=7
 ·have ey:yc x=.iface 197 (.pointer (some ⟨x.g,0,none⟩)):=by unfold yc q3v;simp only[h7];rfl
  obtain⟨aw,cw,ew⟩:=jf h.ow
  have c0:(q2f x)[0]?=some (.int .i64 ((7:Nat):Int)):=by rw[ug h7,h7];rfl
  have c9:(q2f x)[9]?=some (.slice aw x.s.words.length cw):=by rw[ug h7,ew];rfl
  have c14:(q2f x)[14]?=some (.bool x.s.proving):=by rw[ug h7];rfl
  rw[ey]
  refine Calls.mono (beginT w x.g _ _ 7 (by omega) aw _ cw x.s.proving h.box c0 c9 c14 hS) ?_
  rintro e w' ⟨rfl,hc,hh⟩
  have same:w'.heap[x.g]?=some (.cells (q2f x) (qax x) (0,0))→Step w w' N x x:=fun hh=>⟨⟨h.k1,h.k9,hh,h.ge,M.qh h.ow hc fun b e e2=>h.gw (by rw[←e2];exact e),M.qh h.op hc fun b e e2=>h.gp (by rw[←e2];exact e),h.gw,h.gp,h.wp,h.nt,h.nb⟩,rfl,rfl,fun b e=>.inl e,hc.mono fun b e=>.inl e⟩
  unfold Turns
  by_cases hp:x.s.proving=true
  ·rw[show q5i x.s=(60,x.s) by unfold q5i;rw[if_pos h7,if_pos hp]]
   rw[if_pos hp] at hh
   exact⟨x,by rw[if_pos hp],rfl,same hh⟩
  ·rw[if_neg hp] at hh
   by_cases hl:(x.s.words.length:Int) < q8x 7
   ·rw[show q5i x.s=(62,x.s) by unfold q5i;rw[if_pos h7,if_neg hp,if_pos hl]]
    rw[if_pos hl] at hh
    exact⟨x,by rw[if_neg hp,if_pos hl],rfl,same hh⟩
   ·rw[show q5i x.s=(0,{ x.s with proving:=true }) by unfold q5i;rw[if_pos h7,if_neg hp,if_neg hl]]
    rw[if_neg hl] at hh
    obtain⟨x',e1,e2⟩:=qdn h h7 hc hh
    exact⟨x',by rw[if_neg hp,if_neg hl],e1,e2⟩
 ·have ey:yc x=.iface 202 (.pointer (some ⟨x.g,0,none⟩)):=by unfold yc q3v;simp only[hb,h7];rfl
  rw[ey]
  refine Calls.mono (beginC w x.g) ?_
  rintro e w' ⟨rfl,rfl⟩
  refine⟨x,?_,?_,Step.refl h⟩ <;> unfold q5i <;> rw[if_neg h7]
end S
namespace S
open Go.RowKit
theorem Turns.from {w w0 w':World}{N:Nat}{x:Itm}{r:Int × Stm}{e:Ending}(hb:Below w.heap.size w w0)(h:Turns w0 N x r e w'):Turns w N x r e w':=by
 obtain⟨x',h1,h2,h3⟩:=h
 exact⟨x',h1,h2,h3.from hb⟩
theorem q9d (w:World)(N:Nat)(x:Itm)(tk:Tok)(h:q05 w N x)(hb:brk x.s.kind=false)(hn:¬(x.s.kind=7∧x.s.proving=false))(hS:yh w) :
  Calls Tryz.prog 268 #[.pointer (some ⟨x.g,0,none⟩),zn tk] w (Turns w N x (q31 x.s tk)):=by
 obtain⟨k,hk⟩:∃k:Nat,x.s.kind=k:=⟨x.s.kind.toNat,by have:=h.k1;omega⟩
 have hk10:k < 10:=by have:=h.k9;omega
 have kt:x.s.kind.toNat=k:=by omega
 obtain⟨aw,cw,ew⟩:=jf h.ow
 have c0:(q2f x)[0]?=some (.int .i64 k):=by
  by_cases h7:x.s.kind=7
  ·rw[ug h7,←hk];rfl
  ·rw[q2s hb h7,←hk];rfl
 have c9:(q2f x)[9]?=some (.slice aw x.s.words.length cw):=by
  by_cases h7:x.s.kind=7
  ·rw[ug h7,ew];rfl
  ·rw[q2s hb h7,ew];rfl
 have cs:14≤(q2f x).size:=by
  by_cases h7:x.s.kind=7
  ·rw[ug h7];exact (by decide:14≤16)
  ·rw[q2s hb h7];exact Nat.le_refl _
 refine Calls.mono (qfz w x.g _ _ k hk10 aw _ cw tk h.box c0 c9 cs hS) ?_
 rintro e w' ⟨rfl,hc,hh⟩
 have same:w'.heap[x.g]?=some (.cells (q2f x) (qax x) (0,0))→Step w w' N x x:=fun hh=>⟨⟨h.k1,h.k9,hh,h.ge,M.qh h.ow hc fun b e e2=>h.gw (by rw[←e2];exact e),M.qh h.op hc fun b e e2=>h.gp (by rw[←e2];exact e),h.gw,h.gp,h.wp,h.nt,h.nb⟩,rfl,rfl,fun b e=>.inl e,hc.mono fun b e=>.inl e⟩
 unfold Turns
 by_cases hl:(x.s.words.length:Int) < q8x k
 ·rw[show q31 x.s tk=(62,x.s) by unfold q31;rw[if_neg hn,kt,if_pos hl]]
  rw[if_pos hl] at hh
  exact⟨x,by rw[if_pos hl],rfl,same hh⟩
 ·rw[show q31 x.s tk=(0,{ x.s with fin:=tk }) by unfold q31;rw[if_neg hn,kt,if_neg hl]]
  rw[if_neg hl] at hh
  obtain⟨x',e1,e2⟩:=itm_fin h hb hc hh
  exact⟨x',by rw[if_neg hl],e1,e2⟩
theorem qjf (w:World)(N:Nat)(x:Itm)(tk:Tok)(h:q05 w N x)(hb:brk x.s.kind=false)(hS:yh w) :
  Calls Tryz.prog 247 #[yc x,zn tk] w (Turns w N x (q31 x.s tk)):=by
 obtain⟨w1,hw1⟩:∃w1,w1=w.alloc (.cells #[.string tk.text,.int .i64 tk.off,.int .i64 tk.line,.int .i64 tk.col] 36):=⟨_,rfl⟩
 have hb1:Below w.heap.size w w1:=by rw[hw1];exact qg _ _
 have HN1:w1.heap[w.heap.size]?=some (.cells #[.string tk.text,.int .i64 tk.off,.int .i64 tk.line,.int .i64 tk.col] 36 (0,0)):=by rw[hw1];exact heap_alloc_new w _
 have x0:w1.cell? ⟨w.heap.size,0,none⟩=some (.string tk.text):=M.qc HN1 0
 have x1:w1.cell? ⟨w.heap.size,1,none⟩=some (.int .i64 tk.off):=M.qc HN1 1
 have x2:w1.cell? ⟨w.heap.size,2,none⟩=some (.int .i64 tk.line):=M.qc HN1 2
 have x3:w1.cell? ⟨w.heap.size,3,none⟩=some (.int .i64 tk.col):=M.qc HN1 3
 have HB:Hid (Below w.heap.size w w1):=hb1
 have HBd:Hid (Below w.heap.size w w1.drew):=below_drewN hb1 1
 by_cases h7:x.s.kind=7
 ·have ey:yc x=.iface 197 (.pointer (some ⟨x.g,0,none⟩)):=by unfold yc q3v;simp only[h7];rfl
  rw[ey]
  have a1:=q4q
  have hI1:=h.under hb1
  cases hpr:x.s.proving with
  | true =>
   have c14:w1.cell? ⟨x.g,14,none⟩=some (.bool true):=by rw[M.qc hI1.box 14,ug h7,hpr];rfl
   have FN:Hid _:=q9d w1.drew N x tk (h.under HBd.out) hb (fun e=>by rw[hpr] at e;cases e.2) (hS.under HBd.out)
   unfold zn at FN ⊢
   generalize yc x=ix at *
   clear h hS HN1 hb1 hI1
   go_enter Tryz.func247,Tryz.ntmps247
   go_upto_region 1 with fail
   rw[←hw1]
   clear hw1
   go_upto_region 5 with fail
   go_region_law (go_simp;go_at_call 268;refine Calls.mono FN.out ?_;rintro e w2 ⟨x',rfl,hs,hp⟩;have HP:Hid (x'.s=(q31 x.s tk).2∧Step w w2 N x x'):=⟨hs,hp.from HBd.out⟩;clear hp hs)
   go_wp2
   go_ret
   exact⟨x',rfl,HP.out.1,HP.out.2⟩
  | false =>
   have c14:w1.cell? ⟨x.g,14,none⟩=some (.bool false):=by rw[M.qc hI1.box 14,ug h7,hpr];rfl
   have FN:Hid (Turns w N x (q31 x.s tk) (.returned (.int .i64 62)) w1):=by
    show Turns _ _ _ _ _ _
    have e1:q31 x.s tk=(62,x.s):=by unfold q31;rw[if_pos ⟨h7,hpr⟩]
    rw[e1]
    exact⟨x,rfl,rfl,Step.below h HB.out⟩
   unfold zn
   generalize yc x=ix at *
   clear h hS HN1 hb1 hI1
   go_enter Tryz.func247,Tryz.ntmps247
   go_upto_region 1 with fail
   rw[←hw1]
   clear hw1
   go_wp2
   go_ret
   exact FN.out
 ·have ey:yc x=.iface 202 (.pointer (some ⟨x.g,0,none⟩)):=by unfold yc q3v;simp only[hb,h7];rfl
  rw[ey]
  have a1:=q65
  have a2:=q7k
  have FN:Hid _:=q9d w1 N x tk (h.under HB.out) hb (fun e=>h7 e.1) (hS.under HB.out)
  unfold zn at FN ⊢
  generalize yc x=ix at *
  clear h hS HN1 hb1
  go_enter Tryz.func247,Tryz.ntmps247
  go_upto_region 1 with fail
  rw[←hw1]
  clear hw1
  go_wp2_with fail
  refine Calls.mono FN.out ?_
  rintro e w2 ⟨x',rfl,hs,hp⟩
  have HP:Hid (x'.s=(q31 x.s tk).2∧Step w w2 N x x'):=⟨hs,hp.from HB.out⟩
  clear hp hs FN
  go_wp2
  go_ret
  exact⟨x',rfl,HP.out.1,HP.out.2⟩
end S
namespace S
open Go.RowKit
def q0r (s:ByteArray):Nat:=((List.range 10).find? fun k=>decide (kwB k=s)).getD 0
theorem q1s {s:ByteArray}{j:Nat}(hj:j < 10)(hn:∀i,i < j→kwB i≠s)(he:kwB j=s):q0r s=j:=by
 unfold q0r
 have:(List.range 10).find? (fun k=>decide (kwB k=s))=some j:=by
  rw[List.find?_range_eq_some]
  exact⟨by simpa using he,by simpa using hj,fun i hi=>by simpa using hn i hi⟩
 rw[this]
 rfl
theorem qg0 {s:ByteArray}(hn:∀i,i < 10→kwB i≠s):q0r s=0:=by
 unfold q0r
 have:(List.range 10).find? (fun k=>decide (kwB k=s))=none:=by
  rw[List.find?_range_eq_none]
  exact fun i hi=>by simpa using hn i hi
 rw[this]
 rfl
theorem qm4 (s:ByteArray):q0r s < 10:=by
 unfold q0r
 cases h:(List.range 10).find? fun k=>decide (kwB k=s) with
 | none=>simp
 | some j=>have:=List.mem_of_find?_eq_some h;simpa using this
theorem q45 {l:List UInt8}{s:ByteArray}(h:¬(⟨l.toArray⟩:ByteArray)=s):(l == s.toList)=false:=by
 rw[beq_eq_false_iff_ne]
 intro e
 apply h
 rw[e]
 cases s
 simp[ByteArray.toList_eq]
theorem emp_ne {s:ByteArray}(h:¬(⟨#[]⟩:ByteArray)=s):s.toList.isEmpty=false:=by
 have:=q45 (l:=[]) h
 cases hs:s.toList with
 | nil=>rw[hs] at this;simp at this
 | cons=>rfl
theorem qcl {w:World}(h:yh w):w.rangeAt 0 0 [.string ⟨#[]⟩,.bool false,.int .i64 0,.int .i64 0,.string ⟨#[36,99]⟩,.bool false,.int .i64 1,.int .i64 9223372036854775807,.string ⟨#[36,118]⟩,.bool false,.int .i64 1,.int .i64 9223372036854775807,.string ⟨#[36,102]⟩,.bool true,.int .i64 2,.int .i64 2,.string ⟨#[36,101]⟩,.bool true,.int .i64 1,.int .i64 9223372036854775807,.string ⟨#[36,100]⟩,.bool false,.int .i64 2,.int .i64 32,.string ⟨#[36,97]⟩,.bool true,.int .i64 1,.int .i64 9223372036854775807,.string ⟨#[36,112]⟩,.bool true,.int .i64 1,.int .i64 9223372036854775807,.string ⟨#[36,123]⟩,.bool false,.int .i64 0,.int .i64 0,.string ⟨#[36,125]⟩,.bool false,.int .i64 0,.int .i64 0]:=fun j v hv=>by
 have hj:j < 40:=(List.getElem?_eq_some_iff.1 hv).1
 rw[Nat.zero_add]
 obtain⟨k,r,hk,hr,rfl⟩:∃k r,k < 10∧r < 4∧j=k * 4 + r:=⟨j / 4,j % 4,by omega,by omega,by omega⟩
 obtain⟨h0,h1,h2,h3⟩:=h k hk
 obtain rfl | rfl | rfl | rfl:r=0∨r=1∨r=2∨r=3:=by omega
 all_goals (obtain rfl | rfl | rfl | rfl | rfl | rfl | rfl | rfl | rfl | rfl:k=0∨k=1∨k=2∨k=3∨k=4∨k=5∨k=6∨k=7∨k=8∨k=9:=by omega)
 all_goals (cases hv;first | exact h0 | exact h1 | exact h2 | exact h3)
theorem ix0 (W:World):(Instr.index 194 (.agg #[.string ⟨#[]⟩,.bool false,.int .i64 0,.int .i64 0,.string ⟨#[36,99]⟩,.bool false,.int .i64 1,.int .i64 9223372036854775807,.string ⟨#[36,118]⟩,.bool false,.int .i64 1,.int .i64 9223372036854775807,.string ⟨#[36,102]⟩,.bool true,.int .i64 2,.int .i64 2,.string ⟨#[36,101]⟩,.bool true,.int .i64 1,.int .i64 9223372036854775807,.string ⟨#[36,100]⟩,.bool false,.int .i64 2,.int .i64 32,.string ⟨#[36,97]⟩,.bool true,.int .i64 1,.int .i64 9223372036854775807,.string ⟨#[36,112]⟩,.bool true,.int .i64 1,.int .i64 9223372036854775807,.string ⟨#[36,123]⟩,.bool false,.int .i64 0,.int .i64 0,.string ⟨#[36,125]⟩,.bool false,.int .i64 0,.int .i64 0]) (.int .i64 0)).run Tryz.prog W=.ok (.agg #[.string ⟨#[]⟩,.bool false,.int .i64 0,.int .i64 0]) W:=by kernel_rfl
theorem ix1 (W:World):(Instr.index 194 (.agg #[.string ⟨#[]⟩,.bool false,.int .i64 0,.int .i64 0,.string ⟨#[36,99]⟩,.bool false,.int .i64 1,.int .i64 9223372036854775807,.string ⟨#[36,118]⟩,.bool false,.int .i64 1,.int .i64 9223372036854775807,.string ⟨#[36,102]⟩,.bool true,.int .i64 2,.int .i64 2,.string ⟨#[36,101]⟩,.bool true,.int .i64 1,.int .i64 9223372036854775807,.string ⟨#[36,100]⟩,.bool false,.int .i64 2,.int .i64 32,.string ⟨#[36,97]⟩,.bool true,.int .i64 1,.int .i64 9223372036854775807,.string ⟨#[36,112]⟩,.bool true,.int .i64 1,.int .i64 9223372036854775807,.string ⟨#[36,123]⟩,.bool false,.int .i64 0,.int .i64 0,.string ⟨#[36,125]⟩,.bool false,.int .i64 0,.int .i64 0]) (.int .i64 1)).run Tryz.prog W=.ok (.agg #[.string ⟨#[36,99]⟩,.bool false,.int .i64 1,.int .i64 9223372036854775807]) W:=by kernel_rfl
theorem ix2 (W:World):(Instr.index 194 (.agg #[.string ⟨#[]⟩,.bool false,.int .i64 0,.int .i64 0,.string ⟨#[36,99]⟩,.bool false,.int .i64 1,.int .i64 9223372036854775807,.string ⟨#[36,118]⟩,.bool false,.int .i64 1,.int .i64 9223372036854775807,.string ⟨#[36,102]⟩,.bool true,.int .i64 2,.int .i64 2,.string ⟨#[36,101]⟩,.bool true,.int .i64 1,.int .i64 9223372036854775807,.string ⟨#[36,100]⟩,.bool false,.int .i64 2,.int .i64 32,.string ⟨#[36,97]⟩,.bool true,.int .i64 1,.int .i64 9223372036854775807,.string ⟨#[36,112]⟩,.bool true,.int .i64 1,.int .i64 9223372036854775807,.string ⟨#[36,123]⟩,.bool false,.int .i64 0,.int .i64 0,.string ⟨#[36,125]⟩,.bool false,.int .i64 0,.int .i64 0]) (.int .i64 2)).run Tryz.prog W=.ok (.agg #[.string ⟨#[36,118]⟩,.bool false,.int .i64 1,.int .i64 9223372036854775807]) W:=by kernel_rfl
theorem ix3 (W:World):(Instr.index 194 (.agg #[.string ⟨#[]⟩,.bool false,.int .i64 0,.int .i64 0,.string ⟨#[36,99]⟩,.bool false,.int .i64 1,.int .i64 9223372036854775807,.string ⟨#[36,118]⟩,.bool false,.int .i64 1,.int .i64 9223372036854775807,.string ⟨#[36,102]⟩,.bool true,.int .i64 2,.int .i64 2,.string ⟨#[36,101]⟩,.bool true,.int .i64 1,.int .i64 9223372036854775807,.string ⟨#[36,100]⟩,.bool false,.int .i64 2,.int .i64 32,.string ⟨#[36,97]⟩,.bool true,.int .i64 1,.int .i64 9223372036854775807,.string ⟨#[36,112]⟩,.bool true,.int .i64 1,.int .i64 9223372036854775807,.string ⟨#[36,123]⟩,.bool false,.int .i64 0,.int .i64 0,.string ⟨#[36,125]⟩,.bool false,.int .i64 0,.int .i64 0]) (.int .i64 3)).run Tryz.prog W=.ok (.agg #[.string ⟨#[36,102]⟩,.bool true,.int .i64 2,.int .i64 2]) W:=by kernel_rfl
theorem ix4 (W:World):(Instr.index 194 (.agg #[.string ⟨#[]⟩,.bool false,.int .i64 0,.int .i64 0,.string ⟨#[36,99]⟩,.bool false,.int .i64 1,.int .i64 9223372036854775807,.string ⟨#[36,118]⟩,.bool false,.int .i64 1,.int .i64 9223372036854775807,.string ⟨#[36,102]⟩,.bool true,.int .i64 2,.int .i64 2,.string ⟨#[36,101]⟩,.bool true,.int .i64 1,.int .i64 9223372036854775807,.string ⟨#[36,100]⟩,.bool false,.int .i64 2,.int .i64 32,.string ⟨#[36,97]⟩,.bool true,.int .i64 1,.int .i64 9223372036854775807,.string ⟨#[36,112]⟩,.bool true,.int .i64 1,.int .i64 9223372036854775807,.string ⟨#[36,123]⟩,.bool false,.int .i64 0,.int .i64 0,.string ⟨#[36,125]⟩,.bool false,.int .i64 0,.int .i64 0]) (.int .i64 4)).run Tryz.prog W=.ok (.agg #[.string ⟨#[36,101]⟩,.bool true,.int .i64 1,.int .i64 9223372036854775807]) W:=by kernel_rfl
theorem ix5 (W:World):(Instr.index 194 (.agg #[.string ⟨#[]⟩,.bool false,.int .i64 0,.int .i64 0,.string ⟨#[36,99]⟩,.bool false,.int .i64 1,.int .i64 9223372036854775807,.string ⟨#[36,118]⟩,.bool false,.int .i64 1,.int .i64 9223372036854775807,.string ⟨#[36,102]⟩,.bool true,.int .i64 2,.int .i64 2,.string ⟨#[36,101]⟩,.bool true,.int .i64 1,.int .i64 9223372036854775807,.string ⟨#[36,100]⟩,.bool false,.int .i64 2,.int .i64 32,.string ⟨#[36,97]⟩,.bool true,.int .i64 1,.int .i64 9223372036854775807,.string ⟨#[36,112]⟩,.bool true,.int .i64 1,.int .i64 9223372036854775807,.string ⟨#[36,123]⟩,.bool false,.int .i64 0,.int .i64 0,.string ⟨#[36,125]⟩,.bool false,.int .i64 0,.int .i64 0]) (.int .i64 5)).run Tryz.prog W=.ok (.agg #[.string ⟨#[36,100]⟩,.bool false,.int .i64 2,.int .i64 32]) W:=by kernel_rfl
theorem ix6 (W:World):(Instr.index 194 (.agg #[.string ⟨#[]⟩,.bool false,.int .i64 0,.int .i64 0,.string ⟨#[36,99]⟩,.bool false,.int .i64 1,.int .i64 9223372036854775807,.string ⟨#[36,118]⟩,.bool false,.int .i64 1,.int .i64 9223372036854775807,.string ⟨#[36,102]⟩,.bool true,.int .i64 2,.int .i64 2,.string ⟨#[36,101]⟩,.bool true,.int .i64 1,.int .i64 9223372036854775807,.string ⟨#[36,100]⟩,.bool false,.int .i64 2,.int .i64 32,.string ⟨#[36,97]⟩,.bool true,.int .i64 1,.int .i64 9223372036854775807,.string ⟨#[36,112]⟩,.bool true,.int .i64 1,.int .i64 9223372036854775807,.string ⟨#[36,123]⟩,.bool false,.int .i64 0,.int .i64 0,.string ⟨#[36,125]⟩,.bool false,.int .i64 0,.int .i64 0]) (.int .i64 6)).run Tryz.prog W=.ok (.agg #[.string ⟨#[36,97]⟩,.bool true,.int .i64 1,.int .i64 9223372036854775807]) W:=by kernel_rfl
theorem ix7 (W:World):(Instr.index 194 (.agg #[.string ⟨#[]⟩,.bool false,.int .i64 0,.int .i64 0,.string ⟨#[36,99]⟩,.bool false,.int .i64 1,.int .i64 9223372036854775807,.string ⟨#[36,118]⟩,.bool false,.int .i64 1,.int .i64 9223372036854775807,.string ⟨#[36,102]⟩,.bool true,.int .i64 2,.int .i64 2,.string ⟨#[36,101]⟩,.bool true,.int .i64 1,.int .i64 9223372036854775807,.string ⟨#[36,100]⟩,.bool false,.int .i64 2,.int .i64 32,.string ⟨#[36,97]⟩,.bool true,.int .i64 1,.int .i64 9223372036854775807,.string ⟨#[36,112]⟩,.bool true,.int .i64 1,.int .i64 9223372036854775807,.string ⟨#[36,123]⟩,.bool false,.int .i64 0,.int .i64 0,.string ⟨#[36,125]⟩,.bool false,.int .i64 0,.int .i64 0]) (.int .i64 7)).run Tryz.prog W=.ok (.agg #[.string ⟨#[36,112]⟩,.bool true,.int .i64 1,.int .i64 9223372036854775807]) W:=by kernel_rfl
theorem ix8 (W:World):(Instr.index 194 (.agg #[.string ⟨#[]⟩,.bool false,.int .i64 0,.int .i64 0,.string ⟨#[36,99]⟩,.bool false,.int .i64 1,.int .i64 9223372036854775807,.string ⟨#[36,118]⟩,.bool false,.int .i64 1,.int .i64 9223372036854775807,.string ⟨#[36,102]⟩,.bool true,.int .i64 2,.int .i64 2,.string ⟨#[36,101]⟩,.bool true,.int .i64 1,.int .i64 9223372036854775807,.string ⟨#[36,100]⟩,.bool false,.int .i64 2,.int .i64 32,.string ⟨#[36,97]⟩,.bool true,.int .i64 1,.int .i64 9223372036854775807,.string ⟨#[36,112]⟩,.bool true,.int .i64 1,.int .i64 9223372036854775807,.string ⟨#[36,123]⟩,.bool false,.int .i64 0,.int .i64 0,.string ⟨#[36,125]⟩,.bool false,.int .i64 0,.int .i64 0]) (.int .i64 8)).run Tryz.prog W=.ok (.agg #[.string ⟨#[36,123]⟩,.bool false,.int .i64 0,.int .i64 0]) W:=by kernel_rfl
theorem ix9 (W:World):(Instr.index 194 (.agg #[.string ⟨#[]⟩,.bool false,.int .i64 0,.int .i64 0,.string ⟨#[36,99]⟩,.bool false,.int .i64 1,.int .i64 9223372036854775807,.string ⟨#[36,118]⟩,.bool false,.int .i64 1,.int .i64 9223372036854775807,.string ⟨#[36,102]⟩,.bool true,.int .i64 2,.int .i64 2,.string ⟨#[36,101]⟩,.bool true,.int .i64 1,.int .i64 9223372036854775807,.string ⟨#[36,100]⟩,.bool false,.int .i64 2,.int .i64 32,.string ⟨#[36,97]⟩,.bool true,.int .i64 1,.int .i64 9223372036854775807,.string ⟨#[36,112]⟩,.bool true,.int .i64 1,.int .i64 9223372036854775807,.string ⟨#[36,123]⟩,.bool false,.int .i64 0,.int .i64 0,.string ⟨#[36,125]⟩,.bool false,.int .i64 0,.int .i64 0]) (.int .i64 9)).run Tryz.prog W=.ok (.agg #[.string ⟨#[36,125]⟩,.bool false,.int .i64 0,.int .i64 0]) W:=by kernel_rfl
theorem q28 (w:World)(s:ByteArray)(h:yh w) :
  Calls Tryz.prog 211 #[.string s] w fun e w'=>e=.returned (.int .i64 (q0r s))∧Below w.heap.size w w':=by
 have RG:Hid (w.rangeAt 0 0 [.string ⟨#[]⟩,.bool false,.int .i64 0,.int .i64 0,.string ⟨#[36,99]⟩,.bool false,.int .i64 1,.int .i64 9223372036854775807,.string ⟨#[36,118]⟩,.bool false,.int .i64 1,.int .i64 9223372036854775807,.string ⟨#[36,102]⟩,.bool true,.int .i64 2,.int .i64 2,.string ⟨#[36,101]⟩,.bool true,.int .i64 1,.int .i64 9223372036854775807,.string ⟨#[36,100]⟩,.bool false,.int .i64 2,.int .i64 32,.string ⟨#[36,97]⟩,.bool true,.int .i64 1,.int .i64 9223372036854775807,.string ⟨#[36,112]⟩,.bool true,.int .i64 1,.int .i64 9223372036854775807,.string ⟨#[36,123]⟩,.bool false,.int .i64 0,.int .i64 0,.string ⟨#[36,125]⟩,.bool false,.int .i64 0,.int .i64 0]):=qcl h
 clear h
 go_enter Tryz.func211,Tryz.ntmps211
 go_upto_region 1 with fail
 refine wp_region_list ?_
 refine wpList_load_mid rfl 194 _ rfl 0 0 rfl [.string ⟨#[]⟩,.bool false,.int .i64 0,.int .i64 0,.string ⟨#[36,99]⟩,.bool false,.int .i64 1,.int .i64 9223372036854775807,.string ⟨#[36,118]⟩,.bool false,.int .i64 1,.int .i64 9223372036854775807,.string ⟨#[36,102]⟩,.bool true,.int .i64 2,.int .i64 2,.string ⟨#[36,101]⟩,.bool true,.int .i64 1,.int .i64 9223372036854775807,.string ⟨#[36,100]⟩,.bool false,.int .i64 2,.int .i64 32,.string ⟨#[36,97]⟩,.bool true,.int .i64 1,.int .i64 9223372036854775807,.string ⟨#[36,112]⟩,.bool true,.int .i64 1,.int .i64 9223372036854775807,.string ⟨#[36,123]⟩,.bool false,.int .i64 0,.int .i64 0,.string ⟨#[36,125]⟩,.bool false,.int .i64 0,.int .i64 0] _ RG.out Tryz.underlying194 rfl (by kernel_rfl) ?_
 clear RG
 go_wp2_with fail
 go_loopw [6] (fun i wx=>∃j:Nat,j≤10∧i=.int .i64 j∧Hid (∀i,i < j→kwB i≠s)∧Hid (Below w.heap.size w wx)) (fun i _=>10 - (intOf i).toNat)
 case atStart=>exact⟨0,Nat.zero_le _,rfl,fun i hi=>absurd hi (Nat.not_lt_zero _),Below.refl _ _⟩
 case round =>
  obtain⟨j,hj,rfl,hA,hB⟩:=hrel
  by_cases hlt:j < 10
  ·obtain rfl | rfl | rfl | rfl | rfl | rfl | rfl | rfl | rfl | rfl:j=0∨j=1∨j=2∨j=3∨j=4∨j=5∨j=6∨j=7∨j=8∨j=9:=by omega
   ·have x:=ix0 wr
    have KW:kwB 0=⟨#[]⟩:=rfl
    by_cases he:(⟨#[]⟩:ByteArray)=s
    ·have A2:Hid (q0r s=0):=q1s (by omega) hA.out he
     subst he
     go_wp2_with fail
     go_ret
     exact⟨by rw[A2.out];rfl,hB.out.alloc hB.out.size _⟩
    ·have A2:Hid (∀i,i < 1→kwB i≠s):=fun i hi=>by
      by_cases h:i < 0
      ·exact hA.out i h
      ·obtain rfl:i=0:=by omega
       exact he
     have he2:s.toList.isEmpty=false:=by
      exact emp_ne he
     clear he
     go_wp2
     exact⟨⟨1,by omega,by go_num,A2.out,hB.out.alloc hB.out.size _⟩,by simp[intOf]⟩
   ·have x:=ix1 wr
    have KW:kwB 1=⟨#[36,99]⟩:=rfl
    by_cases he:(⟨#[36,99]⟩:ByteArray)=s
    ·have A2:Hid (q0r s=1):=q1s (by omega) hA.out he
     subst he
     go_wp2_with fail
     go_ret
     exact⟨by rw[A2.out];rfl,hB.out.alloc hB.out.size _⟩
    ·have A2:Hid (∀i,i < 2→kwB i≠s):=fun i hi=>by
      by_cases h:i < 1
      ·exact hA.out i h
      ·obtain rfl:i=1:=by omega
       exact he
     have he2:([36,99] == s.toList)=false:=by
      exact q45 he
     clear he
     go_wp2
     exact⟨⟨2,by omega,by go_num,A2.out,hB.out.alloc hB.out.size _⟩,by simp[intOf]⟩
   ·have x:=ix2 wr
    have KW:kwB 2=⟨#[36,118]⟩:=rfl
    by_cases he:(⟨#[36,118]⟩:ByteArray)=s
    ·have A2:Hid (q0r s=2):=q1s (by omega) hA.out he
     subst he
     go_wp2_with fail
     go_ret
     exact⟨by rw[A2.out];rfl,hB.out.alloc hB.out.size _⟩
    ·have A2:Hid (∀i,i < 3→kwB i≠s):=fun i hi=>by
      by_cases h:i < 2
      ·exact hA.out i h
      ·obtain rfl:i=2:=by omega
       exact he
     have he2:([36,118] == s.toList)=false:=by
      exact q45 he
     clear he
     go_wp2
     exact⟨⟨3,by omega,by go_num,A2.out,hB.out.alloc hB.out.size _⟩,by simp[intOf]⟩
   ·have x:=ix3 wr
    have KW:kwB 3=⟨#[36,102]⟩:=rfl
    by_cases he:(⟨#[36,102]⟩:ByteArray)=s
    ·have A2:Hid (q0r s=3):=q1s (by omega) hA.out he
     subst he
     go_wp2_with fail
     go_ret
     exact⟨by rw[A2.out];rfl,hB.out.alloc hB.out.size _⟩
    ·have A2:Hid (∀i,i < 4→kwB i≠s):=fun i hi=>by
      by_cases h:i < 3
      ·exact hA.out i h
      ·obtain rfl:i=3:=by omega
       exact he
     have he2:([36,102] == s.toList)=false:=by
      exact q45 he
     clear he
     go_wp2
     exact⟨⟨4,by omega,by go_num,A2.out,hB.out.alloc hB.out.size _⟩,by simp[intOf]⟩
   ·have x:=ix4 wr
    have KW:kwB 4=⟨#[36,101]⟩:=rfl
    by_cases he:(⟨#[36,101]⟩:ByteArray)=s
    ·have A2:Hid (q0r s=4):=q1s (by omega) hA.out he
     subst he
     go_wp2_with fail
     go_ret
     exact⟨by rw[A2.out];rfl,hB.out.alloc hB.out.size _⟩
    ·have A2:Hid (∀i,i < 5→kwB i≠s):=fun i hi=>by
      by_cases h:i < 4
      ·exact hA.out i h
      ·obtain rfl:i=4:=by omega
       exact he
     have he2:([36,101] == s.toList)=false:=by
      exact q45 he
     clear he
     go_wp2
     exact⟨⟨5,by omega,by go_num,A2.out,hB.out.alloc hB.out.size _⟩,by simp[intOf]⟩
   ·have x:=ix5 wr
    have KW:kwB 5=⟨#[36,100]⟩:=rfl
    by_cases he:(⟨#[36,100]⟩:ByteArray)=s
    ·have A2:Hid (q0r s=5):=q1s (by omega) hA.out he
     subst he
     go_wp2_with fail
     go_ret
     exact⟨by rw[A2.out];rfl,hB.out.alloc hB.out.size _⟩
    ·have A2:Hid (∀i,i < 6→kwB i≠s):=fun i hi=>by
      by_cases h:i < 5
      ·exact hA.out i h
      ·obtain rfl:i=5:=by omega
       exact he
     have he2:([36,100] == s.toList)=false:=by
      exact q45 he
     clear he
     go_wp2
     exact⟨⟨6,by omega,by go_num,A2.out,hB.out.alloc hB.out.size _⟩,by simp[intOf]⟩
   ·have x:=ix6 wr
    have KW:kwB 6=⟨#[36,97]⟩:=rfl
    by_cases he:(⟨#[36,97]⟩:ByteArray)=s
    ·have A2:Hid (q0r s=6):=q1s (by omega) hA.out he
     subst he
     go_wp2_with fail
     go_ret
     exact⟨by rw[A2.out];rfl,hB.out.alloc hB.out.size _⟩
    ·have A2:Hid (∀i,i < 7→kwB i≠s):=fun i hi=>by
      by_cases h:i < 6
      ·exact hA.out i h
      ·obtain rfl:i=6:=by omega
       exact he
     have he2:([36,97] == s.toList)=false:=by
      exact q45 he
     clear he
     go_wp2
     exact⟨⟨7,by omega,by go_num,A2.out,hB.out.alloc hB.out.size _⟩,by simp[intOf]⟩
   ·have x:=ix7 wr
    have KW:kwB 7=⟨#[36,112]⟩:=rfl
    by_cases he:(⟨#[36,112]⟩:ByteArray)=s
    ·have A2:Hid (q0r s=7):=q1s (by omega) hA.out he
     subst he
     go_wp2_with fail
     go_ret
     exact⟨by rw[A2.out];rfl,hB.out.alloc hB.out.size _⟩
    ·have A2:Hid (∀i,i < 8→kwB i≠s):=fun i hi=>by
      by_cases h:i < 7
      ·exact hA.out i h
      ·obtain rfl:i=7:=by omega
       exact he
     have he2:([36,112] == s.toList)=false:=by
      exact q45 he
     clear he
     go_wp2
     exact⟨⟨8,by omega,by go_num,A2.out,hB.out.alloc hB.out.size _⟩,by simp[intOf]⟩
   ·have x:=ix8 wr
    have KW:kwB 8=⟨#[36,123]⟩:=rfl
    by_cases he:(⟨#[36,123]⟩:ByteArray)=s
    ·have A2:Hid (q0r s=8):=q1s (by omega) hA.out he
     subst he
     go_wp2_with fail
     go_ret
     exact⟨by rw[A2.out];rfl,hB.out.alloc hB.out.size _⟩
    ·have A2:Hid (∀i,i < 9→kwB i≠s):=fun i hi=>by
      by_cases h:i < 8
      ·exact hA.out i h
      ·obtain rfl:i=8:=by omega
       exact he
     have he2:([36,123] == s.toList)=false:=by
      exact q45 he
     clear he
     go_wp2
     exact⟨⟨9,by omega,by go_num,A2.out,hB.out.alloc hB.out.size _⟩,by simp[intOf]⟩
   ·have x:=ix9 wr
    have KW:kwB 9=⟨#[36,125]⟩:=rfl
    by_cases he:(⟨#[36,125]⟩:ByteArray)=s
    ·have A2:Hid (q0r s=9):=q1s (by omega) hA.out he
     subst he
     go_wp2_with fail
     go_ret
     exact⟨by rw[A2.out];rfl,hB.out.alloc hB.out.size _⟩
    ·have A2:Hid (∀i,i < 10→kwB i≠s):=fun i hi=>by
      by_cases h:i < 9
      ·exact hA.out i h
      ·obtain rfl:i=9:=by omega
       exact he
     have he2:([36,125] == s.toList)=false:=by
      exact q45 he
     clear he
     go_wp2
     exact⟨⟨10,by omega,by go_num,A2.out,hB.out.alloc hB.out.size _⟩,by simp[intOf]⟩
  ·obtain rfl:j=10:=by omega
   have A2:Hid (q0r s=0):=qg0 hA.out
   go_wp2
   go_ret
   exact⟨by rw[A2.out];rfl,hB.out⟩
end S
namespace S
open Go.RowKit
def eqS:ByteArray:=⟨#[36,61]⟩
def dotS:ByteArray:=⟨#[36,46]⟩
def yj (s:Stm)(t:Tok):Int × Stm × Bool :=
 if q2q t.text=true then ((q6e s t).1,(q6e s t).2,false)
 else if t.text=eqS then ((q5i s).1,(q5i s).2,false)
 else if t.text=dotS then ((q31 s t).1,(q31 s t).2,decide ((q31 s t).1=0))
 else (60,s,false)
def Within (w:World)(N R:Nat)(x:Itm)(rs:Array Value)(r:Int × Stm × Bool)(e:Ending)(w':World):Prop :=
 ∃x',e=.returned (.int .i64 r.1)∧x'.s=r.2.1∧q05 w' N x'∧x'.g=x.g∧q3v x'=q3v x∧(∀b,blk x' b→blk x b∨w.heap.size≤b)∧M.Ch (fun b=>blk x b∨b=R) w w'∧w'.heap[R]?=some (.cells (if r.2.2=true then rs.setIfInBounds 1 .nilIface else rs) 160 (0,0))
theorem Within.from {w w0 w':World}{N R:Nat}{x:Itm}{rs:Array Value}{r:Int × Stm × Bool}{e:Ending}(hb:Below w.heap.size w w0)(h:Within w0 N R x rs r e w'):Within w N R x rs r e w':=by
 obtain⟨x',h1,h2,h3,h4,h5,h6,h7,h8⟩:=h
 exact⟨x',h1,h2,h3,h4,h5,fun b e=>(h6 b e).elim .inl fun e=>.inr (Nat.le_trans hb.size e),(M.Ch.of_below hb).trans h7,h8⟩
theorem Within.q9e {w w':World}{N R:Nat}{x:Itm}{rs:Array Value}{r:Int × Stm}{e:Ending}(hR:w.heap[R]?=some (.cells rs 160 (0,0)))(hx:¬blk x R)(h:Turns w N x r e w'):Within w N R x rs (r.1,r.2,false) e w':=by
 obtain⟨x',h1,h2,h3⟩:=h
 exact⟨x',h1,h2,h3.at',h3.g,h3.y,h3.bl,h3.ch.mono fun _ e=>.inl e,(h3.ch.block R (Array.getElem?_eq_some_iff.1 hR).1 hx).trans hR⟩
theorem end_any (w:World)(N R:Nat)(x:Itm)(tk:Tok)(rs:Array Value)(hR:w.heap[R]?=some (.cells rs 160 (0,0)))(h1:rs[1]?=some (yc x))(hx:¬blk x R)(h:q05 w N x)(hb:brk x.s.kind=false)(hS:yh w) :
  Calls Tryz.prog 210 #[.pointer (some ⟨R,0,none⟩),zn tk] w (Within w N R x rs ((q31 x.s tk).1,(q31 x.s tk).2,decide ((q31 x.s tk).1=0))):=by
 obtain⟨w1,hw1⟩:∃w1,w1=w.alloc (.cells #[.string tk.text,.int .i64 tk.off,.int .i64 tk.line,.int .i64 tk.col] 36):=⟨_,rfl⟩
 have hb1:Below w.heap.size w w1:=by rw[hw1];exact qg _ _
 have HN1:w1.heap[w.heap.size]?=some (.cells #[.string tk.text,.int .i64 tk.off,.int .i64 tk.line,.int .i64 tk.col] 36 (0,0)):=by rw[hw1];exact heap_alloc_new w _
 have x0:w1.cell? ⟨w.heap.size,0,none⟩=some (.string tk.text):=M.qc HN1 0
 have x1:w1.cell? ⟨w.heap.size,1,none⟩=some (.int .i64 tk.off):=M.qc HN1 1
 have x2:w1.cell? ⟨w.heap.size,2,none⟩=some (.int .i64 tk.line):=M.qc HN1 2
 have x3:w1.cell? ⟨w.heap.size,3,none⟩=some (.int .i64 tk.col):=M.qc HN1 3
 have hlR:R < w.heap.size:=(Array.getElem?_eq_some_iff.1 hR).1
 have HBd:Hid (Below w.heap.size w w1.drew):=below_drewN hb1 1
 have hR1:w1.heap[R]?=some (.cells rs 160 (0,0)):=(hb1.block R hlR).trans hR
 have r1:w1.cell? ⟨R,1,none⟩=some (yc x):=(M.qc hR1 1).trans h1
 have EN:Hid _:=qjf w1.drew N x tk (h.under HBd.out) hb (hS.under HBd.out)
 have HR:Hid (w.heap[R]?=some (.cells rs 160 (0,0))):=hR
 have HX:Hid (¬blk x R∧rs[1]?=some (yc x)∧R < w.heap.size):=⟨hx,h1,hlR⟩
 unfold zn at EN ⊢
 obtain⟨ix,hix⟩:∃ix,yc x=ix:=⟨_,rfl⟩
 rw[hix] at r1 EN HX
 clear h hS HN1 hb1 hR1 hR h1 hx hix hlR
 obtain⟨c,hc⟩:∃c,(q31 x.s tk).1=c:=⟨_,rfl⟩
 have HC:Hid ((q31 x.s tk).1=c):=hc
 clear hc
 go_enter Tryz.func210,Tryz.ntmps210
 go_upto_region 1 with fail
 rw[←hw1]
 clear hw1
 go_region_law (go_simp;go_at_call 247;refine Calls.mono EN.out ?_;rintro e w2 ⟨x',rfl,hs,hp⟩;have HP:Hid (x'.s=(q31 x.s tk).2∧Step w w2 N x x'):=⟨hs,hp.from HBd.out⟩;rw[HC.out];clear hp hs)
 all_goals
  have K2:Hid (w2.heap[R]?=some (.cells rs 160 (0,0))):=(HP.out.2.ch.block R HX.out.2.2 HX.out.1).trans HR.out
  by_cases he:c=0
  ·have hb0:(c == 0)=true:=by simpa using he
   have d1:w2.cell? ⟨R,1,none⟩=some ix:=(M.qc K2.out 1).trans HX.out.2.1
   have f1:w2.frozen? ⟨R,1,none⟩=false:=by simp[World.frozen?,K2.out]
   have HE:Hid (c=0):=he
   clear he
   go_wp2
   go_ret
   have hS:=HP.out.2
   have hne:∀b,blk x' b→¬b=R:=fun b e e2=>by
    subst e2
    rcases hS.bl _ e with e | e
    ·exact HX.out.1 e
    ·exact absurd HX.out.2.2 (Nat.not_lt.2 e)
   refine⟨x',by rw[HC.out];rfl,HP.out.1,hS.at'.ch (M.xu w2 R 1 .nilIface) hne,hS.g,hS.y,hS.bl,(hS.ch.mono fun _ e=>.inl e).trans ((M.xu w2 R 1 .nilIface).mono fun _ e=>.inr e),?_⟩
   rw[HC.out,HE.out]
   exact M.qj K2.out
  ·have hb0:(c == 0)=false:=by simpa using he
   have HE:Hid (¬c=0):=he
   clear he
   go_wp2
   go_ret
   have hS:=HP.out.2
   refine⟨x',by rw[HC.out];rfl,HP.out.1,hS.at',hS.g,hS.y,hS.bl,hS.ch.mono fun _ e=>.inl e,?_⟩
   rw[HC.out]
   show _=some (Obj.cells (if decide (c=0)=true then _ else _) _ _)
   rw[if_neg (by simpa using HE.out)]
   exact K2.out
theorem qi9 {l:List UInt8}{s:ByteArray}(h:¬s=(⟨l.toArray⟩:ByteArray)):(s.toList == l)=false:=by
 have:=q45 (l:=l) (s:=s) fun e=>h e.symm
 rw[beq_eq_false_iff_ne] at this ⊢
 exact fun e=>this e.symm
theorem q9f (w:World)(N R:Nat)(x:Itm)(tk:Tok)(rs:Array Value)(hR:w.heap[R]?=some (.cells rs 160 (0,0)))(h1:rs[1]?=some (yc x))(hx:¬blk x R)(h:q05 w N x)(hb:brk x.s.kind=false)(hS:yh w)(hN:N≤w.heap.size)(hw:x.s.words.length≤1048576)(hp:x.s.proof.length≤1048576)(ht:tk.text.size≤1048576) :
  Calls Tryz.prog 148 #[.pointer (some ⟨R,0,none⟩),zn tk] w (Within w N R x rs (yj x.s tk)):=by
 obtain⟨w1,hw1⟩:∃w1,w1=w.alloc (.cells #[.string tk.text,.int .i64 tk.off,.int .i64 tk.line,.int .i64 tk.col] 36):=⟨_,rfl⟩
 have hb1:Below w.heap.size w w1:=by rw[hw1];exact qg _ _
 have HN1:w1.heap[w.heap.size]?=some (.cells #[.string tk.text,.int .i64 tk.off,.int .i64 tk.line,.int .i64 tk.col] 36 (0,0)):=by rw[hw1];exact heap_alloc_new w _
 have x0:w1.cell? ⟨w.heap.size,0,none⟩=some (.string tk.text):=M.qc HN1 0
 have x1:w1.cell? ⟨w.heap.size,1,none⟩=some (.int .i64 tk.off):=M.qc HN1 1
 have x2:w1.cell? ⟨w.heap.size,2,none⟩=some (.int .i64 tk.line):=M.qc HN1 2
 have x3:w1.cell? ⟨w.heap.size,3,none⟩=some (.int .i64 tk.col):=M.qc HN1 3
 have hlR:R < w.heap.size:=(Array.getElem?_eq_some_iff.1 hR).1
 have HB:Hid (Below w.heap.size w w1):=hb1
 have HBd:Hid (Below w.heap.size w w1.drew):=below_drewN hb1 1
 have hR1:w1.heap[R]?=some (.cells rs 160 (0,0)):=(hb1.block R hlR).trans hR
 have hR1d:w1.drew.heap[R]?=some (.cells rs 160 (0,0)):=hR1
 have r1:w1.cell? ⟨R,1,none⟩=some (yc x):=(M.qc hR1 1).trans h1
 have PL:Hid _:=qbf tk.text w1 (by omega)
 cases hpl:q2q tk.text with
 | true =>
  rw[hpl] at PL
  have AD:Hid (Calls Tryz.prog 208 #[yc x,zn tk] w1.drew (Within w N R x rs (yj x.s tk))):=by
   show Calls _ _ _ _ _
   refine Calls.mono (qdo w1.drew N x tk (h.under HBd.out) hb (hS.under HBd.out) (Nat.le_trans hN hb1.size) hw hp) fun e w' he=>?_
   have:=(Within.q9e hR1d hx he).from HBd.out
   unfold yj
   rw[if_pos hpl]
   exact this
  obtain⟨ix,hix⟩:∃ix,yc x=ix:=⟨_,rfl⟩
  obtain⟨Q,hQ⟩:∃Q,Within w N R x rs (yj x.s tk)=Q:=⟨_,rfl⟩
  rw[hix] at r1 AD
  rw[hQ] at AD ⊢
  have HQ:Hid (∀e w',Q e w'→∃c,e=.returned (.int .i64 c)):=fun e w' hq=>by rw[←hQ] at hq;obtain⟨_,h1,_⟩:=hq;exact⟨_,h1⟩
  unfold zn at AD ⊢
  clear h hS HN1 hb1 hR1 hR1d hR h1 hx hix hlR hQ
  go_enter Tryz.func148,Tryz.ntmps148
  go_upto_region 1 with fail
  rw[←hw1]
  clear hw1
  go_wp2_with fail
  refine Calls.mono PL.out ?_
  rintro e w2 ⟨rfl,hw2⟩
  subst w2
  clear PL
  go_upto_region 2 with fail
  go_region_law (go_simp;go_at_call 208;refine Calls.mono AD.out ?_;intro e w2 hq;have HP:Hid (Q e w2):=hq;obtain⟨c,rfl⟩:=HQ.out _ _ hq;clear hq)
  all_goals go_wp2
  all_goals go_ret
  all_goals exact HP.out
 | false =>
  rw[hpl] at PL
  have hnp:¬q2q tk.text=true:=by rw[hpl];exact Bool.false_ne_true
  by_cases heq:tk.text=eqS
  ·have AD:Hid (Calls Tryz.prog 209 #[yc x] w1 (Within w N R x rs (yj x.s tk))):=by
    show Calls _ _ _ _ _
    refine Calls.mono (q9c w1 N x (h.under HB.out) hb (hS.under HB.out)) fun e w' he=>?_
    have:=(Within.q9e hR1 hx he).from HB.out
    unfold yj
    rw[if_neg hnp,if_pos heq]
    exact this
   obtain⟨ix,hix⟩:∃ix,yc x=ix:=⟨_,rfl⟩
   obtain⟨Q,hQ⟩:∃Q,Within w N R x rs (yj x.s tk)=Q:=⟨_,rfl⟩
   rw[hix] at r1 AD
   rw[hQ] at AD ⊢
   have HQ:Hid (∀e w',Q e w'→∃c,e=.returned (.int .i64 c)):=fun e w' hq=>by rw[←hQ] at hq;obtain⟨_,h1,_⟩:=hq;exact⟨_,h1⟩
   obtain⟨tx,u1,u2,u3⟩:=tk
   dsimp only at heq
   subst heq
   unfold zn
   clear h hS HN1 hb1 hR1 hR1d hR h1 hx hix hlR hQ hpl hnp
   go_enter Tryz.func148,Tryz.ntmps148
   go_upto_region 1 with fail
   rw[←hw1]
   clear hw1
   go_wp2_with fail
   refine Calls.mono PL.out ?_
   rintro e w2 ⟨rfl,hw2⟩
   subst w2
   clear PL
   unfold eqS at *
   go_wp2_with fail
   refine Calls.mono AD.out ?_
   intro e w2 hq
   have HP:Hid (Q e w2):=hq
   obtain⟨c,rfl⟩:=HQ.out _ _ hq
   clear hq
   go_wp2
   try go_ret
   exact HP.out
  ·have le:(tk.text.toList == [36,61])=false:=qi9 heq
   by_cases hdt:tk.text=dotS
   ·have AD:Hid (Calls Tryz.prog 210 #[.pointer (some ⟨R,0,none⟩),zn tk] w1 (Within w N R x rs (yj x.s tk))):=by
     show Calls _ _ _ _ _
     refine Calls.mono (end_any w1 N R x tk rs hR1 h1 hx (h.under HB.out) hb (hS.under HB.out)) fun e w' he=>?_
     have:=he.from HB.out
     unfold yj
     rw[if_neg hnp,if_neg heq,if_pos hdt]
     exact this
    obtain⟨Q,hQ⟩:∃Q,Within w N R x rs (yj x.s tk)=Q:=⟨_,rfl⟩
    rw[hQ] at AD ⊢
    have HQ:Hid (∀e w',Q e w'→∃c,e=.returned (.int .i64 c)):=fun e w' hq=>by rw[←hQ] at hq;obtain⟨_,h1,_⟩:=hq;exact⟨_,h1⟩
    obtain⟨tx,u1,u2,u3⟩:=tk
    dsimp only at hdt
    subst hdt
    unfold zn at AD ⊢
    clear h hS HN1 hb1 hR1 hR1d hR h1 hx hlR hQ hpl hnp heq r1
    go_enter Tryz.func148,Tryz.ntmps148
    go_upto_region 1 with fail
    rw[←hw1]
    clear hw1
    go_wp2_with fail
    refine Calls.mono PL.out ?_
    rintro e w2 ⟨rfl,hw2⟩
    subst w2
    clear PL le
    unfold dotS at *
    go_wp2_with fail
    refine Calls.mono AD.out ?_
    intro e w2 hq
    have HP:Hid (Q e w2):=hq
    obtain⟨c,rfl⟩:=HQ.out _ _ hq
    clear hq
    go_wp2
    try go_ret
    exact HP.out
   ·have le2:(tk.text.toList == [36,46])=false:=qi9 hdt
    have HP:Hid (Within w N R x rs (yj x.s tk) (.returned (.int .i64 60)) w1):=by
     show Within _ _ _ _ _ _ _ _
     unfold yj
     rw[if_neg hnp,if_neg heq,if_neg hdt]
     exact (Within.q9e hR1 hx (r:=(60,x.s)) ⟨x,rfl,rfl,Step.refl (h.under HB.out)⟩).from HB.out
    unfold zn
    clear h hS HN1 hb1 hR1 hR1d hR h1 hx hlR hpl hnp heq r1 hdt
    go_enter Tryz.func148,Tryz.ntmps148
    go_upto_region 1 with fail
    rw[←hw1]
    clear hw1
    go_wp2_with fail
    refine Calls.mono PL.out ?_
    rintro e w2 ⟨rfl,hw2⟩
    subst w2
    clear PL
    go_wp2
    go_ret
    exact HP.out
end S
end Go.Proofs.YtbancemhfjjmlaaGreatDoor
