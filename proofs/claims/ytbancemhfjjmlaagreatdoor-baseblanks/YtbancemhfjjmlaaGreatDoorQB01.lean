/- Laid together. -/
import Derived.Test.YtbancemhfjjmlaaGreatDoorQB00
import Derived.Handy
import Derived.Deep.QuietTactic
import Derived.Shelf.LaysM
import Derived.Shelf.Strconv.Clone
import Derived.Shelf.Strings.Search1
import Derived.Shelf.Strings.Search2
import Derived.Shelf.Strings.Search3
import Derived.Shelf.Strings.Count
import Derived.Shelf.Strings.LastIndex
import Derived.Lib.LastIndexByte
import Derived.Lib.Bytealg
import Derived.Lib.IndexAny
import Derived.RegionTactic
import Derived.ChangeAlike
import Derived.Deep.RegionWith
import Derived.Deep.RegionLaw
set_option maxRecDepth 100000
set_option maxHeartbeats 32000000
namespace Go.Proofs.YtbancemhfjjmlaaGreatDoor
namespace S
open Go.RowKit
def q1d (s:ByteArray):Nat:=((List.range 10).find? fun k=>decide (kwB k=s)).getD 0
theorem q27 {s:ByteArray}{j:Nat}(hj:j < 10)(hn:∀i,i < j→kwB i≠s)(he:kwB j=s):q1d s=j:=by
 unfold q1d;have:(List.range 10).find? (fun k=>decide (kwB k=s))=some j:=by
  rw[List.find?_range_eq_some];exact⟨by simpa using he,by simpa using hj,fun i hi=>by simpa using hn i hi⟩
 rw[this]
 rfl
theorem qhw {s:ByteArray}(hn:∀i,i < 10→kwB i≠s):q1d s=0:=by
 unfold q1d;have:(List.range 10).find? (fun k=>decide (kwB k=s))=none:=by
  rw[List.find?_range_eq_none];exact fun i hi=>by simpa using hn i hi
 rw[this]
 rfl
theorem qop (s:ByteArray):q1d s < 10:=by
 unfold q1d
 cases h:(List.range 10).find? fun k=>decide (kwB k=s) with
 | none=>simp
 | some j=>have:=List.mem_of_find?_eq_some h;simpa using this
theorem q4m {l:List UInt8}{s:ByteArray}(h:¬(⟨l.toArray⟩:ByteArray)=s):(l == s.toList)=false:=by
 rw[beq_eq_false_iff_ne];intro e
 apply h
 rw[e]
 cases s;simp[ByteArray.toList_eq]
theorem emp_ne {s:ByteArray}(h:¬(⟨#[]⟩:ByteArray)=s):s.toList.isEmpty=false:=by
 have:=q4m (l:=[]) h
 cases hs:s.toList with
 | nil=>rw[hs] at this;simp at this
 | cons=>rfl
theorem qe1 {w:World}(h:gy w):w.rangeAt 0 0 [.string ⟨#[]⟩,.bool false,.int .i64 0,.int .i64 0,.string ⟨#[36,99]⟩,.bool false,.int .i64 1,.int .i64 9223372036854775807,.string ⟨#[36,118]⟩,.bool false,.int .i64 1,.int .i64 9223372036854775807,.string ⟨#[36,102]⟩,.bool true,.int .i64 2,.int .i64 2,.string ⟨#[36,101]⟩,.bool true,.int .i64 1,.int .i64 9223372036854775807,.string ⟨#[36,100]⟩,.bool false,.int .i64 2,.int .i64 32,.string ⟨#[36,97]⟩,.bool true,.int .i64 1,.int .i64 9223372036854775807,.string ⟨#[36,112]⟩,.bool true,.int .i64 1,.int .i64 9223372036854775807,.string ⟨#[36,123]⟩,.bool false,.int .i64 0,.int .i64 0,.string ⟨#[36,125]⟩,.bool false,.int .i64 0,.int .i64 0]:=fun j v hv=>by
 have hj:j < 40:=(List.getElem?_eq_some_iff.1 hv).1;rw[Nat.zero_add];obtain⟨k,r,hk,hr,rfl⟩:∃k r,k < 10∧r < 4∧j=k * 4 + r:=⟨j / 4,j % 4,by omega,by omega,by omega⟩;obtain⟨h0,h1,h2,h3⟩:=h k hk;obtain rfl | rfl | rfl | rfl:r=0∨r=1∨r=2∨r=3:=by omega
 all_goals (obtain rfl | rfl | rfl | rfl | rfl | rfl | rfl | rfl | rfl | rfl:k=0∨k=1∨k=2∨k=3∨k=4∨k=5∨k=6∨k=7∨k=8∨k=9:=by omega)
 all_goals (cases hv;first | exact h0 | exact h1 | exact h2 | exact h3)
theorem ix0 (W:World):(Instr.index 194 (.agg #[.string ⟨#[]⟩,.bool false,.int .i64 0,.int .i64 0,.string ⟨#[36,99]⟩,.bool false,.int .i64 1,.int .i64 9223372036854775807,.string ⟨#[36,118]⟩,.bool false,.int .i64 1,.int .i64 9223372036854775807,.string ⟨#[36,102]⟩,.bool true,.int .i64 2,.int .i64 2,.string ⟨#[36,101]⟩,.bool true,.int .i64 1,.int .i64 9223372036854775807,.string ⟨#[36,100]⟩,.bool false,.int .i64 2,.int .i64 32,.string ⟨#[36,97]⟩,.bool true,.int .i64 1,.int .i64 9223372036854775807,.string ⟨#[36,112]⟩,.bool true,.int .i64 1,.int .i64 9223372036854775807,.string ⟨#[36,123]⟩,.bool false,.int .i64 0,.int .i64 0,.string ⟨#[36,125]⟩,.bool false,.int .i64 0,.int .i64 0]) (.int .i64 0)).run Tryz.prog W=.ok (.agg #[.string ⟨#[]⟩,.bool false,.int .i64 0,.int .i64 0]) W:=by kernel_rfl
theorem ix1 (W:World):(Instr.index 194 (.agg #[.string ⟨#[]⟩,.bool false,.int .i64 0,.int .i64 0,.string ⟨#[36,99]⟩,.bool false,.int .i64 1,.int .i64 9223372036854775807,.string ⟨#[36,118]⟩,.bool false,.int .i64 1,.int .i64 9223372036854775807,.string ⟨#[36,102]⟩,.bool true,.int .i64 2,.int .i64 2,.string ⟨#[36,101]⟩,.bool true,.int .i64 1,.int .i64 9223372036854775807,.string ⟨#[36,100]⟩,.bool false,.int .i64 2,.int .i64 32,.string ⟨#[36,97]⟩,.bool true,.int .i64 1,.int .i64 9223372036854775807,.string ⟨#[36,112]⟩,.bool true,.int .i64 1,.int .i64 9223372036854775807,.string ⟨#[36,123]⟩,.bool false,.int .i64 0,.int .i64 0,.string ⟨#[36,125]⟩,.bool false,.int .i64 0,.int .i64 0]) (.int .i64 1)).run Tryz.prog W=.ok (.agg #[.string ⟨#[36,99]⟩,.bool false,.int .i64 1,.int .i64 9223372036854775807]) W:=by kernel_rfl
theorem ix2 (W:World):(Instr.index 194 (.agg #[.string ⟨#[]⟩,.bool false,.int .i64 0,.int .i64 0,.string ⟨#[36,99]⟩,.bool false,.int .i64 1,.int .i64 9223372036854775807,.string ⟨#[36,118]⟩,.bool false,.int .i64 1,.int .i64 9223372036854775807,.string ⟨#[36,102]⟩,.bool true,.int .i64 2,.int .i64 2,.string ⟨#[36,101]⟩,.bool true,.int .i64 1,.int .i64 9223372036854775807,.string ⟨#[36,100]⟩,.bool false,.int .i64 2,.int .i64 32,.string ⟨#[36,97]⟩,.bool true,.int .i64 1,.int .i64 9223372036854775807,.string ⟨#[36,112]⟩,.bool true,.int .i64 1,.int .i64 9223372036854775807,.string ⟨#[36,123]⟩,.bool false,.int .i64 0,.int .i64 0,.string ⟨#[36,125]⟩,.bool false,.int .i64 0,.int .i64 0]) (.int .i64 2)).run Tryz.prog W=.ok (.agg #[.string ⟨#[36,118]⟩,.bool false,.int .i64 1,.int .i64 9223372036854775807]) W:=by kernel_rfl
theorem ix3 (W:World):(Instr.index 194 (.agg #[.string ⟨#[]⟩,.bool false,.int .i64 0,.int .i64 0,.string ⟨#[36,99]⟩,.bool false,.int .i64 1,.int .i64 9223372036854775807,.string ⟨#[36,118]⟩,.bool false,.int .i64 1,.int .i64 9223372036854775807,.string ⟨#[36,102]⟩,.bool true,.int .i64 2,.int .i64 2,.string ⟨#[36,101]⟩,.bool true,.int .i64 1,.int .i64 9223372036854775807,.string ⟨#[36,100]⟩,.bool false,.int .i64 2,.int .i64 32,.string ⟨#[36,97]⟩,.bool true,.int .i64 1,.int .i64 9223372036854775807,.string ⟨#[36,112]⟩,.bool true,.int .i64 1,.int .i64 9223372036854775807,.string ⟨#[36,123]⟩,.bool false,.int .i64 0,.int .i64 0,.string ⟨#[36,125]⟩,.bool false,.int .i64 0,.int .i64 0]) (.int .i64 3)).run Tryz.prog W=.ok (.agg #[.string ⟨#[36,102]⟩,.bool true,.int .i64 2,.int .i64 2]) W:=by kernel_rfl
theorem ix4 (W:World):(Instr.index 194 (.agg #[.string ⟨#[]⟩,.bool false,.int .i64 0,.int .i64 0,.string ⟨#[36,99]⟩,.bool false,.int .i64 1,.int .i64 9223372036854775807,.string ⟨#[36,118]⟩,.bool false,.int .i64 1,.int .i64 9223372036854775807,.string ⟨#[36,102]⟩,.bool true,.int .i64 2,.int .i64 2,.string ⟨#[36,101]⟩,.bool true,.int .i64 1,.int .i64 9223372036854775807,.string ⟨#[36,100]⟩,.bool false,.int .i64 2,.int .i64 32,.string ⟨#[36,97]⟩,.bool true,.int .i64 1,.int .i64 9223372036854775807,.string ⟨#[36,112]⟩,.bool true,.int .i64 1,.int .i64 9223372036854775807,.string ⟨#[36,123]⟩,.bool false,.int .i64 0,.int .i64 0,.string ⟨#[36,125]⟩,.bool false,.int .i64 0,.int .i64 0]) (.int .i64 4)).run Tryz.prog W=.ok (.agg #[.string ⟨#[36,101]⟩,.bool true,.int .i64 1,.int .i64 9223372036854775807]) W:=by kernel_rfl
theorem ix5 (W:World):(Instr.index 194 (.agg #[.string ⟨#[]⟩,.bool false,.int .i64 0,.int .i64 0,.string ⟨#[36,99]⟩,.bool false,.int .i64 1,.int .i64 9223372036854775807,.string ⟨#[36,118]⟩,.bool false,.int .i64 1,.int .i64 9223372036854775807,.string ⟨#[36,102]⟩,.bool true,.int .i64 2,.int .i64 2,.string ⟨#[36,101]⟩,.bool true,.int .i64 1,.int .i64 9223372036854775807,.string ⟨#[36,100]⟩,.bool false,.int .i64 2,.int .i64 32,.string ⟨#[36,97]⟩,.bool true,.int .i64 1,.int .i64 9223372036854775807,.string ⟨#[36,112]⟩,.bool true,.int .i64 1,.int .i64 9223372036854775807,.string ⟨#[36,123]⟩,.bool false,.int .i64 0,.int .i64 0,.string ⟨#[36,125]⟩,.bool false,.int .i64 0,.int .i64 0]) (.int .i64 5)).run Tryz.prog W=.ok (.agg #[.string ⟨#[36,100]⟩,.bool false,.int .i64 2,.int .i64 32]) W:=by kernel_rfl
theorem ix6 (W:World):(Instr.index 194 (.agg #[.string ⟨#[]⟩,.bool false,.int .i64 0,.int .i64 0,.string ⟨#[36,99]⟩,.bool false,.int .i64 1,.int .i64 9223372036854775807,.string ⟨#[36,118]⟩,.bool false,.int .i64 1,.int .i64 9223372036854775807,.string ⟨#[36,102]⟩,.bool true,.int .i64 2,.int .i64 2,.string ⟨#[36,101]⟩,.bool true,.int .i64 1,.int .i64 9223372036854775807,.string ⟨#[36,100]⟩,.bool false,.int .i64 2,.int .i64 32,.string ⟨#[36,97]⟩,.bool true,.int .i64 1,.int .i64 9223372036854775807,.string ⟨#[36,112]⟩,.bool true,.int .i64 1,.int .i64 9223372036854775807,.string ⟨#[36,123]⟩,.bool false,.int .i64 0,.int .i64 0,.string ⟨#[36,125]⟩,.bool false,.int .i64 0,.int .i64 0]) (.int .i64 6)).run Tryz.prog W=.ok (.agg #[.string ⟨#[36,97]⟩,.bool true,.int .i64 1,.int .i64 9223372036854775807]) W:=by kernel_rfl
theorem ix7 (W:World):(Instr.index 194 (.agg #[.string ⟨#[]⟩,.bool false,.int .i64 0,.int .i64 0,.string ⟨#[36,99]⟩,.bool false,.int .i64 1,.int .i64 9223372036854775807,.string ⟨#[36,118]⟩,.bool false,.int .i64 1,.int .i64 9223372036854775807,.string ⟨#[36,102]⟩,.bool true,.int .i64 2,.int .i64 2,.string ⟨#[36,101]⟩,.bool true,.int .i64 1,.int .i64 9223372036854775807,.string ⟨#[36,100]⟩,.bool false,.int .i64 2,.int .i64 32,.string ⟨#[36,97]⟩,.bool true,.int .i64 1,.int .i64 9223372036854775807,.string ⟨#[36,112]⟩,.bool true,.int .i64 1,.int .i64 9223372036854775807,.string ⟨#[36,123]⟩,.bool false,.int .i64 0,.int .i64 0,.string ⟨#[36,125]⟩,.bool false,.int .i64 0,.int .i64 0]) (.int .i64 7)).run Tryz.prog W=.ok (.agg #[.string ⟨#[36,112]⟩,.bool true,.int .i64 1,.int .i64 9223372036854775807]) W:=by kernel_rfl
theorem ix8 (W:World):(Instr.index 194 (.agg #[.string ⟨#[]⟩,.bool false,.int .i64 0,.int .i64 0,.string ⟨#[36,99]⟩,.bool false,.int .i64 1,.int .i64 9223372036854775807,.string ⟨#[36,118]⟩,.bool false,.int .i64 1,.int .i64 9223372036854775807,.string ⟨#[36,102]⟩,.bool true,.int .i64 2,.int .i64 2,.string ⟨#[36,101]⟩,.bool true,.int .i64 1,.int .i64 9223372036854775807,.string ⟨#[36,100]⟩,.bool false,.int .i64 2,.int .i64 32,.string ⟨#[36,97]⟩,.bool true,.int .i64 1,.int .i64 9223372036854775807,.string ⟨#[36,112]⟩,.bool true,.int .i64 1,.int .i64 9223372036854775807,.string ⟨#[36,123]⟩,.bool false,.int .i64 0,.int .i64 0,.string ⟨#[36,125]⟩,.bool false,.int .i64 0,.int .i64 0]) (.int .i64 8)).run Tryz.prog W=.ok (.agg #[.string ⟨#[36,123]⟩,.bool false,.int .i64 0,.int .i64 0]) W:=by kernel_rfl
theorem ix9 (W:World):(Instr.index 194 (.agg #[.string ⟨#[]⟩,.bool false,.int .i64 0,.int .i64 0,.string ⟨#[36,99]⟩,.bool false,.int .i64 1,.int .i64 9223372036854775807,.string ⟨#[36,118]⟩,.bool false,.int .i64 1,.int .i64 9223372036854775807,.string ⟨#[36,102]⟩,.bool true,.int .i64 2,.int .i64 2,.string ⟨#[36,101]⟩,.bool true,.int .i64 1,.int .i64 9223372036854775807,.string ⟨#[36,100]⟩,.bool false,.int .i64 2,.int .i64 32,.string ⟨#[36,97]⟩,.bool true,.int .i64 1,.int .i64 9223372036854775807,.string ⟨#[36,112]⟩,.bool true,.int .i64 1,.int .i64 9223372036854775807,.string ⟨#[36,123]⟩,.bool false,.int .i64 0,.int .i64 0,.string ⟨#[36,125]⟩,.bool false,.int .i64 0,.int .i64 0]) (.int .i64 9)).run Tryz.prog W=.ok (.agg #[.string ⟨#[36,125]⟩,.bool false,.int .i64 0,.int .i64 0]) W:=by kernel_rfl
theorem q2j (w:World)(s:ByteArray)(h:gy w) :
  Calls Tryz.prog 211 #[.string s] w fun e w'=>e=.returned (.int .i64 (q1d s))∧Below w.heap.size w w':=by
 have RG:Hid (w.rangeAt 0 0 [.string ⟨#[]⟩,.bool false,.int .i64 0,.int .i64 0,.string ⟨#[36,99]⟩,.bool false,.int .i64 1,.int .i64 9223372036854775807,.string ⟨#[36,118]⟩,.bool false,.int .i64 1,.int .i64 9223372036854775807,.string ⟨#[36,102]⟩,.bool true,.int .i64 2,.int .i64 2,.string ⟨#[36,101]⟩,.bool true,.int .i64 1,.int .i64 9223372036854775807,.string ⟨#[36,100]⟩,.bool false,.int .i64 2,.int .i64 32,.string ⟨#[36,97]⟩,.bool true,.int .i64 1,.int .i64 9223372036854775807,.string ⟨#[36,112]⟩,.bool true,.int .i64 1,.int .i64 9223372036854775807,.string ⟨#[36,123]⟩,.bool false,.int .i64 0,.int .i64 0,.string ⟨#[36,125]⟩,.bool false,.int .i64 0,.int .i64 0]):=qe1 h;clear h;go_enter Tryz.func211,Tryz.ntmps211;go_upto_region 1 with fail;refine wp_region_list ?_;refine wpList_load_mid rfl 194 _ rfl 0 0 rfl [.string ⟨#[]⟩,.bool false,.int .i64 0,.int .i64 0,.string ⟨#[36,99]⟩,.bool false,.int .i64 1,.int .i64 9223372036854775807,.string ⟨#[36,118]⟩,.bool false,.int .i64 1,.int .i64 9223372036854775807,.string ⟨#[36,102]⟩,.bool true,.int .i64 2,.int .i64 2,.string ⟨#[36,101]⟩,.bool true,.int .i64 1,.int .i64 9223372036854775807,.string ⟨#[36,100]⟩,.bool false,.int .i64 2,.int .i64 32,.string ⟨#[36,97]⟩,.bool true,.int .i64 1,.int .i64 9223372036854775807,.string ⟨#[36,112]⟩,.bool true,.int .i64 1,.int .i64 9223372036854775807,.string ⟨#[36,123]⟩,.bool false,.int .i64 0,.int .i64 0,.string ⟨#[36,125]⟩,.bool false,.int .i64 0,.int .i64 0] _ RG.out Tryz.underlying194 rfl (by kernel_rfl) ?_;clear RG;go_wp2_with fail
 go_loopw [6] (fun i wx=>∃j:Nat,j≤10∧i=.int .i64 j∧Hid (∀i,i < j→kwB i≠s)∧Hid (Below w.heap.size w wx)) (fun i _=>10 - (intOf i).toNat)
 case atStart=>exact⟨0,Nat.zero_le _,rfl,fun i hi=>absurd hi (Nat.not_lt_zero _),bRf⟩
 case round =>
  obtain⟨j,hj,rfl,hA,hB⟩:=hrel
  by_cases hlt:j < 10
  ·obtain rfl | rfl | rfl | rfl | rfl | rfl | rfl | rfl | rfl | rfl:j=0∨j=1∨j=2∨j=3∨j=4∨j=5∨j=6∨j=7∨j=8∨j=9:=by omega
   ·have x:=ix0 wr;have KW:kwB 0=⟨#[]⟩:=rfl
    by_cases he:(⟨#[]⟩:ByteArray)=s
    ·have A2:Hid (q1d s=0):=q27 (by omega) hA.out he;subst he;go_wp2_with fail
     go_ret
     exact⟨by rw[A2.out];rfl,hB.out.alloc hB.out.size _⟩
    ·have A2:Hid (∀i,i < 1→kwB i≠s):=fun i hi=>by
      by_cases h:i < 0
      ·exact hA.out i h
      ·obtain rfl:i=0:=by omega
       exact he
     have he2:s.toList.isEmpty=false:=by
      exact emp_ne he
     clear he
     go_wp2
     exact⟨⟨1,by omega,by go_num,A2.out,hB.out.alloc hB.out.size _⟩,by simp[intOf]⟩
   ·have x:=ix1 wr;have KW:kwB 1=⟨#[36,99]⟩:=rfl
    by_cases he:(⟨#[36,99]⟩:ByteArray)=s
    ·have A2:Hid (q1d s=1):=q27 (by omega) hA.out he;subst he;go_wp2_with fail
     go_ret
     exact⟨by rw[A2.out];rfl,hB.out.alloc hB.out.size _⟩
    ·have A2:Hid (∀i,i < 2→kwB i≠s):=fun i hi=>by
      by_cases h:i < 1
      ·exact hA.out i h
      ·obtain rfl:i=1:=by omega
       exact he
     have he2:([36,99] == s.toList)=false:=by
      exact q4m he
     clear he
     go_wp2
     exact⟨⟨2,by omega,by go_num,A2.out,hB.out.alloc hB.out.size _⟩,by simp[intOf]⟩
   ·have x:=ix2 wr;have KW:kwB 2=⟨#[36,118]⟩:=rfl
    by_cases he:(⟨#[36,118]⟩:ByteArray)=s
    ·have A2:Hid (q1d s=2):=q27 (by omega) hA.out he;subst he;go_wp2_with fail
     go_ret
     exact⟨by rw[A2.out];rfl,hB.out.alloc hB.out.size _⟩
    ·have A2:Hid (∀i,i < 3→kwB i≠s):=fun i hi=>by
      by_cases h:i < 2
      ·exact hA.out i h
      ·obtain rfl:i=2:=by omega
       exact he
     have he2:([36,118] == s.toList)=false:=by
      exact q4m he
     clear he
     go_wp2
     exact⟨⟨3,by omega,by go_num,A2.out,hB.out.alloc hB.out.size _⟩,by simp[intOf]⟩
   ·have x:=ix3 wr;have KW:kwB 3=⟨#[36,102]⟩:=rfl
    by_cases he:(⟨#[36,102]⟩:ByteArray)=s
    ·have A2:Hid (q1d s=3):=q27 (by omega) hA.out he;subst he;go_wp2_with fail
     go_ret
     exact⟨by rw[A2.out];rfl,hB.out.alloc hB.out.size _⟩
    ·have A2:Hid (∀i,i < 4→kwB i≠s):=fun i hi=>by
      by_cases h:i < 3
      ·exact hA.out i h
      ·obtain rfl:i=3:=by omega
       exact he
     have he2:([36,102] == s.toList)=false:=by
      exact q4m he
     clear he
     go_wp2
     exact⟨⟨4,by omega,by go_num,A2.out,hB.out.alloc hB.out.size _⟩,by simp[intOf]⟩
   ·have x:=ix4 wr;have KW:kwB 4=⟨#[36,101]⟩:=rfl
    by_cases he:(⟨#[36,101]⟩:ByteArray)=s
    ·have A2:Hid (q1d s=4):=q27 (by omega) hA.out he;subst he;go_wp2_with fail
     go_ret
     exact⟨by rw[A2.out];rfl,hB.out.alloc hB.out.size _⟩
    ·have A2:Hid (∀i,i < 5→kwB i≠s):=fun i hi=>by
      by_cases h:i < 4
      ·exact hA.out i h
      ·obtain rfl:i=4:=by omega
       exact he
     have he2:([36,101] == s.toList)=false:=by
      exact q4m he
     clear he
     go_wp2
     exact⟨⟨5,by omega,by go_num,A2.out,hB.out.alloc hB.out.size _⟩,by simp[intOf]⟩
   ·have x:=ix5 wr;have KW:kwB 5=⟨#[36,100]⟩:=rfl
    by_cases he:(⟨#[36,100]⟩:ByteArray)=s
    ·have A2:Hid (q1d s=5):=q27 (by omega) hA.out he;subst he;go_wp2_with fail
     go_ret
     exact⟨by rw[A2.out];rfl,hB.out.alloc hB.out.size _⟩
    ·have A2:Hid (∀i,i < 6→kwB i≠s):=fun i hi=>by
      by_cases h:i < 5
      ·exact hA.out i h
      ·obtain rfl:i=5:=by omega
       exact he
     have he2:([36,100] == s.toList)=false:=by
      exact q4m he
     clear he
     go_wp2
     exact⟨⟨6,by omega,by go_num,A2.out,hB.out.alloc hB.out.size _⟩,by simp[intOf]⟩
   ·have x:=ix6 wr;have KW:kwB 6=⟨#[36,97]⟩:=rfl
    by_cases he:(⟨#[36,97]⟩:ByteArray)=s
    ·have A2:Hid (q1d s=6):=q27 (by omega) hA.out he;subst he;go_wp2_with fail
     go_ret
     exact⟨by rw[A2.out];rfl,hB.out.alloc hB.out.size _⟩
    ·have A2:Hid (∀i,i < 7→kwB i≠s):=fun i hi=>by
      by_cases h:i < 6
      ·exact hA.out i h
      ·obtain rfl:i=6:=by omega
       exact he
     have he2:([36,97] == s.toList)=false:=by
      exact q4m he
     clear he
     go_wp2
     exact⟨⟨7,by omega,by go_num,A2.out,hB.out.alloc hB.out.size _⟩,by simp[intOf]⟩
   ·have x:=ix7 wr;have KW:kwB 7=⟨#[36,112]⟩:=rfl
    by_cases he:(⟨#[36,112]⟩:ByteArray)=s
    ·have A2:Hid (q1d s=7):=q27 (by omega) hA.out he;subst he;go_wp2_with fail
     go_ret
     exact⟨by rw[A2.out];rfl,hB.out.alloc hB.out.size _⟩
    ·have A2:Hid (∀i,i < 8→kwB i≠s):=fun i hi=>by
      by_cases h:i < 7
      ·exact hA.out i h
      ·obtain rfl:i=7:=by omega
       exact he
     have he2:([36,112] == s.toList)=false:=by
      exact q4m he
     clear he
     go_wp2
     exact⟨⟨8,by omega,by go_num,A2.out,hB.out.alloc hB.out.size _⟩,by simp[intOf]⟩
   ·have x:=ix8 wr;have KW:kwB 8=⟨#[36,123]⟩:=rfl
    by_cases he:(⟨#[36,123]⟩:ByteArray)=s
    ·have A2:Hid (q1d s=8):=q27 (by omega) hA.out he;subst he;go_wp2_with fail
     go_ret
     exact⟨by rw[A2.out];rfl,hB.out.alloc hB.out.size _⟩
    ·have A2:Hid (∀i,i < 9→kwB i≠s):=fun i hi=>by
      by_cases h:i < 8
      ·exact hA.out i h
      ·obtain rfl:i=8:=by omega
       exact he
     have he2:([36,123] == s.toList)=false:=by
      exact q4m he
     clear he
     go_wp2
     exact⟨⟨9,by omega,by go_num,A2.out,hB.out.alloc hB.out.size _⟩,by simp[intOf]⟩
   ·have x:=ix9 wr;have KW:kwB 9=⟨#[36,125]⟩:=rfl
    by_cases he:(⟨#[36,125]⟩:ByteArray)=s
    ·have A2:Hid (q1d s=9):=q27 (by omega) hA.out he;subst he;go_wp2_with fail
     go_ret
     exact⟨by rw[A2.out];rfl,hB.out.alloc hB.out.size _⟩
    ·have A2:Hid (∀i,i < 10→kwB i≠s):=fun i hi=>by
      by_cases h:i < 9
      ·exact hA.out i h
      ·obtain rfl:i=9:=by omega
       exact he
     have he2:([36,125] == s.toList)=false:=by
      exact q4m he
     clear he
     go_wp2
     exact⟨⟨10,by omega,by go_num,A2.out,hB.out.alloc hB.out.size _⟩,by simp[intOf]⟩
  ·obtain rfl:j=10:=by omega
   have A2:Hid (q1d s=0):=qhw hA.out
   go_wp2
   go_ret
   exact⟨by rw[A2.out];rfl,hB.out⟩
def eqS:ByteArray:=⟨#[36,61]⟩
def dotS:ByteArray:=⟨#[36,46]⟩
def yu (s:Stm)(t:Tok):Int × Stm × Bool :=
 if q2t t.text=true then ((q69 s t).1,(q69 s t).2,false)
 else if t.text=eqS then ((q5t s).1,(q5t s).2,false)
 else if t.text=dotS then ((q3f s t).1,(q3f s t).2,decide ((q3f s t).1=0))
 else (60,s,false)
def Within (w:World)(N R:Nat)(x:Itm)(rs:Array Value)(r:Int × Stm × Bool)(e:Ending)(w':World):Prop :=
 ∃x',e=.returned (.int .i64 r.1)∧x'.s=r.2.1∧q0f w' N x'∧x'.g=x.g∧q4b x'=q4b x∧(∀b,blk x' b→blk x b∨w.heap.size≤b)∧M.Ch (fun b=>blk x b∨b=R) w w'∧w'.heap[R]?=some (.cells (if r.2.2=true then rs.setIfInBounds 1 .nilIface else rs) 160 (0,0))
theorem Within.from {w w0 w':World}{N R:Nat}{x:Itm}{rs:Array Value}{r:Int × Stm × Bool}{e:Ending}(hb:Below w.heap.size w w0)(h:Within w0 N R x rs r e w'):Within w N R x rs r e w':=by
 obtain⟨x',h1,h2,h3,h4,h5,h6,h7,h8⟩:=h;exact⟨x',h1,h2,h3,h4,h5,fun b e=>(h6 b e).elim .inl fun e=>.inr (nLt hb.size e),(M.Ch.oB hb).trans h7,h8⟩
theorem Within.qak {w w':World}{N R:Nat}{x:Itm}{rs:Array Value}{r:Int × Stm}{e:Ending}(hR:w.heap[R]?=some (.cells rs 160 (0,0)))(hx:¬blk x R)(h:Turns w N x r e w'):Within w N R x rs (r.1,r.2,false) e w':=by
 obtain⟨x',h1,h2,h3⟩:=h;exact⟨x',h1,h2,h3.at',h3.g,h3.y,h3.bl,h3.ch.mono fun _ e=>.inl e,(h3.ch.block R (aIx hR) hx).trans hR⟩
theorem end_any (w:World)(N R:Nat)(x:Itm)(tk:Tok)(rs:Array Value)(hR:w.heap[R]?=some (.cells rs 160 (0,0)))(h1:rs[1]?=some (gu x))(hx:¬blk x R)(h:q0f w N x)(hb:brk x.s.kind=false)(hS:gy w) :
  Calls Tryz.prog 210 #[.pointer (some ⟨R,0,none⟩),zo tk] w (Within w N R x rs ((q3f x.s tk).1,(q3f x.s tk).2,decide ((q3f x.s tk).1=0))):=by
 obtain⟨w1,hw1⟩:=eXa (w.alloc (.cells #[.string tk.text,.int .i64 tk.off,.int .i64 tk.line,.int .i64 tk.col] 36));have hb1:Below w.heap.size w w1:=by rw[hw1];exact qg _ _
 have HN1:w1.heap[w.heap.size]?=some (.cells #[.string tk.text,.int .i64 tk.off,.int .i64 tk.line,.int .i64 tk.col] 36 (0,0)):=by rw[hw1];exact heap_alloc_new w _
 have x0:w1.cell? ⟨w.heap.size,0,none⟩=some (.string tk.text):=M.qc HN1 0;have x1:w1.cell? ⟨w.heap.size,1,none⟩=some (.int .i64 tk.off):=M.qc HN1 1;have x2:w1.cell? ⟨w.heap.size,2,none⟩=some (.int .i64 tk.line):=M.qc HN1 2;have x3:w1.cell? ⟨w.heap.size,3,none⟩=some (.int .i64 tk.col):=M.qc HN1 3;have hlR:R < w.heap.size:=(aIx hR);have HBd:Hid (Below w.heap.size w w1.drew):=below_drewN hb1 1;have hR1:w1.heap[R]?=some (.cells rs 160 (0,0)):=(hb1.block R hlR).trans hR;have r1:w1.cell? ⟨R,1,none⟩=some (gu x):=(M.qc hR1 1).trans h1;have EN:Hid _:=qln w1.drew N x tk (h.under HBd.out) hb (hS.under HBd.out);have HR:=hid hR;have HX:Hid (¬blk x R∧rs[1]?=some (gu x)∧R < w.heap.size):=⟨hx,h1,hlR⟩;unfold zo at EN ⊢;obtain⟨ix,hix⟩:=eXb (gu x);rw[hix] at r1 EN HX;clear h hS HN1 hb1 hR1 hR h1 hx hix hlR;obtain⟨c,hc⟩:=eXb ((q3f x.s tk).1);have HC:=hid hc;clear hc;go_enter Tryz.func210,Tryz.ntmps210;go_upto_region 1 with fail;rw[←hw1];clear hw1
 go_region_law (go_simp;go_at_call 247;refine cMo EN.out ?_;rintro e w2 ⟨x',rfl,hs,hp⟩;have HP:Hid (x'.s=(q3f x.s tk).2∧Step w w2 N x x'):=⟨hs,hp.from HBd.out⟩;rw[HC.out];clear hp hs)
 all_goals
  have K2:Hid (w2.heap[R]?=some (.cells rs 160 (0,0))):=(HP.out.2.ch.block R HX.out.2.2 HX.out.1).trans HR.out
  by_cases he:c=0
  ·have hb0:(c == 0)=true:=by simpa using he
   have d1:w2.cell? ⟨R,1,none⟩=some ix:=(M.qc K2.out 1).trans HX.out.2.1;have f1:w2.frozen? ⟨R,1,none⟩=false:=by simp[World.frozen?,K2.out]
   have HE:Hid (c=0):=he;clear he
   go_wp2
   go_ret
   have hS:=HP.out.2;have hne:∀b,blk x' b→¬b=R:=fun b e e2=>by
    subst e2;rcases hS.bl _ e with e | e
    ·exact HX.out.1 e
    ·exact absurd HX.out.2.2 (Nat.not_lt.2 e)
   refine⟨x',by rw[HC.out];rfl,HP.out.1,hS.at'.ch (M.jc w2 R 1 .nilIface) hne,hS.g,hS.y,hS.bl,(hS.ch.mono fun _ e=>.inl e).trans ((M.jc w2 R 1 .nilIface).mono fun _ e=>.inr e),?_⟩;rw[HC.out,HE.out];exact M.qj K2.out
  ·have hb0:(c == 0)=false:=by simpa using he
   have HE:Hid (¬c=0):=he;clear he
   go_wp2
   go_ret
   have hS:=HP.out.2;refine⟨x',by rw[HC.out];rfl,HP.out.1,hS.at',hS.g,hS.y,hS.bl,hS.ch.mono fun _ e=>.inl e,?_⟩;rw[HC.out]
   show _=some (Obj.cells (if decide (c=0)=true then _ else _) _ _)
   rw[if_neg (by simpa using HE.out)];exact K2.out
theorem qke {l:List UInt8}{s:ByteArray}(h:¬s=(⟨l.toArray⟩:ByteArray)):(s.toList == l)=false:=by
 have:=q4m (l:=l) (s:=s) fun e=>h e.symm
 rw[beq_eq_false_iff_ne] at this ⊢;exact fun e=>this e.symm
theorem qal (w:World)(N R:Nat)(x:Itm)(tk:Tok)(rs:Array Value)(hR:w.heap[R]?=some (.cells rs 160 (0,0)))(h1:rs[1]?=some (gu x))(hx:¬blk x R)(h:q0f w N x)(hb:brk x.s.kind=false)(hS:gy w)(hN:N≤w.heap.size)(hw:x.s.words.length≤1048576)(hp:x.s.proof.length≤1048576)(ht:tk.text.size≤1048576) :
  Calls Tryz.prog 148 #[.pointer (some ⟨R,0,none⟩),zo tk] w (Within w N R x rs (yu x.s tk)):=by
 obtain⟨w1,hw1⟩:=eXa (w.alloc (.cells #[.string tk.text,.int .i64 tk.off,.int .i64 tk.line,.int .i64 tk.col] 36));have hb1:Below w.heap.size w w1:=by rw[hw1];exact qg _ _
 have HN1:w1.heap[w.heap.size]?=some (.cells #[.string tk.text,.int .i64 tk.off,.int .i64 tk.line,.int .i64 tk.col] 36 (0,0)):=by rw[hw1];exact heap_alloc_new w _
 have x0:w1.cell? ⟨w.heap.size,0,none⟩=some (.string tk.text):=M.qc HN1 0;have x1:w1.cell? ⟨w.heap.size,1,none⟩=some (.int .i64 tk.off):=M.qc HN1 1;have x2:w1.cell? ⟨w.heap.size,2,none⟩=some (.int .i64 tk.line):=M.qc HN1 2;have x3:w1.cell? ⟨w.heap.size,3,none⟩=some (.int .i64 tk.col):=M.qc HN1 3;have hlR:R < w.heap.size:=(aIx hR);have HB:=hid hb1;have HBd:Hid (Below w.heap.size w w1.drew):=below_drewN hb1 1;have hR1:w1.heap[R]?=some (.cells rs 160 (0,0)):=(hb1.block R hlR).trans hR;have hR1d:w1.drew.heap[R]?=some (.cells rs 160 (0,0)):=hR1;have r1:w1.cell? ⟨R,1,none⟩=some (gu x):=(M.qc hR1 1).trans h1;have PL:Hid _:=qcy tk.text w1 (by omega)
 cases hpl:q2t tk.text with
 | true =>
  rw[hpl] at PL;have AD:Hid (Calls Tryz.prog 208 #[gu x,zo tk] w1.drew (Within w N R x rs (yu x.s tk))):=by
   show Calls _ _ _ _ _
   refine cMo (qf5 w1.drew N x tk (h.under HBd.out) hb (hS.under HBd.out) (nLt hN hb1.size) hw hp) fun e w' he=>?_
   have:=(Within.qak hR1d hx he).from HBd.out
   unfold yu;rw[if_pos hpl];exact this
  obtain⟨ix,hix⟩:=eXb (gu x);obtain⟨Q,hQ⟩:=eXb (Within w N R x rs (yu x.s tk));rw[hix] at r1 AD;rw[hQ] at AD ⊢;have HQ:Hid (∀e w',Q e w'→∃c,e=.returned (.int .i64 c)):=fun e w' hq=>by rw[←hQ] at hq;obtain⟨_,h1,_⟩:=hq;exact⟨_,h1⟩
  unfold zo at AD ⊢;clear h hS HN1 hb1 hR1 hR1d hR h1 hx hix hlR hQ;go_enter Tryz.func148,Tryz.ntmps148;go_upto_region 1 with fail;rw[←hw1];clear hw1;go_wp2_with fail;refine cMo PL.out ?_;rintro e w2 ⟨rfl,hw2⟩;subst w2;clear PL;go_upto_region 2 with fail
  go_region_law (go_simp;go_at_call 208;refine cMo AD.out ?_;intro e w2 hq;have HP:Hid (Q e w2):=hq;obtain⟨c,rfl⟩:=HQ.out _ _ hq;clear hq)
  all_goals go_wp2
  all_goals go_ret
  all_goals exact HP.out
 | false =>
  rw[hpl] at PL;have hnp:¬q2t tk.text=true:=by rw[hpl];exact Bool.false_ne_true
  by_cases heq:tk.text=eqS
  ·have AD:Hid (Calls Tryz.prog 209 #[gu x] w1 (Within w N R x rs (yu x.s tk))):=by
    show Calls _ _ _ _ _
    refine cMo (qai w1 N x (h.under HB.out) hb (hS.under HB.out)) fun e w' he=>?_
    have:=(Within.qak hR1 hx he).from HB.out
    unfold yu;rw[if_neg hnp,if_pos heq];exact this
   obtain⟨ix,hix⟩:=eXb (gu x);obtain⟨Q,hQ⟩:=eXb (Within w N R x rs (yu x.s tk));rw[hix] at r1 AD;rw[hQ] at AD ⊢;have HQ:Hid (∀e w',Q e w'→∃c,e=.returned (.int .i64 c)):=fun e w' hq=>by rw[←hQ] at hq;obtain⟨_,h1,_⟩:=hq;exact⟨_,h1⟩
   obtain⟨tx,u1,u2,u3⟩:=tk;dsimp only at heq;subst heq;unfold zo;clear h hS HN1 hb1 hR1 hR1d hR h1 hx hix hlR hQ hpl hnp;go_enter Tryz.func148,Tryz.ntmps148;go_upto_region 1 with fail;rw[←hw1];clear hw1;go_wp2_with fail;refine cMo PL.out ?_;rintro e w2 ⟨rfl,hw2⟩;subst w2;clear PL;unfold eqS at *;go_wp2_with fail;refine cMo AD.out ?_;intro e w2 hq;have HP:Hid (Q e w2):=hq;obtain⟨c,rfl⟩:=HQ.out _ _ hq;clear hq
   go_wp2
   try go_ret
   exact HP.out
  ·have le:(tk.text.toList == [36,61])=false:=qke heq
   by_cases hdt:tk.text=dotS
   ·have AD:Hid (Calls Tryz.prog 210 #[.pointer (some ⟨R,0,none⟩),zo tk] w1 (Within w N R x rs (yu x.s tk))):=by
     show Calls _ _ _ _ _
     refine cMo (end_any w1 N R x tk rs hR1 h1 hx (h.under HB.out) hb (hS.under HB.out)) fun e w' he=>?_
     have:=he.from HB.out
     unfold yu;rw[if_neg hnp,if_neg heq,if_pos hdt];exact this
    obtain⟨Q,hQ⟩:=eXb (Within w N R x rs (yu x.s tk));rw[hQ] at AD ⊢;have HQ:Hid (∀e w',Q e w'→∃c,e=.returned (.int .i64 c)):=fun e w' hq=>by rw[←hQ] at hq;obtain⟨_,h1,_⟩:=hq;exact⟨_,h1⟩
    obtain⟨tx,u1,u2,u3⟩:=tk;dsimp only at hdt;subst hdt;unfold zo at AD ⊢;clear h hS HN1 hb1 hR1 hR1d hR h1 hx hlR hQ hpl hnp heq r1;go_enter Tryz.func148,Tryz.ntmps148;go_upto_region 1 with fail;rw[←hw1];clear hw1;go_wp2_with fail;refine cMo PL.out ?_;rintro e w2 ⟨rfl,hw2⟩;subst w2;clear PL le;unfold dotS at *;go_wp2_with fail;refine cMo AD.out ?_;intro e w2 hq;have HP:Hid (Q e w2):=hq;obtain⟨c,rfl⟩:=HQ.out _ _ hq;clear hq
    go_wp2
    try go_ret
    exact HP.out
   ·have le2:(tk.text.toList == [36,46])=false:=qke hdt;have HP:Hid (Within w N R x rs (yu x.s tk) (.returned (.int .i64 60)) w1):=by
     show Within _ _ _ _ _ _ _ _
     unfold yu;rw[if_neg hnp,if_neg heq,if_neg hdt];exact (Within.qak hR1 hx (r:=(60,x.s)) ⟨x,rfl,rfl,Step.refl (h.under HB.out)⟩).from HB.out
    unfold zo;clear h hS HN1 hb1 hR1 hR1d hR h1 hx hlR hpl hnp heq r1 hdt;go_enter Tryz.func148,Tryz.ntmps148;go_upto_region 1 with fail;rw[←hw1];clear hw1;go_wp2_with fail;refine cMo PL.out ?_;rintro e w2 ⟨rfl,hw2⟩;subst w2;clear PL
    go_wp2
    go_ret
    exact HP.out
def rdC (vb vo:Value)(wt:Tok):Array Value:=#[vb,vo,.string wt.text,.int .i64 wt.off,.int .i64 wt.line,.int .i64 wt.col]
structure RSt (N R:Nat)(W:World)(vb vo:Value)(its:List Itm)(wt:Tok):Prop where
 box:W.heap[R]?=some (.cells (rdC vb vo wt) 160 (0,0))
 own:W.ownsRow N 141 1 vb its.length (its.map gu)
 ge:N≤R
 vbR:vb.ownBlock≠some R
 all:∀x ∈ its,q0f W N x
 ap:∀x ∈ its,∀b,blk x b→b≠R∧vb.ownBlock≠some b
 pw:its.Pairwise fun x y=>∀b,blk x b→¬blk y b
theorem RSt.lt {N R:Nat}{W:World}{vb vo:Value}{its:List Itm}{wt:Tok}(h:RSt N R W vb vo its wt):R < W.heap.size:=(aIx h.box)
theorem RSt.under {N R:Nat}{W W':World}{vb vo:Value}{its:List Itm}{wt:Tok}(h:RSt N R W vb vo its wt)(hb:Below W.heap.size W W'):RSt N R W' vb vo its wt :=
 ⟨(hb.block R h.lt).trans h.box,M.qh h.own (M.Ch.oB (X:=fun _=>False) hb) fun _ _ e=>e,h.ge,h.vbR,fun x hx=>(h.all x hx).under hb,h.ap,h.pw⟩
theorem RSt.cells {N R:Nat}{W W':World}{vb vo vo':Value}{its:List Itm}{wt wt':Tok}(h:RSt N R W vb vo its wt)(hc:M.Ch (fun b=>b=R) W W')(hb:W'.heap[R]?=some (.cells (rdC vb vo' wt') 160 (0,0))):RSt N R W' vb vo' its wt' :=
 ⟨hb,M.qh h.own hc fun b e e2=>h.vbR (by rw[←e2];exact e),h.ge,h.vbR,fun x hx=>(h.all x hx).ch hc fun b e=>(h.ap x hx b e).1,h.ap,h.pw⟩
theorem RSt.last {N R:Nat} {W W':World} {vb vo vo':Value} {pre:List Itm} {x x':Itm} {wt:Tok} (h:RSt N R W vb vo (pre++[x]) wt) (hi:q0f W' N x') (hg:x'.g=x.g) (hy:q4b x'=q4b x) (hbl:∀b,blk x' b→blk x b∨W.heap.size≤b)
  (hc:M.Ch (fun b=>blk x b∨b=R) W W') (hb:W'.heap[R]?=some (.cells (rdC vb vo' wt) 160 (0,0))):RSt N R W' vb vo' (pre++[x']) wt:=by
 have hxm:x ∈ pre++[x]:=by simp
 have hI:gu x'=gu x:=by unfold gu;rw[hy,hg]
 have hpw:=List.pairwise_append.1 h.pw;have hap':∀b,blk x' b→b≠R∧vb.ownBlock≠some b:=fun b e=>by
  rcases hbl b e with e | e
  ·exact h.ap x hxm b e
  ·refine⟨fun e2=>?_,fun e2=>?_⟩
   ·have:=h.lt;omega
   ·have:=M.jr h.own b e2;omega
 refine⟨hb,?_,h.ge,h.vbR,?_,?_,?_⟩
 ·have h1:=h.own;rw[lAp,List.map_append] at h1 ⊢;simp only[List.map_cons,List.map_nil,List.length_cons,List.length_nil,hI] at h1 ⊢;exact M.qh h1 hc fun b e e2=>by
   rcases e2 with e2 | e2
   ·exact (h.ap x hxm b e2).2 e
   ·exact h.vbR (by rw[←e2];exact e)
 ·intro y hy;rcases mAp.1 hy with hy | hy
  ·refine (h.all y (by simp[hy])).ch hc fun b e e2=>?_
   rcases e2 with e2 | e2
   ·exact hpw.2.2 y hy x (by simp) b e e2
   ·exact (h.ap y (by simp[hy]) b e).1 e2
  ·rw[mSg.1 hy];exact hi
 ·intro y hy;rcases mAp.1 hy with hy | hy
  ·exact h.ap y (by simp[hy])
  ·rw[mSg.1 hy];exact hap'
 ·refine List.pairwise_append.2 ⟨hpw.1,List.pairwise_singleton _ _,fun y hy z hz b e e2=>?_⟩;rw[mSg.1 hz] at e2;rcases hbl b e2 with e2 | e2
  ·exact hpw.2.2 y hy x (by simp) b e e2
  ·have:=(h.all y (by simp[hy])).lt b e;omega
theorem RSt.more {N R:Nat} {W W':World} {vb vb' vo:Value} {its:List Itm} {x:Itm} {wt:Tok} (h:RSt N R W vb vo its wt) (hi:q0f W N x) (hx:∀b,blk x b→b≠R∧vb.ownBlock≠some b) (hp:∀y ∈ its,∀b,blk y b→¬blk x b)
  (hg:W.grownBy W' vb.ownBlock) (ho:W'.ownsRow N 141 1 vb' (its.length + 1) (its.map gu++[gu x])) (hl:∀b,vb'.ownBlock=some b→vb.ownBlock=some b∨W.heap.size≤b):RSt N R (W'.setCell ⟨R,0,none⟩ vb') vb' vo (its++[x]) wt:=by
 have hR:W'.heap[R]?=some (.cells (rdC vb vo wt) 160 (0,0)):=(hg.block R h.lt (fun e=>h.vbR e.symm)).trans h.box;have cg:=M.Ch.jw hg;have cs:=M.jc W' R 0 vb';have nR:vb'.ownBlock≠some R:=fun e=>by
  rcases hl R e with e | e
  ·exact h.vbR e
  ·have:=h.lt;omega
 have far:∀y,q0f W N y→(∀b,blk y b→b≠R∧vb.ownBlock≠some b)→q0f (W'.setCell ⟨R,0,none⟩ vb') N y∧∀b,blk y b→b≠R∧vb'.ownBlock≠some b:=fun y hy hap=>by
  refine⟨(hy.ch cg fun b e e2=>(hap b e).2 e2).ch cs fun b e e2=>(hap b e).1 e2,fun b e=>⟨(hap b e).1,fun e2=>?_⟩⟩;rcases hl b e2 with e2 | e2
  ·exact (hap b e).2 e2
  ·have:=hy.lt b e;omega
 refine⟨M.qj hR,?_,h.ge,nR,?_,?_,?_⟩
 ·rw[lAp,List.map_append];exact M.qh ho cs fun b e e2=>nR (by rw[←e2];exact e)
 ·intro y hy;rcases mAp.1 hy with hy | hy
  ·exact (far y (h.all y hy) (h.ap y hy)).1
  ·rw[mSg.1 hy];exact (far x hi hx).1
 ·intro y hy;rcases mAp.1 hy with hy | hy
  ·exact (far y (h.all y hy) (h.ap y hy)).2
  ·rw[mSg.1 hy];exact (far x hi hx).2
 ·refine List.pairwise_append.2 ⟨h.pw,List.pairwise_singleton _ _,fun y hy z hz b e e2=>?_⟩;rw[mSg.1 hz] at e2;exact hp y hy b e e2
def newS (k:Int)(lb ky:Tok):Stm:=if brk k=true then ⟨k,q2i,ky,false,[],[],ky⟩ else ⟨k,lb,ky,false,[],[],q2i⟩
theorem qlo {w w':World}{N:Nat}{st:Value}{k:Int}{lb ky:Tok}(hk1:1≤k)(hk9:k≤9)(hN:N≤w.heap.size)(hh:Holds w' w.heap.size st k lb ky (.slice none 0 0) (.slice none 0 0)):∃x,st=gu x∧x.s=newS k lb ky∧q0f w' N x∧∀b,blk x b→w.heap.size≤b:=by
 obtain⟨g,hg,hlt,hh⟩:=hh;have nil:w'.ownsRow N 36 4 (.slice none 0 0) 0 (rowT []):=World.ownsRow_nil _ _ _ _;have bl:∀(s:Stm) (b:Nat),blk ⟨s,g,.slice none 0 0,.slice none 0 0⟩ b→w.heap.size≤b:=fun s b e=>by
  rcases e with rfl | e | e
  ·exact hg
  ·cases e
  ·cases e
 rcases hh with ⟨hk,rfl,hb⟩ | ⟨hk,rfl,hb⟩ | ⟨h7,h8,h9,rfl,hb⟩
 ·have hbk:brk k=true:=by rcases hk with rfl | rfl <;> rfl
  refine⟨⟨⟨k,q2i,ky,false,[],[],ky⟩,g,.slice none 0 0,.slice none 0 0⟩,?_,?_,⟨hk1,hk9,?_,nLt hN hg,nil,nil,(fun e=>by cases e),(fun e=>by cases e),(fun b e=>by cases e),fun _=>⟨rfl,rfl,rfl⟩,fun _=>⟨rfl,rfl,rfl,rfl⟩⟩,bl _⟩
  ·unfold gu q4b;rw[if_pos hbk]
  ·unfold newS;rw[if_pos hbk]
  ·rw[qkd hbk];unfold qcj;rw[if_pos hbk];exact hb
 ·subst hk;refine⟨⟨⟨7,lb,ky,false,[],[],q2i⟩,g,.slice none 0 0,.slice none 0 0⟩,rfl,rfl,⟨hk1,hk9,hb,nLt hN hg,nil,nil,(fun e=>by cases e),(fun e=>by cases e),(fun b e=>by cases e),fun e=>absurd rfl e,fun e=>by cases e⟩,bl _⟩
 ·have hbk:brk k=false:=by unfold brk;simp[h8,h9]
  have hbn:¬brk k=true:=by rw[hbk];exact Bool.false_ne_true
  refine⟨⟨⟨k,lb,ky,false,[],[],q2i⟩,g,.slice none 0 0,.slice none 0 0⟩,?_,?_,⟨hk1,hk9,?_,nLt hN hg,nil,nil,(fun e=>by cases e),(fun e=>by cases e),(fun b e=>by cases e),fun _=>⟨rfl,rfl,rfl⟩,fun e=>absurd e hbn⟩,bl _⟩
  ·unfold gu q4b;rw[if_neg hbn,if_neg h7]
  ·unfold newS;rw[if_neg hbn]
  ·rw[q3i hbk h7];unfold qcj;rw[if_neg hbn,if_neg h7];exact hb
theorem infoI:(Tryz.prog.info? 141).map (fun i=>(i.zero,i.size,i.bytes))=some (some .nilIface,1,16):=by kernel_rfl
theorem q8n (w:World) (N R:Nat) (vb:Value) (its:List Itm) (x:Itm) (wt:Tok) (h:RSt N R w vb .nilIface its wt) (hi:q0f w N x) (hx:∀b,blk x b→b≠R∧vb.ownBlock≠some b) (hp:∀y ∈ its,∀b,blk y b→¬blk x b) (hn:its.length≤1048576) (hN:N≤w.heap.size)
  (b1 b2:Bool) (v1 v2:Value) (a1:∀W,(Instr.typeAssert (gu x) 141 202 true).run Tryz.prog W=.ok (.tuple #[v1,.bool b1]) W) (a2:∀W,(Instr.typeAssert (gu x) 141 197 true).run Tryz.prog W=.ok (.tuple #[v2,.bool b2]) W) :
  Calls Tryz.prog 212 #[.pointer (some ⟨R,0,none⟩),gu x] w fun e w'=>e=.returned (.tuple #[])∧∃vb',RSt N R w' vb' (if (b1 || b2)=true then gu x else .nilIface) (its++[x]) q2i∧M.Ch (fun b=>b=R∨vb.ownBlock=some b) w w'∧∀b,vb'.ownBlock=some b→vb.ownBlock=some b∨w.heap.size≤b:=by
 obtain⟨ip,hip,ipz,ips,ipb⟩:=info_parts infoI;obtain⟨y,g,hix⟩:∃y g,gu x=.iface y (.pointer (some ⟨g,0,none⟩)):=⟨_,_,rfl⟩;obtain⟨n,hnn⟩:=eXb its.length;obtain⟨av,cv,hvb,_⟩:=ql h.own;rw[hnn] at hn hvb;subst hvb;have H:=hid h;rw[hix] at a1 a2;have HA:Hid (RSt N R (w.alloc (.cells #[.iface y (.pointer (some ⟨g,0,none⟩))] 141)) (.slice av n cv) .nilIface its wt∧q0f (w.alloc (.cells #[.iface y (.pointer (some ⟨g,0,none⟩))] 141)) N x):=⟨h.under (qg _ _),hi.under (qg _ _)⟩;have HX:Hid ((∀b,blk x b→b≠R∧(Value.slice av n cv).ownBlock≠some b)∧∀y ∈ its,∀b,blk y b→¬blk x b):=⟨hx,hp⟩;have HI:Hid (gu x=.iface y (.pointer (some ⟨g,0,none⟩))∧its.length=n):=⟨hix,hnn⟩;have r0:w.cell? ⟨R,0,none⟩=some (.slice av n cv):=M.qc h.box 0;have OW:Hid ((w.alloc (.cells #[.iface y (.pointer (some ⟨g,0,none⟩))] 141)).ownsRow N 141 1 (.slice av n cv) n (its.map gu)):=by have:=HA.out.1.own;rw[hnn] at this;exact this
 rw[hix];have HRl:Hid (R < w.heap.size):=h.lt;have NB:Hid (∀b,b=R∨(Value.slice av n cv).ownBlock=some b→N≤b):=fun b e=>e.elim (fun e=>by rw[e];exact h.ge) fun e=>M.zf h.own b e
 clear h hi hx hp hix hnn;go_enter Tryz.func212,Tryz.ntmps212
 go_upto_region 1 with (at_builtin;(refine wpList_append_lies (w.alloc (.cells #[.iface y (.pointer (some ⟨g,0,none⟩))] 141)) rfl _ _ _ rfl N 141 ip _ 1 16 Tryz.underlying158 hip ipz ips ipb rfl (by omega) _ n (its.map gu) (by rfl) (by exact OW.out) ⟨w.heap.size,0,none⟩ 1 1 [.iface y (.pointer (some ⟨g,0,none⟩))] (by rfl) (by rfl) (World.news_of_block (cs:=#[.iface y (.pointer (some ⟨g,0,none⟩))]) (t:=141) (fr:=(0,0)) (heap_alloc_new w _)) (by simp[Value.oneCell']) (by omega) (by unfold maxLen;omega) (by omega) (by simp;omega) _ rfl ?_;intro gg cap w2 ho hgr hat hlt;have K2:Hid (w2.heap[R]?=some (.cells (rdC (.slice av n cv) .nilIface wt) 160 (0,0))):=(hgr.block R (by have:=HRl.out;simp;omega) (fun e=>H.out.vbR e.symm)).trans HA.out.1.box;have d0:w2.cell? ⟨R,0,none⟩=some (.slice av n cv):=M.qc K2.out 0;have f0:w2.frozen? ⟨R,0,none⟩=false:=(by simp[World.frozen?,K2.out]);have HM:Hid (RSt N R (w2.setCell ⟨R,0,none⟩ (.slice (some ⟨gg,0,none⟩) (n + 1) cap)) (.slice (some ⟨gg,0,none⟩) (n + 1) cap) .nilIface (its++[x]) wt∧M.Ch (fun b=>b=R∨(Value.slice av n cv).ownBlock=some b) w (w2.setCell ⟨R,0,none⟩ (.slice (some ⟨gg,0,none⟩) (n + 1) cap))∧∀b,(Value.slice (some ⟨gg,0,none⟩) (n + 1) cap).ownBlock=some b→(Value.slice av n cv).ownBlock=some b∨w.heap.size≤b):=(by refine⟨HA.out.1.more HA.out.2 HX.out.1 HX.out.2 hgr (by rw[HI.out.1,HI.out.2];exact ho) (M.q4k hat),((M.Ch.oB (qg w (.cells #[.iface y (.pointer (some ⟨g,0,none⟩))] 141))).trans ((M.Ch.jw hgr).mono fun _ e=>.inr e)).trans ((M.jc w2 R 0 _).mono fun _ e=>.inl e),fun b e=>(M.q4k hat b e).elim .inl fun h=>.inr (nLt (by simp) h)⟩);clear ho hgr hat hlt))
 generalize w2.setCell ⟨R,0,none⟩ (.slice (some ⟨gg,0,none⟩) (n + 1) cap)=w3 at *;obtain⟨vb',hvb'⟩:∃vb':Value,vb'=.slice (some ⟨gg,0,none⟩) (n + 1) cap:=⟨_,rfl⟩;rw[←hvb'] at HM ⊢;clear hvb' d0 f0 K2 r0;have c:∀i,w3.cell? ⟨R,i,none⟩=(rdC vb' .nilIface wt)[i]?:=fun i=>M.qc HM.out.1.box i
 have c1:=c 1;have c2:=c 2;have c3:=c 3;have c4:=c 4;have c5:=c 5;clear c;simp only[rdC] at c1 c2 c3 c4 c5;have f:∀i,w3.frozen? ⟨R,i,none⟩=false:=fun i=>by simp[World.frozen?,HM.out.1.box]
 have f2:=f 2;have f3:=f 3;have f4:=f 4;have f5:=f 5;clear f;go_upto_region 2 with fail;have H4:Hid (RSt N R ((((w3.setCell ⟨R,2,none⟩ (.string ⟨#[]⟩)).setCell ⟨R,3,none⟩ (.int .i64 0)).setCell ⟨R,4,none⟩ (.int .i64 0)).setCell ⟨R,5,none⟩ (.int .i64 0)) vb' .nilIface (its++[x]) q2i∧M.Ch (fun b=>b=R∨(Value.slice av n cv).ownBlock=some b) w ((((w3.setCell ⟨R,2,none⟩ (.string ⟨#[]⟩)).setCell ⟨R,3,none⟩ (.int .i64 0)).setCell ⟨R,4,none⟩ (.int .i64 0)).setCell ⟨R,5,none⟩ (.int .i64 0))∧∀b,vb'.ownBlock=some b→(Value.slice av n cv).ownBlock=some b∨w.heap.size≤b) :=
  ⟨HM.out.1.cells (q6b R [.string ⟨#[]⟩,.int .i64 0,.int .i64 0,.int .i64 0] 2 w3) (q8m HM.out.1.box 2 q2i),HM.out.2.1.trans ((q6b R [.string ⟨#[]⟩,.int .i64 0,.int .i64 0,.int .i64 0] 2 w3).mono fun _ e=>.inl e),HM.out.2.2⟩
 clear HM c1 c2 c3 c4 c5 f2 f3 f4 f5;generalize (((w3.setCell ⟨R,2,none⟩ (.string ⟨#[]⟩)).setCell ⟨R,3,none⟩ (.int .i64 0)).setCell ⟨R,4,none⟩ (.int .i64 0)).setCell ⟨R,5,none⟩ (.int .i64 0)=w4 at *;have c1:w4.cell? ⟨R,1,none⟩=some .nilIface:=M.qc H4.out.1.box 1;have f1:w4.frozen? ⟨R,1,none⟩=false:=by simp[World.frozen?,H4.out.1.box]
 have H5:Hid (RSt N R (w4.setCell ⟨R,1,none⟩ (.iface y (.pointer (some ⟨g,0,none⟩)))) vb' (.iface y (.pointer (some ⟨g,0,none⟩))) (its++[x]) q2i∧M.Ch (fun b=>b=R∨(Value.slice av n cv).ownBlock=some b) w (w4.setCell ⟨R,1,none⟩ (.iface y (.pointer (some ⟨g,0,none⟩))))∧∀b,vb'.ownBlock=some b→(Value.slice av n cv).ownBlock=some b∨w.heap.size≤b) :=
  ⟨H4.out.1.cells (M.jc _ _ _ _) (M.qj H4.out.1.box),H4.out.2.1.trans ((M.jc w4 R 1 _).mono fun _ e=>.inl e),H4.out.2.2⟩
 cases b1 with
 | true =>
  go_wp2
  first | go_ret | (refine bodyPost_end (results_none rfl _ _ _) rfl ?_) | skip
  exact⟨rfl,vb',H5.out⟩
 | false =>
  cases b2 with
  | true =>
   go_wp2
   first | go_ret | (refine bodyPost_end (results_none rfl _ _ _) rfl ?_) | skip
   exact⟨rfl,vb',H5.out⟩
  | false =>
   go_wp2
   first | go_ret | (refine bodyPost_end (results_none rfl _ _ _) rfl ?_) | skip
   exact⟨rfl,vb',H4.out⟩
theorem qlp (w:World)(N R:Nat)(vb:Value)(its:List Itm)(x:Itm)(wt:Tok)(h:RSt N R w vb .nilIface its wt)(hi:q0f w N x)(hx:∀b,blk x b→b≠R∧vb.ownBlock≠some b)(hp:∀y ∈ its,∀b,blk y b→¬blk x b)(hn:its.length≤1048576)(hN:N≤w.heap.size) :
  Calls Tryz.prog 212 #[.pointer (some ⟨R,0,none⟩),gu x] w fun e w'=>e=.returned (.tuple #[])∧∃vb',RSt N R w' vb' (if brk x.s.kind=true then .nilIface else gu x) (its++[x]) q2i∧M.Ch (fun b=>b=R∨vb.ownBlock=some b) w w'∧∀b,vb'.ownBlock=some b→vb.ownBlock=some b∨w.heap.size≤b:=by
 cases hb:brk x.s.kind with
 | true =>
  have ey:gu x=.iface 204 (.pointer (some ⟨x.g,0,none⟩)):=by unfold gu q4b;rw[if_pos hb]
  exact q8n w N R vb its x wt h hi hx hp hn hN false false _ _ (by rw[ey];exact fun W=>qli W _) (by rw[ey];exact fun W=>qlh W _)
 | false =>
  have hbn:¬brk x.s.kind=true:=by rw[hb];exact Bool.false_ne_true
  by_cases h7:x.s.kind=7
  ·have ey:gu x=.iface 197 (.pointer (some ⟨x.g,0,none⟩)):=by unfold gu q4b;rw[if_neg hbn,if_pos h7]
   exact q8n w N R vb its x wt h hi hx hp hn hN false true _ _ (by rw[ey];exact fun W=>qlg W _) (by rw[ey];exact fun W=>q59 W _)
  ·have ey:gu x=.iface 202 (.pointer (some ⟨x.g,0,none⟩)):=by unfold gu q4b;rw[if_neg hbn,if_neg h7]
   exact q8n w N R vb its x wt h hi hx hp hn hN true false _ _ (by rw[ey];exact fun W=>q8k W _) (by rw[ey];exact fun W=>q71 W _)
structure PS where
 l:List Stm
 opn:Bool
 wt:Tok
def wtB (t:Tok):Bool:=!t.text.toList.isEmpty
def q0p (P:PS)(t:Tok):Int × PS :=
 if q2t t.text=true then (if wtB P.wt=true then (60,P) else (0,{ P with wt:=t }))
 else if q1d t.text=0 then (60,P)
 else if qhs (q1d t.text)≠wtB P.wt then (61,P)
 else (0,⟨P.l++[newS (q1d t.text) P.wt t],!brk (q1d t.text),q2i⟩)
def Held (R:Nat)(vb:Value)(its:List Itm)(b:Nat):Prop:=b=R∨vb.ownBlock=some b∨∃x ∈ its,blk x b
def q5a (N R:Nat)(H:Nat→Prop)(W:World)(P:PS):Prop:=∃vb vo its,RSt N R W vb vo its P.wt∧its.map (·.s)=P.l∧(P.opn=false→vo=.nilIface)∧(P.opn=true→∃pre x,its=pre++[x]∧vo=gu x∧brk x.s.kind=false)∧∀b,Held R vb its b→H b
theorem q5a.mono {N R:Nat}{H H':Nat→Prop}{W:World}{P:PS}(h:q5a N R H W P)(hm:∀b,H b→H' b):q5a N R H' W P:=by
 obtain⟨vb,vo,its,h1,h2,h3,h4,h5⟩:=h;exact⟨vb,vo,its,h1,h2,h3,h4,fun b e=>hm b (h5 b e)⟩
theorem q5a.under {N R:Nat}{H:Nat→Prop}{W W':World}{P:PS}(h:q5a N R H W P)(hb:Below W.heap.size W W'):q5a N R H W' P:=by
 obtain⟨vb,vo,its,h1,h2⟩:=h;exact⟨vb,vo,its,h1.under hb,h2⟩
def Takes (N R:Nat)(H:Nat→Prop)(w:World)(r:Int × PS)(e:Ending)(w':World):Prop:=e=.returned (.int .i64 r.1)∧q5a N R (fun b=>H b∨w.heap.size≤b) w' r.2∧M.Ch H w w'
theorem Takes.from {N R:Nat}{H:Nat→Prop}{w w0 w':World}{r:Int × PS}{e:Ending}(hb:Below w.heap.size w w0)(h:Takes N R H w0 r e w'):Takes N R H w r e w' :=
 ⟨h.1,h.2.1.mono fun _ e=>e.imp id fun e=>nLt hb.size e,(M.Ch.oB hb).trans h.2.2⟩
theorem qoq {R:Nat}{H:Nat→Prop}{vb vb':Value}{its:List Itm}{x:Itm}{m:Nat}(h:∀b,Held R vb its b→H b)(hl:∀b,vb'.ownBlock=some b→vb.ownBlock=some b∨m≤b)(hx:∀b,blk x b→m≤b):∀b,Held R vb' (its++[x]) b→H b∨m≤b:=fun b e=>by
 rcases e with e | e | ⟨y,hy,e⟩
 ·exact .inl (h b (.inl e))
 ·exact (hl b e).imp (fun e=>h b (.inr (.inl e))) id
 ·rcases mAp.1 hy with hy | hy
  ·exact .inl (h b (.inr (.inr ⟨y,hy,e⟩)))
  ·rw[mSg.1 hy] at e;exact .inr (hx b e)
theorem qlq (k:Int)(lb ky:Tok):(newS k lb ky).kind=k:=by unfold newS;split <;> rfl
theorem qor {N R:Nat}{W:World}{vb:Value}{its:List Itm}{x:Itm}{P:PS}{k:Int}{tk:Tok}(hxs:x.s=newS k P.wt tk)(hr:RSt N R W vb (if brk x.s.kind=true then .nilIface else gu x) (its++[x]) q2i)(hits:its.map (·.s)=P.l){H:Nat→Prop}(hh:∀b,Held R vb (its++[x]) b→H b):q5a N R H W ⟨P.l++[newS k P.wt tk],!brk k,q2i⟩:=by
 have hk:x.s.kind=k:=by rw[hxs,qlq]
 rw[hk] at hr;refine⟨vb,_,its++[x],hr,by rw[List.map_append,hits,List.map_singleton,hxs],fun e=>?_,fun e=>?_,hh⟩
 ·have e':brk k=true:=by simpa using e
  rw[if_pos e']
 ·have e':brk k=false:=by simpa using e
  exact⟨its,x,rfl,by rw[if_neg (by rw[e'];exact Bool.false_ne_true)],by rw[hk];exact e'⟩
theorem qa1 (w:World)(N R:Nat)(H:Nat→Prop)(P:PS)(tk:Tok)(h:q5a N R H w P)(ho:P.opn=false)(hS:gy w)(hN:N≤w.heap.size)(hn:P.l.length≤1048576)(ht:tk.text.size≤1048576) :
  Calls Tryz.prog 149 #[.pointer (some ⟨R,0,none⟩),zo tk] w (Takes N R H w (q0p P tk)):=by
 obtain⟨w1,hw1⟩:=eXa (w.alloc (.cells #[.string tk.text,.int .i64 tk.off,.int .i64 tk.line,.int .i64 tk.col] 36));have hb1:Below w.heap.size w w1:=by rw[hw1];exact qg _ _
 have HN1:w1.heap[w.heap.size]?=some (.cells #[.string tk.text,.int .i64 tk.off,.int .i64 tk.line,.int .i64 tk.col] 36 (0,0)):=by rw[hw1];exact heap_alloc_new w _
 have x0:w1.cell? ⟨w.heap.size,0,none⟩=some (.string tk.text):=M.qc HN1 0;have x1:w1.cell? ⟨w.heap.size,1,none⟩=some (.int .i64 tk.off):=M.qc HN1 1;have x2:w1.cell? ⟨w.heap.size,2,none⟩=some (.int .i64 tk.line):=M.qc HN1 2;have x3:w1.cell? ⟨w.heap.size,3,none⟩=some (.int .i64 tk.col):=M.qc HN1 3;have HB:=hid hb1;have h1:=h.under hb1;obtain⟨vb,vo,its,hR,hits,hvo,_,hH⟩:=h;have hvo':=hvo ho;subst hvo';have hR1:=hR.under hb1;have r2:w1.cell? ⟨R,2,none⟩=some (.string P.wt.text):=M.qc hR1.box 2;have PL:Hid _:=qcy tk.text w1 (by omega);have WT:Hid _:=q8l w1 R P.wt.text r2;have HST:Hid (∀c,Takes N R H w (c,P) (.returned (.int .i64 c)) w1):=fun c=>⟨rfl,h1.mono fun _ e=>.inl e,M.Ch.oB hb1⟩
 have HHd:=hid hH;clear hH
 cases hpl:q2t tk.text with
 | true =>
  rw[hpl] at PL
  cases hwt:wtB P.wt with
  | true =>
   have hw':(!P.wt.text.toList.isEmpty)=true:=hwt;rw[hw'] at WT;have E:Hid (q0p P tk=(60,P)):=by show _=_;unfold q0p;rw[if_pos hpl,if_pos hwt]
   rw[E.out];unfold zo;clear h1 hR hR1 hS HN1 hb1 hvo hits hwt hpl hw';go_enter Tryz.func149,Tryz.ntmps149;go_upto_region 1 with fail;rw[←hw1];clear hw1;go_wp2_with fail;refine cMo PL.out ?_;rintro e w2 ⟨rfl,hw2⟩;subst w2;clear PL;go_wp2_with fail;refine cMo WT.out ?_;rintro e w2 ⟨rfl,hw2⟩;subst w2;clear WT
   go_wp2
   go_ret
   exact HST.out 60
  | false =>
   have hw':(!P.wt.text.toList.isEmpty)=false:=hwt;rw[hw'] at WT;have E:Hid (q0p P tk=(0,{ P with wt:=tk })):=by show _=_;unfold q0p;rw[if_pos hpl,if_neg (by rw[hwt];exact Bool.false_ne_true)]
   rw[E.out];have HP:Hid (q5a N R (fun b=>H b∨w.heap.size≤b) ((((w1.setCell ⟨R,2,none⟩ (.string tk.text)).setCell ⟨R,3,none⟩ (.int .i64 tk.off)).setCell ⟨R,4,none⟩ (.int .i64 tk.line)).setCell ⟨R,5,none⟩ (.int .i64 tk.col)) { P with wt:=tk }∧M.Ch H w ((((w1.setCell ⟨R,2,none⟩ (.string tk.text)).setCell ⟨R,3,none⟩ (.int .i64 tk.off)).setCell ⟨R,4,none⟩ (.int .i64 tk.line)).setCell ⟨R,5,none⟩ (.int .i64 tk.col))):=by
    have hc:=q6b R [.string tk.text,.int .i64 tk.off,.int .i64 tk.line,.int .i64 tk.col] 2 w1;refine⟨⟨vb,.nilIface,its,hR1.cells hc (q8m hR1.box 2 tk),hits,fun _=>rfl,fun e=>?_,fun b e=>.inl (HHd.out b e)⟩,(M.Ch.oB hb1).trans (hc.mono fun b e=>HHd.out b (.inl e))⟩;have e':P.opn=true:=e;rw[ho] at e'
    cases e'
   have c:∀i,w1.cell? ⟨R,i,none⟩=(rdC vb .nilIface P.wt)[i]?:=fun i=>M.qc hR1.box i
   have c3:=c 3;have c4:=c 4;have c5:=c 5;clear c;simp only[rdC] at c3 c4 c5;have f:∀i,w1.frozen? ⟨R,i,none⟩=false:=fun i=>by simp[World.frozen?,hR1.box]
   have f2:=f 2;have f3:=f 3;have f4:=f 4;have f5:=f 5;unfold zo;clear f h1 hR hR1 hS HN1 hb1 hvo hits hwt hpl hw';go_enter Tryz.func149,Tryz.ntmps149;go_upto_region 1 with fail;rw[←hw1];clear hw1;go_wp2_with fail;refine cMo PL.out ?_;rintro e w2 ⟨rfl,hw2⟩;subst w2;clear PL;go_wp2_with fail;refine cMo WT.out ?_;rintro e w2 ⟨rfl,hw2⟩;subst w2;clear WT
   go_wp2
   go_ret
   exact⟨rfl,HP.out.1,HP.out.2⟩
 | false =>
  rw[hpl] at PL;have hnp:¬q2t tk.text=true:=by rw[hpl];exact Bool.false_ne_true
  have KO:Hid _:=q2j w1 tk.text (hS.under hb1);obtain⟨k,hk⟩:=eXb (q1d tk.text);have hk10:k < 10:=by rw[←hk];exact qop _
  rw[hk] at KO
  by_cases hk0:k=0
  ·have E:Hid (q0p P tk=(60,P)):=by show _=_;unfold q0p;rw[if_neg hnp,hk,if_pos hk0]
   rw[E.out];subst hk0;have HS2:Hid (∀w2,Below w1.heap.size w1 w2→Takes N R H w (60,P) (.returned (.int .i64 60)) w2):=fun w2 hb2=>⟨rfl,(h1.under hb2).mono fun _ e=>.inl e,M.Ch.oB (hb1.trans (hb2.mono hb1.size))⟩
   unfold zo;clear h1 hR hR1 hS HN1 hb1 hvo hits hpl hnp hk;go_enter Tryz.func149,Tryz.ntmps149;go_upto_region 1 with fail;rw[←hw1];clear hw1;go_wp2_with fail;refine cMo PL.out ?_;rintro e w2 ⟨rfl,hw2⟩;subst w2;clear PL;go_wp2_with fail;refine cMo KO.out ?_;rintro e w2 ⟨rfl,hb2⟩;have HB2:=hid hb2;clear KO hb2
   go_wp2
   go_ret
   exact HS2.out _ HB2.out
  ·obtain⟨b,hwt⟩:=eXb (wtB P.wt);have hw':(!P.wt.text.toList.isEmpty)=b:=hwt;obtain⟨lb,hlb⟩:=eXb (qhs k);have hk0':((k:Int) == 0)=false:=by simpa using hk0
   have k0:(0:Int)≤(k:Int):=by omega
   have k1:(k:Int) < 10:=by omega
   have HSh:Hid (gy w):=hS;have HRd:=hid hR1;have HIT:Hid (its.map (·.s)=P.l∧its.length≤1048576):=⟨hits,by have:=congrArg List.length hits;rw[lMa] at this;omega⟩;have HE:Hid (q0p P tk=if lb≠b then (61,P) else (0,⟨P.l++[newS k P.wt tk],!brk k,q2i⟩)):=by
    show _=_
    unfold q0p;rw[if_neg hnp,hk,if_neg hk0,hlb,hwt]
   have HLB:Hid (qhs k=lb∧(!P.wt.text.toList.isEmpty)=b∧k < 10∧1≤k):=⟨hlb,hw',hk10,by omega⟩;have HNB:=hid HN1;unfold zo;clear h1 hR hR1 hS HN1 hb1 hvo hits hpl hnp hk hwt hw' hlb WT hk0 x1 x2 x3 r2;go_enter Tryz.func149,Tryz.ntmps149;go_upto_region 1 with fail;rw[←hw1];clear hw1;go_wp2_with fail;refine cMo PL.out ?_;rintro e w2 ⟨rfl,hw2⟩;subst w2;clear PL;go_wp2_with fail;refine cMo KO.out ?_;rintro e w2 ⟨rfl,hb2⟩;have HB2:=hid hb2;have HBw:=bTr HB hb2;have HR2:Hid (RSt N R w2 vb .nilIface its P.wt):=HRd.out.under hb2;have r2:w2.cell? ⟨R,2,none⟩=some (.string P.wt.text):=M.qc HR2.out.box 2;have WT:Hid _:=q8l w2.drew R P.wt.text r2;obtain⟨_,l1,_,_⟩:=(HSh.out.under HBw.out) k hk10;rw[HLB.out.1] at l1;rw[HLB.out.2.1] at WT;clear KO hb2 x0;go_upto_region 9 with fail
   go_region_law (go_simp;go_at_call 150;refine cMo WT.out ?_;rintro e w3 ⟨rfl,hw3⟩;subst w3)
   all_goals
    have HR3:Hid (RSt N R w2.drew vb .nilIface its P.wt):=HR2.out.under (below_drewN bRf 1);have HB3:Hid (Below w.heap.size w w2.drew):=below_drewN HBw.out 1;have HN3:Hid (w2.drew.heap[w.heap.size]?=some (.cells #[.string tk.text,.int .i64 tk.off,.int .i64 tk.line,.int .i64 tk.col] 36 (0,0))):=(HB2.out.block _ (aIx HNB.out)).trans HNB.out;clear WT l1 r2 HR2 HBw HB2 HNB;generalize w2.drew=w3 at *
    by_cases hbe:lb=b
    ·have E:Hid (q0p P tk=(0,⟨P.l++[newS k P.wt tk],!brk k,q2i⟩)):=by show _=_;rw[HE.out,if_neg (by simpa using hbe)]
     have c:∀i,w3.cell? ⟨R,i,none⟩=(rdC vb .nilIface P.wt)[i]?:=fun i=>M.qc HR3.out.box i
     have c2:=c 2;have c3:=c 3;have c4:=c 4;have c5:=c 5;clear c;simp only[rdC] at c2 c3 c4 c5;have x0:w3.cell? ⟨w.heap.size,0,none⟩=some (.string tk.text):=M.qc HN3.out 0;have x1:w3.cell? ⟨w.heap.size,1,none⟩=some (.int .i64 tk.off):=M.qc HN3.out 1;have x2:w3.cell? ⟨w.heap.size,2,none⟩=some (.int .i64 tk.line):=M.qc HN3.out 2;have x3:w3.cell? ⟨w.heap.size,3,none⟩=some (.int .i64 tk.col):=M.qc HN3.out 3;have NS:Hid _:=qlf w3.drew k P.wt tk;unfold zo at NS;subst hbe;rcases lb with _ | _
     all_goals go_upto_region 11 with fail
     all_goals go_region_law (first
      | (go_simp;go_at_call 131;refine cMo NS.out ?_;rintro e w4 ⟨hb4,st,rfl,hh⟩;obtain⟨x,rfl,hxs,hxi,hxb⟩:=qlo (w:=w3.drew) (N:=N) (by have:=HLB.out.2.2.2;omega) (by have:=HLB.out.2.2.1;omega) (nLt hN HB3.out.size) hh;have HXS:Hid (x.s=newS k P.wt tk∧Below w.heap.size w w4∧∀b,blk x b→w.heap.size≤b):=⟨hxs,HB3.out.trans (Below.mono (show Below w3.heap.size w3 w4 from ⟨hb4.os,hb4.tape,hb4.output,hb4.size,hb4.block⟩) HB3.out.size),fun b e=>nLt HB3.out.size (hxb b e)⟩;have BG:Hid _:=qlp w4 N R vb its x P.wt (HR3.out.under ⟨hb4.os,hb4.tape,hb4.output,hb4.size,hb4.block⟩) hxi (fun b e=>⟨fun e2=>(by have h1:=hxb b e;have h2:=HR3.out.lt;subst e2;exact absurd h2 (Nat.not_lt.2 h1)),fun e2=>(by have h1:=hxb b e;have h2:=M.jr HR3.out.own b e2;exact absurd h2 (Nat.not_lt.2 h1))⟩) (fun y hy b e e2=>absurd ((HR3.out.all y hy).lt b e) (Nat.not_lt.2 (hxb b e2))) HIT.out.2 (nLt hN HXS.out.2.1.size);clear hb4 hh hxs hxi hxb)
      | (go_simp;go_at_call 212;refine cMo BG.out ?_;rintro e w5 ⟨rfl,vb',hr5,hb5,hl5⟩;have H5:Hid (RSt N R w5 vb' (if brk x.s.kind=true then .nilIface else gu x) (its++[x]) q2i∧M.Ch H w w5∧∀b,Held R vb' (its++[x]) b→H b∨w.heap.size≤b):=⟨hr5,(M.Ch.oB HXS.out.2.1).trans (hb5.mono fun b e=>HHd.out b (e.imp id .inl)),qoq HHd.out (fun b e=>(hl5 b e).imp id fun h=>nLt HXS.out.2.1.size h) HXS.out.2.2⟩;clear hr5 hb5 hl5))
     all_goals have HF:Hid (q5a N R (fun b=>H b∨w.heap.size≤b) w5 ⟨P.l++[newS k P.wt tk],!brk k,q2i⟩):=qor HXS.out.1 H5.out.1 HIT.out.1 H5.out.2.2
     all_goals clear BG NS
     all_goals go_wp2
     all_goals go_ret
     all_goals show Takes _ _ _ _ _ _ _
     all_goals rw[E.out]
     all_goals exact⟨rfl,HF.out,H5.out.2.1⟩
    ·have E:Hid (q0p P tk=(61,P)):=by show _=_;rw[HE.out,if_pos hbe]
     have HD:Hid (q5a N R (fun b=>H b∨w.heap.size≤b) w3 P):=⟨vb,.nilIface,its,HR3.out,HIT.out.1,fun _=>rfl,(fun e=>by rw[ho] at e;cases e),fun b e=>.inl (HHd.out b e)⟩;clear HE;rcases lb with _ | _ <;> rcases b with _ | _
     all_goals first | exact absurd rfl hbe | skip
     all_goals clear hbe
     all_goals go_wp2
     all_goals go_ret
     all_goals show Takes _ _ _ _ _ _ _
     all_goals rw[E.out]
     all_goals exact⟨rfl,HD.out,M.Ch.oB HB3.out⟩
def qm (P:PS)(t:Tok):Int × PS :=
 if P.opn=true then (match P.l.getLast? with
  | some s=>((yu s t).1,⟨P.l.dropLast++[(yu s t).2.1],!(yu s t).2.2,P.wt⟩)
  | none=>(0,P))
 else q0p P t
theorem take_any (w:World)(N R:Nat)(H:Nat→Prop)(P:PS)(tk:Tok)(h:q5a N R H w P)(hS:gy w)(hN:N≤w.heap.size)(hn:P.l.length≤1048576)(hsz:∀s ∈ P.l,s.words.length≤1048576∧s.proof.length≤1048576)(ht:tk.text.size≤1048576) :
  Calls Tryz.prog 96 #[.pointer (some ⟨R,0,none⟩),zo tk] w (Takes N R H w (qm P tk)):=by
 obtain⟨w1,hw1⟩:=eXa (w.alloc (.cells #[.string tk.text,.int .i64 tk.off,.int .i64 tk.line,.int .i64 tk.col] 36));have hb1:Below w.heap.size w w1:=by rw[hw1];exact qg _ _
 have HN1:w1.heap[w.heap.size]?=some (.cells #[.string tk.text,.int .i64 tk.off,.int .i64 tk.line,.int .i64 tk.col] 36 (0,0)):=by rw[hw1];exact heap_alloc_new w _
 have x0:w1.cell? ⟨w.heap.size,0,none⟩=some (.string tk.text):=M.qc HN1 0;have x1:w1.cell? ⟨w.heap.size,1,none⟩=some (.int .i64 tk.off):=M.qc HN1 1;have x2:w1.cell? ⟨w.heap.size,2,none⟩=some (.int .i64 tk.line):=M.qc HN1 2;have x3:w1.cell? ⟨w.heap.size,3,none⟩=some (.int .i64 tk.col):=M.qc HN1 3;have HB:=hid hb1;have h1:=h.under hb1
 cases ho:P.opn with
 | false =>
  have BT:Hid (Calls Tryz.prog 149 #[.pointer (some ⟨R,0,none⟩),zo tk] w1 (Takes N R H w (qm P tk))):=by
   show Calls _ _ _ _ _
   refine cMo (qa1 w1 N R H P tk h1 ho (hS.under hb1) (nLt hN hb1.size) hn ht) fun e w' he=>?_
   unfold qm;rw[if_neg (by rw[ho];exact Bool.false_ne_true)];exact he.from hb1
  obtain⟨vb,vo,its,hR,hits,hvo,_,_⟩:=h1;have hvo':=hvo ho;subst hvo';have r1:w1.cell? ⟨R,1,none⟩=some .nilIface:=M.qc hR.box 1;obtain⟨Q,hQ⟩:=eXb (Takes N R H w (qm P tk));rw[hQ] at BT ⊢;have HQ:Hid (∀e w',Q e w'→∃c,e=.returned (.int .i64 c)):=fun e w' hq=>by rw[←hQ] at hq;exact⟨_,hq.1⟩
  unfold zo at BT ⊢;clear h hS HN1 hb1 hR hits hvo hQ;go_enter Tryz.func96,Tryz.ntmps96;go_upto_region 1 with fail;rw[←hw1];clear hw1;go_wp2_with fail;refine cMo BT.out ?_;intro e w2 hq;have HP:Hid (Q e w2):=hq;obtain⟨c,rfl⟩:=HQ.out _ _ hq;clear hq
  go_wp2
  try go_ret
  exact HP.out
 | true =>
  obtain⟨vb,vo,its,hR,hits,_,hvo,hH⟩:=h1;obtain⟨pre,x,rfl,rfl,hbk⟩:=hvo ho;have hxm:x ∈ pre++[x]:=by simp
  have hsx:x.s ∈ P.l:=by rw[←hits];exact List.mem_map_of_mem hxm
  have hl:P.l.getLast?=some x.s:=by rw[←hits];simp
  have hd:P.l.dropLast=pre.map (·.s):=by rw[←hits];simp
  have BT:Hid (Calls Tryz.prog 148 #[.pointer (some ⟨R,0,none⟩),zo tk] w1 (Takes N R H w (qm P tk))):=by
   show Calls _ _ _ _ _
   refine cMo (qal w1 N R x tk _ hR.box rfl (fun e=>(hR.ap x hxm R e).1 rfl) (hR.all x hxm) hbk (hS.under hb1) (nLt hN hb1.size) (hsz _ hsx).1 (hsz _ hsx).2 ht) fun e w' he=>?_
   obtain⟨x',e1,e2,e3,e4,e5,e6,e7,e8⟩:=he;unfold qm;rw[if_pos ho,hl];dsimp only;have eR:∀c:Bool,(if c=true then (rdC vb (gu x) P.wt).setIfInBounds 1 .nilIface else rdC vb (gu x) P.wt)=rdC vb (if c=true then .nilIface else gu x) P.wt:=fun c=>by cases c <;> rfl
   rw[eR] at e8;refine⟨e1,⟨vb,_,pre++[x'],hR.last e3 e4 e5 e6 e7 e8,by rw[hd,List.map_append,List.map_singleton,e2],fun e=>?_,fun e=>?_,fun b e=>?_⟩,(M.Ch.oB hb1).trans (e7.mono fun b e=>e.elim (fun e=>hH b (.inr (.inr ⟨x,hxm,e⟩))) fun e=>hH b (.inl e))⟩
   ·have e':(yu x.s tk).2.2=true:=by simpa using e
    rw[if_pos e']
   ·have e':(yu x.s tk).2.2=false:=by simpa using e
    refine⟨pre,x',rfl,?_,?_⟩
    ·rw[if_neg (by rw[e'];exact Bool.false_ne_true)];unfold gu;rw[e5,e4]
    ·have:q4b x'≠204:=by
      rw[e5];unfold q4b;rw[if_neg (by rw[hbk];exact Bool.false_ne_true)]
      split <;> decide
     cases hb:brk x'.s.kind with
     | false=>rfl
     | true=>exact absurd (by unfold q4b;rw[if_pos hb]) this
   ·rcases e with e | e | ⟨y,hy,e⟩
    ·exact .inl (hH b (.inl e))
    ·exact .inl (hH b (.inr (.inl e)))
    ·rcases mAp.1 hy with hy | hy
     ·exact .inl (hH b (.inr (.inr ⟨y,by simp[hy],e⟩)))
     ·rw[mSg.1 hy] at e;exact (e6 b e).imp (fun e=>hH b (.inr (.inr ⟨x,hxm,e⟩))) fun e=>nLt hb1.size e
  have r1:w1.cell? ⟨R,1,none⟩=some (gu x):=M.qc hR.box 1;obtain⟨y,g,hix⟩:∃y g,gu x=.iface y (.pointer (some ⟨g,0,none⟩)):=⟨_,_,rfl⟩;rw[hix] at r1;obtain⟨Q,hQ⟩:=eXb (Takes N R H w (qm P tk));rw[hQ] at BT ⊢;have HQ:Hid (∀e w',Q e w'→∃c,e=.returned (.int .i64 c)):=fun e w' hq=>by rw[←hQ] at hq;exact⟨_,hq.1⟩
  unfold zo at BT ⊢;clear h hS HN1 hb1 hR hits hvo hQ hsx hl hd hix hxm hH;go_enter Tryz.func96,Tryz.ntmps96;go_upto_region 1 with fail;rw[←hw1];clear hw1;go_wp2_with fail;refine cMo BT.out ?_;intro e w2 hq;have HP:Hid (Q e w2):=hq;obtain⟨c,rfl⟩:=HQ.out _ _ hq;clear hq
  go_wp2
  try go_ret
  exact HP.out
theorem qhx (w:World)(N R:Nat)(H:Nat→Prop)(P:PS)(h:q5a N R H w P):Calls Tryz.prog 98 #[.pointer (some ⟨R,0,none⟩)] w fun e w'=>e=.returned (.bool (P.opn || wtB P.wt))∧w'=w:=by
 cases ho:P.opn with
 | false =>
  obtain⟨vb,vo,its,hR,hits,hvo,_,_⟩:=h;have hvo':=hvo ho;subst hvo';have r1:w.cell? ⟨R,1,none⟩=some .nilIface:=M.qc hR.box 1;have r2:w.cell? ⟨R,2,none⟩=some (.string P.wt.text):=M.qc hR.box 2;have WT:Hid _:=q8l w R P.wt.text r2;clear hR hits hvo r2;go_enter Tryz.func98,Tryz.ntmps98;go_wp2_with fail;refine cMo WT.out ?_;rintro e w2 ⟨rfl,hw2⟩;subst w2;clear WT
  go_wp2
  go_ret
  exact⟨rfl,rfl⟩
 | true =>
  obtain⟨vb,vo,its,hR,hits,_,hvo,_⟩:=h;obtain⟨pre,x,rfl,rfl,hbk⟩:=hvo ho;have r1:w.cell? ⟨R,1,none⟩=some (gu x):=M.qc hR.box 1;obtain⟨y,g,hix⟩:∃y g,gu x=.iface y (.pointer (some ⟨g,0,none⟩)):=⟨_,_,rfl⟩;rw[hix] at r1;clear hR hits hvo hix;go_enter Tryz.func98,Tryz.ntmps98
  go_wp2
  go_ret
  exact⟨rfl,rfl⟩
def q5b (x:Itm):Array Value:=q4w x.s.kind x.s.label x.s.key x.s.fin x.s.proving x.vw x.vp
theorem infoSM:(Tryz.prog.info? 95).map (fun i=>(i.zero,i.size,i.bytes))=some (some (.agg #[.int .i64 0,.string ⟨#[]⟩,.int .i64 0,.int .i64 0,.int .i64 0,.string ⟨#[]⟩,.int .i64 0,.int .i64 0,.int .i64 0,.bool false,.slice none 0 0,.slice none 0 0,.string ⟨#[]⟩,.int .i64 0,.int .i64 0,.int .i64 0]),16,184):=by kernel_rfl
theorem qot (w:World)(N:Nat)(x:Itm)(h:q0f w N x)(h7:x.s.kind=7):Calls Tryz.prog 336 #[.pointer (some ⟨x.g,0,none⟩)] w fun e w'=>e=.returned (.agg (q5b x))∧Below w.heap.size w w':=by
 obtain⟨aw,cw,ew⟩:=ji h.ow;obtain⟨ap,cp,ep⟩:=ji h.op;have hb:=h.box;rw[q02 h7,ew,ep] at hb;have c:∀i,w.cell? ⟨x.g,i,none⟩=_:=fun i=>M.qc hb i
 unfold q5b;rw[ew,ep];exact qlk w x.g x.s.kind x.s.label x.s.key x.s.fin aw _ cw x.s.proving ap _ cp ⟨c 0,c 1,c 2,c 3,c 4,c 5,c 6,c 7,c 8,c 9,c 10,c 11,c 12,c 13,c 14,c 15⟩
theorem qlr (w:World)(N:Nat)(x:Itm)(h:q0f w N x)(hb:brk x.s.kind=false)(h7:x.s.kind≠7):Calls Tryz.prog 337 #[.pointer (some ⟨x.g,0,none⟩)] w fun e w'=>e=.returned (.agg (q5b x))∧Below w.heap.size w w':=by
 obtain⟨aw,cw,ew⟩:=ji h.ow;have hbx:=h.box;rw[q3i hb h7,ew] at hbx;have c:∀i,w.cell? ⟨x.g,i,none⟩=_:=fun i=>M.qc hbx i
 unfold q5b;obtain⟨_,e2,e3⟩:=h.nt h7;rw[ew,e2,e3];exact qd0 w x.g x.s.kind x.s.label x.s.key x.s.fin aw _ cw ⟨c 0,c 1,c 2,c 3,c 4,c 5,c 6,c 7,c 8,c 9,c 10,c 11,c 12,c 13⟩
theorem qou (w:World)(N:Nat)(x:Itm)(h:q0f w N x)(hb:brk x.s.kind=true):Calls Tryz.prog 338 #[.pointer (some ⟨x.g,0,none⟩)] w fun e w'=>e=.returned (.agg (q5b x))∧Below w.heap.size w w':=by
 have h7:x.s.kind≠7:=fun e=>by rw[e] at hb;cases hb
 have hbx:=h.box;rw[qkd hb] at hbx;have c:∀i,w.cell? ⟨x.g,i,none⟩=_:=fun i=>M.qc hbx i
 unfold q5b;obtain⟨_,e2,e3⟩:=h.nt h7;obtain⟨_,d2,d3,d4⟩:=h.nb hb;rw[e2,e3,d2,d3,d4];exact qlj w x.g x.s.kind x.s.key ⟨c 0,c 1,c 2,c 3,c 4⟩
def q42 (l:List Itm):List Value:=l.flatMap fun x=>(q5b x).toList
theorem qam {w:World}{N:Nat}(x:Itm)(h:q0f w N x):∀u ∈ (#[.int .i64 x.s.kind,.string x.s.label.text,.int .i64 x.s.label.off,.int .i64 x.s.label.line,.int .i64 x.s.label.col,.string x.s.key.text,.int .i64 x.s.key.off,.int .i64 x.s.key.line,.int .i64 x.s.key.col,.bool x.s.proving,x.vw,x.vp,.string x.s.fin.text,.int .i64 x.s.fin.off,.int .i64 x.s.fin.line,.int .i64 x.s.fin.col]:Array Value).toList,u.oneCell'=true:=fun u hu=>by
 obtain⟨aw,cw,ew⟩:=ji h.ow;obtain⟨ap,cp,ep⟩:=ji h.op;rw[ew,ep] at hu;simp at hu;rcases hu with rfl | rfl | rfl | rfl | rfl | rfl | rfl | rfl | rfl | rfl | rfl | rfl | rfl | rfl | rfl | rfl <;> rfl
theorem qf6 (w:World)(N R:Nat)(vb vo:Value)(its:List Itm)(wt:Tok)(h:RSt N R w vb vo its wt)(hn:its.length≤1048576) :
  Calls Tryz.prog 97 #[.pointer (some ⟨R,0,none⟩)] w fun e w'=>∃v,e=.returned v∧w'.ownsRow w.heap.size 95 16 v its.length (q42 its)∧Below w.heap.size w w':=by
 obtain⟨ip,hip,ipz,ips,ipb⟩:=info_parts infoSM;obtain⟨n,hnn⟩:=eXb its.length;have H:=hid h;obtain⟨av,cv,hvb,_,hcell⟩:=M.xq h.own;rw[hnn] at hn hvb;subst hvb;have HC:Hid (∀i x,its[i]?=some x→∃g,av=some ⟨g,0,none⟩∧w.cell? ⟨g,i,none⟩=some (gu x)):=fun i x hx=>hcell i _ (by rw[List.getElem?_map,hx];rfl)
 have HL:=hid hnn;have r0:w.cell? ⟨R,0,none⟩=some (.slice av n cv):=M.qc h.box 0;rw[hnn];clear h hcell hnn;go_enter Tryz.func97,Tryz.ntmps97;go_wp2_with fail
 go_loopw [11,3] (fun v11 v3 wx=>∃(j:Nat) (v:Value),j≤n∧v11=.int .i64 j∧v3=v∧Hid (wx.ownsRow w.heap.size 95 16 v j (q42 (its.take j)))∧Hid (Below w.heap.size w wx)) (fun v11 _ _=>n - (intOf v11).toNat)
 case atStart=>exact⟨0,_,Nat.zero_le _,rfl,rfl,World.ownsRow_nil _ _ _ _,bRf⟩
 case round =>
  obtain⟨j,v,hj,rfl,rfl,hO,hB⟩:=hrel;obtain⟨a3,c3,hv3,_⟩:=ql hO.out;subst hv3
  by_cases hlt:j < n
  ·have n1:(j:Int) < (n:Int):=by omega
   obtain⟨x,hx⟩:∃x,its[j]?=some x:=⟨its[j]'(by rw[HL.out];exact hlt),gEq _⟩;have HIt:Hid (q0f w N x):=H.out.all x (mGe hx);have HIr:Hid (q0f wr N x):=HIt.out.under hB.out;obtain⟨gb,rfl,y0⟩:=HC.out j x hx;have y1:wr.cell? ⟨gb,j,none⟩=some (gu x):=(hB.out.cell (p:=⟨gb,j,none⟩) (bLt y0)).trans y0;have TK:Hid (q42 (its.take (j + 1))=q42 (its.take j)++(q5b x).toList):=by show _=_;rw[List.take_add_one,hx];simp[q42]
   clear hx y0 r0
   cases hb:brk x.s.kind with
   | true =>
    have ey:gu x=.iface 204 (.pointer (some ⟨x.g,0,none⟩)):=by unfold gu q4b;rw[if_pos hb]
    have TD:Hid _:=qou wr N x HIr.out hb;rw[ey] at y1;clear ey hb;go_wp2_with fail;refine cMo TD.out ?_;rintro e w2 ⟨rfl,hb2⟩;have HB2:=hid hb2;have HBw:=bTr hB hb2;have O2:Hid ((w2.alloc (.cells #[.int .i64 x.s.kind,.string x.s.label.text,.int .i64 x.s.label.off,.int .i64 x.s.label.line,.int .i64 x.s.label.col,.string x.s.key.text,.int .i64 x.s.key.off,.int .i64 x.s.key.line,.int .i64 x.s.key.col,.bool x.s.proving,x.vw,x.vp,.string x.s.fin.text,.int .i64 x.s.fin.off,.int .i64 x.s.fin.line,.int .i64 x.s.fin.col] 95)).ownsRow w.heap.size 95 16 (.slice a3 j c3) j (q42 (its.take j))):=M.zk (M.qh hO.out (M.Ch.oB (X:=fun _=>False) hb2) fun _ _ e=>e) _;have HS2:Hid (w.heap.size≤w2.heap.size):=HBw.out.size;simp only[q5b,q4w];clear hb2
    go_wp2_with (at_builtin;(refine wpList_append_lies (w2.alloc (.cells #[.int .i64 x.s.kind,.string x.s.label.text,.int .i64 x.s.label.off,.int .i64 x.s.label.line,.int .i64 x.s.label.col,.string x.s.key.text,.int .i64 x.s.key.off,.int .i64 x.s.key.line,.int .i64 x.s.key.col,.bool x.s.proving,x.vw,x.vp,.string x.s.fin.text,.int .i64 x.s.fin.off,.int .i64 x.s.fin.line,.int .i64 x.s.fin.col] 95)) rfl _ _ _ rfl w.heap.size 95 ip _ 16 184 Tryz.underlying75 hip ipz ips ipb rfl (by omega) _ j (q42 (its.take j)) (by rfl) (by exact O2.out) ⟨w2.heap.size,0,none⟩ 1 1 (#[.int .i64 x.s.kind,.string x.s.label.text,.int .i64 x.s.label.off,.int .i64 x.s.label.line,.int .i64 x.s.label.col,.string x.s.key.text,.int .i64 x.s.key.off,.int .i64 x.s.key.line,.int .i64 x.s.key.col,.bool x.s.proving,x.vw,x.vp,.string x.s.fin.text,.int .i64 x.s.fin.off,.int .i64 x.s.fin.line,.int .i64 x.s.fin.col]:Array Value).toList (by rfl) (by rfl) (fun j' u hu=>World.news_of_block (cs:=#[.int .i64 x.s.kind,.string x.s.label.text,.int .i64 x.s.label.off,.int .i64 x.s.label.line,.int .i64 x.s.label.col,.string x.s.key.text,.int .i64 x.s.key.off,.int .i64 x.s.key.line,.int .i64 x.s.key.col,.bool x.s.proving,x.vw,x.vp,.string x.s.fin.text,.int .i64 x.s.fin.off,.int .i64 x.s.fin.line,.int .i64 x.s.fin.col]) (t:=95) (fr:=(0,0)) (heap_alloc_new w2 _) j' u hu) (fun u hu=>qam x HIt.out u hu) (by omega) (by unfold maxLen;omega) (by omega) (by have:=HS2.out;simp;omega) _ rfl ?_;intro gg cap w3 ho hgr hat hlt;have O3:Hid (w3.ownsRow w.heap.size 95 16 (.slice (some ⟨gg,0,none⟩) (j + 1) cap) (j + 1) (q42 (its.take (j + 1)))):=(by show World.ownsRow _ _ _ _ _ _ _;rw[TK.out];exact ho);have B3:Hid (Below w.heap.size w w3):=(HBw.out.alloc HBw.out.size _).trans ((M.Ch.jw hgr).below (by have:=HS2.out;simp;omega) fun b e=>M.zf O2.out b e);clear ho hgr hat hlt))
    exact⟨⟨j + 1,_,by omega,by go_num,rfl,O3.out,B3.out⟩,by simp[intOf];omega⟩
   | false =>
    have hbn:¬brk x.s.kind=true:=by rw[hb];exact Bool.false_ne_true
    by_cases h7:x.s.kind=7
    ·have ey:gu x=.iface 197 (.pointer (some ⟨x.g,0,none⟩)):=by unfold gu q4b;rw[if_neg hbn,if_pos h7]
     have TD:Hid _:=qot wr N x HIr.out h7;rw[ey] at y1;clear ey hb hbn h7;go_wp2_with fail;refine cMo TD.out ?_;rintro e w2 ⟨rfl,hb2⟩;have HB2:=hid hb2;have HBw:=bTr hB hb2;have O2:Hid ((w2.alloc (.cells #[.int .i64 x.s.kind,.string x.s.label.text,.int .i64 x.s.label.off,.int .i64 x.s.label.line,.int .i64 x.s.label.col,.string x.s.key.text,.int .i64 x.s.key.off,.int .i64 x.s.key.line,.int .i64 x.s.key.col,.bool x.s.proving,x.vw,x.vp,.string x.s.fin.text,.int .i64 x.s.fin.off,.int .i64 x.s.fin.line,.int .i64 x.s.fin.col] 95)).ownsRow w.heap.size 95 16 (.slice a3 j c3) j (q42 (its.take j))):=M.zk (M.qh hO.out (M.Ch.oB (X:=fun _=>False) hb2) fun _ _ e=>e) _;have HS2:Hid (w.heap.size≤w2.heap.size):=HBw.out.size;simp only[q5b,q4w];clear hb2
     go_wp2_with (at_builtin;(refine wpList_append_lies (w2.alloc (.cells #[.int .i64 x.s.kind,.string x.s.label.text,.int .i64 x.s.label.off,.int .i64 x.s.label.line,.int .i64 x.s.label.col,.string x.s.key.text,.int .i64 x.s.key.off,.int .i64 x.s.key.line,.int .i64 x.s.key.col,.bool x.s.proving,x.vw,x.vp,.string x.s.fin.text,.int .i64 x.s.fin.off,.int .i64 x.s.fin.line,.int .i64 x.s.fin.col] 95)) rfl _ _ _ rfl w.heap.size 95 ip _ 16 184 Tryz.underlying75 hip ipz ips ipb rfl (by omega) _ j (q42 (its.take j)) (by rfl) (by exact O2.out) ⟨w2.heap.size,0,none⟩ 1 1 (#[.int .i64 x.s.kind,.string x.s.label.text,.int .i64 x.s.label.off,.int .i64 x.s.label.line,.int .i64 x.s.label.col,.string x.s.key.text,.int .i64 x.s.key.off,.int .i64 x.s.key.line,.int .i64 x.s.key.col,.bool x.s.proving,x.vw,x.vp,.string x.s.fin.text,.int .i64 x.s.fin.off,.int .i64 x.s.fin.line,.int .i64 x.s.fin.col]:Array Value).toList (by rfl) (by rfl) (fun j' u hu=>World.news_of_block (cs:=#[.int .i64 x.s.kind,.string x.s.label.text,.int .i64 x.s.label.off,.int .i64 x.s.label.line,.int .i64 x.s.label.col,.string x.s.key.text,.int .i64 x.s.key.off,.int .i64 x.s.key.line,.int .i64 x.s.key.col,.bool x.s.proving,x.vw,x.vp,.string x.s.fin.text,.int .i64 x.s.fin.off,.int .i64 x.s.fin.line,.int .i64 x.s.fin.col]) (t:=95) (fr:=(0,0)) (heap_alloc_new w2 _) j' u hu) (fun u hu=>qam x HIt.out u hu) (by omega) (by unfold maxLen;omega) (by omega) (by have:=HS2.out;simp;omega) _ rfl ?_;intro gg cap w3 ho hgr hat hlt;have O3:Hid (w3.ownsRow w.heap.size 95 16 (.slice (some ⟨gg,0,none⟩) (j + 1) cap) (j + 1) (q42 (its.take (j + 1)))):=(by show World.ownsRow _ _ _ _ _ _ _;rw[TK.out];exact ho);have B3:Hid (Below w.heap.size w w3):=(HBw.out.alloc HBw.out.size _).trans ((M.Ch.jw hgr).below (by have:=HS2.out;simp;omega) fun b e=>M.zf O2.out b e);clear ho hgr hat hlt))
     exact⟨⟨j + 1,_,by omega,by go_num,rfl,O3.out,B3.out⟩,by simp[intOf];omega⟩
    ·have ey:gu x=.iface 202 (.pointer (some ⟨x.g,0,none⟩)):=by unfold gu q4b;rw[if_neg hbn,if_neg h7]
     have TD:Hid _:=qlr wr N x HIr.out hb h7;rw[ey] at y1;clear ey hb hbn h7;go_wp2_with fail;refine cMo TD.out ?_;rintro e w2 ⟨rfl,hb2⟩;have HB2:=hid hb2;have HBw:=bTr hB hb2;have O2:Hid ((w2.alloc (.cells #[.int .i64 x.s.kind,.string x.s.label.text,.int .i64 x.s.label.off,.int .i64 x.s.label.line,.int .i64 x.s.label.col,.string x.s.key.text,.int .i64 x.s.key.off,.int .i64 x.s.key.line,.int .i64 x.s.key.col,.bool x.s.proving,x.vw,x.vp,.string x.s.fin.text,.int .i64 x.s.fin.off,.int .i64 x.s.fin.line,.int .i64 x.s.fin.col] 95)).ownsRow w.heap.size 95 16 (.slice a3 j c3) j (q42 (its.take j))):=M.zk (M.qh hO.out (M.Ch.oB (X:=fun _=>False) hb2) fun _ _ e=>e) _;have HS2:Hid (w.heap.size≤w2.heap.size):=HBw.out.size;simp only[q5b,q4w];clear hb2
     go_wp2_with (at_builtin;(refine wpList_append_lies (w2.alloc (.cells #[.int .i64 x.s.kind,.string x.s.label.text,.int .i64 x.s.label.off,.int .i64 x.s.label.line,.int .i64 x.s.label.col,.string x.s.key.text,.int .i64 x.s.key.off,.int .i64 x.s.key.line,.int .i64 x.s.key.col,.bool x.s.proving,x.vw,x.vp,.string x.s.fin.text,.int .i64 x.s.fin.off,.int .i64 x.s.fin.line,.int .i64 x.s.fin.col] 95)) rfl _ _ _ rfl w.heap.size 95 ip _ 16 184 Tryz.underlying75 hip ipz ips ipb rfl (by omega) _ j (q42 (its.take j)) (by rfl) (by exact O2.out) ⟨w2.heap.size,0,none⟩ 1 1 (#[.int .i64 x.s.kind,.string x.s.label.text,.int .i64 x.s.label.off,.int .i64 x.s.label.line,.int .i64 x.s.label.col,.string x.s.key.text,.int .i64 x.s.key.off,.int .i64 x.s.key.line,.int .i64 x.s.key.col,.bool x.s.proving,x.vw,x.vp,.string x.s.fin.text,.int .i64 x.s.fin.off,.int .i64 x.s.fin.line,.int .i64 x.s.fin.col]:Array Value).toList (by rfl) (by rfl) (fun j' u hu=>World.news_of_block (cs:=#[.int .i64 x.s.kind,.string x.s.label.text,.int .i64 x.s.label.off,.int .i64 x.s.label.line,.int .i64 x.s.label.col,.string x.s.key.text,.int .i64 x.s.key.off,.int .i64 x.s.key.line,.int .i64 x.s.key.col,.bool x.s.proving,x.vw,x.vp,.string x.s.fin.text,.int .i64 x.s.fin.off,.int .i64 x.s.fin.line,.int .i64 x.s.fin.col]) (t:=95) (fr:=(0,0)) (heap_alloc_new w2 _) j' u hu) (fun u hu=>qam x HIt.out u hu) (by omega) (by unfold maxLen;omega) (by omega) (by have:=HS2.out;simp;omega) _ rfl ?_;intro gg cap w3 ho hgr hat hlt;have O3:Hid (w3.ownsRow w.heap.size 95 16 (.slice (some ⟨gg,0,none⟩) (j + 1) cap) (j + 1) (q42 (its.take (j + 1)))):=(by show World.ownsRow _ _ _ _ _ _ _;rw[TK.out];exact ho);have B3:Hid (Below w.heap.size w w3):=(HBw.out.alloc HBw.out.size _).trans ((M.Ch.jw hgr).below (by have:=HS2.out;simp;omega) fun b e=>M.zf O2.out b e);clear ho hgr hat hlt))
     exact⟨⟨j + 1,_,by omega,by go_num,rfl,O3.out,B3.out⟩,by simp[intOf];omega⟩
  ·have n1:¬(j:Int) < (n:Int):=by omega
   obtain rfl:j=n:=by omega
   have O2:Hid (wr.ownsRow w.heap.size 95 16 (.slice a3 j c3) j (q42 its)):=by have h:=hO.out;rw[List.take_of_length_le (by rw[HL.out];exact Nat.le_refl _)] at h;exact h
   go_wp2
   go_ret
   exact⟨_,rfl,O2.out,hB.out⟩
end S
namespace S.K
def tbl:List Int:=[0,0,0,0,0,0,0,0,0,1,1,0,1,1,0,0,0,0,0,0,0,0,0,0,0,0,0,0,0,0,0,0,1,3,3,3,2,3,3,3,3,3,3,3,3,4,4,3,4,4,4,4,4,4,4,4,4,4,3,3,3,3,3,3,3,4,4,4,4,4,4,4,4,4,4,4,4,4,4,4,4,4,4,4,4,4,4,4,4,4,4,3,3,3,3,4,3,4,4,4,4,4,4,4,4,4,4,4,4,4,4,4,4,4,4,4,4,4,4,4,4,4,4,3,3,3,3,0]
def zy (c:Int):Int:=if c < 128 then tbl.getD c.toNat 0 else 0
theorem q8o:∀i:Nat,i < 128→0≤tbl.getD i 0∧tbl.getD i 0≤4:=by decide
theorem q9o (c:Int)(h0:0≤c):0≤zy c∧zy c≤4:=by
 unfold zy
 split
 ·exact q8o c.toNat (by omega)
 ·omega
theorem take_snoc (s:ByteArray)(k:Nat)(h:k < s.size):s.data.toList.take (k + 1)=s.data.toList.take k++[s[k]]:=by
 rw[List.take_succ_eq_append_getElem (by simpa using h)];rfl
theorem q7t {p:UInt8→Bool}{s:ByteArray}{k:Nat}(h:k < s.size)(ha:(s.data.toList.take k).all p=true)(hp:p s[k]=true):(s.data.toList.take (k + 1)).all p=true:=by
 rw[take_snoc s k h];simp[ha,hp]
theorem q7u {p:UInt8→Bool}{s:ByteArray}{k:Nat}(h:s.size≤k)(ha:(s.data.toList.take k).all p=true):s.data.toList.all p=true:=by
 rwa [List.take_of_length_le (by simpa using h)] at ha
theorem q7v {p:UInt8→Bool}{s:ByteArray}{k:Nat}(h:k < s.size)(hp:p s[k]=false):s.data.toList.all p=false:=by
 rw[List.all_eq_false];refine⟨s[k],?_,by simp[hp]⟩;have:s.data.toList[k]'(by simpa using h)=s[k]:=rfl
 rw[←this];exact List.getElem_mem _
def uz (s:ByteArray)(k:Int):Bool:=decide (1≤s.size) && decide (s.size≤32) && s.data.toList.all (fun b=>decide (k≤zy b.toNat))
theorem q9p (s:ByteArray)(k:Int)(h:s.size < 1):uz s k=false:=by
 unfold uz;rw[decide_eq_false (show ¬1≤s.size by omega)];rfl
theorem qan (s:ByteArray)(k:Int)(h:32 < s.size):uz s k=false:=by
 unfold uz;rw[decide_eq_false (show ¬s.size≤32 by omega)];simp
theorem qf7 (s:ByteArray)(k:Int)(h1:1≤s.size)(h2:s.size≤32):uz s k=s.data.toList.all (fun b=>decide (k≤zy b.toNat)):=by
 unfold uz;simp[h1,h2]
open Go.RowKit
def KB (w:World):Prop:=∀i:Nat,i < 128→w.cell? ⟨1,i,none⟩=some (.int .u8 (tbl.getD i 0))
theorem q5u {k:IntKind}{a b:Int}(h:a=b):Ending.returned (.int k a)=.returned (.int k b):=by rw[h]
theorem q2g {a b:Bool}(h:a=b):Ending.returned (.bool a)=.returned (.bool b):=by rw[h]
theorem q2j (c:Int)(w:World)(h0:0≤c)(h1:c < 256)(hk:KB w) :
  Calls Tryz.prog 120 #[.int .u8 c] w fun e w'=>e=.returned (.int .u8 (zy c))∧w'=w:=by
 by_cases hc:c < 128
 ·have hcell:=hk c.toNat (by omega);have hkf:Hid (zy c=tbl.getD c.toNat 0):=by unfold zy;rw[if_pos hc];rfl
  clear hk;go_enter Tryz.func120,Tryz.ntmps120
  go_wp2
  go_ret
  exact⟨q5u (by rw[hkf.out];simp),rfl⟩
 ·have hkf:Hid (zy c=0):=by unfold zy;rw[if_neg hc];rfl
  clear hk;go_enter Tryz.func120,Tryz.ntmps120
  go_wp2
  go_ret
  exact⟨q5u (by rw[hkf.out]),rfl⟩
theorem q72 (b:UInt8):((b.toNat:Nat):Int) < 256:=by have:=b.toNat_lt;omega
end S.K
namespace S
open Go.Shelf
def Tryz.q3j:Go.Shelf.Ren:=⟨fun | 316=>151 | n=>n,fun | 9=>9 | 3=>3 | 4=>4 | 37=>133 | 0=>0 | 127=>210 | 5=>5 | n=>n,fun | n=>n⟩
theorem Tryz.laysM316:Go.Proofs.LaysM.n316 Tryz.prog Tryz.q3j:={
 mixed:=by kernel_rfl
 f316:=Tryz.func151.trans (congrArg some (by kernel_rfl))
 t0:=Tryz.underlying0
 a0:=Tryz.isAgg0
 z0:=Tryz.sizeOf0
 v0:=Tryz.zeroValue0
 t3:=Tryz.underlying3
 a3:=Tryz.isAgg3
 z3:=Tryz.sizeOf3
 v3:=Tryz.zeroValue3
 t4:=Tryz.underlying4
 a4:=Tryz.isAgg4
 z4:=Tryz.sizeOf4
 v4:=Tryz.zeroValue4
 t9:=Tryz.underlying9
 a9:=Tryz.isAgg9
 z9:=Tryz.sizeOf9
 v9:=Tryz.zeroValue9
 t37:=Tryz.underlying133
 a37:=Tryz.isAgg133
 z37:=Tryz.sizeOf133
 v37:=Tryz.zeroValue133
 t127:=Tryz.underlying210
 a127:=Tryz.isAgg210
 z127:=Tryz.sizeOf210
 v127:=Tryz.zeroValue210
 t5:=Tryz.underlying5
 a5:=Tryz.isAgg5
 z5:=Tryz.sizeOf5
 v5:=Tryz.zeroValue5
 i0:=by kernel_rfl
 i3:=by kernel_rfl
 i4:=by kernel_rfl
 i5:=by kernel_rfl
 i9:=by kernel_rfl
 i37:=by kernel_rfl
 i127:=by kernel_rfl }
open Go.RowKit in
theorem Tryz.stringslite_Clone (s:ByteArray)(w:World)(hlim:s.size≤281474976710656) :
  Calls Tryz.prog 151 #[.string s] w fun e w'=>e=.returned (.string s)∧Below w.heap.size w w':=Any.stringslite_Clone Tryz.laysM316 s w hlim
def Tryz.qf8:Go.Shelf.Ren:=⟨fun | 144=>179 | 143=>177 | 219=>236 | 217=>262 | 225=>263 | 224=>264 | 267=>265 | 266=>274 | 314=>275 | n=>n,fun | 9=>9 | 4=>4 | 3=>3 | 5=>5 | 46=>116 | 146=>300 | 51=>299 | n=>n,fun | 1=>2 | n=>n⟩
theorem Tryz.lays144:Go.Proofs.Lays.n144 Tryz.prog Tryz.qf8:={
 mixed:=by kernel_rfl
 f143:=Tryz.func177.trans (congrArg some (by kernel_rfl))
 f144:=Tryz.func179.trans (congrArg some (by kernel_rfl))
 f217:=Tryz.func262.trans (congrArg some (by kernel_rfl))
 f219:=Tryz.func236.trans (congrArg some (by kernel_rfl))
 f224:=Tryz.func264.trans (congrArg some (by kernel_rfl))
 f225:=Tryz.func263.trans (congrArg some (by kernel_rfl))
 f266:=Tryz.func274.trans (congrArg some (by kernel_rfl))
 f267:=Tryz.func265.trans (congrArg some (by kernel_rfl))
 f314:=Tryz.func275.trans (congrArg some (by kernel_rfl))
 t3:=Tryz.underlying3
 a3:=Tryz.isAgg3
 z3:=Tryz.sizeOf3
 v3:=Tryz.zeroValue3
 t4:=Tryz.underlying4
 a4:=Tryz.isAgg4
 z4:=Tryz.sizeOf4
 v4:=Tryz.zeroValue4
 t5:=Tryz.underlying5
 a5:=Tryz.isAgg5
 z5:=Tryz.sizeOf5
 v5:=Tryz.zeroValue5
 t9:=Tryz.underlying9
 a9:=Tryz.isAgg9
 z9:=Tryz.sizeOf9
 v9:=Tryz.zeroValue9
 t46:=Tryz.underlying116
 a46:=Tryz.isAgg116
 z46:=Tryz.sizeOf116
 v46:=Tryz.zeroValue116
 t51:=Tryz.underlying299
 a51:=Tryz.isAgg299
 z51:=Tryz.sizeOf299
 v51:=Tryz.zeroValue299
 t146:=Tryz.underlying300
 a146:=Tryz.isAgg300
 z146:=Tryz.sizeOf300
 v146:=Tryz.zeroValue300
 g1:=by kernel_rfl }
open Go.RowKit Go.Lib in
theorem Tryz.strings_Contains (s sub:ByteArray)(m:Int)(w:World)(hs:s.size < 4294967281)(hm:w.cell? ⟨2,0,none⟩=some (.int .i64 m)) :
  Calls Tryz.prog 179 #[.string s,.string sub] w fun e w'=>e=.returned (.bool (Lib.contains s.data.toList sub.data.toList))∧w'=w:=Any.strings_Contains Tryz.lays144 s sub m w hs hm
def Tryz.qf9:Go.Shelf.Ren:=⟨fun | 138=>115 | 195=>175 | 218=>176 | 143=>177 | 219=>236 | 217=>262 | 225=>263 | 224=>264 | 267=>265 | 266=>274 | 314=>275 | n=>n,fun | 9=>9 | 3=>3 | 4=>4 | 5=>5 | 0=>0 | 46=>116 | 146=>300 | 51=>299 | n=>n,fun | 1=>2 | n=>n⟩
theorem Tryz.lays138:Go.Proofs.Lays.n138 Tryz.prog Tryz.qf9:={
 mixed:=by kernel_rfl
 f138:=Tryz.func115.trans (congrArg some (by kernel_rfl))
 f143:=Tryz.func177.trans (congrArg some (by kernel_rfl))
 f195:=Tryz.func175.trans (congrArg some (by kernel_rfl))
 f217:=Tryz.func262.trans (congrArg some (by kernel_rfl))
 f218:=Tryz.func176.trans (congrArg some (by kernel_rfl))
 f219:=Tryz.func236.trans (congrArg some (by kernel_rfl))
 f224:=Tryz.func264.trans (congrArg some (by kernel_rfl))
 f225:=Tryz.func263.trans (congrArg some (by kernel_rfl))
 f266:=Tryz.func274.trans (congrArg some (by kernel_rfl))
 f267:=Tryz.func265.trans (congrArg some (by kernel_rfl))
 f314:=Tryz.func275.trans (congrArg some (by kernel_rfl))
 t0:=Tryz.underlying0
 a0:=Tryz.isAgg0
 z0:=Tryz.sizeOf0
 v0:=Tryz.zeroValue0
 t3:=Tryz.underlying3
 a3:=Tryz.isAgg3
 z3:=Tryz.sizeOf3
 v3:=Tryz.zeroValue3
 t4:=Tryz.underlying4
 a4:=Tryz.isAgg4
 z4:=Tryz.sizeOf4
 v4:=Tryz.zeroValue4
 t5:=Tryz.underlying5
 a5:=Tryz.isAgg5
 z5:=Tryz.sizeOf5
 v5:=Tryz.zeroValue5
 t9:=Tryz.underlying9
 a9:=Tryz.isAgg9
 z9:=Tryz.sizeOf9
 v9:=Tryz.zeroValue9
 t46:=Tryz.underlying116
 a46:=Tryz.isAgg116
 z46:=Tryz.sizeOf116
 v46:=Tryz.zeroValue116
 t51:=Tryz.underlying299
 a51:=Tryz.isAgg299
 z51:=Tryz.sizeOf299
 v51:=Tryz.zeroValue299
 t146:=Tryz.underlying300
 a146:=Tryz.isAgg300
 z146:=Tryz.sizeOf300
 v146:=Tryz.zeroValue300
 g1:=by kernel_rfl }
open Go.RowKit Go.Lib in
theorem Tryz.strings_Count_one (s:ByteArray)(c:UInt8)(w:World) :
  Calls Tryz.prog 115 #[.string s,.string ⟨#[c]⟩] w fun e w'=>e=.returned (.int .i64 (Lib.countByte s.data.toList c))∧w'=w:=Any.strings_Count_one Tryz.lays138 s c w
def Tryz.qfa:Go.Shelf.Ren:=⟨fun | 149=>116 | 222=>178 | n=>n,fun | 9=>9 | 5=>5 | 3=>3 | 4=>4 | n=>n,fun | n=>n⟩
theorem Tryz.lays149:Go.Proofs.Lays.n149 Tryz.prog Tryz.qfa:={
 mixed:=by kernel_rfl
 f149:=Tryz.func116.trans (congrArg some (by kernel_rfl))
 f222:=Tryz.func178.trans (congrArg some (by kernel_rfl))
 t3:=Tryz.underlying3
 a3:=Tryz.isAgg3
 z3:=Tryz.sizeOf3
 v3:=Tryz.zeroValue3
 t4:=Tryz.underlying4
 a4:=Tryz.isAgg4
 z4:=Tryz.sizeOf4
 v4:=Tryz.zeroValue4
 t5:=Tryz.underlying5
 a5:=Tryz.isAgg5
 z5:=Tryz.sizeOf5
 v5:=Tryz.zeroValue5
 t9:=Tryz.underlying9
 a9:=Tryz.isAgg9
 z9:=Tryz.sizeOf9
 v9:=Tryz.zeroValue9 }
open Go.RowKit Go.Lib in
theorem Tryz.strings_LastIndexByte (s:ByteArray)(c:Int)(hs:s.size < 4611686018427387904)(w:World) :
  Calls Tryz.prog 116 #[.string s,.int .u8 c] w fun e w'=>e=.returned (.int .i64 (Lib.lastIndexByte s c))∧w'=w:=Any.strings_LastIndexByte Tryz.lays149 s c hs w
end S
namespace S.K
def q3e (l:List UInt8):Nat:=l.count 10 + 1
def q7i (l:List UInt8):Nat:=l.foldl (fun c b=>if b=10 then 1 else c + 1) 1
theorem qao (l:List UInt8)(b:UInt8):q3e (l++[b])=q3e l + if b=10 then 1 else 0:=by
 unfold q3e;rw[List.count_append,List.count_singleton];simp only[beq_iff_eq];split <;> omega
theorem q8p (l:List UInt8)(b:UInt8):q7i (l++[b])=if b=10 then 1 else q7i l + 1:=by
 unfold q7i;rw[List.foldl_append];rfl
theorem qov (l:List UInt8):1≤q3e l∧q3e l≤l.length + 1:=by
 unfold q3e;have:=List.count_le_length (a:=(10:UInt8)) (l:=l);omega
theorem q5c (b:UInt8):((b.toNat:Int)=10)↔b=10:=by
 constructor
 ·intro h;apply UInt8.toNat_inj.1;have:b.toNat=10:=by omega
  rw[this];rfl
 ·rintro rfl;rfl
theorem qow (t:ByteArray):∀k:Nat,k≤t.size→(q7i (t.data.toList.take k):Int)=k - Lib.lastIdx t 10 k:=by
 intro k
 induction k with
 | zero=>intro _;rfl
 | succ k ih =>
  intro hk;have hb:t.data[k]! = t[k]:=by rw[getElem!_pos t.data k (by simpa using (show k < t.size by omega))];rfl
  rw[take_snoc t k (by omega),q8p]
  by_cases h:t[k]=10
  ·rw[if_pos h,Lib.lastIdx_hit _ _ _ (by rw[hb];exact (q5c _).2 h)];omega
  ·rw[if_neg h,Lib.lastIdx_miss _ _ _ (by rw[hb];exact fun e=>h ((q5c _).1 e))];have:=ih (by omega)
   omega
theorem qhy (t:ByteArray)(c:Int)(k:Nat):-1≤Lib.lastIdx t c k∧Lib.lastIdx t c k < k:=by
 rcases Lib.lastIdx_spec t c k with ⟨e,_⟩ | ⟨i,hi,e,_⟩ <;> omega
theorem qox (t:ByteArray):t.data.toList.take t.size=t.data.toList:=List.take_of_length_le (Nat.le_of_eq rfl)
theorem size_ext (s:ByteArray)(off:Nat)(h:off≤s.size):(s.extract 0 off).size=off:=by rw[ByteArray.size_extract];omega
theorem qfb (s:ByteArray)(off:Nat):(s.extract 0 off).data.toList=s.data.toList.take off:=by rw[Lib.extract_data];simp
theorem col_ext (s:ByteArray)(off:Nat)(h:off≤s.size):(off:Int) - (Lib.lastIndexByte (s.extract 0 off) 10 + 1) + 1=q7i (s.data.toList.take off):=by
 have h1:=qow (s.extract 0 off) (s.extract 0 off).size (Nat.le_refl _);rw[qox,qfb] at h1;unfold Lib.lastIndexByte;rw[size_ext s off h] at h1 ⊢;omega
theorem qoy (s:ByteArray)(off:Nat):((Lib.countByte (s.extract 0 off).data.toList 10:Nat):Int) + 1=q3e (s.data.toList.take off):=by
 rw[qfb];unfold q3e Lib.countByte;omega
theorem qe2 (s:ByteArray)(k:Nat):1≤q3e (s.data.toList.take k)∧q3e (s.data.toList.take k)≤k + 1:=by
 have:=qov (s.data.toList.take k);have h2:(s.data.toList.take k).length≤k:=List.length_take_le _ _;omega
end S.K
namespace S.K
structure Tok where
 text:ByteArray
 off:Int
 line:Int
 col:Int
def q0x:Tok:=⟨⟨#[]⟩,0,0,0⟩
def isOpen (t:ByteArray):Bool:=t.toList == [36,40]
def q2v (t:ByteArray):Bool:=t.toList == [36,41]
def q7w (t:ByteArray):Bool:=Lib.contains t.data.toList [36,40] || Lib.contains t.data.toList [36,41]
structure Rd where
 told:List Tok
 opn:Tok
def q3k (r:Rd):Bool:=!r.opn.text.toList.isEmpty
def takeC (o t:Tok):Int × Tok:=if q2v t.text then (0,q0x) else if q7w t.text then (11,o) else (0,o)
def qm (r:Rd)(t:Tok):Int × Rd :=
 if q3k r then ((takeC r.opn t).1,{ r with opn:=(takeC r.opn t).2 })
 else if isOpen t.text then (0,{ r with opn:=t })
 else if q2v t.text then (11,r)
 else if r.told.length=16384 then (13,r)
 else (0,{ r with told:=r.told++[t] })
end S.K
namespace S.K
def q1x (k:Nat)(c:UInt8):Int:=if k=65536 then 13 else if zy c.toNat=0 then 10 else 0
def wordAt (s:ByteArray)(start stop line ls:Nat):Tok:=⟨s.extract start stop,start,line,start - ls + 1⟩
def evs (s:ByteArray):List UInt8→Nat→Nat→Nat→Nat→List (Tok × Int)
 | [],k,start,line,ls=>if start < k then [(wordAt s start k line ls,0)] else []
 | c :: rest,k,start,line,ls =>
  if q1x k c=0 then
   if zy c.toNat=1 then (if start < k then [(wordAt s start k line ls,0)] else [])++evs s rest (k + 1) (k + 1) (if c=10 then line + 1 else line) (if c=10 then k + 1 else ls)
   else evs s rest (k + 1) start line ls
  else [(⟨⟨#[]⟩,k,line,k - ls + 1⟩,q1x k c)]
def events (s:ByteArray):List (Tok × Int):=evs s s.data.toList 0 0 1 0
def wu:Rd→List (Tok × Int)→Rd × Option (Tok × Int)
 | r,[]=>(r,none)
 | r,(t,c) :: es=>if c=0 then (if (qm r t).1=0 then wu (qm r t).2 es else ((qm r t).2,some (t,(qm r t).1))) else (r,some (t,c))
def rd0:Rd:=⟨[],q0x⟩
def yt (s:ByteArray):List Tok × Option (Tok × Int) :=
 match wu rd0 (events s) with
 | (r,some f)=>(r.told,some f)
 | (r,none)=>(r.told,if q3k r then some (r.opn,12) else none)
theorem q43 (r:Rd)(xa bs:List (Tok × Int)):wu r (xa++bs)=match wu r xa with | (r',none)=>wu r' bs | (r',some f)=>(r',some f):=by
 induction xa generalizing r with
 | nil=>rfl
 | cons a xa ih =>
  obtain⟨t,c⟩:=a;simp only[List.cons_append,wu]
  split
  ·split
   ·exact ih _
   ·rfl
  ·rfl
theorem drop_cons (s:ByteArray)(k:Nat)(h:k < s.size):s.data.toList.drop k=s[k] :: s.data.toList.drop (k + 1):=by
 rw[List.drop_eq_getElem_cons (by simpa using h)];rfl
theorem drop_end (s:ByteArray)(k:Nat)(h:s.size≤k):s.data.toList.drop k=[]:=List.drop_eq_nil_of_le (by simpa using h)
theorem qfc (s:ByteArray)(k start line ls:Nat)(h:k < s.size)(hc:q1x k s[k]≠0):evs s (s.data.toList.drop k) k start line ls=[(⟨⟨#[]⟩,k,line,k - ls + 1⟩,q1x k s[k])]:=by
 rw[drop_cons s k h,evs,if_neg hc]
theorem qe3 (s:ByteArray)(k start line ls:Nat)(h:k < s.size)(hc:q1x k s[k]=0)(hb:¬zy s[k].toNat=1):evs s (s.data.toList.drop k) k start line ls=evs s (s.data.toList.drop (k + 1)) (k + 1) start line ls:=by
 rw[drop_cons s k h,evs,if_pos hc,if_neg hb]
theorem qap (s:ByteArray)(k start line ls:Nat)(h:k < s.size)(hc:q1x k s[k]=0)(hb:zy s[k].toNat=1):evs s (s.data.toList.drop k) k start line ls=(if start < k then [(wordAt s start k line ls,0)] else [])++evs s (s.data.toList.drop (k + 1)) (k + 1) (k + 1) (if s[k]=10 then line + 1 else line) (if s[k]=10 then k + 1 else ls):=by
 rw[drop_cons s k h,evs,if_pos hc,if_pos hb]
theorem qoz (s:ByteArray)(k start line ls:Nat)(h:s.size≤k):evs s (s.data.toList.drop k) k start line ls=if start < k then [(wordAt s start k line ls,0)] else []:=by
 rw[drop_end s k h,evs]
end S.K
namespace S.K
open Go.RowKit
theorem bcell {W w1:World}(hb:Below W.heap.size W w1):(∀b o,b < W.heap.size→w1.cell? ⟨b,o,none⟩=W.cell? ⟨b,o,none⟩)∧(∀b o,b < W.heap.size→w1.frozen? ⟨b,o,none⟩=W.frozen? ⟨b,o,none⟩) :=
 ⟨fun b o h=>hb.cell (p:=⟨b,o,none⟩) h,fun b o h=>hb.frozen (p:=⟨b,o,none⟩) h⟩
def qhz (s:ByteArray)(k:Nat):Value:=.agg #[.int .i64 k,.int .i64 (q3e (s.data.toList.take k)),.int .i64 (q7i (s.data.toList.take k))]
theorem later {W w1:World}{x:Value}{b o:Nat}{O:Obj}(hb:Below (W.alloc O).heap.size (W.alloc O) w1)(h:W.cell? ⟨b,o,none⟩=some x):w1.cell? ⟨b,o,none⟩=some x:=by
 have hlt:b < W.heap.size:=bLt h;rw[hb.cell (p:=⟨b,o,none⟩) (by simp;omega)];rw[World.cell?_of_block (w:=W) (Below.heap_alloc W O b hlt)];exact h
theorem q6c {W:World}{x:Value}{b o:Nat}(h:W.cell? ⟨b,o,none⟩=some x)(O:Obj):(W.alloc O).cell? ⟨b,o,none⟩=some x :=
 (World.cell?_of_block (w:=W) (Below.heap_alloc W O b (bLt h))).trans h
end S.K
namespace S.K
open Go.RowKit
def zo (t:Tok):Value:=.agg #[.string t.text,.int .i64 t.off,.int .i64 t.line,.int .i64 t.col]
def q06 (t:Tok):List Value:=[.string t.text,.int .i64 t.off,.int .i64 t.line,.int .i64 t.col]
def rowOf (l:List Tok):List Value:=l.flatMap q06
def q1b (W:World)(R:Nat)(v:Value)(o:Tok):Prop:=W.heap[R]?=some (.cells #[v,.string o.text,.int .i64 o.off,.int .i64 o.line,.int .i64 o.col] 110 (0,0))
theorem q1b.lt {W:World}{R:Nat}{v:Value}{o:Tok}(h:q1b W R v o):R < W.heap.size:=(aIx h)
theorem q1b.cells {W:World}{R:Nat}{v:Value}{o:Tok}(h:q1b W R v o):W.cell? ⟨R,0,none⟩=some v∧W.cell? ⟨R,1,none⟩=some (.string o.text)∧W.cell? ⟨R,2,none⟩=some (.int .i64 o.off)∧W.cell? ⟨R,3,none⟩=some (.int .i64 o.line)∧W.cell? ⟨R,4,none⟩=some (.int .i64 o.col):=by
 refine⟨?_,?_,?_,?_,?_⟩ <;> simp[World.cell?,show W.heap[R]?=_ from h]
theorem q1b.free {W:World}{R:Nat}{v:Value}{o:Tok}(h:q1b W R v o)(i:Nat):W.frozen? ⟨R,i,none⟩=false:=by simp[World.frozen?,show W.heap[R]?=_ from h]
theorem grownBy_set (W:World)(b o:Nat)(v:Value):W.grownBy (W.setCell ⟨b,o,none⟩ v) (some b) :=
 ⟨rfl,rfl,rfl,by simp[World.setCell],fun k _ hk=>Below.heap_setCell _ _ _ k (fun e=>hk (by rw[e]))⟩
theorem q8q {W W':World}(h:Below W.heap.size W W')(row:Option Nat):W.grownBy W' row:=⟨h.os,h.tape,h.output,h.size,fun k hk _=>h.block k hk⟩
theorem qj {W:World}{b o:Nat}{v:Value}{cs:Array Value}{t:TypeId}{fr:Nat × Nat}(h:W.heap[b]?=some (.cells cs t fr)):(W.setCell ⟨b,o,none⟩ v).heap[b]?=some (.cells (cs.setIfInBounds o v) t fr):=by
 obtain⟨hlt,hk⟩:=Array.getElem?_eq_some_iff.1 h
 show (W.heap.modify b _)[b]?=_
 rw[Array.getElem?_eq_getElem (by rw[Array.size_modify];exact hlt),Array.getElem_modify_self,hk]
 rfl
theorem q1b.qp0 {W:World}{R:Nat}{v:Value}{o:Tok}(h:q1b W R v o)(t:Tok) :
  q1b ((((W.setCell ⟨R,1,none⟩ (.string t.text)).setCell ⟨R,2,none⟩ (.int .i64 t.off)).setCell ⟨R,3,none⟩ (.int .i64 t.line)).setCell ⟨R,4,none⟩ (.int .i64 t.col)) R v t :=
 qj (qj (qj (qj h)))
theorem q1b.setTold {W:World}{R:Nat}{v:Value}{o:Tok}(h:q1b W R v o)(u:Value):q1b (W.setCell ⟨R,0,none⟩ u) R u o:=qj h
theorem q1b.kept {W W':World}{R:Nat}{v:Value}{o:Tok}(h:q1b W R v o)(hb:W'.heap[R]?=W.heap[R]?):q1b W' R v o:=hb.trans h
theorem q1b.alloc {W:World}{R:Nat}{v:Value}{o:Tok}(h:q1b W R v o)(O:Obj):q1b (W.alloc O) R v o:=h.kept (Below.heap_alloc W O R h.lt)
theorem q4c (W:World)(R:Nat)(a b c d:Value):W.grownBy ((((W.setCell ⟨R,1,none⟩ a).setCell ⟨R,2,none⟩ b).setCell ⟨R,3,none⟩ c).setCell ⟨R,4,none⟩ d) (some R) :=
 (((grownBy_set W R 1 a).trans (grownBy_set _ R 2 b)).trans (grownBy_set _ R 3 c)).trans (grownBy_set _ R 4 d)
theorem clone_any (t:ByteArray)(w:World)(ht:t.size≤281474976710656) :
  Calls Tryz.prog 100 #[.string t] w fun e w'=>e=.returned (.string t)∧Below w.heap.size w w':=by
 go_enter Tryz.func100,Tryz.ntmps100
 go_wp2_with (go_at_call 151;refine (Tryz.stringslite_Clone _ _ ht).mono ?_;rintro e w' ⟨rfl,hb⟩)
 go_ret
 exact⟨rfl,hb⟩
theorem q9q (t:Tok)(w:World)(ht:t.text.size≤281474976710656) :
  Calls Tryz.prog 122 #[zo t] w fun e w'=>e=.returned (zo t)∧Below w.heap.size w w':=by
 obtain⟨t,a,b,c⟩:=t;unfold zo;dsimp only at ht ⊢;go_enter Tryz.func122,Tryz.ntmps122
 go_wp2
 go_region_with (go_at_call 100;refine (clone_any _ _ ht).mono ?_;rintro e w1 ⟨rfl,hb⟩;have hz:w.heap.size + 1 < w1.heap.size:=(by have:=hb.size;simp at this;omega);obtain⟨hc,hf⟩:=bcell hb)
 all_goals go_wp2
 all_goals (refine bodyPost_ret (v:=.agg #[.string t,.int .i64 a,.int .i64 b,.int .i64 c]) (by simp[results,Tryz.results122,go_sem,hc]) rfl ⟨rfl,?_⟩)
 all_goals exact ((((((((Below.refl w.heap.size w).alloc (Nat.le_refl _) _).alloc (by simp) _).drew).trans (hb.mono (by simp;omega))).setCell (by simp) _).setCell (by simp) _).setCell (by simp) _).setCell (by simp) _
theorem q28 (R:Nat)(v:Value)(o:Tok)(w:World)(h:q1b w R v o) :
  Calls Tryz.prog 63 #[.pointer (some ⟨R,0,none⟩)] w fun e w'=>e=.returned (.bool (!o.text.toList.isEmpty))∧w'=w:=by
 have h1:=h.cells.2.1;go_enter Tryz.func63,Tryz.ntmps63
 go_wp2
 go_ret
 exact⟨rfl,rfl⟩
theorem q7x (R:Nat)(v:Value)(o t:Tok)(m:Int)(w:World)(hRd:q1b w R v o)(ht:t.text.size≤65536)(hm:w.cell? ⟨2,0,none⟩=some (.int .i64 m)) :
  Calls Tryz.prog 121 #[.pointer (some ⟨R,0,none⟩),zo t] w fun e w'=>e=.returned (.int .i64 (takeC o t).1)∧q1b w' R v (takeC o t).2∧w.grownBy w' (some R):=by
 obtain⟨h0,h1,h2,h3,h4⟩:=hRd.cells;have hlt:=hRd.lt;have hfr:=hRd.free;obtain⟨t,a,b,c⟩:=t;unfold zo;dsimp only at ht ⊢
 by_cases hs:q2v t
 ·have hs':(t.toList == [36,41])=true:=hs;have hc:Hid (takeC o ⟨t,a,b,c⟩=(0,q0x)):=by unfold takeC;exact if_pos hs
  clear hs;rw[hc.out];go_enter Tryz.func121,Tryz.ntmps121
  go_wp2
  go_ret
  exact⟨rfl,(hRd.qp0 q0x).alloc _,(q4c w R _ _ _ _).trans (World.grownBy_alloc _ _ _)⟩
 ·have hs':(t.toList == [36,41])=false:=by simpa [q2v] using hs
  have hm':=q6c hm;have C1:=fun wx hx=>Tryz.strings_Contains t ⟨#[36,40]⟩ m wx (by omega) hx
  have C2:=fun wx hx=>Tryz.strings_Contains t ⟨#[36,41]⟩ m wx (by omega) hx
  by_cases h40:Lib.contains t.data.toList [36,40]=true
  ·have hc:Hid (takeC o ⟨t,a,b,c⟩=(11,o)):=by
    unfold takeC;rw[if_neg hs];exact if_pos (by unfold q7w;rw[h40];rfl)
   rw[hc.out];have H40:=hid h40;clear hs h40 hc;replace C1:=show Hid _ from C1;replace C2:=show Hid _ from C2;go_enter Tryz.func121,Tryz.ntmps121;go_wp2_with fail;refine (C1.out _ (hm' _)).mono ?_;rintro e w1 ⟨rfl,hw⟩;subst hw;rw[show Lib.contains t.data.toList (⟨#[36,40]⟩:ByteArray).data.toList=true from H40.out]
   go_wp2
   go_ret
   exact⟨rfl,hRd.alloc _,World.grownBy_alloc _ _ _⟩
  ·have h40':Lib.contains t.data.toList [36,40]=false:=by simpa using h40
   have hc:Hid (takeC o ⟨t,a,b,c⟩=if Lib.contains t.data.toList [36,41] then (11,o) else (0,o)):=by
    show _=_
    unfold takeC;rw[if_neg hs];unfold q7w;rw[h40',Bool.false_or]
   have H40:=hid h40';replace C1:=show Hid _ from C1;replace C2:=show Hid _ from C2;clear h40 h40'
   cases h41:Lib.contains t.data.toList [36,41] with
   | true =>
    rw[h41] at hc;rw[hc.out];have H41:=hid h41;clear hs hc h41;go_enter Tryz.func121,Tryz.ntmps121;go_wp2_with fail;refine (C1.out _ (hm' _)).mono ?_;rintro e w1 ⟨rfl,hw⟩;subst hw;rw[show Lib.contains t.data.toList (⟨#[36,40]⟩:ByteArray).data.toList=false from H40.out];go_wp2_with fail;refine (C2.out _ (hm' _)).mono ?_;rintro e w1 ⟨rfl,hw⟩;subst hw;rw[show Lib.contains t.data.toList (⟨#[36,41]⟩:ByteArray).data.toList=true from H41.out]
    go_wp2
    go_ret
    exact⟨rfl,hRd.alloc _,World.grownBy_alloc _ _ _⟩
   | false =>
    rw[h41] at hc;rw[hc.out];have H41:=hid h41;clear hs hc h41;go_enter Tryz.func121,Tryz.ntmps121;go_wp2_with fail;refine (C1.out _ (hm' _)).mono ?_;rintro e w1 ⟨rfl,hw⟩;subst hw;rw[show Lib.contains t.data.toList (⟨#[36,40]⟩:ByteArray).data.toList=false from H40.out];go_wp2_with fail;refine (C2.out _ (hm' _)).mono ?_;rintro e w1 ⟨rfl,hw⟩;subst hw;rw[show Lib.contains t.data.toList (⟨#[36,41]⟩:ByteArray).data.toList=false from H41.out]
    go_wp2
    go_ret
    exact⟨rfl,hRd.alloc _,World.grownBy_alloc _ _ _⟩
end S.K
namespace S.K
open Go.RowKit
structure Keeps (base R:Nat)(W W':World):Prop where
 os:W'.os=W.os
 tape:W'.tape=W.tape
 output:W'.output=W.output
 size:W.heap.size≤W'.heap.size
 block:∀k,k < base→k≠R→W'.heap[k]?=W.heap[k]?
theorem Keeps.trans {base R:Nat}{A B C:World}(h:Keeps base R A B)(k:Keeps base R B C):Keeps base R A C :=
 ⟨k.os.trans h.os,k.tape.trans h.tape,k.output.trans h.output,nLt h.size k.size,fun i hi hr=>(k.block i hi hr).trans (h.block i hi hr)⟩
theorem Keeps.jw {base R:Nat}{A B:World}(h:A.grownBy B (some R))(hb:base≤A.heap.size):Keeps base R A B :=
 ⟨h.os,h.tape,h.output,h.size,fun i hi hr=>h.block i (by omega) (fun e=>hr (by cases e;rfl))⟩
theorem Keeps.qp1 {base R:Nat}{A B:World}{row:Option Nat}(h:A.grownBy B row)(hb:base≤A.heap.size)(hr:∀g,row=some g→base≤g):Keeps base R A B :=
 ⟨h.os,h.tape,h.output,h.size,fun i hi _=>h.block i (by omega) (fun e=>by have:=hr i e.symm;omega)⟩
theorem Keeps.of_below {base R:Nat}{A B:World}(h:Below A.heap.size A B)(hb:base≤A.heap.size):Keeps base R A B :=
 ⟨h.os,h.tape,h.output,h.size,fun i hi _=>h.block i (by omega)⟩
theorem Keeps.drew (base R:Nat)(A:World):Keeps base R A A.drew:=⟨rfl,rfl,rfl,Nat.le_refl _,fun _ _ _=>rfl⟩
theorem Keeps.alloc {base R:Nat}{A:World}(hb:base≤A.heap.size)(O:Obj):Keeps base R A (A.alloc O):=Keeps.qp1 (World.grownBy_alloc A O none) hb (fun _ e=>by cases e)
theorem slice_form {W:World}{base e size:Nat}{v:Value}{n:Nat}{xs:List Value}(h:W.ownsRow base e size v n xs):∃a cap,v=.slice a n cap∧∀g,v.ownBlock=some g→base≤g:=by
 rcases h.2 with ⟨rfl,rfl⟩ | ⟨g,cap,cur,rfl,hg,_⟩
 ·exact⟨_,_,rfl,fun g e=>by simp[Value.ownBlock] at e⟩
 ·exact⟨_,_,rfl,fun g' e=>by simp[Value.ownBlock] at e;omega⟩
theorem info37:(Tryz.prog.info? 36).map (fun i=>(i.zero,i.size,i.bytes))=some (some (.agg #[.string ⟨#[]⟩,.int .i64 0,.int .i64 0,.int .i64 0]),4,40):=by kernel_rfl
theorem q7j {W W':World}{base R e size:Nat}{v:Value}{n:Nat}{xs:List Value}(h:W.ownsRow base e size v n xs)(hg:W.grownBy W' (some R))(hR:R < base):W'.ownsRow base e size v n xs:=by
 refine⟨h.1,?_⟩;rcases h.2 with h0 | ⟨g,cap,cur,hv,hb,hh,hr⟩
 ·exact .inl h0
 ·exact .inr ⟨g,cap,cur,hv,hb,(hg.block g (aIx hh) (fun e'=>by cases e';omega)).trans hh,hr⟩
theorem zk {W:World}{base e size:Nat}{v:Value}{n:Nat}{xs:List Value}(h:W.ownsRow base e size v n xs)(O:Obj):(W.alloc O).ownsRow base e size v n xs:=by
 refine⟨h.1,?_⟩;rcases h.2 with h0 | ⟨g,cap,cur,hv,hb,hh,hr⟩
 ·exact .inl h0
 ·exact .inr ⟨g,cap,cur,hv,hb,(Below.heap_alloc W O g (aIx hh)).trans hh,hr⟩
def q2x (W:World)(base R:Nat)(r:Rd):Prop:=∃v,q1b W R v r.opn∧W.ownsRow base 36 4 v r.told.length (rowOf r.told)
def q2k (r:Rd)(t:Tok)(w:World)(base R:Nat):Ending→World→Prop:=fun e w'=>e=.returned (.int .i64 (qm r t).1)∧q2x w' base R (qm r t).2∧Keeps base R w w'∧((qm r t).1≠0→w.grownBy w' (some R))
theorem qp2 (R base:Nat)(r:Rd)(t:Tok)(m:Int)(w:World)(hI:q2x w base R r)(hb:base≤w.heap.size)(hRb:R < base)(ht:t.text.size≤65536)(hm:w.cell? ⟨2,0,none⟩=some (.int .i64 m))(hc:q3k r=true) :
  Calls Tryz.prog 61 #[.pointer (some ⟨R,0,none⟩),zo t] w (q2k r t w base R):=by
 obtain⟨v,hRd,hown⟩:=hI;unfold q2k;have hF:Hid (qm r t=((takeC r.opn t).1,{ r with opn:=(takeC r.opn t).2 })):=by show _=_;unfold qm;rw[if_pos hc]
 rw[hF.out];have hb1:base≤(w.alloc (.cells #[.string t.text,.int .i64 t.off,.int .i64 t.line,.int .i64 t.col] 36)).heap.size:=by simp;omega
 have IC:=q28 R v r.opn _ (hRd.alloc (.cells #[.string t.text,.int .i64 t.off,.int .i64 t.line,.int .i64 t.col] 36));have hc':(!r.opn.text.toList.isEmpty)=true:=hc;rw[hc'] at IC;have TC:=q7x R v r.opn t m _ (hRd.alloc (.cells #[.string t.text,.int .i64 t.off,.int .i64 t.line,.int .i64 t.col] 36)) ht (q6c hm _);replace IC:=show Hid _ from IC;replace TC:=show Hid _ from TC;unfold zo at TC ⊢;go_enter Tryz.func61,Tryz.ntmps61;go_wp2_with fail;refine cMo IC.out ?_;rintro e w1 ⟨rfl,hw⟩;subst hw;go_wp2_with fail;refine cMo TC.out ?_;rintro e w2 ⟨rfl,hR2,hg2⟩
 go_wp2
 go_ret
 exact⟨rfl,⟨v,hR2,q7j (zk hown _) hg2 hRb⟩,(Keeps.alloc hb _).trans (Keeps.jw hg2 hb1),fun _=>(World.grownBy_alloc w _ (some R)).trans hg2⟩
theorem qls (R base:Nat)(r:Rd)(t:Tok)(w:World)(hI:q2x w base R r)(hb:base≤w.heap.size)(hRb:R < base)(hc:q3k r=false)(ho:isOpen t.text=true) :
  Calls Tryz.prog 61 #[.pointer (some ⟨R,0,none⟩),zo t] w (q2k r t w base R):=by
 obtain⟨v,hRd,hown⟩:=hI;have hF:Hid (qm r t=(0,{ r with opn:=t })):=by show _=_;unfold qm;rw[if_neg (by simp[hc]),if_pos ho]
 unfold q2k;rw[hF.out];have IC:=q28 R v r.opn _ (hRd.alloc (.cells #[.string t.text,.int .i64 t.off,.int .i64 t.line,.int .i64 t.col] 36));have hc':(!r.opn.text.toList.isEmpty)=false:=hc;rw[hc'] at IC;replace IC:=show Hid _ from IC;have ho':(t.text.toList == [36,40])=true:=ho;obtain⟨h0,h1,h2,h3,h4⟩:=hRd.cells;have hfr:=hRd.free;have hlt:=hRd.lt;clear hc hc' ho;unfold zo;go_enter Tryz.func61,Tryz.ntmps61;go_wp2_with fail;refine cMo IC.out ?_;rintro e w1 ⟨rfl,hw⟩;subst hw
 go_wp2
 go_ret
 exact⟨rfl,⟨v,(hRd.qp0 t).alloc _,zk (q7j hown (q4c w R _ _ _ _) hRb) _⟩,(Keeps.jw (q4c w R _ _ _ _) hb).trans (Keeps.alloc (by have:=(q4c w R (.string t.text) (.int .i64 t.off) (.int .i64 t.line) (.int .i64 t.col)).size;omega) _),fun h=>absurd rfl h⟩
theorem qlt (R base:Nat)(r:Rd)(t:Tok)(w:World)(hI:q2x w base R r)(hb:base≤w.heap.size)(hc:q3k r=false)(ho:isOpen t.text=false)(hs:q2v t.text=true) :
  Calls Tryz.prog 61 #[.pointer (some ⟨R,0,none⟩),zo t] w (q2k r t w base R):=by
 obtain⟨v,hRd,hown⟩:=hI;have hF:Hid (qm r t=(11,r)):=by show _=_;unfold qm;rw[if_neg (by simp[hc]),if_neg (by simp[ho]),if_pos hs]
 unfold q2k;rw[hF.out];have IC:=q28 R v r.opn _ (hRd.alloc (.cells #[.string t.text,.int .i64 t.off,.int .i64 t.line,.int .i64 t.col] 36));have hc':(!r.opn.text.toList.isEmpty)=false:=hc;rw[hc'] at IC;replace IC:=show Hid _ from IC;have ho':(t.text.toList == [36,40])=false:=ho;have hs':(t.text.toList == [36,41])=true:=hs;clear hc hc' ho hs;unfold zo;go_enter Tryz.func61,Tryz.ntmps61;go_wp2_with fail;refine cMo IC.out ?_;rintro e w1 ⟨rfl,hw⟩;subst hw
 go_wp2
 go_ret
 exact⟨rfl,⟨v,hRd.alloc _,zk hown _⟩,Keeps.alloc hb _,fun _=>World.grownBy_alloc w _ (some R)⟩
theorem qlu (R base:Nat)(r:Rd)(t:Tok)(w:World)(hI:q2x w base R r)(hb:base≤w.heap.size)(hc:q3k r=false)(ho:isOpen t.text=false)(hs:q2v t.text=false)(hn:r.told.length=16384) :
  Calls Tryz.prog 61 #[.pointer (some ⟨R,0,none⟩),zo t] w (q2k r t w base R):=by
 obtain⟨v,hRd,hown⟩:=hI;have hF:Hid (qm r t=(13,r)):=by show _=_;unfold qm;rw[if_neg (by simp[hc]),if_neg (by simp[ho]),if_neg (by simp[hs]),if_pos hn]
 unfold q2k;rw[hF.out];obtain⟨a,cap,hv,hg⟩:=slice_form hown;rw[hn] at hv;have hfin:q2x (w.alloc (.cells #[.string t.text,.int .i64 t.off,.int .i64 t.line,.int .i64 t.col] 36)) base R r:=⟨v,hRd.alloc _,zk hown _⟩;have IC:=q28 R v r.opn _ (hRd.alloc (.cells #[.string t.text,.int .i64 t.off,.int .i64 t.line,.int .i64 t.col] 36));have hc':(!r.opn.text.toList.isEmpty)=false:=hc;rw[hc'] at IC;replace IC:=show Hid _ from IC;have ho':(t.text.toList == [36,40])=false:=ho;have hs':(t.text.toList == [36,41])=false:=hs;have h0:=hRd.cells.1;rw[hv] at h0;replace h0:=q6c h0;clear hc hc' ho hs hn hv hg hRd hown;unfold zo;go_enter Tryz.func61,Tryz.ntmps61;go_wp2_with fail;refine cMo IC.out ?_;rintro e w1 ⟨rfl,hw⟩;subst hw
 go_wp2
 go_ret
 exact⟨rfl,hfin,Keeps.alloc hb _,fun _=>World.grownBy_alloc w _ (some R)⟩
theorem qi0 (l:List Tok)(t:Tok):rowOf (l++[t])=rowOf l++q06 t:=by simp[rowOf]
theorem qlv (R base:Nat)(r:Rd)(t:Tok)(w:World)(hI:q2x w base R r)(hb:base≤w.heap.size)(hRb:R < base)(ht:t.text.size≤65536)(hc:q3k r=false)(ho:isOpen t.text=false)(hs:q2v t.text=false)(hn:r.told.length < 16384) :
  Calls Tryz.prog 61 #[.pointer (some ⟨R,0,none⟩),zo t] w (q2k r t w base R):=by
 obtain⟨v,hRd,hown⟩:=hI;have hF:Hid (qm r t=(0,{ r with told:=r.told++[t] })):=by show _=_;unfold qm;rw[if_neg (by simp[hc]),if_neg (by simp[ho]),if_neg (by simp[hs]),if_neg (by omega)]
 unfold q2k;rw[hF.out];obtain⟨a,cap,hv,hg⟩:=slice_form hown;obtain⟨i0,hi0,hz0,hz1,hz3⟩:=info_parts info37;have IC:=q28 R v r.opn _ (hRd.alloc (.cells #[.string t.text,.int .i64 t.off,.int .i64 t.line,.int .i64 t.col] 36));have hc':(!r.opn.text.toList.isEmpty)=false:=hc;rw[hc'] at IC;replace IC:=show Hid _ from IC;have OW:=fun wx=>q9q t wx (by omega)
 replace OW:=show Hid _ from OW;have ho':(t.text.toList == [36,40])=false:=ho;have hs':(t.text.toList == [36,41])=false:=hs;obtain⟨L,hL⟩:=eXa r.told.length;have HL:=hid hL;rw[←hL] at hown hv hn;have hn':((L:Int) == 16384)=false:=beq_eq_false_iff_ne.2 (by omega);subst hv;have h0:=hRd.cells.1;have h0':=q6c h0;clear hc hc' ho hs hL;unfold zo at OW ⊢;go_enter Tryz.func61,Tryz.ntmps61;go_wp2_with fail;refine cMo IC.out ?_;rintro e w1 ⟨rfl,hw⟩;subst hw;go_wp2_with fail;have hfr:=hRd.free;have hlt:=hRd.lt;obtain⟨W1,hW1⟩:=eXa (w.alloc (.cells #[.string t.text,.int .i64 t.off,.int .i64 t.line,.int .i64 t.col] 36));have b0:W1.cell? ⟨w.heap.size,0,none⟩=some (.string t.text):=by rw[hW1];simp[go_sem]
 have b1:W1.cell? ⟨w.heap.size,1,none⟩=some (.int .i64 t.off):=by rw[hW1];simp[go_sem]
 have b2:W1.cell? ⟨w.heap.size,2,none⟩=some (.int .i64 t.line):=by rw[hW1];simp[go_sem]
 have b3:W1.cell? ⟨w.heap.size,3,none⟩=some (.int .i64 t.col):=by rw[hW1];simp[go_sem]
 have r0:W1.cell? ⟨R,0,none⟩=some (.slice a L cap):=by rw[hW1];exact h0' _
 have hRd1:q1b W1 R (.slice a L cap) r.opn:=by rw[hW1];exact hRd.alloc _
 have hown1:W1.ownsRow base 36 4 (.slice a L cap) L (rowOf r.told):=by rw[hW1];exact zk hown _
 have hk1:Keeps base R w W1:=by rw[hW1];exact Keeps.alloc hb _
 have hb1:base≤W1.heap.size:=by rw[hW1];simp;omega
 have hw1:w.heap.size < W1.heap.size:=by rw[hW1];simp
 rw[←hW1];have hgR:some R≠(Value.slice a L cap).ownBlock:=fun e'=>by have:=hg R e'.symm;omega
 have hgW:some w.heap.size≠(Value.slice a L cap).ownBlock:=by
  rcases hown.2 with ⟨e1,_⟩ | ⟨g1,c1,cu1,e1,_,hh,_⟩
  ·rw[e1];simp[Value.ownBlock]
  ·rw[e1];intro e';have:=(aIx hh)
   simp[Value.ownBlock] at e';omega
 clear hW1 h0' h0 hRd hown;have hne1:R≠w.heap.size:=by omega
 have hne2:w.heap.size≠R:=by omega
 go_region_law (first
  | (refine step_append_lies _ (by rfl) _ _ _ (by rfl) base 36 i0 _ 4 40 Tryz.underlying32 hi0 hz0 hz1 hz3 rfl (by omega) _ L (rowOf r.told) (by rfl) (by exact ((hown1.drew.kept (q8q hbel none) (by cases (Value.slice a L cap).ownBlock <;> simp)).alloc _)) ⟨w2.heap.size,0,none⟩ 1 1 (q06 t) (by rfl) (by rfl) (World.news_of_block (cs:=#[.string t.text,.int .i64 t.off,.int .i64 t.line,.int .i64 t.col]) (t:=36) (fr:=(0,0)) (heap_alloc_new w2 _)) (by simp[q06,Value.oneCell']) (by omega) (by unfold maxLen;omega) (by omega) (by have:=hbel.size;simp at this ⊢;omega) (w2.heap.size + 1) (by simp) ?_;intro gg cap' w3 hown3 hgrow hat hlt3;have hRd3:q1b w3 R (.slice a L cap) r.opn:=((hgrow.block R (by simp;omega) hgR).trans ((Below.heap_alloc w2 _ R (by omega)).trans (hbel.block R (by simp;omega)))).trans hRd1;have hf3:=hRd3.free;have hc3:=hRd3.cells.1)
  | (go_simp;go_at_call 122;refine (OW.out _).mono ?_;rintro e w2 ⟨rfl,hbel⟩;have hz2:W1.heap.size≤w2.heap.size:=hbel.size;have r2:w2.cell? ⟨R,0,none⟩=some (.slice a L cap):=(hbel.cell (p:=⟨R,0,none⟩) (by simp;omega)).trans r0;have r3:=q6c r2))
 all_goals go_wp2
 all_goals go_ret
 all_goals
  refine⟨rfl,⟨_,hRd3.setTold _,?_⟩,((hk1.trans (Keeps.drew base R W1)).trans (Keeps.of_below hbel hb1)).trans (((Keeps.alloc (by omega) _).trans (Keeps.qp1 hgrow (by simp;omega) hg)).trans (Keeps.jw (grownBy_set w3 R 0 _) (by have:=hgrow.size;simp at this;omega))),fun h=>absurd rfl h⟩;have e1:(r.told++[t]).length=L + 1:=by rw[HL.out];simp
  show World.ownsRow _ base 36 4 _ (r.told++[t]).length (rowOf (r.told++[t]))
  rw[e1,qi0];exact q7j hown3 (grownBy_set w3 R 0 _) hRb
theorem take_any (R base:Nat)(r:Rd)(t:Tok)(m:Int)(w:World)(hI:q2x w base R r)(hb:base≤w.heap.size)(hRb:R < base)(ht:t.text.size≤65536)(hm:w.cell? ⟨2,0,none⟩=some (.int .i64 m))(hn:r.told.length≤16384) :
  Calls Tryz.prog 61 #[.pointer (some ⟨R,0,none⟩),zo t] w (q2k r t w base R):=by
 cases hc:q3k r with
 | true=>exact qp2 R base r t m w hI hb hRb ht hm hc
 | false =>
  cases ho:isOpen t.text with
  | true=>exact qls R base r t w hI hb hRb hc ho
  | false =>
   cases hs:q2v t.text with
   | true=>exact qlt R base r t w hI hb hc ho hs
   | false =>
    by_cases h:r.told.length=16384
    ·exact qlu R base r t w hI hb hc ho hs h
    ·exact qlv R base r t w hI hb hRb ht hc ho hs (by omega)
theorem qlw (r:Rd)(t:Tok)(hr:r.opn.text.size≤65536)(ht:t.text.size≤65536):(qm r t).2.opn.text.size≤65536:=by
 unfold qm
 split
 ·show (takeC r.opn t).2.text.size≤65536
  unfold takeC
  split
  ·decide
  ·split
   ·exact hr
   ·exact hr
 ·split
  ·exact ht
  ·split
   ·exact hr
   ·split
    ·exact hr
    ·exact hr
theorem qlx (r:Rd)(t:Tok)(hn:r.told.length≤16384):(qm r t).2.told.length≤16384:=by
 unfold qm
 split
 ·exact hn
 ·split
  ·exact hn
  ·split
   ·exact hn
   ·split
    ·exact hn
    ·simp;omega
end S.K
namespace S.K
open Go.RowKit
def q5v (W:World)(B:Nat)(t:Tok)(code:Int):Prop:=W.heap[B]?=some (.cells #[.int .i64 t.off,.int .i64 t.line,.int .i64 t.col,.string t.text,.int .i64 code] 31 (0,0))
theorem q5d (W:World)(O:Obj):(W.alloc O).heap[W.heap.size]?=some O:=by
 show (W.heap.push O)[W.heap.size]?=_
 simp
theorem q6d (t:Tok)(code:Int)(w:World)(ht:t.text.size≤65536) :
  Calls Tryz.prog 62 #[zo t,.int .i64 code] w fun e w'=>∃B,e=.returned (.pointer (some ⟨B,0,none⟩))∧w.heap.size≤B∧q5v w' B t code∧Below w.heap.size w w':=by
 have OW:=fun wx=>q9q t wx (by omega)
 replace OW:=show Hid _ from OW;unfold zo at OW ⊢;go_enter Tryz.func62,Tryz.ntmps62;go_wp2_with fail;refine (OW.out _).mono ?_;rintro e w1 ⟨rfl,hb⟩;have hz:w.heap.size < w1.heap.size:=by have:=hb.size;simp at this;omega
 go_wp2
 go_ret
 refine⟨w1.heap.size + 1,rfl,by omega,?_,?_⟩
 ·have:=q5d (w1.alloc (.cells #[.string t.text,.int .i64 t.off,.int .i64 t.line,.int .i64 t.col] 36)) (.cells #[.int .i64 t.off,.int .i64 t.line,.int .i64 t.col,.string t.text,.int .i64 code] 31)
  rw[World.size_alloc] at this;exact this
 ·exact (((bRf.alloc (Nat.le_refl _) _).trans (hb.mono (by simp))).alloc (by omega) _).alloc (by simp;omega) _
def q6e (s:ByteArray)(k:Nat):Int:=if k=65536 then 13 else if zy ((s.data.toList.getD k 0).toNat)=0 then 10 else 0
theorem getD_byte (s:ByteArray)(k:Nat)(h:k < s.size):s.data.toList.getD k 0=s[k]:=by
 rw[List.getD_eq_getElem?_getD,gEq (by simpa using h)];rfl
theorem q41 (s:ByteArray)(k:Nat)(w:World)(hk:k < s.size)(_hs:s.size≤281474976710656)(hKB:KB w) :
  Calls Tryz.prog 119 #[.string s,.int .i64 k] w fun e w'=>e=.returned (.int .i64 (q6e s k))∧w'=w:=by
 by_cases h1:k=65536
 ·have hf:Hid (q6e s k=13):=by show _=_;unfold q6e;exact if_pos h1
  have h1':((k:Int) == 65536)=true:=by simp;omega
  clear h1;rw[hf.out];go_enter Tryz.func119,Tryz.ntmps119
  go_wp2
  go_ret
  exact⟨rfl,rfl⟩
 ·have h1':((k:Int) == 65536)=false:=by simp;omega
  have hf:Hid (q6e s k=if zy s[k].toNat=0 then 10 else 0):=by show _=_;unfold q6e;rw[if_neg h1,getD_byte s k hk]
  clear h1;go_enter Tryz.func119,Tryz.ntmps119
  go_wp2_with (go_at_call 120;refine (q2j _ _ (Int.natCast_nonneg _) (q72 _) hKB).mono ?_;rintro e w' ⟨rfl,rfl⟩)
  ·have h2:(zy s[k].toNat == 0)=true:=by assumption
   go_ret
   exact⟨q5u (by rw[hf.out,if_pos (by simpa using h2)]),rfl⟩
  ·have h2:(zy s[k].toNat == 0)=false:=by assumption
   go_ret
   exact⟨q5u (by rw[hf.out,if_neg (by simpa using h2)]),rfl⟩
theorem q44 (off line start:Int)(b1 b2:Nat)(w:World)(o1:0≤off)(o2:off≤281474976710656)(s1:0≤start)(s2:start≤281474976710656)(h1:w.cell? ⟨b1,0,none⟩=some (.int .i64 line))(h2:w.cell? ⟨b2,0,none⟩=some (.int .i64 start)) :
  Calls Tryz.prog 118 #[.int .i64 off,.pointer (some ⟨b1,0,none⟩),.pointer (some ⟨b2,0,none⟩)] w fun e w'=>e=.returned (.agg #[.int .i64 off,.int .i64 line,.int .i64 (off - start + 1)])∧w'=w.alloc (.cells #[.int .i64 off,.int .i64 line,.int .i64 (off - start + 1)] 28):=by
 replace h1:=q6c h1;replace h2:=q6c h2;go_enter Tryz.func118,Tryz.ntmps118
 go_wp2
 exact bodyPost_ret (v:=.agg #[.int .i64 off,.int .i64 line,.int .i64 (off - start + 1)]) (by simp[results,Tryz.results118,go_sem]) rfl ⟨rfl,rfl⟩
end S.K
end Go.Proofs.YtbancemhfjjmlaaGreatDoor
