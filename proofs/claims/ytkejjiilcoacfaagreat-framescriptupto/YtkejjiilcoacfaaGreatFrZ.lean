/- The calls of a stack, with its blocks: what stands beside them stays. -/
import Derived.Test.YtkejjiilcoacfaaGreatFrK
import Derived.Test.YtkejjiilcoacfaaGreatLimW
namespace Go.Proofs.YtkejjiilcoacfaaGreat
open Go.Maps Go.RowKit Go.WideMaps

theorem close_so {O : Nat → Prop} {w : World} {P : Nat} {l : List Sa} (h : StO O w P l) (h0 : 0 < l.length) (hn : l.length ≤ 1048576) : Calls Tryz.prog 25 #[.pointer (some ⟨P, 0, none⟩)] w (DeclO O w P (closeE l) (closeL l)) := by
  obtain ⟨vS, xs, h1, rfl⟩ := h
  rw [List.length_map] at h0 hn
  exact (sClose_any w O P vS xs h1 h0 hn).mono fun e w' hd => hd.so
theorem float_so {O : Nat → Prop} {w : World} {P : Nat} {l : List Sa} (h : StO O w P l) (hl : SaOk l) (lab : ByteArray) (typ v : Int) (hlab : lab.size ≤ 281474976710656) (ht : wfN typ) (hv : wfN v) :
    Calls Tryz.prog 29 #[.pointer (some ⟨P, 0, none⟩), .string lab, .int .i64 typ, .int .i64 v] w (DeclO O w P (floatE l typ v) (floatL l lab typ v)) := by
  obtain ⟨vS, xs, h1, rfl⟩ := h
  have n0 := hl.n0
  have n1 := hl.n1
  rw [List.length_map] at n0 n1
  exact (sFloat_any w O P vS xs lab typ v h1 n0 n1 (fun x hx => by have := each_small hl.h x hx; omega) hlab ht hv).mono fun e w' hd => hd.so
theorem ess_so {O : Nat → Prop} {w : World} {P : Nat} {l : List Sa} (h : StO O w P l) (hl : SaOk l) (lab : ByteArray) (a : Option Addr) (n c : Nat) (e : List Int) (hlab : lab.size ≤ 281474976710656) (he : e.length = n) (hn : n ≤ 17592186043904) (hA : NsAt w a e) (hw : ∀ x ∈ e, wfN x) :
    Calls Tryz.prog 33 #[.pointer (some ⟨P, 0, none⟩), .string lab, .slice a n c] w (DeclO O w P (judgeE l e) (essL l lab e)) := by
  obtain ⟨vS, xs, h1, rfl⟩ := h
  have n0 := hl.n0
  have n1 := hl.n1
  rw [List.length_map] at n0 n1
  exact (sEss_any w O P vS xs lab a n c e h1 n0 n1 (fun x hx => by have := each_small hl.h x hx; omega) hlab he hn hA hw).mono fun e w' hd => hd.so
end Go.Proofs.YtkejjiilcoacfaaGreat
