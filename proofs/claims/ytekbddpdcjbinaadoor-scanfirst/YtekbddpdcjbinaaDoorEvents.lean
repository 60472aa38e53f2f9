/- The words of a text in their order, and the byte at which it may not go on: said without the program. -/
import Derived.Test.YtekbddpdcjbinaaDoorSpec
namespace Go.Proofs.YtekbddpdcjbinaaDoor

/-- The error's number for a byte c with the number k (0: none). -/
def codeAt (k : Nat) (c : UInt8) : Int := if k = 65536 then 13 else if kindF c.toNat = 0 then 10 else 0
/-- The word between two numbers. -/
def wordAt (s : ByteArray) (start stop line ls : Nat) : Tok := ⟨s.extract start stop, start, line, start - ls + 1⟩
/-- What comes from the byte number k on, if the run of word bytes begins at start and the line at ls. -/
def evs (s : ByteArray) : List UInt8 → Nat → Nat → Nat → Nat → List (Tok × Int)
  | [], k, start, line, ls => if start < k then [(wordAt s start k line ls, 0)] else []
  | c :: rest, k, start, line, ls =>
    if codeAt k c = 0 then
      if kindF c.toNat = 1 then (if start < k then [(wordAt s start k line ls, 0)] else []) ++ evs s rest (k + 1) (k + 1) (if c = 10 then line + 1 else line) (if c = 10 then k + 1 else ls)
      else evs s rest (k + 1) start line ls
    else [(⟨⟨#[]⟩, k, line, k - ls + 1⟩, codeAt k c)]
def events (s : ByteArray) : List (Tok × Int) := evs s s.data.toList 0 0 1 0

/-- What the reader comes to: it ends with the first error. -/
def runF : Rd → List (Tok × Int) → Rd × Option (Tok × Int)
  | r, [] => (r, none)
  | r, (t, c) :: es => if c = 0 then (if (takeF r t).1 = 0 then runF (takeF r t).2 es else ((takeF r t).2, some (t, (takeF r t).1))) else (r, some (t, c))
def rd0 : Rd := ⟨[], zeroTok⟩
/-- What a scan answers: the words that are told, and the fault. -/
def scanF (s : ByteArray) : List Tok × Option (Tok × Int) :=
  match runF rd0 (events s) with
  | (r, some f) => (r.told, some f)
  | (r, none) => (r.told, if inCmt r then some (r.opn, 12) else none)

theorem runF_append (r : Rd) (as bs : List (Tok × Int)) : runF r (as ++ bs) = match runF r as with | (r', none) => runF r' bs | (r', some f) => (r', some f) := by
  induction as generalizing r with
  | nil => rfl
  | cons a as ih =>
    obtain ⟨t, c⟩ := a
    simp only [List.cons_append, runF]
    split
    · split
      · exact ih _
      · rfl
    · rfl
theorem drop_cons (s : ByteArray) (k : Nat) (h : k < s.size) : s.data.toList.drop k = s[k] :: s.data.toList.drop (k + 1) := by
  rw [List.drop_eq_getElem_cons (by simpa using h)]; rfl
theorem drop_end (s : ByteArray) (k : Nat) (h : s.size ≤ k) : s.data.toList.drop k = [] := List.drop_eq_nil_of_le (by simpa using h)
theorem ev_fault (s : ByteArray) (k start line ls : Nat) (h : k < s.size) (hc : codeAt k s[k] ≠ 0) : evs s (s.data.toList.drop k) k start line ls = [(⟨⟨#[]⟩, k, line, k - ls + 1⟩, codeAt k s[k])] := by
  rw [drop_cons s k h, evs, if_neg hc]
theorem ev_skip (s : ByteArray) (k start line ls : Nat) (h : k < s.size) (hc : codeAt k s[k] = 0) (hb : ¬ kindF s[k].toNat = 1) : evs s (s.data.toList.drop k) k start line ls = evs s (s.data.toList.drop (k + 1)) (k + 1) start line ls := by
  rw [drop_cons s k h, evs, if_pos hc, if_neg hb]
theorem ev_blank (s : ByteArray) (k start line ls : Nat) (h : k < s.size) (hc : codeAt k s[k] = 0) (hb : kindF s[k].toNat = 1) : evs s (s.data.toList.drop k) k start line ls = (if start < k then [(wordAt s start k line ls, 0)] else []) ++ evs s (s.data.toList.drop (k + 1)) (k + 1) (k + 1) (if s[k] = 10 then line + 1 else line) (if s[k] = 10 then k + 1 else ls) := by
  rw [drop_cons s k h, evs, if_pos hc, if_pos hb]
theorem ev_end (s : ByteArray) (k start line ls : Nat) (h : s.size ≤ k) : evs s (s.data.toList.drop k) k start line ls = if start < k then [(wordAt s start k line ls, 0)] else [] := by
  rw [drop_end s k h, evs]
end Go.Proofs.YtekbddpdcjbinaaDoor
