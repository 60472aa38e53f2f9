/- What a scan of a text answers, said without the program. -/
import Derived.Test.YtekbddpdcjbinaaDoorPlace
import Derived.Lib.IndexAny
namespace Go.Proofs.YtekbddpdcjbinaaDoor

/-- A word and its place. -/
structure Tok where
  text : ByteArray
  off : Int
  line : Int
  col : Int

def zeroTok : Tok := ⟨⟨#[]⟩, 0, 0, 0⟩
def isOpen (t : ByteArray) : Bool := t.toList == [36, 40]
def isShut (t : ByteArray) : Bool := t.toList == [36, 41]
/-- Does a bracket of comments stand in a word? -/
def hasMark (t : ByteArray) : Bool := Lib.contains t.data.toList [36, 40] || Lib.contains t.data.toList [36, 41]

/-- What the reader holds: the words that were told; the word that opened the comment (no text: none is open). -/
structure Rd where
  told : List Tok
  opn : Tok

def inCmt (r : Rd) : Bool := !r.opn.text.toList.isEmpty

/-- What a word does in a comment: the error's number, and the opening word behind it. -/
def takeC (o t : Tok) : Int × Tok := if isShut t.text then (0, zeroTok) else if hasMark t.text then (11, o) else (0, o)
/-- What a word does. -/
def takeF (r : Rd) (t : Tok) : Int × Rd :=
  if inCmt r then ((takeC r.opn t).1, { r with opn := (takeC r.opn t).2 })
  else if isOpen t.text then (0, { r with opn := t })
  else if isShut t.text then (11, r)
  else if r.told.length = 16384 then (13, r)
  else (0, { r with told := r.told ++ [t] })
end Go.Proofs.YtekbddpdcjbinaaDoor
