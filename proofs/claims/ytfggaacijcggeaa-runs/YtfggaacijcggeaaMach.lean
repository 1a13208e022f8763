/-
  The plain mathematics of a run: the machine, its instructions, its rounds.
-/
import Derived.Test.YtfggaacijcggeaaJCode
import GoSem.Core.Utf8
namespace Go.Proofs.Ytfggaacijcggeaa
namespace H

structure Mach where
  st : List Int
  cells : List Int
  text : ByteArray
  chars : Nat
  shows : List (Int × ByteArray)
  sends : List (Int × Int)
  next : Int
  steps : Nat
  draws : Nat
  ended : Bool
  fault : Int

/-- What a run is given, beside the cells. -/
structure Inp where
  fuel : Int
  what : Int
  arg : Int
  src : Int
  route : Int
  draws : List Int

def push (v : Int) (M : Mach) : Mach := if 8 ≤ M.st.length then { M with fault := 2 } else { M with st := M.st ++ [v] }
def popM (M : Mach) : Mach := if M.st.length = 0 then { M with fault := 2 } else { M with st := M.st.dropLast }
def popV (M : Mach) : Int := M.st.getD (M.st.length - 1) 0
def jumpIf (a : Int) (M : Mach) : Mach := if popV M = 0 then popM M else { popM M with next := (popM M).next + a }
def draw (ds : List Int) (M : Mach) : Mach := if M.draws < ds.length then push (ds.getD M.draws 0) { M with draws := M.draws + 1 } else push 0 M
def double (M : Mach) : Mach := if (popM M).fault = 0 then push (popV M) (push (popV M) (popM M)) else popM M
def char (M : Mach) : Mach :=
  if (popM M).fault = 0 then
    if 6 ≤ M.chars then { popM M with fault := 4 } else { popM M with text := M.text ++ Utf8.encode (popV M), chars := M.chars + 1 }
  else popM M
def hasKey (k : Int) (l : List (Int × ByteArray)) : Bool := l.any fun x => x.1 == k
def showM (M : Mach) : Mach :=
  if (popM M).fault = 0 then
    if 8 ≤ M.shows.length then { popM M with fault := 5 }
    else if hasKey (popV M) M.shows then { popM M with fault := 6 }
    else { popM M with shows := M.shows ++ [(popV M, M.text)], text := ⟨#[]⟩, chars := 0 }
  else popM M
def send (t : Int) (M : Mach) : Mach :=
  if (popM M).fault = 0 then
    if 4 ≤ M.sends.length then { popM M with fault := 5 } else { popM M with sends := M.sends ++ [(t, popV M)] }
  else popM M

/-- A number of 16 bits, signed. -/
def s16 (v : Int) : Int := if v < 32768 then v else v - 65536
def yes (b : Bool) : Int := if b then 1 else 0
def combine (op a b : Int) : Int :=
  if op = 4 then (a + b) % 65536
  else if op = 5 then (a - b) % 65536
  else if op = 6 then (a * b) % 65536
  else if op = 8 then ((a.toNat &&& b.toNat : Nat) : Int)
  else if op = 9 then ((a.toNat ^^^ b.toNat : Nat) : Int)
  else if op = 10 then (a * 2 ^ (b % 16).toNat) % 65536
  else if op = 11 then a / 2 ^ (b % 16).toNat
  else if op = 12 then (s16 a / 2 ^ (b % 16).toNat) % 65536
  else if op = 13 then yes (decide (a < b))
  else if op = 14 then yes (decide (s16 a < s16 b))
  else if op = 15 then yes (decide (a = b))
  else 0
def reckon (op : Int) (M : Mach) : Mach :=
  if (popM (popM M)).fault = 0 then
    if op = 7 then
      if popV M = 0 then { popM (popM M) with fault := 3 } else push (popV (popM M) / popV M) (popM (popM M))
    else push (combine op (popV (popM M)) (popV M)) (popM (popM M))
  else popM (popM M)

/-- One instruction; 'next' is one further already. -/
def doOp (o a : Int) (I : Inp) (M : Mach) : Mach :=
  if o = 0 then { M with ended := true }
  else if o = 1 then push a M
  else if o = 2 then push (M.cells.getD a.toNat 0) M
  else if o = 3 then { popM M with cells := M.cells.set a.toNat (popV M) }
  else if o = 16 then { M with next := M.next + a }
  else if o = 17 then jumpIf a M
  else if o = 18 then push I.what M
  else if o = 19 then push I.arg M
  else if o = 20 then push I.src M
  else if o = 21 then push I.route M
  else if o = 22 then draw I.draws M
  else if o = 23 then char M
  else if o = 24 then showM M
  else if o = 25 then send a M
  else if o = 26 then double M
  else if o = 27 then popM M
  else reckon o M

def step (o a : Int) (I : Inp) (M : Mach) : Mach := doOp o a I { M with next := M.next + 1 }

end H
end Go.Proofs.Ytfggaacijcggeaa
