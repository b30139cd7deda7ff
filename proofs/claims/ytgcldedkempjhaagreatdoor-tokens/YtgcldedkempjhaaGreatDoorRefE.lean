/-
  The document's answers of stage 2, as plain functions of what was done.
-/
import Derived.Test.YtgcldedkempjhaaGreatDoorRefMint
import Derived.Test.YtgcldedkempjhaaGreatDoorRefPackC
import Derived.Test.YtgcldedkempjhaaGreatDoorNames
import Derived.Test.YtgcldedkempjhaaGreatDoorItoa
namespace Go.Proofs.YtgcldedkempjhaaGreatDoor

def roomN (ds : List Deed) (house : ByteArray) : Nat := if house.toList.isEmpty then didF ds kFeed house else didF ds kPublish house
def roomM (house : ByteArray) : Nat := if house.toList.isEmpty then 24 else 12

def mayE (ds : List Deed) (house pack : ByteArray) (v : Int) (text : ByteArray) : Int :=
  if v < 1 ∨ 9 < v then 1 else if (wantsF text).isSome = false then 8 else if (relF ds house pack v).isSome then 5 else if roomN ds house = roomM house then 6 else 0

def feedE (ds : List Deed) (pack : ByteArray) (v : Int) (text : ByteArray) : Int := if nameF pack = false then 2 else mayE ds ⟨#[]⟩ pack v text

def publishE (r : Int) (ds : List Deed) (house pack : ByteArray) (v : Int) (text : ByteArray) : Int :=
  if writesE r (wordF pack) ≠ 0 then writesE r (wordF pack) else mayE ds house pack v text

def yankE (r : Int) (ds : List Deed) (house pack : ByteArray) (v : Int) : Int :=
  if writesE r (wordF pack) ≠ 0 then writesE r (wordF pack) else if (relF ds house pack v).isSome then 0 else 7

def grantE (r : Int) (ds : List Deed) (house pack to : ByteArray) : Int :=
  if (r == 0) = true then 3 else if (r == 3) = false then 4 else if wordF pack = false ∨ wordF to = false then 2 else if hasF ds house pack = false then 7 else if grantF ds house pack to then 5 else if didF ds kGrant house = 6 then 6 else 0

def seenE (ds : List Deed) (house s : ByteArray) : Bool :=
  hasF ds (ownerF ds s).1 (ownerF ds s).2 && ((ownerF ds s).1.toList.isEmpty || ((ownerF ds s).1.toList == house.toList) || grantF ds (ownerF ds s).1 (ownerF ds s).2 house)

/-- One version, as it is told. -/
def oneE (ds : List Deed) (o pack : ByteArray) (v : Nat) : ByteArray := if yankF ds o pack v then digitS v ++ ⟨#[42]⟩ else digitS v

/-- The versions above 9 - k, as they are told. -/
def tellE (ds : List Deed) (o pack : ByteArray) : Nat → ByteArray
  | 0 => ⟨#[]⟩
  | k + 1 => if (relF ds o pack ((9 - k : Nat) : Int)).isSome then (if (tellE ds o pack k).toList.isEmpty then oneE ds o pack (9 - k) else oneE ds o pack (9 - k) ++ ⟨#[44]⟩ ++ tellE ds o pack k) else tellE ds o pack k

def whoseE (o : ByteArray) : ByteArray := if o.toList.isEmpty then ⟨#[112, 117, 98, 108, 105, 99]⟩ else o

def showE (r : Int) (ds : List Deed) (house s : ByteArray) : ByteArray × Int :=
  if (r == 0) = true then (⟨#[]⟩, 3) else if nameF s = false then (⟨#[]⟩, 2) else if seenE ds house s = false then (⟨#[]⟩, 7)
  else (whoseE (ownerF ds s).1 ++ ⟨#[58]⟩ ++ tellE ds (ownerF ds s).1 (ownerF ds s).2 9, 0)

end Go.Proofs.YtgcldedkempjhaaGreatDoor
