/-
  Which graphs may be, and a graph as a system: plain data.
-/
import Derived.Test.YtlgljpbbooeanaaNPlain
import Derived.Test.YtlgljpbbooeanaaPlain
namespace Go.Proofs.Ytlgljpbbooeanaa

/-- Numbers from 0 on, rising, unlike. -/
def riseB : List Int → Bool
  | [] => true
  | [x] => decide (0 ≤ x)
  | x :: y :: r => decide (0 ≤ x) && decide (x < y) && riseB (y :: r)

def arcB (size : Nat) (a : Arc) : Bool :=
  riseB a.reads && riseB a.writes && decide (-1 ≤ a.proc) && decide (a.proc ≤ 15) && decide (0 ≤ a.bad) && decide (a.bad ≤ 5) && decide (0 ≤ a.to) && decide (a.to < size) && (decide (a.bad = 0) || decide (a.to = 0))

def arcsIn : List Node → Nat
  | [] => 0
  | x :: r => x.arcs.length + arcsIn r

/-- May a graph be? -/
def mayN (ns : List Node) : Bool := decide (1 ≤ ns.length) && decide (ns.length ≤ 20000) && decide (arcsIn ns ≤ 262144) && ns.all fun x => x.arcs.all (arcB ns.length)

/-- Bytes as a text. -/
def txt (l : List UInt8) : ByteArray := ⟨l.toArray⟩

/-- A node's state. -/
def nst (k : Nat) : ByteArray := txt (encU k)

/-- Which node's a state is. -/
def nodeNo (size : Nat) (st : ByteArray) : Option Nat := (List.range size).find? fun k => decide (nst k = st)

def movOf (k : Nat) (a : Arc) : Mov := ⟨a.proc, k, -1, -1, if a.bad = 0 then nst a.to.toNat else ⟨#[]⟩, a.bad, a.reads, a.writes, a.turns⟩

def movsOf (l : List Arc) : List Mov := (List.range l.length).zipWith movOf l

/-- A graph as a system. -/
def graphSem (ns : List Node) : Sem where
  begin := nst 0
  next st := match (nodeNo ns.length st).bind (ns[·]?) with
    | some x => movsOf x.arcs
    | none => []
  look st := match (nodeNo ns.length st).bind (ns[·]?) with
    | some x => ⟨x.props, x.en, x.pr, x.ac⟩
    | none => ⟨0, false, false, false⟩

end Go.Proofs.Ytlgljpbbooeanaa
