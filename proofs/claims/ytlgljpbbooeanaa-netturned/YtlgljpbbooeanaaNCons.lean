/-
  What a system is in memory, and what the statements ask of the program's functions.
-/
import Derived.Test.YtlgljpbbooeanaaNRange
import Derived.Test.YtlgljpbbooeanaaNGraph
namespace Go.Proofs.Ytlgljpbbooeanaa
open Go.RowKit

/-- What an int may hold. -/
def I64 (n : Int) : Prop := -9223372036854775808 ≤ n ∧ n ≤ 9223372036854775807

/-- A text that is no longer than memory. -/
def Short (s : ByteArray) : Prop := s.size ≤ 140737488355328

def Enters (f : Nat) : Prop := ∀ args w, (callFunc f args).run Try.prog w = .ok (.enter f args) w

/-- Which function a call of an interface's method comes to. -/
def Leads (T : TypeId) (r0 : Value) (name : String) (f : Nat) (r : Value) : Prop := (∀ w : World, (method 258 T r0 name).run Try.prog w = .ok (f, r) w) ∧ Enters f ∧ ∀ w : World, (nilAhead 258 T r0 name).run Try.prog w = .ok (some false) w

def sval (s : Sight) : Value := .agg #[.int .u64 s.props, .bool s.en, .bool s.pr, .bool s.ac]

/-- What a system does, in a world. -/
structure SysDo (F : Nat → Prop) (w : World) (T : TypeId) (r0 : Value) (M : Sem) : Prop where
  bg : ∃ f r, Leads T r0 "Begin" f r ∧ Calls Try.prog f #[r] w fun e w' => e = .returned (.string M.begin) ∧ Nu w w'
  nx : ∃ f r, Leads T r0 "Next" f r ∧ ∀ st, Short st → Calls Try.prog f #[r, .string st] w fun e w' => ∃ gf lb G, e = .returned (.func (.func gf) #[] lb) ∧ Nu w w' ∧ Enters gf ∧ (∀ b, G b → b < w'.heap.size ∧ (F b ∨ w.heap.size ≤ b)) ∧ ∀ n, 1 ≤ n → SeqN n gf lb G (M.next st) w'
  lk : ∃ f r, Leads T r0 "Look" f r ∧ ∀ st, Short st → Calls Try.prog f #[r, .string st] w fun e w' => e = .returned (sval (M.look st)) ∧ Nu w w'

/-- A system: whatever else turns, as long as the blocks F stay. -/
structure SysAt (F : Nat → Prop) (w : World) (T : TypeId) (r0 : Value) (M : Sem) : Prop where
  lt : ∀ b, F b → b < w.heap.size
  does : ∀ w', KeepF F w w' → SysDo F w' T r0 M
theorem SysAt.keep {F : Nat → Prop} {w w' : World} {T : TypeId} {r0 : Value} {M : Sem} (h : SysAt F w T r0 M) (hk : KeepF F w w') : SysAt F w' T r0 M :=
  ⟨fun b hb => Nat.lt_of_lt_of_le (h.lt b hb) hk.1, fun w2 h2 => h.does w2 (hk.trans h2)⟩
theorem SysAt.mv {S F : Nat → Prop} {w w' : World} {T : TypeId} {r0 : Value} {M : Sem} (h : SysAt F w T r0 M) (hk : Mv S w w') (hS : ∀ b, F b → ¬ S b) : SysAt F w' T r0 M :=
  h.keep (hk.keep fun x hx => ⟨h.lt x hx, hS x hx⟩)
theorem SysAt.nu {F : Nat → Prop} {w w' : World} {T : TypeId} {r0 : Value} {M : Sem} (h : SysAt F w T r0 M) (hk : Nu w w') : SysAt F w' T r0 M := h.mv hk fun _ _ => id

/-- All texts of a system are short. -/
structure Sem.Fine (M : Sem) : Prop where
  b : Short M.begin
  n : ∀ st m, m ∈ M.next st → Short m.to

/-- What Explore answers. -/
def ExplOut (w : World) (M : Sem) (most : Int) (e : Ending) (w' : World) : Prop :=
  Nu w w' ∧ ∃ na nc sa sc ns ss code, e = .returned (.tuple #[.agg #[.slice na (List.length (α := Node) ns) nc], .slice sa (List.length (α := ByteArray) ss) sc, .int .i64 code]) ∧ NodesAt w' w'.heap.size na ns ∧ StrsAt w' w'.heap.size sa ss ∧
    (((most < 1 ∨ 20000 < most) ∧ code = 1 ∧ ns = [] ∧ ss = []) ∨ (1 ≤ most ∧ most ≤ 20000 ∧ explored M most.toNat = none ∧ code = 131 ∧ ns = [] ∧ ss = []) ∨ (1 ≤ most ∧ most ≤ 20000 ∧ explored M most.toNat = some (ns, ss) ∧ code = 0))

/-- The contracts of the program's functions on graphs. -/
structure NCons : Prop where
  check : ∀ (w : World) (ao : Option Addr) (cap : Nat) (ns : List Node), NodesAt w w.heap.size ao ns → Calls Try.prog 9 #[.agg #[.slice ao ns.length cap]] w fun e w' => e = .returned (.int .i64 (if mayN ns then 0 else 150)) ∧ Nu w w'
  of : ∀ (w : World) (ao : Option Addr) (cap : Nat) (ns : List Node), NodesAt w w.heap.size ao ns → Calls Try.prog 7 #[.agg #[.slice ao ns.length cap]] w fun e w' => Nu w w' ∧
    ((mayN ns = false ∧ e = .returned (.tuple #[.nilIface, .int .i64 150])) ∨ (mayN ns = true ∧ ∃ F T r0, e = .returned (.tuple #[.iface T r0, .int .i64 0]) ∧ SysAt F w' T r0 (graphSem ns) ∧ ∀ b, F b → w.heap.size ≤ b))
  expl : ∀ (w : World) F T r0 M (most : Int), SysAt F w T r0 M → M.Fine → I64 most → Calls Try.prog 16 #[.iface T r0, .int .i64 most] w (ExplOut w M most)
  checkT0 : ∀ (w : World), Calls Try.prog 23 #[.agg #[.slice none 0 0, .slice none 0 0, .slice none 0 0]] w fun e w' => e = .returned (.int .i64 0) ∧ Nu w w'
  explN : ∀ (w : World) (most : Int), Calls Try.prog 16 #[.nilIface, .int .i64 most] w fun e w' => Nu w w' ∧ ∃ v s, e = .returned (.tuple #[.agg #[v], s, .int .i64 1])

end Go.Proofs.Ytlgljpbbooeanaa
