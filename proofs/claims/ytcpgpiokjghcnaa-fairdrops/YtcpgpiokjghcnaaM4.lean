/-
  Kit.
-/
import Derived.Deep.Draws
import Derived.Laws.BytesArg
import Derived.Laws.IdiomStrings
import Derived.WalkKit
import Derived.Test.YtcpgpiokjghcnaaM2
/-
  What a step leaves of a world as it was, and what a buffer and a reader are in memory: laws on worlds; nothing of the program's text.
-/
namespace Go.Proofs.Ytcpgpiokjghcnaa
open Go.RowKit

/-- Of the blocks that were there those outside S are as they were; the streams too. -/
structure Kept (S : List Nat) (w w' : World) : Prop where
  os : w'.os = w.os
  tape : w'.tape = w.tape
  output : w'.output = w.output
  size : w.heap.size ≤ w'.heap.size
  block : ∀ k, k < w.heap.size → k ∉ S → w'.heap[k]? = w.heap[k]?

theorem Kept.refl (S : List Nat) (w : World) : Kept S w w := ⟨rfl, rfl, rfl, Nat.le_refl _, fun _ _ _ => rfl⟩

theorem Kept.trans {S T : List Nat} {a b c : World} (h : Kept S a b) (k : Kept T b c) (ht : ∀ x ∈ T, x ∈ S ∨ a.heap.size ≤ x) : Kept S a c :=
  ⟨k.os.trans h.os, k.tape.trans h.tape, k.output.trans h.output, Nat.le_trans h.size k.size, fun i hi hn =>
    (k.block i (Nat.lt_of_lt_of_le hi h.size) (fun hx => (ht i hx).elim hn (fun h1 => by omega))).trans (h.block i hi hn)⟩

theorem Kept.mono {S T : List Nat} {a b : World} (h : Kept S a b) (ht : ∀ x ∈ S, x ∈ T ∨ a.heap.size ≤ x) : Kept T a b :=
  (Kept.refl T a).trans h ht

theorem Kept.alloc (S : List Nat) (w : World) (o : Obj) : Kept S w (w.alloc o) :=
  ⟨rfl, rfl, rfl, by simp, fun _ hk _ => Below.heap_alloc w o _ hk⟩

theorem Kept.drew (S : List Nat) (w : World) : Kept S w w.drew := ⟨rfl, rfl, rfl, Nat.le_refl _, fun _ _ _ => rfl⟩

theorem Kept.setCell (w : World) (p : Addr) (u : Value) : Kept [p.block] w (w.setCell p u) :=
  ⟨rfl, rfl, rfl, by simp [World.setCell], fun _ _ hn => Below.heap_setCell _ _ _ _ (by simpa using hn)⟩

theorem Kept.grown {w w' : World} {row : Option Nat} (h : w.grownBy w' row) : Kept row.toList w w' :=
  ⟨h.os, h.tape, h.output, h.size, fun k hk hn => h.block k hk (fun e => hn (by rw [← e]; simp))⟩

theorem Kept.below {w w' : World} (h : Kept [] w w') : Below w.heap.size w w' :=
  ⟨h.os, h.tape, h.output, h.size, fun k hk => h.block k hk (by simp)⟩

theorem Kept.of_below {w w' : World} (h : Below w.heap.size w w') : Kept [] w w' :=
  ⟨h.os, h.tape, h.output, h.size, fun k hk _ => h.block k hk⟩

theorem Kept.heap {S : List Nat} {w w' : World} (h : Kept S w w') {k : Nat} {o : Obj} (ho : w.heap[k]? = some o) (hn : k ∉ S) : w'.heap[k]? = some o :=
  (h.block k (Array.getElem?_eq_some_iff.1 ho).1 hn).trans ho

theorem Kept.row {S : List Nat} {w w' : World} (h : Kept S w w') {base : Nat} {e : TypeId} {size : Nat} {v : Value} {n : Nat} {xs : List Value}
    (hr : w.ownsRow base e size v n xs) (hn : ∀ k, v.ownBlock = some k → k ∉ S) : w'.ownsRow base e size v n xs := by
  refine ⟨hr.1, ?_⟩
  rcases hr.2 with hn' | ⟨g, cap, cur, rfl, hb, hgg, rest⟩
  · exact .inl hn'
  · exact .inr ⟨g, cap, cur, rfl, hb, h.heap hgg (hn g rfl), rest⟩

/-- A buffer: its block holds the slice and the room; the slice owns the bytes. -/
structure BufIs (tb : TypeId) (w : World) (bb : Nat) (ao : Option Addr) (cap : Nat) (bs : List UInt8) (room : Nat) : Prop where
  blk : w.heap[bb]? = some (.cells #[.slice ao bs.length cap, .int .i64 room] tb (0, 0))
  row : w.ownsRow (bb + 1) 5 1 (.slice ao bs.length cap) bs.length (cellsOf bs)
  le : bs.length ≤ room
  rm : room ≤ 16777216

/-- A buffer somewhere in memory. -/
def Buf (tb : TypeId) (w : World) (bb : Nat) (bs : List UInt8) (room : Nat) : Prop := ∃ ao cap, BufIs tb w bb ao cap bs room

/-- Which blocks a buffer takes. -/
def rowOf (ao : Option Addr) : List Nat := match ao with | some a => [a.block] | none => []

/-- A reader: its block holds the bytes and the place. -/
structure RdIs (tr : TypeId) (w : World) (rb : Nat) (s : ByteArray) (p : Nat) : Prop where
  blk : w.heap[rb]? = some (.cells #[.string s, .int .i64 p] tr (0, 0))
  le : p ≤ s.size

theorem cell_blk {w : World} {b : Nat} {cs : Array Value} {t : TypeId} (h : w.heap[b]? = some (.cells cs t (0, 0))) (i : Nat) : w.cell? ⟨b, i, none⟩ = cs[i]? := by
  simp [World.cell?, h]

theorem free_blk {w : World} {b : Nat} {cs : Array Value} {t : TypeId} (h : w.heap[b]? = some (.cells cs t (0, 0))) (i : Nat) : w.frozen? ⟨b, i, none⟩ = false := by
  simp [World.frozen?, h]

theorem RdIs.kept {tr : TypeId} {S : List Nat} {w w' : World} {rb : Nat} {s : ByteArray} {p : Nat} (h : RdIs tr w rb s p) (hk : Kept S w w') (hn : rb ∉ S) : RdIs tr w' rb s p :=
  ⟨hk.heap h.blk hn, h.le⟩

theorem BufIs.kept {tb : TypeId} {S : List Nat} {w w' : World} {bb : Nat} {ao : Option Addr} {cap : Nat} {bs : List UInt8} {room : Nat} (h : BufIs tb w bb ao cap bs room) (hk : Kept S w w')
    (hn : bb ∉ S) (hr : ∀ a, ao = some a → a.block ∉ S) : BufIs tb w' bb ao cap bs room :=
  ⟨hk.heap h.blk hn, hk.row h.row (fun k hk => by cases ao with | none => simp [Value.ownBlock] at hk | some a => simp [Value.ownBlock] at hk; subst hk; exact hr a rfl), h.le, h.rm⟩

theorem cellsOf_get (bs : List UInt8) (j : Nat) (hj : j < bs.length) : (cellsOf bs)[j]? = some (.int .u8 (bs[j].toNat : Int)) := by
  simp [cellsOf, List.getElem?_eq_getElem hj]

/-- 'string(b)' of a slice that owns its bytes. -/
theorem run_string_of_row {P : Program} (w : World) (src dst e : TypeId) (hs : P.underlying src = some (.slice e)) (he : P.underlying e = some (.int .u8)) (hd : P.underlying dst = some .string)
    {base : Nat} {t : TypeId} {ao : Option Addr} {cap : Nat} {bs : List UInt8} (h : w.ownsRow base t 1 (.slice ao bs.length cap) bs.length (cellsOf bs)) :
    (convert src dst (.slice ao bs.length cap)).run P w = .ok (.string ⟨bs.toArray⟩) w := by
  rcases h.2 with ⟨hv, hn⟩ | ⟨g, cap', cur, hv, _⟩
  · obtain ⟨rfl, _, rfl⟩ := (by simpa using hv : ao = none ∧ _ ∧ cap = 0)
    have hb : bs = [] := List.eq_nil_of_length_eq_zero hn
    subst hb
    exact run_convert_bytes_nil w src e hs he _ _ dst hd
  · obtain ⟨rfl, rfl⟩ := (by simpa using hv : ao = some ⟨g, 0, none⟩ ∧ cap = cap')
    exact run_convert_bytes_back w src dst e ⟨g, 0, none⟩ cap bs hs he hd (fun j hj => h.cells rfl j _ (cellsOf_get bs j hj))

theorem setCell_blk {w : World} {b i : Nat} {cs : Array Value} {u : Value} {t : TypeId} {m : Nat × Nat} (h : w.heap[b]? = some (.cells cs t m)) :
    (w.setCell ⟨b, i, none⟩ u).heap[b]? = some (.cells (cs.setIfInBounds i u) t m) := by
  have hlt := lt_of_block h
  have h' : w.heap[b] = .cells cs t m := by simpa [Array.getElem?_eq_getElem hlt] using h
  show (w.heap.modify b _)[b]? = _
  rw [Array.getElem?_eq_getElem (by simpa using hlt), Array.getElem_modify_self, h']
  rfl

theorem Kept.drewN (S : List Nat) (w : World) : ∀ n, Kept S w (w.drewN n) := by
  intro n
  exact ⟨rfl, rfl, rfl, Nat.le_refl _, fun _ _ _ => rfl⟩

/-- What is put behind what is there, if there is room. -/
def after (room : Nat) (bs ds : List UInt8) : List UInt8 := if ds.length ≤ room - bs.length then bs ++ ds else bs

/-- Where the bytes lie behind a step that took the world w to another: where they lay, or in a block that is new. -/
def Moved (w : World) (ao ao' : Option Addr) : Prop := ao' = ao ∨ ∀ a, ao' = some a → w.heap.size ≤ a.block

end Go.Proofs.Ytcpgpiokjghcnaa
