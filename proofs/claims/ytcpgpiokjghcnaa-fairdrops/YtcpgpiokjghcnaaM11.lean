/-
  Puts.
-/
import Derived.Test.YtcpgpiokjghcnaaM10
import Derived.Test.YtcpgpiokjghcnaaM5
/-
  What Uint, Int, Fixed, Text and Line of a buffer do.
-/
namespace Go.Proofs.Ytcpgpiokjghcnaa
open Go.RowKit

theorem Moved.mono {w w1 : World} {ao ao' : Option Addr} (h : Moved w1 ao ao') (hs : w.heap.size ≤ w1.heap.size) : Moved w ao ao' :=
  h.imp id (fun k a ha => Nat.le_trans hs (k a ha))

/-- A slice that owns bytes, at least one: where they lie. -/
theorem row_src {w : World} {base : Nat} {e : TypeId} {ao : Option Addr} {cap : Nat} {ds : List UInt8} (h : w.ownsRow base e 1 (.slice ao ds.length cap) ds.length (cellsOf ds)) (h0 : 0 < ds.length) :
    ∃ g, ao = some ⟨g, 0, none⟩ ∧ base ≤ g ∧ ∀ j u, (cellsOf ds)[j]? = some u → w.cell? ((⟨g, 0, none⟩ : Addr).add j) = some u := by
  obtain ⟨g, cap', hv, hb, _⟩ := h.form h0
  simp at hv
  obtain ⟨rfl, rfl⟩ := hv
  exact ⟨g, rfl, hb, h.cells rfl⟩

set_option maxHeartbeats 400000 in
theorem bUint_nil (n : Nat) (w : World) (hn : (n : Int) < 18446744073709551616) :
    Calls Try.prog 33 #[.pointer none, .int .u64 (n : Int)] w fun e w' => e = .returned (.int .i64 1) ∧ Kept [] w w' := by
  go_enter Try.func33, Try.ntmps33
  go_wp2_with (first | (go_at_call 37; refine (groups_any n _ hn).mono ?_; rintro e w1 ⟨ao, cap, rfl, hr, hk⟩) | (go_at_call 36; refine (put_nil _ _ _ _).mono ?_; rintro e w2 ⟨rfl, rfl⟩))
  go_ret
  exact ⟨rfl, hk⟩

/-- What a step that puts ds into a buffer leaves. -/
def PutsTo (w w' : World) (bb : Nat) (ao : Option Addr) (bs ds : List UInt8) (room : Nat) : Prop :=
  ∃ ao' cap', BufIs 105 w' bb ao' cap' (after room bs ds) room ∧ Kept (bb :: rowOf ao) w w' ∧ Moved w ao ao'

theorem PutsTo.ahead {w w1 w' : World} {bb : Nat} {ao : Option Addr} {bs ds : List UInt8} {room : Nat} (hk : Kept [] w w1) (h : PutsTo w1 w' bb ao bs ds room) : PutsTo w w' bb ao bs ds room := by
  obtain ⟨ao', cap', hB, hK, hM⟩ := h
  exact ⟨ao', cap', hB, (hk.mono (by simp)).trans hK (fun x hx => .inl hx), hM.mono hk.size⟩

set_option maxHeartbeats 400000 in
theorem bUint_any (n : Nat) (w : World) (hn : (n : Int) < 18446744073709551616) {bb : Nat} {ao : Option Addr} {cap : Nat} {bs : List UInt8} {room : Nat} (h : BufIs 105 w bb ao cap bs room) :
    Calls Try.prog 33 #[.pointer (some ⟨bb, 0, none⟩), .int .u64 (n : Int)] w fun e w' => e = .returned (.int .i64 (putCode room bs (encU n))) ∧ PutsTo w w' bb ao bs (encU n) room := by
  have h1 := encU_pos n
  go_enter Try.func33, Try.ntmps33
  go_wp2_with (first | (go_at_call 37; refine (groups_any n _ hn).mono ?_; rintro e w1 ⟨ao1, cap1, rfl, hr, hk⟩; obtain ⟨g, rfl, _, hc⟩ := row_src hr h1; have h2 := h.kept hk (by simp) (by simp); clear hr) | (go_at_call 36; refine (put_any _ h2 _ _ _ hc h1).mono ?_; rintro e w2 ⟨rfl, hp⟩))
  go_ret
  exact ⟨rfl, PutsTo.ahead hk hp⟩

theorem ret_u64 {a b : Int} (h : a = b) : Ending.returned (.int .u64 a) = .returned (.int .u64 b) := by rw [h]

/-- What putting a fixed number's bytes, wherever they lie, does. -/
def FixedPut (b : Option Addr) (n k : Nat) (w : World) (R : Int → World → Prop) : Prop :=
  ∀ (w1 : World) (g cap : Nat), Kept [] w w1 → (∀ j u, (cellsOf (fixedN k n))[j]? = some u → w1.cell? ((⟨g, 0, none⟩ : Addr).add j) = some u) →
    Calls Try.prog 36 #[.pointer b, .slice (some ⟨g, 0, none⟩) k cap] w1 fun e w' => ∃ c, e = .returned (.int .i64 c) ∧ R c w'

theorem src_text (w : World) (s : ByteArray) : Src Try.prog 1 9 (.string s) (bytesOf s).length (cellsOf (bytesOf s)) w := by
  have h := Src.ofString (P := Try.prog) w Try.underlying9 s
  rw [bytesOf_length]
  exact h

/-- A text's bytes in a buffer. -/
def textN (s : ByteArray) : List UInt8 := encU s.size ++ bytesOf s

theorem Kept.below_row {w w1 w2 : World} (hk : Kept [] w w1) (hb : Below w.heap.size w1 w2) : Kept [] w w2 :=
  Kept.of_below (hk.below.trans hb)

theorem PutsTo.none {w w' : World} {bb : Nat} {ao : Option Addr} {cap : Nat} {bs ds : List UInt8} {room : Nat} (h : BufIs 105 w bb ao cap bs room) (hno : ¬ ds.length ≤ room - bs.length) (hk : Kept [] w w') : PutsTo w w' bb ao bs ds room :=
  ⟨ao, cap, by rw [show after room bs ds = bs from if_neg hno]; exact h.kept hk (by simp) (by simp), hk.mono (by simp), .inl rfl⟩


/-- A line's bytes in a buffer. -/
def lineN (s : ByteArray) : List UInt8 := bytesOf s ++ [10]
theorem lineN_length (s : ByteArray) : (lineN s).length = s.size + 1 := by simp [lineN, bytesOf_length]

theorem src_lf (w : World) : Src Try.prog 1 103 (.slice (some ⟨w.heap.size, 0, none⟩) 1 1) ([10] : List UInt8).length (cellsOf [10]) (w.alloc (.cells #[.int .u8 10] 5)) :=
  Src.ofSlice (P := Try.prog) _ Try.underlying103 ⟨w.heap.size, 0, none⟩ 1 1 (cellsOf [10]) rfl (cell_one_new _ _ _) (cellsOf_oneCell _)

end Go.Proofs.Ytcpgpiokjghcnaa
