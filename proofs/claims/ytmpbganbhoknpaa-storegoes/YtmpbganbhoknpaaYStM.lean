/-
  The program's store in memory: where its states' bytes lie, what is held of each, the chains' heads.
-/
import Derived.Test.YtmpbganbhoknpaaYStP
import Derived.Test.YtmpbganbhoknpaaYRefPut
import Derived.Lib.AppendStr
import Derived.Laws.OwnMore
set_option linter.unusedVariables false
namespace Go.Proofs.Ytmpbganbhoknpaa
open Go.RowKit

theorem hid {p : Prop} (h : p) : Hid p := h
/-- The hash of a text, as the program reckons it. -/
def hstep (h : Int) (c : UInt8) : Int := IntKind.u64.wrap (bits .xor .u64 h (IntKind.u64.wrap (c.toNat : Int)) * 1099511628211)
def hfold (s : ByteArray) (i : Nat) : Int := ((bytesOf s).take i).foldl hstep 14695981039346656037
theorem hfold_succ {s : ByteArray} {i : Nat} {c : UInt8} (h : (bytesOf s)[i]? = some c) : hfold s (i + 1) = hstep (hfold s i) c := by
  obtain ⟨hi, he⟩ := List.getElem?_eq_some_iff.1 h
  unfold hfold
  rw [List.take_succ_eq_append_getElem hi, List.foldl_append, he]
  rfl
theorem u64_wrap (x : Int) : 0 ≤ IntKind.u64.wrap x ∧ IntKind.u64.wrap x < 18446744073709551616 := by
  unfold IntKind.wrap
  simp [IntKind.signed, IntKind.bits]
  omega

/-- What the bits of a hash's end are. -/
def hmix (h : Int) : Int := bits .xor .u64 (IntKind.u64.wrap (bits .xor .u64 h (h / 4294967296) * 11400714819323198485)) (IntKind.u64.wrap (bits .xor .u64 h (h / 4294967296) * 11400714819323198485) / 4294967296)
def hsh (s : ByteArray) : Int := hmix (hfold s s.size)

set_option maxHeartbeats 1000000 in
set_option maxRecDepth 20000 in
theorem hash_any (s : ByteArray) (w : World) (hs : s.size ≤ 140737488355328) : Calls Try.prog 22 #[.string s] w fun e w' => e = .returned (.int .u64 (hsh s)) ∧ w' = w := by
  go_enter Try.func22, Try.ntmps22
  go_wp2
  go_loopw [3, 4, 7] (fun hv jv iv wr => ∃ i : Nat, i ≤ s.size ∧ iv = .int .i64 (i : Int) ∧ hv = .int .u64 (hfold s i) ∧ wr = w)
    (fun _ _ iv _ => s.size - (intOf iv).toNat)
  case atStart => exact ⟨0, Nat.zero_le _, rfl, rfl, rfl⟩
  case round =>
    obtain ⟨i, hi, rfl, rfl, hwr⟩ := hrel
    replace hwr := hwr.symm
    subst hwr
    rcases Nat.lt_or_ge i s.size with hlt | hge
    · have hlt' : (i : Int) < (s.size : Int) := by omega
      have HS : Hid (i < s.size ∧ hfold s (i + 1) = IntKind.u64.wrap (bits .xor .u64 (hfold s i) (IntKind.u64.wrap (s[i].toNat : Int)) * 1099511628211)) :=
        ⟨hlt, hfold_succ (by unfold bytesOf; rw [Array.getElem?_toList, Array.getElem?_eq_getElem (by exact hlt)]; rfl)⟩
      go_wp2
      go_roundw
      case rel => exact ⟨i + 1, HS.out.1, by go_num, by rw [HS.out.2], trivial⟩
      case measure => have := HS.out.1; simp [intOf]; omega
    · obtain rfl : i = s.size := by omega
      go_wp2
      go_ret
      exact ⟨rfl, rfl⟩

/-- The chain of a hash. -/
def chN (m : Nat) (h : Int) : Nat := (BitVec.ofInt 64 h &&& BitVec.ofInt 64 ((m : Int) - 1)).toNat
theorem chN_lt {m : Nat} (h : Int) (h0 : 0 < m) (h1 : m ≤ 1000000) : chN m h < m := by
  unfold chN
  rw [BitVec.toNat_and, show BitVec.ofInt 64 ((m : Int) - 1) = BitVec.ofNat 64 (m - 1) by rw [show ((m : Int) - 1) = ((m - 1 : Nat) : Int) by omega, BitVec.ofInt_natCast], BitVec.toNat_ofNat, Nat.mod_eq_of_lt (by omega)]
  exact Nat.lt_of_le_of_lt Nat.and_le_right (by omega)
theorem chN_bits {m : Nat} (h : Int) (h0 : 0 < m) (h1 : m ≤ 1000000) : bits .and .u64 h ((m : Int) - 1) = (chN m h : Int) := by
  have := chN_lt h h0 h1
  show IntKind.u64.wrap ((BitVec.ofInt 64 h &&& BitVec.ofInt 64 ((m : Int) - 1)).toNat : Int) = _
  show IntKind.u64.wrap (chN m h : Int) = _
  rw [IntKind.wrap_u64]
  omega

/-- What is held of a text. -/
def hcell (L : List ByteArray) (nx : Nat → Int) (i : Nat) : List Value := [.int .u64 (hsh (L[i]?.getD ⟨#[]⟩)), .int .i64 (offL L i : Int), .int .i64 (offL L (i + 1) : Int), .int .i64 (nx i)]
theorem hcell_length (L : List ByteArray) (nx : Nat → Int) (i : Nat) : (hcell L nx i).length = 4 := rfl
def pcell (hd : Nat → Int) (c : Nat) : List Value := [.int .i64 (hd c)]

/-- The store in memory; nx, hd: whatever numbers stand as what is next, and as heads. -/
structure SM (w : World) (b : Nat) (L : List ByteArray) (S R : Nat) (to : Option Addr) (tc : Nat) (ho : Option Addr) (hc : Nat) (po : Option Addr) (pc m : Nat) (nx hd : Nat → Int) : Prop where
  blk : w.heap[b]? = some (.cells #[.int .i64 (S : Int), .int .i64 (R : Int), .slice to (bytesIn L) tc, .slice ho L.length hc, .slice po m pc] 55 (0, 0))
  tx : w.ownsRow 0 5 1 (.slice to (bytesIn L) tc) (bytesIn L) (cellsOf (joinL L))
  hl : w.ownsRow 0 63 4 (.slice ho L.length hc) L.length (rowsC (hcell L nx) L.length)
  hp : w.ownsRow 0 3 1 (.slice po m pc) m (rowsC (pcell hd) m)
/-- The blocks of a store. -/
def SB (b : Nat) (to ho po : Option Addr) (x : Nat) : Prop := x = b ∨ (∃ a, to = some a ∧ a.block = x) ∨ (∃ a, ho = some a ∧ a.block = x) ∨ (∃ a, po = some a ∧ a.block = x)

theorem own_mv {S : Nat → Prop} {w w' : World} (hm : Mv S w w') {base : Nat} {e : TypeId} {size : Nat} {v : Value} {n : Nat} {xs : List Value} (h : w.ownsRow base e size v n xs) (hn : ∀ k, v.ownBlock = some k → ¬ S k) : w'.ownsRow base e size v n xs := by
  refine ⟨h.1, h.2.imp id fun ⟨g, cap, cur, hv, hb, hg, r⟩ => ⟨g, cap, cur, hv, hb, hm.heap hg (hn g (by rw [hv]; rfl)), r⟩⟩
theorem own_blk {ao : Option Addr} {n c k : Nat} (h : (Value.slice ao n c).ownBlock = some k) : ∃ a, ao = some a ∧ a.block = k := by
  cases ao with
  | none => simp [Value.ownBlock] at h
  | some a => exact ⟨a, rfl, by simpa [Value.ownBlock] using h⟩
theorem SM.mv {S' : Nat → Prop} {w w' : World} {b : Nat} {L : List ByteArray} {S R : Nat} {to : Option Addr} {tc : Nat} {ho : Option Addr} {hc : Nat} {po : Option Addr} {pc m : Nat} {nx hd : Nat → Int} (h : SM w b L S R to tc ho hc po pc m nx hd) (hm : Mv S' w w') (hS : ∀ x, SB b to ho po x → ¬ S' x) : SM w' b L S R to tc ho hc po pc m nx hd :=
  ⟨hm.heap h.blk (hS _ (.inl rfl)), own_mv hm h.tx (fun k hk => hS k (.inr (.inl (own_blk hk)))), own_mv hm h.hl (fun k hk => hS k (.inr (.inr (.inl (own_blk hk))))), own_mv hm h.hp (fun k hk => hS k (.inr (.inr (.inr (own_blk hk)))))⟩
theorem SM.nu {w w' : World} {b : Nat} {L : List ByteArray} {S R : Nat} {to : Option Addr} {tc : Nat} {ho : Option Addr} {hc : Nat} {po : Option Addr} {pc m : Nat} {nx hd : Nat → Int} (h : SM w b L S R to tc ho hc po pc m nx hd) (hm : Nu w w') : SM w' b L S R to tc ho hc po pc m nx hd := h.mv hm (fun _ _ => id)
theorem SM.blocks {w : World} {b : Nat} {L : List ByteArray} {S R : Nat} {to : Option Addr} {tc : Nat} {ho : Option Addr} {hc : Nat} {po : Option Addr} {pc m : Nat} {nx hd : Nat → Int} (h : SM w b L S R to tc ho hc po pc m nx hd) :
    (∀ a, to = some a → ∃ g cs, a = ⟨g, 0, none⟩ ∧ w.heap[g]? = some (.cells cs 5 (0, 0))) ∧ (∀ a, ho = some a → ∃ g cs, a = ⟨g, 0, none⟩ ∧ w.heap[g]? = some (.cells cs 63 (0, 0))) ∧ (∀ a, po = some a → ∃ g cs, a = ⟨g, 0, none⟩ ∧ w.heap[g]? = some (.cells cs 3 (0, 0))) := by
  refine ⟨fun a ha => ?_, fun a ha => ?_, fun a ha => ?_⟩
  · rcases h.tx.2 with ⟨hv, _⟩ | ⟨g, cap, cur, hv, _, hg, _⟩
    · simp [ha] at hv
    · simp only [ha, Value.slice.injEq, Option.some.injEq] at hv
      exact ⟨g, cur, hv.1, hg⟩
  · rcases h.hl.2 with ⟨hv, _⟩ | ⟨g, cap, cur, hv, _, hg, _⟩
    · simp [ha] at hv
    · simp only [ha, Value.slice.injEq, Option.some.injEq] at hv
      exact ⟨g, cur, hv.1, hg⟩
  · rcases h.hp.2 with ⟨hv, _⟩ | ⟨g, cap, cur, hv, _, hg, _⟩
    · simp [ha] at hv
    · simp only [ha, Value.slice.injEq, Option.some.injEq] at hv
      exact ⟨g, cur, hv.1, hg⟩
theorem SM.lt {w : World} {b : Nat} {L : List ByteArray} {S R : Nat} {to : Option Addr} {tc : Nat} {ho : Option Addr} {hc : Nat} {po : Option Addr} {pc m : Nat} {nx hd : Nat → Int} (h : SM w b L S R to tc ho hc po pc m nx hd) {x : Nat} (hx : SB b to ho po x) : x < w.heap.size := by
  obtain ⟨h1, h2, h3⟩ := h.blocks
  rcases hx with rfl | ⟨a, ha, rfl⟩ | ⟨a, ha, rfl⟩ | ⟨a, ha, rfl⟩
  · exact lt_of_block h.blk
  · obtain ⟨g, cs, rfl, hg⟩ := h1 a ha
    exact lt_of_block hg
  · obtain ⟨g, cs, rfl, hg⟩ := h2 a ha
    exact lt_of_block hg
  · obtain ⟨g, cs, rfl, hg⟩ := h3 a ha
    exact lt_of_block hg

/-- The cells of what is held of a text. -/
theorem SM.held {w : World} {b : Nat} {L : List ByteArray} {S R : Nat} {to : Option Addr} {tc : Nat} {ho : Option Addr} {hc : Nat} {po : Option Addr} {pc m : Nat} {nx hd : Nat → Int} (h : SM w b L S R to tc ho hc po pc m nx hd) {i : Nat} {s : ByteArray} (hi : L[i]? = some s) :
    ∃ g, ho = some ⟨g, 0, none⟩ ∧ w.cell? ⟨g, i * 4, none⟩ = some (.int .u64 (hsh s)) ∧ w.cell? ⟨g, i * 4 + 1, none⟩ = some (.int .i64 (offL L i : Int)) ∧ w.cell? ⟨g, i * 4 + 2, none⟩ = some (.int .i64 (offL L (i + 1) : Int)) ∧ w.cell? ⟨g, i * 4 + 3, none⟩ = some (.int .i64 (nx i)) ∧
      ∀ o, w.frozen? ⟨g, o, none⟩ = false := by
  have hlt := (List.getElem?_eq_some_iff.1 hi).1
  obtain ⟨g, cap, hv, _, _⟩ := h.hl.form (by omega)
  simp only [Value.slice.injEq] at hv
  obtain ⟨rfl, _, rfl⟩ := hv
  have hget := fun j hj => rowsC_get (f := hcell L nx) (k := 4) (n := L.length) (fun _ _ => rfl) i j hlt hj
  have hce := fun j (hj : j < 4) => h.hl.cells (g := g) rfl (i * 4 + j) ((hcell L nx i)[j]'(by rw [hcell_length]; exact hj)) (by rw [hget j hj, List.getElem?_eq_getElem])
  obtain ⟨g', cs, e1, e2⟩ := h.blocks.2.1 _ rfl
  cases e1
  refine ⟨g, rfl, ?_, ?_, ?_, ?_, fun o => free_blk e2 o⟩
  · have := hce 0 (by omega); rw [add_block, Nat.add_zero] at this; rw [this]; show some (Value.int .u64 (hsh (L[i]?.getD ⟨#[]⟩))) = _; rw [hi]; rfl
  · have := hce 1 (by omega); rw [add_block] at this; rw [this]; rfl
  · have := hce 2 (by omega); rw [add_block] at this; rw [this]; rfl
  · have := hce 3 (by omega); rw [add_block] at this; rw [this]; rfl
/-- A head. -/
theorem SM.head {w : World} {b : Nat} {L : List ByteArray} {S R : Nat} {to : Option Addr} {tc : Nat} {ho : Option Addr} {hc : Nat} {po : Option Addr} {pc m : Nat} {nx hd : Nat → Int} (h : SM w b L S R to tc ho hc po pc m nx hd) {c : Nat} (hlt : c < m) :
    ∃ g, po = some ⟨g, 0, none⟩ ∧ w.cell? ⟨g, c, none⟩ = some (.int .i64 (hd c)) ∧ ∀ o, w.frozen? ⟨g, o, none⟩ = false := by
  obtain ⟨g, cap, hv, _, _⟩ := h.hp.form (by omega)
  simp only [Value.slice.injEq] at hv
  obtain ⟨rfl, _, rfl⟩ := hv
  have hget := rowsC_get (f := pcell hd) (k := 1) (n := m) (fun _ _ => rfl) c 0 hlt (by omega)
  obtain ⟨g', cs, e1, e2⟩ := h.blocks.2.2 _ rfl
  cases e1
  refine ⟨g, rfl, ?_, fun o => free_blk e2 o⟩
  have := h.hp.cells (g := g) rfl (c * 1 + 0) (.int .i64 (hd c)) (by rw [hget]; rfl)
  rw [add_block] at this
  simpa using this
/-- The piece of memory that holds a text. -/
def pieceV (to : Option Addr) (tc : Nat) (L : List ByteArray) (i : Nat) : Value := sliced to (offL L i) (offL L (i + 1)) tc 1
theorem SM.cap {w : World} {b : Nat} {L : List ByteArray} {S R : Nat} {to : Option Addr} {tc : Nat} {ho : Option Addr} {hc : Nat} {po : Option Addr} {pc m : Nat} {nx hd : Nat → Int} (h : SM w b L S R to tc ho hc po pc m nx hd) : bytesIn L ≤ tc := by
  rcases h.tx.2 with ⟨hv, h0⟩ | ⟨g, cap, cur, hv, _, _, hle, _⟩
  · omega
  · simp only [Value.slice.injEq] at hv
    obtain ⟨_, _, rfl⟩ := hv
    exact hle
theorem SM.piece {w : World} {b : Nat} {L : List ByteArray} {S R : Nat} {to : Option Addr} {tc : Nat} {ho : Option Addr} {hc : Nat} {po : Option Addr} {pc m : Nat} {nx hd : Nat → Int} (h : SM w b L S R to tc ho hc po pc m nx hd) {i : Nat} {s : ByteArray} (hi : L[i]? = some s) :
    (convert 45 9 (pieceV to tc L i)).run Try.prog w = .ok (.string s) w := by
  have ho1 := offL_succ hi
  have hle := offL_le L (i + 1)
  unfold pieceV sliced
  by_cases h0 : s.size = 0
  · have hs : s = ⟨#[]⟩ := by
      cases s with
      | mk d =>
        congr 1
        exact Array.eq_empty_of_size_eq_zero h0
    have hz : offL L (i + 1) - offL L i = 0 := by omega
    rw [hz]
    subst hs
    cases (if tc = offL L i then to else to.map (·.add (offL L i * 1))) with
    | none => exact run_convert_bytes_nil w 45 5 Try.underlying45 Try.underlying5 _ _ 9 Try.underlying9
    | some a => exact run_convert_bytes_back w 45 9 5 a _ [] Try.underlying45 Try.underlying5 Try.underlying9 (fun j hj => absurd hj (Nat.not_lt_zero _))
  · have hlen : 0 < bytesIn L := by omega
    obtain ⟨g, cap, hv, _, _⟩ := h.tx.form hlen
    simp only [Value.slice.injEq] at hv
    obtain ⟨rfl, _, rfl⟩ := hv
    have hcap := h.cap
    rw [if_neg (by omega)]
    simp only [Option.map_some, Nat.mul_one, add_block]
    have hbk := run_convert_bytes_back w 45 9 5 ⟨g, offL L i, none⟩ (tc - offL L i) (bytesOf s) Try.underlying45 Try.underlying5 Try.underlying9 (fun j hj => by
      have hj' : j < s.size := by rw [bytesOf_length] at hj; exact hj
      have hg := joinL_get hi hj'
      rw [List.getElem?_eq_getElem hj] at hg
      have := h.tx.cells (g := g) rfl (offL L i + j) (.int .u8 ((bytesOf s)[j].toNat : Int)) (by
        unfold cellsOf
        rw [List.getElem?_map, hg]
        rfl)
      rw [add_block] at this
      rw [show (⟨g, offL L i, none⟩ : Addr).add j = ⟨g, offL L i + j, none⟩ by unfold Addr.add; split <;> simp_all]
      exact this)
    rw [bytesOf_length] at hbk
    rw [show offL L (i + 1) - offL L i = s.size by omega, hbk]
    rfl

end Go.Proofs.Ytmpbganbhoknpaa
