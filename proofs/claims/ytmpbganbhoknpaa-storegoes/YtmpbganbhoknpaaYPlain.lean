/-
  A store as a list of texts: what is put, found, asked for; plain; nothing of the program. And what the statements ask of the program's functions (SCons).
-/
import Derived.Test.YtmpbganbhoknpaaNKit
import Derived.Test.YtmpbganbhoknpaaRows
import Derived.Below
import Derived.WalkKit
import Derived.WalkSpells
import Derived.WalkLawsBesides
import Derived.Deep.QuietTactic
import Derived.Deep.Cut
import Derived.BigQuiet
namespace Go.Proofs.Ytmpbganbhoknpaa
open Go.RowKit

/-- How many bytes texts have together. -/
def bytesIn : List ByteArray → Nat
  | [] => 0
  | s :: r => s.size + bytesIn r
theorem bytesIn_append (a b : List ByteArray) : bytesIn (a ++ b) = bytesIn a + bytesIn b := by
  induction a with
  | nil => simp [bytesIn]
  | cons s r ih => rw [List.cons_append, bytesIn, bytesIn, ih]; omega

/-- The number of a text, and whether it is there. -/
def fnd : List ByteArray → ByteArray → Nat × Bool
  | [], _ => (0, false)
  | x :: r, s => if x = s then (0, true) else (if (fnd r s).2 then ((fnd r s).1 + 1, true) else (0, false))

theorem fnd_yes {L : List ByteArray} {s : ByteArray} (h : s ∈ L) : (fnd L s).2 = true := by
  induction L with
  | nil => cases h
  | cons x r ih =>
    unfold fnd
    split
    · rfl
    · rename_i hx
      have : s ∈ r := (List.mem_cons.1 h).resolve_left (fun e => hx e.symm)
      rw [if_pos (ih this)]
theorem fnd_no {L : List ByteArray} {s : ByteArray} (h : s ∉ L) : fnd L s = (0, false) := by
  induction L with
  | nil => rfl
  | cons x r ih =>
    unfold fnd
    rw [if_neg (fun e => h (by rw [e]; simp)), ih (fun hm => h (List.mem_cons_of_mem _ hm))]
    rfl
theorem fnd_lt {L : List ByteArray} {s : ByteArray} (h : s ∈ L) : (fnd L s).1 < L.length := by
  induction L with
  | nil => cases h
  | cons x r ih =>
    unfold fnd
    split
    · simp
    · rename_i hx
      have hm : s ∈ r := (List.mem_cons.1 h).resolve_left (fun e => hx e.symm)
      rw [if_pos (fnd_yes hm)]
      have := ih hm
      simp only [List.length_cons]
      omega
theorem fnd_iff {L : List ByteArray} {s : ByteArray} : (fnd L s).2 = true ↔ s ∈ L := by
  refine ⟨fun h => ?_, fnd_yes⟩
  rcases Classical.em (s ∈ L) with hm | hm
  · exact hm
  · rw [fnd_no hm] at h; cases h
/-- Where all are unlike, the text at a place has that number. -/
theorem fnd_at {L : List ByteArray} (hn : L.Nodup) {i : Nat} (hi : i < L.length) : fnd L L[i] = (i, true) := by
  induction L generalizing i with
  | nil => simp at hi
  | cons x r ih =>
    obtain ⟨hx, hr⟩ := List.nodup_cons.1 hn
    cases i with
    | zero => unfold fnd; exact if_pos rfl
    | succ i =>
      have hi' : i < r.length := by simpa using hi
      have hne : ¬ x = r[i] := fun e => hx (e ▸ List.getElem_mem hi')
      unfold fnd
      rw [List.getElem_cons_succ, if_neg hne, ih hr hi']
      rfl

/-- What Put answers: the number, whether it is new, the error; and the texts behind it. -/
def putS (S R : Nat) (L : List ByteArray) (s : ByteArray) : (Nat × Bool × Nat) × List ByteArray :=
  if (fnd L s).2 = true then (((fnd L s).1, false, 0), L)
  else if S ≤ L.length ∨ R < bytesIn L + s.size then ((0, false, 190), L)
  else ((L.length, true, 0), L ++ [s])

/-- What Get answers. -/
def getS (L : List ByteArray) (n : Int) : ByteArray × Bool := if 0 ≤ n then (match L[n.toNat]? with | some s => (s, true) | none => (⟨#[]⟩, false)) else (⟨#[]⟩, false)

/-- What may be known of a store between calls. -/
structure Fine (S R : Nat) (L : List ByteArray) : Prop where
  nodup : L.Nodup
  len : L.length ≤ S
  room : bytesIn L ≤ R

theorem Fine.nil (S R : Nat) : Fine S R [] := ⟨List.nodup_nil, Nat.zero_le _, Nat.zero_le _⟩
theorem Fine.put {S R : Nat} {L : List ByteArray} (h : Fine S R L) (s : ByteArray) : Fine S R (putS S R L s).2 := by
  unfold putS
  split
  · exact h
  · rename_i hs
    split
    · exact h
    · rename_i hr
      refine ⟨?_, ?_, ?_⟩
      · show (L ++ [s]).Nodup
        rw [List.nodup_append]
        exact ⟨h.nodup, List.pairwise_singleton _ _, fun a ha b hb e => hs (fnd_yes (by rw [List.mem_singleton.1 hb] at e; exact e ▸ ha))⟩
      · show (L ++ [s]).length ≤ S
        rw [List.length_append]; simp; omega
      · show bytesIn (L ++ [s]) ≤ R
        rw [bytesIn_append]; simp [bytesIn]; omega

/-- Of what was there only blocks of F may have changed. -/
structure OnlyF (F : Nat → Prop) (w w' : World) : Prop where
  os : w'.os = w.os
  tape : w'.tape = w.tape
  output : w'.output = w.output
  size : w.heap.size ≤ w'.heap.size
  block : ∀ x, x < w.heap.size → ¬ F x → w'.heap[x]? = w.heap[x]?

theorem OnlyF.below {F : Nat → Prop} {w w' : World} {B : Nat} (h : OnlyF F w w') (hB : B ≤ w.heap.size) (hF : ∀ x, F x → B ≤ x) : Below B w w' :=
  ⟨h.os, h.tape, h.output, h.size, fun k hk => h.block k (by omega) (fun hf => by have := hF k hf; omega)⟩
theorem OnlyF.keep {F G : Nat → Prop} {w w' : World} (h : OnlyF F w w') (hG : ∀ x, G x → x < w.heap.size ∧ ¬ F x) : KeepF G w w' := ⟨h.size, fun x hx => h.block x (hG x hx).1 (hG x hx).2⟩
theorem OnlyF.heap {F : Nat → Prop} {w w' : World} (h : OnlyF F w w') {k : Nat} {o : Obj} (ho : w.heap[k]? = some o) (hn : ¬ F k) : w'.heap[k]? = some o := (h.block k (Array.getElem?_eq_some_iff.1 ho).1 hn).trans ho
theorem keepF_of_below {F : Nat → Prop} {w w' : World} {B : Nat} (h : Below B w w') (hF : ∀ x, F x → x < B) : KeepF F w w' := ⟨h.size, fun x hx => h.block x (hF x hx)⟩

/-- The contracts of the program's functions; St F w b L S R: in the world w the store at block b, in the blocks F, holds the texts L and has room for S texts and R bytes. -/
structure SCons (St : (Nat → Prop) → World → Nat → List ByteArray → Nat → Nat → Prop) : Prop where
  frame : ∀ F w w' b L S R, St F w b L S R → KeepF F w w' → St F w' b L S R
  lt : ∀ F w b L S R, St F w b L S R → ∀ x, F x → x < w.heap.size
  new : ∀ (w : World) (s r : Int), -9223372036854775808 ≤ s → s ≤ 9223372036854775807 → -9223372036854775808 ≤ r → r ≤ 9223372036854775807 →
    Calls Try.prog 7 #[.int .i64 s, .int .i64 r] w fun e w' => ∃ b F, e = .returned (.pointer (some ⟨b, 0, none⟩)) ∧ St F w' b [] s.toNat r.toNat ∧ (∀ x, F x → w.heap.size ≤ x) ∧ Below w.heap.size w w'
  put : ∀ (w : World) F b L S R (s : ByteArray), St F w b L S R → Fine S R L → L.length ≤ 4000 → bytesIn L + s.size ≤ 140737488355328 → (R : Int) ≤ 9223372036854775807 → (S : Int) ≤ 9223372036854775807 →
    Calls Try.prog 11 #[.pointer (some ⟨b, 0, none⟩), .string s] w fun e w' => ∃ F', e = .returned (.tuple #[.int .i64 ((putS S R L s).1.1 : Int), .bool (putS S R L s).1.2.1, .int .i64 ((putS S R L s).1.2.2 : Int)]) ∧ St F' w' b (putS S R L s).2 S R ∧ (∀ x, F' x → F x ∨ w.heap.size ≤ x) ∧ OnlyF F w w'
  find : ∀ (w : World) F b L S R (s : ByteArray), St F w b L S R → Fine S R L → L.length ≤ 4000 → bytesIn L ≤ 140737488355328 → s.size ≤ 140737488355328 →
    Calls Try.prog 13 #[.pointer (some ⟨b, 0, none⟩), .string s] w fun e w' => e = .returned (.tuple #[.int .i64 ((fnd L s).1 : Int), .bool (fnd L s).2]) ∧ Below w.heap.size w w'
  get : ∀ (w : World) F b L S R (n : Int), St F w b L S R → Fine S R L → L.length ≤ 4000 → bytesIn L ≤ 140737488355328 → -9223372036854775808 ≤ n → n ≤ 9223372036854775807 →
    Calls Try.prog 15 #[.pointer (some ⟨b, 0, none⟩), .int .i64 n] w fun e w' => e = .returned (.tuple #[.string (getS L n).1, .bool (getS L n).2]) ∧ Below w.heap.size w w'
  len : ∀ (w : World) F b L S R, St F w b L S R → Fine S R L → L.length ≤ 4000 → Calls Try.prog 17 #[.pointer (some ⟨b, 0, none⟩)] w fun e w' => e = .returned (.int .i64 (L.length : Int)) ∧ w' = w
  bytes : ∀ (w : World) F b L S R, St F w b L S R → Fine S R L → L.length ≤ 4000 → (R : Int) ≤ 9223372036854775807 → Calls Try.prog 18 #[.pointer (some ⟨b, 0, none⟩)] w fun e w' => e = .returned (.int .i64 (bytesIn L : Int)) ∧ w' = w
  putN : ∀ (w : World) (s : ByteArray), Calls Try.prog 11 #[.pointer none, .string s] w fun e w' => e = .returned (.tuple #[.int .i64 0, .bool false, .int .i64 1]) ∧ Below w.heap.size w w'
  findN : ∀ (w : World) (s : ByteArray), Calls Try.prog 13 #[.pointer none, .string s] w fun e w' => e = .returned (.tuple #[.int .i64 0, .bool false]) ∧ Below w.heap.size w w'
  getN : ∀ (w : World) (n : Int), Calls Try.prog 15 #[.pointer none, .int .i64 n] w fun e w' => e = .returned (.tuple #[.string ⟨#[]⟩, .bool false]) ∧ Below w.heap.size w w'
  lenN : ∀ (w : World), Calls Try.prog 17 #[.pointer none] w fun e w' => e = .returned (.int .i64 0) ∧ w' = w
  bytesN : ∀ (w : World), Calls Try.prog 18 #[.pointer none] w fun e w' => e = .returned (.int .i64 0) ∧ w' = w

end Go.Proofs.Ytmpbganbhoknpaa
