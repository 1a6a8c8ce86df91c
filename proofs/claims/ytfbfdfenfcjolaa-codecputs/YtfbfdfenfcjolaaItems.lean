/-
  What is put, one after the other: items in memory, and their bytes; nothing of the program's text.
-/
import Derived.Test.YtfbfdfenfcjolaaPick
import Derived.Test.YtfbfdfenfcjolaaCodec
namespace Go.Proofs.Ytfbfdfenfcjolaa
open Go.RowKit

/-- Something that is put: which kind, a number, a size, a text. -/
structure Item where
  kind : Int
  n : Nat
  size : Int
  text : ByteArray

instance : Inhabited Item := ⟨⟨0, 0, 0, ByteArray.empty⟩⟩

/-- What its fields may hold. -/
structure Item.Ok (x : Item) : Prop where
  k0 : -9223372036854775808 ≤ x.kind
  k1 : x.kind ≤ 9223372036854775807
  n1 : (x.n : Int) < 18446744073709551616
  s0 : -9223372036854775808 ≤ x.size
  s1 : x.size ≤ 9223372036854775807
  t1 : x.text.size ≤ 140737488351232

/-- The item at an address. -/
structure ItemAt (w : World) (b o : Nat) (x : Item) : Prop where
  c0 : w.cell? ⟨b, o, none⟩ = some (.int .i64 x.kind)
  c1 : w.cell? ⟨b, o + 1, none⟩ = some (.int .u64 (x.n : Int))
  c2 : w.cell? ⟨b, o + 2, none⟩ = some (.int .i64 x.size)
  c3 : w.cell? ⟨b, o + 3, none⟩ = some (.string x.text)
  ok : x.Ok

theorem ItemAt.below {w w' : World} {b o B : Nat} {x : Item} (h : ItemAt w b o x) (hb : Below B w w') (hlt : b < B) : ItemAt w' b o x :=
  ⟨(hb.cell (p := ⟨b, o, none⟩) hlt).trans h.c0, (hb.cell (p := ⟨b, o + 1, none⟩) hlt).trans h.c1, (hb.cell (p := ⟨b, o + 2, none⟩) hlt).trans h.c2, (hb.cell (p := ⟨b, o + 3, none⟩) hlt).trans h.c3, h.ok⟩

/-- A slice of items: none of them, or all of them one behind the other, in memory that is older than B. -/
structure ItemsAt (w : World) (B : Nat) (ao : Option Addr) (len : Nat) (I : Nat → Item) : Prop where
  lim : (len : Int) ≤ 140737488351232
  at' : len = 0 ∨ ∃ b off, ao = some ⟨b, off, none⟩ ∧ b < B ∧ ∀ i, i < len → ItemAt w b (off + i * 4) (I i)

theorem ItemsAt.below {w w' : World} {B : Nat} {ao : Option Addr} {len : Nat} {I : Nat → Item} (h : ItemsAt w B ao len I) (hb : Below B w w') : ItemsAt w' B ao len I :=
  ⟨h.lim, h.at'.imp id fun ⟨b, off, ha, hlt, hi⟩ => ⟨b, off, ha, hlt, fun i h => (hi i h).below hb hlt⟩⟩

/-- An item's bytes, by its kind. -/
def itemBytes (x : Item) : List UInt8 :=
  if pickN x.kind 4 = 0 then encU x.n else if pickN x.kind 4 = 1 then encU (foldN (wrap64 x.n)) else if pickN x.kind 4 = 2 then fixedN 8 x.n else textN x.text

/-- The bytes of the first i items. -/
def allBytes (I : Nat → Item) (i : Nat) : List UInt8 := (List.range i).flatMap fun j => itemBytes (I j)
theorem allBytes_zero (I : Nat → Item) : allBytes I 0 = [] := rfl
theorem allBytes_succ (I : Nat → Item) (i : Nat) : allBytes I (i + 1) = allBytes I i ++ itemBytes (I i) := by simp [allBytes, List.range_succ]

theorem wrap_lo (n : Int) : -9223372036854775808 ≤ wrap64 n := by unfold wrap64; omega
theorem wrap_hi (n : Int) : wrap64 n ≤ 9223372036854775807 := by unfold wrap64; omega

theorem itemBytes_le {x : Item} (h : x.Ok) : (itemBytes x).length ≤ x.text.size + 10 := by
  have hn := h.n1
  have ht := h.t1
  unfold itemBytes
  split
  · have := encU_ten (n := x.n) (by omega); omega
  · split
    · have := foldN_lt (wrap_lo x.n) (wrap_hi x.n)
      have := encU_ten (n := foldN (wrap64 x.n)) (by omega); omega
    · split
      · rw [fixedN_length]; omega
      · have := encU_ten (n := x.text.size) (by omega)
        unfold textN
        rw [List.length_append, bytesOf_length]; omega

/-- What putting an item is answered, and what it leaves. -/
def PutOk (w : World) (bb : Nat) (ab : Option Addr) (bs : List UInt8) (x : Item) (e : Ending) (w' : World) : Prop :=
  e = .returned (.int .i64 (putCode 16777216 bs (itemBytes x))) ∧ PutsTo w w' bb ab bs (itemBytes x) 16777216

theorem put_kind0 (w : World) {bb : Nat} {ab : Option Addr} {cb : Nat} {bs : List UInt8} (h : BufIs 70 w bb ab cb bs 16777216) (x : Item) (hx : x.Ok) (hk : pickN x.kind 4 = 0) :
    Calls Try.prog 30 #[.pointer (some ⟨bb, 0, none⟩), .int .u64 (x.n : Int)] w (PutOk w bb ab bs x) := by
  have e : itemBytes x = encU x.n := by unfold itemBytes; rw [if_pos hk]
  unfold PutOk
  rw [e]
  exact bUint_any x.n w hx.n1 h

theorem put_kind1 (w : World) {bb : Nat} {ab : Option Addr} {cb : Nat} {bs : List UInt8} (h : BufIs 70 w bb ab cb bs 16777216) (x : Item) (hk : pickN x.kind 4 = 1) :
    Calls Try.prog 31 #[.pointer (some ⟨bb, 0, none⟩), .int .i64 (wrap64 (x.n : Int))] w (PutOk w bb ab bs x) := by
  have e : itemBytes x = encU (foldN (wrap64 x.n)) := by unfold itemBytes; rw [if_neg (by omega), if_pos hk]
  unfold PutOk
  rw [e]
  exact bInt_any _ w (wrap_lo _) (wrap_hi _) h

theorem put_kind2 (w : World) {bb : Nat} {ab : Option Addr} {cb : Nat} {bs : List UInt8} (h : BufIs 70 w bb ab cb bs 16777216) (x : Item) (hx : x.Ok) (hk : pickN x.kind 4 = 2) :
    Calls Try.prog 32 #[.pointer (some ⟨bb, 0, none⟩), .int .u64 (x.n : Int), .int .i64 8] w (PutOk w bb ab bs x) := by
  have e : itemBytes x = fixedN 8 x.n := by unfold itemBytes; rw [if_neg (by omega), if_neg (by omega), if_pos hk]
  unfold PutOk
  rw [e]
  have hz : (x.n : Int) / 2 ^ (8 * 8) = 0 := by
    rw [show (2 : Int) ^ (8 * 8) = 18446744073709551616 from rfl]
    exact Int.ediv_eq_zero_of_lt (by omega) hx.n1
  exact bFixed_any x.n 8 w (by decide) (by rw [hz]; rfl) h

theorem put_kind3 (w : World) {bb : Nat} {ab : Option Addr} {cb : Nat} {bs : List UInt8} (h : BufIs 70 w bb ab cb bs 16777216) (x : Item) (hx : x.Ok) (hk : pickN x.kind 4 = 3) :
    Calls Try.prog 33 #[.pointer (some ⟨bb, 0, none⟩), .string x.text] w (PutOk w bb ab bs x) := by
  have e : itemBytes x = textN x.text := by unfold itemBytes; rw [if_neg (by omega), if_neg (by omega), if_neg (by omega)]
  unfold PutOk
  rw [e]
  exact bText_any x.text w (by have := hx.t1; omega) h

theorem allBytes_more (I : Nat → Item) (j : Nat) : ∀ d, ∃ t, allBytes I (j + d) = allBytes I j ++ t
  | 0 => ⟨[], by simp⟩
  | d + 1 => by
    obtain ⟨t, ht⟩ := allBytes_more I j d
    exact ⟨t ++ itemBytes (I (j + d)), by rw [← Nat.add_assoc, allBytes_succ, ht, List.append_assoc]⟩

/-- All that was put, as a text. -/
def whole (I : Nat → Item) (len : Nat) : ByteArray := ⟨(allBytes I len).toArray⟩
theorem whole_size (I : Nat → Item) (len : Nat) : (whole I len).size = (allBytes I len).length := by
  show (allBytes I len).toArray.size = _
  simp
theorem whole_bytes (I : Nat → Item) (len : Nat) : bytesOf (whole I len) = allBytes I len := rfl

theorem whole_drop (I : Nat → Item) {i len : Nat} (h : i < len) : ∃ t, (bytesOf (whole I len)).drop (allBytes I i).length = itemBytes (I i) ++ t ∧ (whole I len).size = (allBytes I i).length + ((itemBytes (I i)).length + t.length) := by
  obtain ⟨t, ht⟩ := allBytes_more I (i + 1) (len - (i + 1))
  rw [show i + 1 + (len - (i + 1)) = len by omega, allBytes_succ, List.append_assoc] at ht
  refine ⟨t, ?_, ?_⟩
  · rw [whole_bytes, ht, List.drop_left]
  · rw [whole_size, ht]; simp

theorem read_kind0 (I : Nat → Item) {i len : Nat} (h : i < len) (hx : (I i).Ok) (hk : pickN (I i).kind 4 = 0) : numAt (whole I len) (allBytes I i).length = ((I i).n, (itemBytes (I i)).length, 0) := by
  obtain ⟨t, ht, _⟩ := whole_drop I h
  have e : itemBytes (I i) = encU (I i).n := by unfold itemBytes; rw [if_pos hk]
  have hn := hx.n1
  unfold numAt
  rw [ht, e, decU_enc _ (by omega)]

theorem read_kind1 (I : Nat → Item) {i len : Nat} (h : i < len) (hk : pickN (I i).kind 4 = 1) : numAt (whole I len) (allBytes I i).length = (foldN (wrap64 (I i).n), (itemBytes (I i)).length, 0) := by
  obtain ⟨t, ht, _⟩ := whole_drop I h
  have e : itemBytes (I i) = encU (foldN (wrap64 (I i).n)) := by unfold itemBytes; rw [if_neg (by omega), if_pos hk]
  have hn := foldN_lt (wrap_lo (I i).n) (wrap_hi (I i).n)
  unfold numAt
  rw [ht, e, decU_enc _ (by omega)]

theorem read_kind2 (I : Nat → Item) {i len : Nat} (h : i < len) (hx : (I i).Ok) (hk : pickN (I i).kind 4 = 2) :
    fixVal (((bytesOf (whole I len)).drop (allBytes I i).length).take 8) = (I i).n ∧ (itemBytes (I i)).length = 8 ∧ 8 ≤ (whole I len).size - (allBytes I i).length := by
  obtain ⟨t, ht, hs⟩ := whole_drop I h
  have e : itemBytes (I i) = fixedN 8 (I i).n := by unfold itemBytes; rw [if_neg (by omega), if_neg (by omega), if_pos hk]
  have hl : (fixedN 8 (I i).n).length = 8 := fixedN_length _ _
  have hn := hx.n1
  rw [e, hl] at hs
  refine ⟨?_, by rw [e, hl], by omega⟩
  rw [ht, e]
  have h8 : (fixedN 8 (I i).n ++ t).take 8 = fixedN 8 (I i).n := by
    have := List.take_left (l₁ := fixedN 8 (I i).n) (l₂ := t)
    rwa [hl] at this
  rw [h8, fixVal_fixed]
  apply Nat.mod_eq_of_lt
  rw [show (2 ^ (8 * 8) : Nat) = 18446744073709551616 from rfl]
  omega

theorem read_kind3 (I : Nat → Item) {i len : Nat} (h : i < len) (hx : (I i).Ok) (hk : pickN (I i).kind 4 = 3) :
    textAt (whole I len) (allBytes I i).length (I i).text.size = ((I i).text, (itemBytes (I i)).length, 0) := by
  obtain ⟨t, ht, hs⟩ := whole_drop I h
  have e : itemBytes (I i) = encU (I i).text.size ++ bytesOf (I i).text := by
    unfold itemBytes; rw [if_neg (by omega), if_neg (by omega), if_neg (by omega)]; rfl
  have hn := hx.t1
  have hl : (itemBytes (I i)).length = (encU (I i).text.size).length + (I i).text.size := by rw [e, List.length_append, bytesOf_length]
  have hnum : numAt (whole I len) (allBytes I i).length = ((I i).text.size, (encU (I i).text.size).length, 0) := by
    unfold numAt
    rw [ht, e, List.append_assoc, decU_enc _ (by omega)]
  unfold textAt
  rw [hnum]
  simp only [if_true]
  rw [if_neg (by omega), if_neg (by omega), hl]
  refine Prod.ext ?_ rfl
  show (whole I len).extract ((allBytes I i).length + (encU (I i).text.size).length) ((allBytes I i).length + (encU (I i).text.size).length + (I i).text.size) = (I i).text
  apply ByteArray.ext
  apply Array.ext'
  rw [Lib.extract_data]
  have e2 : (whole I len).data.toList.drop ((allBytes I i).length + (encU (I i).text.size).length) = bytesOf (I i).text ++ t := by
    have := congrArg (List.drop (encU (I i).text.size).length) ht
    rw [e, List.append_assoc, List.drop_left, List.drop_drop] at this
    exact this
  rw [e2, Nat.add_sub_cancel_left, ← bytesOf_length, List.take_left]
  rfl

end Go.Proofs.Ytfbfdfenfcjolaa
