/-
  LBase.
-/
import Derived.Lib.IndexMore
import Derived.Test.YthmdgbmodgfcmaaGreatDoorM10
import Derived.Test.YthmdgbmodgfcmaaGreatDoorM3
/-
  Texts as lists of bytes; the package-level number that the library's search reads; copies.
-/
namespace Go.Proofs.YthmdgbmodgfcmaaGreatDoor
open Go.RowKit

def bytesOf (s : ByteArray) : List UInt8 := s.data.toList
theorem bytesOf_length (s : ByteArray) : (bytesOf s).length = s.size := by unfold bytesOf; rw [Array.length_toList]; rfl
def strL (l : List UInt8) : ByteArray := ⟨l.toArray⟩
theorem bytesOf_strL (l : List UInt8) : bytesOf (strL l) = l := by simp [bytesOf, strL]
theorem strL_bytesOf (s : ByteArray) : strL (bytesOf s) = s := by cases s; simp [bytesOf, strL]
theorem strL_size (l : List UInt8) : (strL l).size = l.length := by rw [← bytesOf_length, bytesOf_strL]
theorem toList_bytes (s : ByteArray) : s.toList = bytesOf s := Lib.toList_data s

theorem extract_eq (s : ByteArray) (a b : Nat) : s.extract a b = strL (((bytesOf s).take b).drop a) := by
  rw [← strL_bytesOf (s.extract a b)]
  congr 1
  simp [bytesOf, List.drop_take]

theorem bytes_extract (s : ByteArray) (a b : Nat) : bytesOf (s.extract a b) = ((bytesOf s).take b).drop a := by rw [extract_eq, bytesOf_strL]
theorem bytes_tail (s : ByteArray) (a : Nat) : bytesOf (s.extract a s.size) = (bytesOf s).drop a := by
  rw [bytes_extract, List.take_of_length_le (by rw [bytesOf_length]; exact Nat.le_refl _)]

theorem drop_at (s : ByteArray) (k : Nat) (h : k < s.size) : (bytesOf s).drop k = s[k] :: (bytesOf s).drop (k + 1) := by
  rw [List.drop_eq_getElem_cons (by rw [bytesOf_length]; exact h)]
  simp [bytesOf]; rfl

/-- The library's package-level number holds some number. -/
def G (w : World) : Prop := ∃ m, w.cell? ⟨0, 0, none⟩ = some (.int .i64 m)

theorem G.kept {w w' : World} (h : G w) (hk : Kept [] w w') : G w' := by
  obtain ⟨m, hm⟩ := h
  refine ⟨m, ?_⟩
  have hlt := block_lt_of_cell hm
  have := hk.block 0 hlt (by simp)
  unfold World.cell? at hm ⊢
  simp only at hm ⊢
  rw [this]
  exact hm

set_option maxHeartbeats 400000 in
theorem Clone_any (s : ByteArray) (w : World) (hs : s.size ≤ 281474976710656) :
    Calls Tryz.prog 111 #[.string s] w fun e w' => e = .returned (.string s) ∧ Kept [] w w' := by
  go_enter Tryz.func111, Tryz.ntmps111
  go_wp2_with (go_at_call 129; refine (Tryz.stringslite_Clone _ _ hs).mono ?_; rintro e w1 ⟨rfl, hb⟩)
  go_ret
  exact ⟨rfl, Kept.of_below hb⟩

end Go.Proofs.YthmdgbmodgfcmaaGreatDoor
