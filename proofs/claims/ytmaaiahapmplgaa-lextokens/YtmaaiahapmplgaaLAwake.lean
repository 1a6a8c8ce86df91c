/-
  What the statements' own first check does: the words of one text, cut as the document says: it answers true.
-/
import Derived.Test.YtmaaiahapmplgaaLTokens
namespace Go.Proofs.Ytmaaiahapmplgaa
open Go.RowKit

def sample : List UInt8 := [112, 114, 111, 99, 116, 121, 112, 101, 32, 80, 49, 40, 41, 32, 123, 32, 113, 33, 33, 120, 32, 47, 42, 32, 97, 32, 42, 47, 32, 125]
def sampleToks : List Tok := [⟨4, [112, 114, 111, 99, 116, 121, 112, 101], 0, 0⟩, ⟨1, [80, 49], 0, 9⟩, ⟨4, [40], 0, 11⟩, ⟨4, [41], 0, 12⟩, ⟨4, [123], 0, 14⟩, ⟨1, [113], 0, 16⟩, ⟨4, [33, 33], 0, 17⟩, ⟨1, [120], 0, 19⟩, ⟨4, [125], 0, 29⟩]
set_option maxRecDepth 100000 in
theorem sample_toks : tokens sample = .ok sampleToks := by kernel_rfl

theorem add_at (g k : Nat) : (⟨g, 0, none⟩ : Addr).add k = ⟨g, k, none⟩ := by unfold Addr.add; split <;> simp_all

theorem row_at {W : World} {base : Nat} {e : TypeId} {size : Nat} {g n cap : Nat} {xs : List Value} (h : W.ownsRow base e size (.slice (some ⟨g, 0, none⟩) n cap) n xs) (j : Nat) (u : Value) (hu : xs[j]? = some u) : W.cell? ⟨g, j, none⟩ = some u := by
  have := h.cells rfl j u hu
  rwa [add_at] at this

set_option maxHeartbeats 4000000 in
set_option maxRecDepth 100000 in
theorem awake_any (w : World) (hG : G w) : Calls Try.prog 9 #[] w fun e w' => e = .returned (.bool true) ∧ Kept [] w w' := by
  have HT : Hid (∀ w, G w → Calls Try.prog 10 #[.string ⟨#[112, 114, 111, 99, 116, 121, 112, 101, 32, 80, 49, 40, 41, 32, 123, 32, 113, 33, 33, 120, 32, 47, 42, 32, 97, 32, 42, 47, 32, 125]⟩] w (TokOut 33 w (.ok sampleToks))) := fun w hG => by
    have := Tokens_any ⟨#[112, 114, 111, 99, 116, 121, 112, 101, 32, 80, 49, 40, 41, 32, 123, 32, 113, 33, 33, 120, 32, 47, 42, 32, 97, 32, 42, 47, 32, 125]⟩ w hG
    rw [show bytesOf ⟨#[112, 114, 111, 99, 116, 121, 112, 101, 32, 80, 49, 40, 41, 32, 123, 32, 113, 33, 33, 120, 32, 47, 42, 32, 97, 32, 42, 47, 32, 125]⟩ = sample from rfl, sample_toks] at this
    exact this
  go_enter Try.func9, Try.ntmps9
  go_wp2_with (first
    | (go_at_call 10; refine (HT.out _ hG).mono ?_; rintro e w1 ⟨v, rfl, hrow, hk⟩; obtain ⟨g, cap, rfl, _, hg⟩ := hrow.form (by decide); have c0 := row_at hrow 0 (.int .i64 4) rfl; have c4 := row_at hrow 4 (.int .i64 1) rfl; have c25 := row_at hrow 25 (.string ⟨#[33, 33]⟩) rfl; have c31 := row_at hrow 31 (.int .i64 19) rfl; have hln : sampleToks.length = 9 := rfl; rw [hln]))
  go_ret
  exact ⟨rfl, hk.trans (Kept.alloc [] _ _) (by simp)⟩

end Go.Proofs.Ytmaaiahapmplgaa
