/-
  What is known between two rounds of the range of StoreGoes.
-/
import Derived.Test.YtmpbganbhoknpaaYGRange
import Derived.Test.YtmpbganbhoknpaaYGPut
set_option linter.unusedVariables false
set_option linter.unusedSimpArgs false
namespace Go.Proofs.Ytmpbganbhoknpaa
open Go.RowKit

/-- What is put in the round k. -/
def moreT (k : Nat) : ByteArray := ⟨#[109, 111, 114, 101, 32, 116, 104, 97, 110, 32, 116, 104, 101, 114, 101, 32, 105, 115, 58, 32, UInt8.ofNat k]⟩
/-- The texts behind k rounds. -/
def LfG (L0 : List ByteArray) (x : Int) : Nat → List ByteArray
  | 0 => L0
  | k + 1 => if ((k : Int) + 1) ≤ x then (putS 1000 1073741824 (LfG L0 x k) (moreT (k + 1))).2 else LfG L0 x k
theorem putS_lens (S R : Nat) (L : List ByteArray) (s : ByteArray) : L.length ≤ (putS S R L s).2.length ∧ (putS S R L s).2.length ≤ L.length + 1 := by
  unfold putS
  split
  · simp
  · split <;> simp
theorem LfG_fine {L0 : List ByteArray} {x : Int} (h : Fine 1000 1073741824 L0) : ∀ k, Fine 1000 1073741824 (LfG L0 x k)
  | 0 => h
  | k + 1 => by
    unfold LfG
    split
    · exact (LfG_fine h k).put _
    · exact LfG_fine h k
theorem LfG_up (L0 : List ByteArray) (x : Int) (k : Nat) : (LfG L0 x k).length ≤ (LfG L0 x (k + 1)).length := by
  conv => rhs; unfold LfG
  split
  · exact (putS_lens _ _ _ _).1
  · exact Nat.le_refl _
theorem LfG_ge (L0 : List ByteArray) (x : Int) : ∀ k, L0.length ≤ (LfG L0 x k).length
  | 0 => Nat.le_refl _
  | k + 1 => Nat.le_trans (LfG_ge L0 x k) (LfG_up L0 x k)
theorem LfG_len (L0 : List ByteArray) (x : Int) : ∀ k, (LfG L0 x k).length ≤ L0.length + min k x.toNat
  | 0 => by simp [LfG]
  | k + 1 => by
    have h := LfG_len L0 x k
    unfold LfG
    split
    · have := (putS_lens 1000 1073741824 (LfG L0 x k) (moreT (k + 1))).2
      omega
    · omega

theorem St.cells {F : Nat → Prop} {w : World} {b : Nat} {L : List ByteArray} {S R : Nat} (h : St F w b L S R) {x : Nat} (hx : F x) : ∃ cs t, w.heap[x]? = some (.cells cs t (0, 0)) := by
  obtain ⟨to, tc, ho, hc, po, pc, m, nx, hd, h, hF⟩ := h
  obtain ⟨h1, h2, h3⟩ := h.sm.blocks
  rcases (hF x).1 hx with rfl | ⟨a, ha, rfl⟩ | ⟨a, ha, rfl⟩ | ⟨a, ha, rfl⟩
  · exact ⟨_, _, h.sm.blk⟩
  · obtain ⟨g, cs, rfl, hg⟩ := h1 a ha
    exact ⟨_, _, hg⟩
  · obtain ⟨g, cs, rfl, hg⟩ := h2 a ha
    exact ⟨_, _, hg⟩
  · obtain ⟨g, cs, rfl, hg⟩ := h3 a ha
    exact ⟨_, _, hg⟩

structure GI (w W : World) (tb eb kb Bn D b : Nat) (L : List ByteArray) (x : Int) (k : Nat) (F : Nat → Prop) : Prop where
  res : W.heap[w.heap.size]? = some (.cells #[.bool false] 4 (0, 0))
  tbx : W.heap[tb]? = some (.cells #[.pointer (some ⟨b, 0, none⟩)] 23 (0, 0))
  ebx : W.heap[eb]? = some (.cells #[.int .i64 x] 3 (0, 0))
  kbx : W.heap[kb]? = some (.cells #[.int .i64 (k : Int)] 3 (0, 0))
  bbx : W.heap[Bn]? = some (.cells #[.pointer (some ⟨b, 0, none⟩)] 23 (0, 0))
  st : St F W b L 1000 1073741824
  ap : ∀ y, F y → w.heap.size < y ∧ y ≠ tb ∧ y ≠ eb ∧ y ≠ kb ∧ y ≠ Bn ∧ y ≠ D ∧ y ≠ D + 1
  ord : w.heap.size < tb ∧ tb < eb ∧ eb < kb ∧ kb < Bn ∧ Bn < D
  bel : Below w.heap.size w W

section
variable {w W W' : World} {tb eb kb Bn D b : Nat} {L L' : List ByteArray} {x : Int} {k : Nat} {F F' : Nat → Prop}

theorem GI.nu (h : GI w W tb eb kb Bn D b L x k F) (hn : Nu W W') : GI w W' tb eb kb Bn D b L x k F :=
  ⟨hn.heap h.res id, hn.heap h.tbx id, hn.heap h.ebx id, hn.heap h.kbx id, hn.heap h.bbx id, h.st.nu hn, h.ap, h.ord, h.bel.trans (hn.nu_below.mono h.bel.size)⟩
theorem GI.put (h : GI w W tb eb kb Bn D b L x k F) (hD : D + 1 < W.heap.size) (hst : St F' W' b L' 1000 1073741824) (hF : ∀ x, F' x → F x ∨ W.heap.size ≤ x) (ho : OnlyF F W W') : GI w W' tb eb kb Bn D b L' x k F' := by
  have ho' := h.ord
  refine ⟨ho.heap h.res (fun e => by have := (h.ap _ e).1; omega), ho.heap h.tbx (fun e => (h.ap _ e).2.1 rfl), ho.heap h.ebx (fun e => (h.ap _ e).2.2.1 rfl), ho.heap h.kbx (fun e => (h.ap _ e).2.2.2.1 rfl), ho.heap h.bbx (fun e => (h.ap _ e).2.2.2.2.1 rfl), hst, fun y hy => ?_, h.ord,
    h.bel.trans (ho.below h.bel.size (fun y hy => Nat.le_of_lt (h.ap y hy).1))⟩
  rcases hF y hy with h1 | h1
  · exact h.ap y h1
  · refine ⟨?_, ?_, ?_, ?_, ?_, ?_, ?_⟩ <;> omega
theorem GI.setk (h : GI w W tb eb kb Bn D b L x k F) (v : Int) (k' : Nat) (hv : v = (k' : Int)) : GI w (W.setCell ⟨kb, 0, none⟩ (.int .i64 v)) tb eb kb Bn D b L x k' F := by
  have hm := Mv.setCell W ⟨kb, 0, none⟩ (.int .i64 v)
  have ho' := h.ord
  refine ⟨hm.heap h.res (fun e => by simp only at e; omega), hm.heap h.tbx (fun e => by simp only at e; omega), hm.heap h.ebx (fun e => by simp only at e; omega), ?_, hm.heap h.bbx (fun e => by simp only at e; omega),
    h.st.frame ⟨hm.size, fun y hy => hm.block y (h.st.lt hy) (fun e => (h.ap y hy).2.2.2.1 e)⟩, h.ap, h.ord, h.bel.setCell (p := ⟨kb, 0, none⟩) (by show _ ≤ kb; omega) _⟩
  rw [setCell_blk h.kbx, hv]
  rfl
theorem not_book {A : World} {y : Nat} {cs : Array Value} {t : TypeId} {m : Nat × Nat} (h : A.heap[y]? = some (.cells cs t m)) {B : Nat} : ¬ (B ≤ y ∧ ∃ o, A.heap[y]? = some o ∧ bookO o = true) := fun ⟨_, o, ho, hb⟩ => by
  rw [h] at ho
  cases ho
  cases hb
theorem GI.books {B : Nat} (h : GI w W tb eb kb Bn D b L x k F) (hm : Mv (fun y => B ≤ y ∧ ∃ o, W.heap[y]? = some o ∧ bookO o = true) W W') (hB : w.heap.size ≤ B) : GI w W' tb eb kb Bn D b L x k F :=
  ⟨hm.heap h.res (not_book h.res), hm.heap h.tbx (not_book h.tbx), hm.heap h.ebx (not_book h.ebx), hm.heap h.kbx (not_book h.kbx), hm.heap h.bbx (not_book h.bbx),
    h.st.frame ⟨hm.size, fun y hy => by
      obtain ⟨cs, t, hc⟩ := h.st.cells hy
      exact hm.block y (h.st.lt hy) (not_book hc)⟩, h.ap, h.ord, h.bel.trans (hm.below h.bel.size (fun y hy => by have := hy.1; omega))⟩

theorem BK.of_mv {S : Nat → Prop} (hm : Mv S W W') (h1 : ¬ S D) (h2 : ¬ S (D + 1)) (hD : D + 1 < W.heap.size) : BK D W W' := ⟨hm.size, hm.block D (by omega) h1, hm.block (D + 1) hD h2⟩
theorem BK.trans {W'' : World} (h : BK D W W') (h' : BK D W' W'') : BK D W W'' := ⟨Nat.le_trans h.1 h'.1, h'.2.1.trans h.2.1, h'.2.2.trans h.2.2⟩
end

end Go.Proofs.Ytmpbganbhoknpaa
