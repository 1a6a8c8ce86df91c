/-
  What hang does.
-/
import Derived.Test.YtmpbganbhoknpaaYStS
import Derived.Test.YtmpbganbhoknpaaYTail
import Derived.StillTailTactics
set_option linter.unusedVariables false
set_option linter.unusedSimpArgs false
namespace Go.Proofs.Ytmpbganbhoknpaa
open Go.RowKit

def upd (f : Nat → Int) (i : Nat) (v : Int) (j : Nat) : Int := if j = i then v else f j
theorem upd_self (f : Nat → Int) (i : Nat) (v : Int) : upd f i v i = v := by simp [upd]
theorem upd_ne {f : Nat → Int} {i j : Nat} {v : Int} (h : j ≠ i) : upd f i v j = f j := by simp [upd, h]

theorem row_set {w : World} {B g : Nat} {e : TypeId} {size : Nat} {v : Value} {n : Nat} {xs : List Value} (h : w.ownsRow B e size v n xs) (hv : v.ownBlock = some g) {j : Nat} (hj : j < xs.length) (u : Value) : (w.setCell ⟨g, j, none⟩ u).ownsRow B e size v n (xs.set j u) := by
  refine ⟨by rw [List.length_set]; exact h.1, ?_⟩
  rcases h.2 with ⟨rfl, _⟩ | ⟨g', cap, cur, rfl, hB, hh, hle, hmax, hsz, hcur⟩
  · simp [Value.ownBlock] at hv
  · simp only [Value.ownBlock, Option.some.injEq] at hv
    subst hv
    refine .inr ⟨g', cap, cur.setIfInBounds j u, rfl, hB, setCell_blk hh, hle, hmax, by rw [Array.size_setIfInBounds]; exact hsz, ?_⟩
    rw [Array.toList_setIfInBounds, List.take_set, hcur]

section
variable {w : World} {b : Nat} {L : List ByteArray} {S R : Nat} {to : Option Addr} {tc : Nat} {ho : Option Addr} {hc : Nat} {po : Option Addr} {pc m : Nat} {nx hd : Nat → Int}

/-- The blocks are apart: their types tell. -/
theorem SM.apart (h : SM w b L S R to tc ho hc po pc m nx hd) : (∀ a, to = some a → a.block ≠ b ∧ (∀ a', ho = some a' → a.block ≠ a'.block) ∧ (∀ a', po = some a' → a.block ≠ a'.block)) ∧ (∀ a, ho = some a → a.block ≠ b ∧ (∀ a', po = some a' → a.block ≠ a'.block)) ∧ (∀ a, po = some a → a.block ≠ b) := by
  obtain ⟨h1, h2, h3⟩ := h.blocks
  have key : ∀ {g g' : Nat} {cs cs' : Array Value} {t t' : TypeId}, w.heap[g]? = some (.cells cs t (0, 0)) → w.heap[g']? = some (.cells cs' t' (0, 0)) → t ≠ t' → g ≠ g' := fun hg hg' hne e => by
    subst e
    rw [hg] at hg'
    simp only [Option.some.injEq, Obj.cells.injEq] at hg'
    exact hne hg'.2.1
  refine ⟨fun a ha => ?_, fun a ha => ?_, fun a ha => ?_⟩
  · obtain ⟨g, cs, rfl, hg⟩ := h1 a ha
    refine ⟨key hg h.blk (by decide), fun a' ha' => ?_, fun a' ha' => ?_⟩
    · obtain ⟨g', cs', rfl, hg'⟩ := h2 a' ha'
      exact key hg hg' (by decide)
    · obtain ⟨g', cs', rfl, hg'⟩ := h3 a' ha'
      exact key hg hg' (by decide)
  · obtain ⟨g, cs, rfl, hg⟩ := h2 a ha
    refine ⟨key hg h.blk (by decide), fun a' ha' => ?_⟩
    obtain ⟨g', cs', rfl, hg'⟩ := h3 a' ha'
    exact key hg hg' (by decide)
  · obtain ⟨g, cs, rfl, hg⟩ := h3 a ha
    exact key hg h.blk (by decide)

theorem SM.setNext {gh : Nat} (h : SM w b L S R to tc (some ⟨gh, 0, none⟩) hc po pc m nx hd) {n : Nat} (hn : n < L.length) (v : Int) : SM (w.setCell ⟨gh, n * 4 + 3, none⟩ (.int .i64 v)) b L S R to tc (some ⟨gh, 0, none⟩) hc po pc m (upd nx n v) hd := by
  have hm := Mv.setCell w ⟨gh, n * 4 + 3, none⟩ (.int .i64 v)
  obtain ⟨a1, a2, a3⟩ := h.apart
  refine ⟨hm.heap h.blk (fun e => (a2 _ rfl).1 e.symm), own_mv hm h.tx (fun k hk e => ?_), ?_, own_mv hm h.hp (fun k hk e => ?_)⟩
  · obtain ⟨a, ha, rfl⟩ := own_blk hk
    exact (a1 a ha).2.1 _ rfl e
  · have hl := rowsC_length (f := hcell L nx) (k := 4) (n := L.length) (fun _ _ => rfl)
    have := row_set h.hl (g := gh) rfl (j := n * 4 + 3) (by rw [hl]; omega) (.int .i64 v)
    rw [rowsC_set (f := hcell L nx) (g := hcell L (upd nx n v)) (k := 4) (fun _ _ => rfl) n 3 (.int .i64 v) hn (by omega) (fun x _ hx => by unfold hcell; rw [upd_ne hx]) (by unfold hcell; rw [upd_self]; rfl)] at this
    exact this
  · obtain ⟨a, ha, rfl⟩ := own_blk hk
    exact (a2 _ rfl).2 a ha e.symm
theorem SM.setHead {gp : Nat} (h : SM w b L S R to tc ho hc (some ⟨gp, 0, none⟩) pc m nx hd) {c : Nat} (hn : c < m) (v : Int) : SM (w.setCell ⟨gp, c, none⟩ (.int .i64 v)) b L S R to tc ho hc (some ⟨gp, 0, none⟩) pc m nx (upd hd c v) := by
  have hm := Mv.setCell w ⟨gp, c, none⟩ (.int .i64 v)
  obtain ⟨a1, a2, a3⟩ := h.apart
  refine ⟨hm.heap h.blk (fun e => (a3 _ rfl) e.symm), own_mv hm h.tx (fun k hk e => ?_), own_mv hm h.hl (fun k hk e => ?_), ?_⟩
  · obtain ⟨a, ha, rfl⟩ := own_blk hk
    exact (a1 a ha).2.2 _ rfl e
  · obtain ⟨a, ha, rfl⟩ := own_blk hk
    exact (a2 a ha).2 _ rfl e
  · have hl := rowsC_length (f := pcell hd) (k := 1) (n := m) (fun _ _ => rfl)
    have := row_set h.hp (g := gp) rfl (j := c * 1 + 0) (by rw [hl]; omega) (.int .i64 v)
    rw [rowsC_set (f := pcell hd) (g := pcell (upd hd c v)) (k := 1) (fun _ _ => rfl) c 0 (.int .i64 v) hn (by omega) (fun x _ hx => by unfold pcell; rw [upd_ne hx]) (by unfold pcell; rw [upd_self]; rfl)] at this
    simpa using this

set_option maxHeartbeats 4000000 in
set_option maxRecDepth 20000 in
theorem hang_any (h : SM w b L S R to tc ho hc po pc m nx hd) {n : Nat} {s : ByteArray} (hn : L[n]? = some s) (hl : L.length ≤ 1000000) (hm0 : 0 < m) (hm1 : m ≤ 1000000) :
    Calls Try.prog 29 #[.pointer (some ⟨b, 0, none⟩), .int .i64 (n : Int)] w fun e w' => e = .returned (.tuple #[]) ∧ SM w' b L S R to tc ho hc po pc m (upd nx n (hd (clN L m n))) (upd hd (clN L m n) n) ∧ Mv (SB b to ho po) w w' := by
  obtain ⟨c0, c1, c2, c3, c4⟩ := cells5s h.blk
  obtain ⟨gh, rfl, d0, d1, d2, d3, fh⟩ := h.held hn
  have hcl := chN_lt (hsh s) hm0 hm1
  have hce := clN_at hn m
  obtain ⟨x, hx⟩ : ∃ x, hsh s = x := ⟨_, rfl⟩
  rw [hx] at d0 hcl hce
  obtain ⟨c, hc'⟩ : ∃ c, chN m x = c := ⟨_, rfl⟩
  rw [hc'] at hcl hce
  clear hx
  obtain ⟨gp, rfl, p0, fp⟩ := h.head hcl
  have HCH : Hid (Calls Try.prog 27 #[.pointer (some ⟨b, 0, none⟩), .int .u64 x] w fun e w' => e = .returned (.int .i64 (c : Int)) ∧ w' = w) := by
    rw [← hc']
    exact chain_any h x hm0 hm1
  have hcl' : (c : Int) < (m : Int) := by omega
  have hnL := (List.getElem?_eq_some_iff.1 hn).1
  have hnL' : (n : Int) < (L.length : Int) := by omega
  have f3 := fh (n * 4 + 3)
  have f4 := fp c
  have HI := hid h
  have HN : Hid (n < L.length ∧ c < m ∧ L[n]? = some s) := ⟨hnL, hcl, hn⟩
  rw [hce]
  clear h hc' hce hcl hnL fh fp hn
  go_enter Try.func29, Try.ntmps29
  go_wp2_with fail
  refine HCH.out.mono ?_
  rintro e w1 ⟨rfl, hw⟩
  replace hw := hw.symm
  subst hw
  go_wp2
  go_still_tail 12, (by kernel_rfl)
  have HS2 := hid (HI.out.setNext HN.out.1 (hd c))
  have HM2 := hid (Mv.setCell w ⟨gh, n * 4 + 3, none⟩ (.int .i64 (hd c)))
  have hs2 := HS2.out
  obtain ⟨e0, e1, e2, e3, e4⟩ := cells5s hs2.blk
  obtain ⟨_, e, q0, fq⟩ := hs2.head HN.out.2.1
  cases e
  have f5 := fq c
  have HS3 := hid ((hs2.setHead HN.out.2.1 (n : Int)).nu (Mv.drew (fun _ => False) _))
  have HM3 : Hid (Mv (SB b to (some ⟨gh, 0, none⟩) (some ⟨gp, 0, none⟩)) w ((w.setCell ⟨gh, n * 4 + 3, none⟩ (.int .i64 (hd c))).setCell ⟨gp, c, none⟩ (.int .i64 (n : Int))).drew) := by
    have m1 : Mv (SB b to (some ⟨gh, 0, none⟩) (some ⟨gp, 0, none⟩)) w (w.setCell ⟨gh, n * 4 + 3, none⟩ (.int .i64 (hd c))) := HM2.out.mono (fun x hx => .inl (.inr (.inr (.inl ⟨_, rfl, hx.symm⟩))))
    have m2 := m1.trans (Mv.setCell _ ⟨gp, c, none⟩ (.int .i64 (n : Int))) (fun x hx => .inl (.inr (.inr (.inr ⟨_, rfl, hx.symm⟩))))
    exact m2.trans (Mv.drew (fun _ => False) _) (fun _ h => h.elim)
  clear d0 d1 d2 p0 f4 hs2 fq
  go_wp2
  exact bodyPost_end (results_none rfl _ _ _) rfl ⟨rfl, HS3.out, HM3.out⟩
end
end Go.Proofs.Ytmpbganbhoknpaa
