/-
  JJoin.
-/
import Derived.Handy
import Derived.Test.YtiinmaedmkgfoaaDoorM37
/-
  The program's join and told: feet together, a foot in the words of systems.
-/
set_option linter.unusedVariables false
set_option linter.unusedSimpArgs false
namespace Go.Proofs.YtiinmaedmkgfoaaDoor
open Go.RowKit

/-- Some cells of a block have been written. -/
structure WrJ (w w' : World) (g o n : Nat) (t : TypeId) (vs : List Value) : Prop where
  mv : Mv (· = g) w w'
  blk : ∀ cs : Array Value, w.heap[g]? = some (.cells cs t (0, 0)) → o + n ≤ cs.size → ∃ cs' : Array Value, w'.heap[g]? = some (.cells cs' t (0, 0)) ∧ cs'.size = cs.size ∧ (∀ j, j < o ∨ o + n ≤ j → cs'[j]? = cs[j]?) ∧ ∀ j, j < n → cs'[o + j]? = vs[j]?
theorem wrj_nil (w : World) (g o : Nat) (t : TypeId) : WrJ w w g o 0 t [] := ⟨Mv.refl _ _, fun cs h _ => ⟨cs, h, rfl, fun _ _ => rfl, fun j hj => absurd hj (by omega)⟩⟩
theorem WrJ.nu {w w' w'' : World} {g o n : Nat} {t : TypeId} {vs : List Value} (h : WrJ w w' g o n t vs) (hn : Nu w' w'') : WrJ w w'' g o n t vs :=
  ⟨nu_mv h.mv hn, fun cs hc hl => by
    obtain ⟨cs', h1, r⟩ := h.blk cs hc hl
    exact ⟨cs', hn.heap h1 id, r⟩⟩
theorem WrJ.snoc {w w' : World} {g o n : Nat} {t : TypeId} {vs : List Value} (h : WrJ w w' g o n t vs) (hn : vs.length = n) (v : Value) : WrJ w (w'.setCell ⟨g, o + n, none⟩ v) g o (n + 1) t (vs ++ [v]) := by
  refine ⟨h.mv.trans (Mv.setCell w' ⟨g, o + n, none⟩ v) (fun x hx => .inl hx), fun cs hc hl => ?_⟩
  obtain ⟨cs', h1, h2, h3, h4⟩ := h.blk cs hc (by omega)
  refine ⟨_, setCell_blk h1, by rw [Array.size_setIfInBounds, h2], fun j hj => ?_, fun j hj => ?_⟩
  · rw [Array.getElem?_setIfInBounds_ne (by omega)]
    exact h3 j (by omega)
  · by_cases hjn : j = n
    · subst hjn
      rw [Array.getElem?_setIfInBounds_self_of_lt (by omega), List.getElem?_append_right (by omega), hn]
      simp
    · rw [Array.getElem?_setIfInBounds_ne (by omega), List.getElem?_append_left (by omega)]
      exact h4 j (by omega)

/-- A foot in three cells. -/
structure FtAt (w : World) (b o : Nat) (f : Ft) : Prop where
  c0 : w.cell? ⟨b, o, none⟩ = some (.int .u64 (f.r : Int))
  c1 : w.cell? ⟨b, o + 1, none⟩ = some (.int .u64 (f.w : Int))
  c2 : w.cell? ⟨b, o + 2, none⟩ = some (.int .u64 (f.t : Int))
theorem FtAt.mv {S : Nat → Prop} {w w' : World} {b o : Nat} {f : Ft} (h : FtAt w b o f) (hm : Mv S w w') (hS : ¬ S b) : FtAt w' b o f := ⟨cell_mv hm h.c0 hS, cell_mv hm h.c1 hS, cell_mv hm h.c2 hS⟩
def Ft.join (f g : Ft) : Ft := ⟨f.r ||| g.r, f.w ||| g.w, f.t ||| g.t⟩
theorem Ft.Small.join {f g : Ft} (hf : f.Small) (hg : g.Small) : (f.join g).Small := ⟨Nat.or_lt_two_pow (n := 64) hf.1 hg.1, Nat.or_lt_two_pow (n := 64) hf.2.1 hg.2.1, Nat.or_lt_two_pow (n := 64) hf.2.2 hg.2.2⟩

set_option maxHeartbeats 4000000 in
set_option maxRecDepth 20000 in
theorem join_any (w : World) (fb fo gb g_o : Nat) (f g : Ft) (cs : Array Value) (hb : w.heap[fb]? = some (.cells cs 145 (0, 0))) (hf : FtAt w fb fo f) (hg : FtAt w gb g_o g) (hne : gb ≠ fb) (hfs : f.Small) (hgs : g.Small) :
    Calls Tryd.prog 59 #[.pointer (some ⟨fb, fo, none⟩), .pointer (some ⟨gb, g_o, none⟩)] w fun e w' => e = .returned (.tuple #[]) ∧ WrJ w w' fb fo 3 145 [.int .u64 ((f.join g).r : Int), .int .u64 ((f.join g).w : Int), .int .u64 ((f.join g).t : Int)] := by
  have HB := hid hb
  have HG := hid hg
  have f0 := hf.c0
  have e1 := hf.c1
  have e2 := hf.c2
  rw [cell_blk hb] at e1 e2
  have g0 := hg.c0
  have z0 := free_blk hb fo
  have hsz : fo + 3 ≤ cs.size := by have := (Array.getElem?_eq_some_iff.1 e2).1; omega
  have or0 : bits .or .u64 (f.r : Int) (g.r : Int) = ((f.join g).r : Int) := bits_or_u64_nat _ _ hfs.1 hgs.1
  have or1 : bits .or .u64 (f.w : Int) (g.w : Int) = ((f.join g).w : Int) := bits_or_u64_nat _ _ hfs.2.1 hgs.2.1
  have or2 : bits .or .u64 (f.t : Int) (g.t : Int) = ((f.join g).t : Int) := bits_or_u64_nat _ _ hfs.2.2 hgs.2.2
  have HE := hid (And.intro e1 e2)
  clear hb hf hg e1 e2
  go_enter Tryd.func59, Tryd.ntmps59
  go_wp2
  go_region
  have HW1 : Hid (WrJ w (w.setCell ⟨fb, fo, none⟩ (.int .u64 ((f.join g).r : Int))).drew fb fo 1 145 [.int .u64 ((f.join g).r : Int)]) := ((wrj_nil w fb fo 145).snoc rfl (.int .u64 ((f.join g).r : Int))).nu (Mv.drew _ _)
  clear f0 g0 z0 or0
  generalize (w.setCell ⟨fb, fo, none⟩ (.int .u64 ((f.join g).r : Int))).drew = w1 at *
  obtain ⟨cs1, b1, s1, k1, _⟩ := HW1.out.blk cs HB.out (by omega)
  have f1 : w1.cell? ⟨fb, fo + 1, none⟩ = some (.int .u64 (f.w : Int)) := by rw [cell_blk b1, k1 _ (by omega)]; exact HE.out.1
  have g1 := cell_mv HW1.out.mv HG.out.c1 hne
  have z1 := free_blk b1 (fo + 1)
  clear b1 k1 s1
  go_wp2
  go_region
  have HW2 : Hid (WrJ w (w1.setCell ⟨fb, fo + 1, none⟩ (.int .u64 ((f.join g).w : Int))).drew fb fo 2 145 [.int .u64 ((f.join g).r : Int), .int .u64 ((f.join g).w : Int)]) := (HW1.out.snoc rfl (.int .u64 ((f.join g).w : Int))).nu (Mv.drew _ _)
  clear f1 g1 z1 or1 HW1
  generalize (w1.setCell ⟨fb, fo + 1, none⟩ (.int .u64 ((f.join g).w : Int))).drew = w2 at *
  obtain ⟨cs2, b2, s2, k2, _⟩ := HW2.out.blk cs HB.out (by omega)
  have f2 : w2.cell? ⟨fb, fo + 2, none⟩ = some (.int .u64 (f.t : Int)) := by rw [cell_blk b2, k2 _ (by omega)]; exact HE.out.2
  have g2 := cell_mv HW2.out.mv HG.out.c2 hne
  have z2 := free_blk b2 (fo + 2)
  clear b2 k2 s2
  go_wp2
  go_region
  have HW3 : Hid (WrJ w (w2.setCell ⟨fb, fo + 2, none⟩ (.int .u64 ((f.join g).t : Int))).drew fb fo 3 145 [.int .u64 ((f.join g).r : Int), .int .u64 ((f.join g).w : Int), .int .u64 ((f.join g).t : Int)]) := (HW2.out.snoc rfl (.int .u64 ((f.join g).t : Int))).nu (Mv.drew _ _)
  clear f2 g2 z2 or2 HW2
  generalize (w2.setCell ⟨fb, fo + 2, none⟩ (.int .u64 ((f.join g).t : Int))).drew = w3 at *
  go_wp2
  go_returns
  exact ⟨rfl, HW3.out⟩

end Go.Proofs.YtiinmaedmkgfoaaDoor
