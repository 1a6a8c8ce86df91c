/-
  What is read, one after the other: what is asked for, in memory, and how such an argument is read.
-/
import Derived.Test.YtfbfdfenfcjolaaItemsRow
namespace Go.Proofs.Ytfbfdfenfcjolaa
open Go.ChangeShapes Go.WideShapes Go.ChangeAt Go.RowKit Go.Deep

/-- What is asked for: which kind, and a number. -/
structure Ask where
  kind : Int
  n : Int
instance : Inhabited Ask := ⟨⟨0, 0⟩⟩

structure AskAt (w : World) (b o : Nat) (x : Ask) : Prop where
  c0 : w.cell? ⟨b, o, none⟩ = some (.int .i64 x.kind)
  c1 : w.cell? ⟨b, o + 1, none⟩ = some (.int .i64 x.n)
  k0 : -9223372036854775808 ≤ x.kind
  k1 : x.kind ≤ 9223372036854775807
  n1 : x.n ≤ 9223372036854775807

theorem AskAt.below {w w' : World} {b o B : Nat} {x : Ask} (h : AskAt w b o x) (hb : Below B w w') (hlt : b < B) : AskAt w' b o x :=
  ⟨(hb.cell (p := ⟨b, o, none⟩) hlt).trans h.c0, (hb.cell (p := ⟨b, o + 1, none⟩) hlt).trans h.c1, h.k0, h.k1, h.n1⟩

structure AsksAt (w : World) (B : Nat) (ao : Option Addr) (len : Nat) (I : Nat → Ask) : Prop where
  lim : (len : Int) ≤ 140737488351232
  at' : len = 0 ∨ ∃ b off, ao = some ⟨b, off, none⟩ ∧ b < B ∧ ∀ i, i < len → AskAt w b (off + i * 2) (I i)

theorem AsksAt.below {w w' : World} {B : Nat} {ao : Option Addr} {len : Nat} {I : Nat → Ask} (h : AsksAt w B ao len I) (hb : Below B w w') : AsksAt w' B ao len I :=
  ⟨h.lim, h.at'.imp id fun ⟨b, off, ha, hlt, hi⟩ => ⟨b, off, ha, hlt, fun i h => (hi i h).below hb hlt⟩⟩

theorem Try.cellsGet : Try.prog.cellsOf 45 = 2 := by kernel_rfl

theorem cells2 {w : World} {q : Addr} {cs : List Value} (h : w.cells? 0 q 2 = some cs) : ∃ c0 c1, cs = [c0, c1] ∧ w.cell? q = some c0 ∧ w.cell? (q.add 1) = some c1 := by
  simp only [World.cells?, Nat.zero_le, if_true, show List.range 2 = [0, 1] from rfl, List.mapM_cons, List.mapM_nil, Option.bind_eq_bind, Option.bind_eq_some_iff, Option.pure_def, Option.some.injEq] at h
  obtain ⟨c0, h0, _, ⟨c1, h1, _, rfl, rfl⟩, rfl⟩ := h
  refine ⟨c0, c1, rfl, ?_, h1⟩
  simpa [Addr.add] using h0

theorem open_get {H : Type} {enc : TypeId × Value → H} {w : World} {n : Nat} {q : Addr} {cs : List Value} {x : DataW H × List MemPlace} (hc : w.cells? 0 q 2 = some cs)
    (h : DataW.trod enc Try.prog w 0 (fun _ => true) true n 45 cs = some x) : ∃ y : Ask, AskAt w q.block q.off y ∧ q.spot = none := by
  obtain ⟨c0, c1, rfl, h0, h1⟩ := cells2 hc
  obtain ⟨xs, m, _, hx, _, hl, hf⟩ := DataW.trod_struct Try.underlying45 h
  have hsp : q.spot = none := World.cell?_spot h0
  obtain ⟨qb, qo, qs⟩ := q
  simp only at hsp
  subst hsp
  match xs, hl with
  | [y0, y1], _ =>
    have g0 : DataW.trod enc Try.prog w 0 (fun _ => true) true m 3 [c0] = some y0 := by have := hf 0 _ rfl; simpa [Try.cellsInt] using this
    have g1 : DataW.trod enc Try.prog w 0 (fun _ => true) true m 3 [c1] = some y1 := by have := hf 1 _ rfl; simpa [Try.cellsInt] using this
    obtain ⟨k, e0, _, wk⟩ := DataW.trod_int Try.underlying3 g0
    obtain ⟨z, e1, _, wz⟩ := DataW.trod_int Try.underlying3 g1
    simp only [List.cons.injEq, and_true] at e0 e1
    subst e0 e1
    have bk := bounds_i64 wk
    have bz := bounds_i64 wz
    simp only [add_plain] at h1
    exact ⟨⟨k, z⟩, ⟨h0, h1, bk.1, bk.2, bz.2⟩, rfl⟩

theorem open_gets {H : Type} {enc : TypeId × Value → H} {w : World} {fuel : Nat} {ao : Option Addr} {len cap : Nat} {x : DataW H × List MemPlace}
    (h : DataW.trod enc Try.prog w 0 (fun _ => true) true fuel 37 [.slice ao len cap] = some x) (hw : ∀ k ∈ DataW.weights Try.prog 37 x.1, k ≤ reachBytes) :
    ∃ I, AsksAt w w.heap.size ao len I := by
  rcases open_slice Try.underlying37 h with ⟨hcs, hx⟩ | ⟨a, len', cap', m, n, D, Pl, hcs, _, hl, hm, hmm, hx, hel⟩
  · simp at hcs
    obtain ⟨rfl, rfl, rfl⟩ := hcs
    exact ⟨fun _ => default, by decide, .inl rfl⟩
  · simp at hcs
    obtain ⟨rfl, rfl, rfl⟩ := hcs
    simp only [if_true] at hmm
    subst hmm
    rw [Try.cellsGet] at hel
    have hlim : (len : Int) ≤ 140737488351232 := by
      have : ((List.range len).map D).length + ((List.range (m - len)).map fun j => D (len + j)).length ≤ reachBytes := by
        refine Nat.le_trans ?_ (hw _ (by rw [hx]; simp only [DataW.weights, Try.underlying37]; exact List.mem_cons_self))
        rw [show Try.prog.bytesOf 45 = 16 from by kernel_rfl]
        omega
      rw [List.length_map, List.length_map, List.length_range, List.length_range] at this
      unfold reachBytes at this
      omega
    have hone : ∀ i, i < len → ∃ y : Ask, AskAt w (a.add (i * 2)).block (a.add (i * 2)).off y ∧ (a.add (i * 2)).spot = none := by
      intro i hi
      obtain ⟨cs', hc, ht⟩ := hel i (by omega)
      exact open_get hc ht
    obtain ⟨I, hI⟩ := choose_lt hone
    refine ⟨I, hlim, ?_⟩
    rcases Nat.eq_zero_or_pos len with hz | hp
    · exact .inl hz
    · right
      obtain ⟨b, off, sp⟩ := a
      have h0 := hI 0 hp
      have hsp : sp = none := by simpa [Addr.add] using h0.2
      subst hsp
      refine ⟨b, off, rfl, ?_, fun i hi => ?_⟩
      · have := World.block_lt_of_cell? w _ h0.1.c0
        simpa [Addr.add] using this
      · have := (hI i hi).1
        rw [add_plain] at this
        exact this

end Go.Proofs.Ytfbfdfenfcjolaa
