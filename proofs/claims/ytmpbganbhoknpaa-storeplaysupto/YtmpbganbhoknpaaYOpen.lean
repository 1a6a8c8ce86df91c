/-
  How an argument that is a slice of steps of a play is read.
-/
import Derived.Test.YtmpbganbhoknpaaYPlays
import Derived.ProofKit
import Derived.OpenShut
import Derived.SizedLaws
import Derived.Deep.Slices
import Derived.Deep.Strs
namespace Go.Proofs.Ytmpbganbhoknpaa
open Go.ChangeShapes Go.WideShapes Go.ChangeAt Go.RowKit Go.Deep

theorem y_laidOut : laidOutB Try.prog = true := by kernel_rfl
theorem y_cellsItem : Try.prog.cellsOf 29 = 3 := by kernel_rfl
theorem y_cellsInt : Try.prog.cellsOf 3 = 1 := by kernel_rfl
theorem y_cellsStr : Try.prog.cellsOf 9 = 1 := by kernel_rfl

theorem y_weights_all {H : Type} {P : Program} {e : TypeId} : ∀ {l : List (DataW H)} {d : DataW H}, d ∈ l → ∀ n ∈ d.weights P e, n ∈ DataW.weightsAll P e l
  | d' :: r, d, hd, n, hn => by
    simp only [DataW.weightsAll, List.mem_append]
    rcases List.mem_cons.1 hd with rfl | h
    · exact Or.inl hn
    · exact Or.inr (y_weights_all h n hn)

theorem y_cells3 {w : World} {q : Addr} {cs : List Value} (h : w.cells? 0 q 3 = some cs) : ∃ c0 c1 c2, cs = [c0, c1, c2] ∧ w.cell? q = some c0 ∧ w.cell? (q.add 1) = some c1 ∧ w.cell? (q.add 2) = some c2 := by
  simp only [World.cells?, Nat.zero_le, if_true, show List.range 3 = [0, 1, 2] from rfl, List.mapM_cons, List.mapM_nil, Option.bind_eq_bind, Option.bind_eq_some_iff, Option.pure_def, Option.some.injEq] at h
  obtain ⟨c0, h0, _, ⟨c1, h1, _, ⟨c2, h2, _, rfl, rfl⟩, rfl⟩, rfl⟩ := h
  refine ⟨c0, c1, c2, rfl, ?_, h1, h2⟩
  simpa [Addr.add] using h0

theorem bulk_pos {H : Type} (d : DataW H) : 1 ≤ Rows.uptoBulk d := by
  cases d with
  | lit l => cases l <;> simp [Rows.uptoBulk]
  | _ => simp [Rows.uptoBulk]
theorem bulk_all {H : Type} : ∀ {l : List (DataW H)} {d : DataW H}, d ∈ l → Rows.uptoBulk d ≤ Rows.uptoBulkAll l
  | d' :: r, d, hd => by
    rw [Rows.uptoBulkAll]
    rcases List.mem_cons.1 hd with rfl | h
    · omega
    · have := bulk_all h; omega
theorem bulk_len {H : Type} : ∀ (l : List (DataW H)), l.length ≤ Rows.uptoBulkAll l
  | [] => Nat.zero_le _
  | d :: r => by
    have h1 := bulk_pos d
    have h2 := bulk_len r
    rw [Rows.uptoBulkAll, List.length_cons]
    omega
theorem bulk_str {H : Type} (b : List UInt8) : Rows.uptoBulk (.lit (.string b) : DataW H) = b.length + 1 := by simp [Rows.uptoBulk]
theorem bulk_agg {H : Type} (l : List (DataW H)) : Rows.uptoBulk (.agg l) = Rows.uptoBulkAll l + 1 := by simp [Rows.uptoBulk]
theorem bulk_slice {H : Type} (l r : List (DataW H)) : Rows.uptoBulk (.slice l r) = Rows.uptoBulkAll l + Rows.uptoBulkAll r + 1 := by simp [Rows.uptoBulk]

theorem open_yi {H : Type} {enc : TypeId × Value → H} {w : World} {n : Nat} {q : Addr} {cs : List Value} {x : DataW H × List MemPlace} (hc : w.cells? 0 q 3 = some cs)
    (h : DataW.trod enc Try.prog w 0 (fun _ => true) true n 29 cs = some x) (hw : Rows.uptoBulk x.1 ≤ 1048576) :
    ∃ y : YI, y.Ok ∧ YIAt w q.block q.off y ∧ q.spot = none := by
  obtain ⟨c0, c1, c2, rfl, h0, h1, h2⟩ := y_cells3 hc
  obtain ⟨xs, m, _, hx, _, hl, hf⟩ := DataW.trod_struct Try.underlying29 h
  have hsp : q.spot = none := World.cell?_spot h0
  obtain ⟨qb, qo, qs⟩ := q
  simp only at hsp
  subst hsp
  match xs, hl with
  | [y0, y1, y2], _ =>
    have g0 : DataW.trod enc Try.prog w 0 (fun _ => true) true m 3 [c0] = some y0 := by have := hf 0 _ rfl; simpa [y_cellsInt] using this
    have g1 : DataW.trod enc Try.prog w 0 (fun _ => true) true m 9 [c1] = some y1 := by have := hf 1 _ rfl; simpa [y_cellsStr] using this
    have g2 : DataW.trod enc Try.prog w 0 (fun _ => true) true m 3 [c2] = some y2 := by have := hf 2 _ rfl; simpa [y_cellsInt] using this
    obtain ⟨k, e0, _, wk⟩ := DataW.trod_int Try.underlying3 g0
    obtain ⟨t, e1, f1, _⟩ := DataW.trod_string Try.underlying9 g1
    obtain ⟨z, e2, _, wz⟩ := DataW.trod_int Try.underlying3 g2
    simp only [List.cons.injEq, and_true] at e0 e1 e2
    subst e0 e1 e2
    have bk := bounds_i64 wk
    have bz := bounds_i64 wz
    have hlen : t.data.toList.length + 1 ≤ 1048576 := by
      refine Nat.le_trans ?_ hw
      rw [hx]
      show _ ≤ Rows.uptoBulk (.agg _)
      rw [bulk_agg]
      have hb := bulk_all (d := y1.1) (l := [y0, y1, y2].map (·.1)) (by simp)
      have hb1 : Rows.uptoBulk y1.1 = t.data.toList.length + 1 := by rw [f1]; exact bulk_str _
      show _ ≤ Rows.uptoBulkAll ([y0, y1, y2].map (·.1)) + 1
      omega
    have hts : t.data.toList.length = t.size := by rw [Array.length_toList]; rfl
    simp only [add_plain] at h1 h2
    exact ⟨⟨k, t, z⟩, ⟨bk.1, bk.2, bz.1, bz.2, (by show t.size ≤ _; omega)⟩, ⟨h0, h1, h2⟩, rfl⟩

theorem open_yis {H : Type} {enc : TypeId × Value → H} {w : World} {fuel : Nat} {ao : Option Addr} {len cap : Nat} {x : DataW H × List MemPlace}
    (h : DataW.trod enc Try.prog w 0 (fun _ => true) true fuel 22 [.slice ao len cap] = some x) (hw : Rows.uptoBulk x.1 ≤ 1048576) :
    ∃ I, YIsAt w ao len I := by
  rcases open_slice Try.underlying22 h with ⟨hcs, hx⟩ | ⟨a, len', cap', m, n, D, Pl, hcs, _, hl, hm, hmm, hx, hel⟩
  · simp at hcs
    obtain ⟨rfl, rfl, rfl⟩ := hcs
    exact ⟨fun _ => default, by decide, fun i hi => absurd hi (Nat.not_lt_zero _), .inl rfl⟩
  · simp at hcs
    obtain ⟨rfl, rfl, rfl⟩ := hcs
    simp only [if_true] at hmm
    subst hmm
    rw [y_cellsItem] at hel
    rw [hx, bulk_slice] at hw
    have hlim : (len : Int) ≤ 140737488351232 := by
      have := bulk_len ((List.range len).map D)
      rw [List.length_map, List.length_range] at this
      omega
    have hone : ∀ i, i < len → ∃ y : YI, y.Ok ∧ YIAt w (a.add (i * 3)).block (a.add (i * 3)).off y ∧ (a.add (i * 3)).spot = none := by
      intro i hi
      obtain ⟨cs', hc, ht⟩ := hel i (by omega)
      refine open_yi hc ht ?_
      have hb := bulk_all (d := D i) (l := (List.range len).map D) (List.mem_map.2 ⟨i, List.mem_range.2 hi, rfl⟩)
      show Rows.uptoBulk (D i) ≤ _
      omega
    obtain ⟨I, hI⟩ := choose_lt hone
    refine ⟨I, hlim, fun i hi => (hI i hi).1, ?_⟩
    rcases Nat.eq_zero_or_pos len with hz | hp
    · exact .inl hz
    · right
      obtain ⟨b, off, sp⟩ := a
      have h0 := hI 0 hp
      have hsp : sp = none := by simpa [Addr.add] using h0.2.2
      subst hsp
      refine ⟨b, off, rfl, ?_, fun i hi => ?_⟩
      · have := World.block_lt_of_cell? w _ h0.2.1.c0
        simpa [Addr.add] using this
      · have := (hI i hi).2.1
        rw [add_plain] at this
        exact this

end Go.Proofs.Ytmpbganbhoknpaa
