/-
  VParts2, VNames0, VNamesW, VColl0, VColl, VCheck, VSize, VPlain.
-/
import Derived.Test.YtidihaecgmbhpabDoorM11
import Derived.Test.YtidihaecgmbhpabDoorM15
import Derived.Test.YtidihaecgmbhpabDoorM17
/-
  A tree's parts, told one by one: laws; what stands in a part's cells; how a function with such a loop ends.
-/
set_option linter.unusedSimpArgs false
set_option linter.unusedVariables false
namespace Go.Proofs.YtidihaecgmbhpabDoor
open Go.RowKit Q

def A.kind : A → Int | .mk k _ _ _ _ _ => k
def A.name : A → Wd | .mk _ n _ _ _ _ => n
def hdk : List A → Int | [] => 0 | a :: _ => a.kind
def A.snd (a : A) : Bool := sound1 a.kind a.name a.kids.length
def A.pln (a : A) : Bool := plain1 a.kind (hdk a.kids)

theorem t_kind (a : A) : a.t.kind = a.kind := by cases a; rfl

theorem may_subs (a : A) : a.t.may = true ↔ ∀ x ∈ a.subs, x.snd = true := by
  refine A.ind (P := fun a => a.t.may = true ↔ ∀ x ∈ a.subs, x.snd = true) (fun k n b o c l ih => ?_) a
  simp only [A.t, T.may, mays_all, A.ts_map, List.length_map, Bool.and_eq_true, List.all_eq_true, List.mem_map, A.subs, List.mem_cons, subss_flat, List.mem_flatMap]
  constructor
  · rintro ⟨h1, h2⟩ x (rfl | ⟨y, hy1, hy2⟩)
    · simp only [A.snd, sound1, A.kind, A.name, A.kids, Bool.and_eq_true]
      exact h1
    · exact (ih y hy1).1 (h2 _ ⟨y, hy1, rfl⟩) x hy2
  · intro h
    refine ⟨?_, ?_⟩
    · have := h _ (.inl rfl)
      simp only [A.snd, sound1, A.kind, A.name, A.kids, Bool.and_eq_true] at this
      exact this
    · rintro t ⟨y, hy, rfl⟩
      exact (ih y hy).2 (fun x hx => h x (.inr ⟨y, hy, hx⟩))

theorem next_subs (a : A) : a.t.hasNext = true ↔ ∃ x ∈ a.subs, x.kind = 5 := by
  refine A.ind (P := fun a => a.t.hasNext = true ↔ ∃ x ∈ a.subs, x.kind = 5) (fun k n b o c l ih => ?_) a
  simp only [A.t, T.hasNext, hasNexts_any, A.ts_map, Bool.or_eq_true, decide_eq_true_eq, List.any_eq_true, List.mem_map, A.subs, List.mem_cons, subss_flat, List.mem_flatMap]
  constructor
  · rintro (h | ⟨t, ⟨y, hy, rfl⟩, ht⟩)
    · exact ⟨_, .inl rfl, h⟩
    · obtain ⟨x, hx1, hx2⟩ := (ih y hy).1 ht
      exact ⟨x, .inr ⟨y, hy, hx1⟩, hx2⟩
  · rintro ⟨x, (rfl | ⟨y, hy, hx⟩), h5⟩
    · exact .inl h5
    · exact .inr ⟨_, ⟨y, hy, rfl⟩, (ih y hy).2 ⟨x, hx, h5⟩⟩

theorem plain_subs (a : A) : (∀ x ∈ a.subs, x.snd = true) → (plainT a.t = true ↔ ∀ x ∈ a.subs, x.pln = true) := by
  refine A.ind (P := fun a => (∀ x ∈ a.subs, x.snd = true) → (plainT a.t = true ↔ ∀ x ∈ a.subs, x.pln = true)) (fun k n b o c l ih hs => ?_) a
  have h0 : sound1 k n l.length = true := hs _ (subs_self _)
  have hk : T.kidsN k = (l.length : Int) := by
    simp only [sound1, Bool.and_eq_true, decide_eq_true_eq] at h0
    exact h0.1
  have hin : ∀ y ∈ l, ∀ x ∈ y.subs, x ∈ (A.mk k n b o c l).subs := fun y hy x hx => by
    simp only [A.subs, List.mem_cons, subss_flat, List.mem_flatMap]
    exact .inr ⟨y, hy, hx⟩
  have ih' := fun y hy => ih y hy (fun x hx => hs x (hin y hy x hx))
  simp only [A.t, plainT, A.ts_map, plainTs_all, A.subs, List.mem_cons, subss_flat, List.mem_flatMap]
  have hself : (A.mk k n b o c l).pln = plain1 k (hdk l) := rfl
  by_cases h6 : k = 6 ∨ k = 7 ∨ k = 10 ∨ k = 11 ∨ k = 14
  · rw [if_pos h6]
    constructor
    · intro h; cases h
    · intro h
      have := h _ (.inl rfl)
      rw [hself] at this
      unfold plain1 at this
      split at this <;> simp at this <;> omega
  · rw [if_neg h6]
    by_cases h4 : k = 4
    · rw [if_pos h4]
      subst h4
      obtain ⟨y, rfl⟩ : ∃ y, l = [y] := by
        simp [T.kidsN] at hk
        match l, hk with
        | [y], _ => exact ⟨y, rfl⟩
        | [], hk => simp at hk
        | _ :: _ :: _, hk => simp at hk; omega
      simp only [List.map_cons, hd3, decide_eq_true_eq, t_kind]
      constructor
      · intro hy x hx
        rcases hx with rfl | ⟨z, hz, hx⟩
        · rw [hself]; simp [plain1, hdk, hy]
        · obtain rfl : z = y := by simpa using hz
          have hz' := hs z (hin z (by simp) z (subs_self z))
          obtain ⟨kz, nz, bz, oz, cz, lz⟩ := z
          simp only [A.kind] at hy
          subst hy
          have hlz : lz = [] := by
            simp only [A.snd, sound1, A.kind, A.name, A.kids, Bool.and_eq_true, decide_eq_true_eq] at hz'
            have := hz'.1
            simp [T.kidsN] at this
            exact List.length_eq_zero_iff.1 (by omega)
          subst hlz
          simp only [A.subs, A.subss, List.mem_cons, List.not_mem_nil, or_false] at hx
          rw [hx]
          rfl
      · intro h
        have := h _ (.inl rfl)
        rw [hself] at this
        exact of_decide_eq_true this
    · rw [if_neg h4]
      have hkk : 1 ≤ k ∧ k ≤ 14 := by
        unfold T.kidsN at hk
        split at hk
        · omega
        · split at hk
          · omega
          · split at hk <;> omega
      have hp : plain1 k (hdk l) = true := by
        unfold plain1
        rw [if_neg h4]
        simp
        omega
      simp only [List.all_eq_true, List.mem_map]
      constructor
      · intro h x hx
        rcases hx with rfl | ⟨z, hz, hx⟩
        · rw [hself]; exact hp
        · exact (ih' z hz).1 (h _ ⟨z, hz, rfl⟩) x hx
      · rintro h t ⟨z, hz, rfl⟩
        exact (ih' z hz).2 (fun x hx => h x (.inr ⟨z, hz, hx⟩))

/-- A part's cells. -/
theorem PE.cells {w W : World} {B pb : Nat} {root : A} (x : PE w B pb root) (h : Nu w W) : ∃ ao cap, x.a.name.length ≤ 140737488355328 ∧ W.cell? ⟨x.1.1, x.1.2.1, none⟩ = some (.int .i64 x.a.kind) ∧ W.cell? ⟨x.1.1, x.1.2.1 + 1, none⟩ = some (.string (strOfL x.a.name)) ∧ W.cell? ⟨x.1.1, x.1.2.1 + 2, none⟩ = some (.slice ao x.a.kids.length cap) ∧
    (0 < x.a.kids.length → ∃ b o, ao = some ⟨b, o, none⟩ ∧ W.cell? ⟨b, o, none⟩ = some (.int .i64 (hdk x.a.kids))) := by
  obtain ⟨⟨xb, po, ⟨k, n, b, o, cap, l⟩⟩, hm, _, c0, c1, c2, h0, h1, h2, h3⟩ := x
  obtain ⟨hk, hn, rfl, rfl, ⟨rfl, ao, c, rfl⟩ | ⟨rfl, hr⟩⟩ := h3.form
  · exact ⟨ao, c, hn, cell_mv h h0 id, cell_mv h h1 id, cell_mv h h2 id, fun hl => absurd hl (Nat.lt_irrefl 0)⟩
  · refine ⟨_, _, hn, cell_mv h h0 id, cell_mv h h1 id, cell_mv h h2 id, fun hl => ⟨b, o, rfl, ?_⟩⟩
    obtain ⟨a, l', rfl⟩ : ∃ a l', l = a :: l' := by
      cases l with
      | nil => exact absurd rfl hr.pos
      | cons a l' => exact ⟨a, l', rfl⟩
    obtain ⟨d0, d1, d2, e0, e1, e2, e3⟩ := hr.at' 0 a rfl
    obtain ⟨ak, an, ab, ao', ac, al⟩ := a
    obtain ⟨_, _, rfl, _⟩ := e3.form
    have := cell_mv h e0 id
    rw [Nat.zero_mul, Nat.add_zero] at this
    exact this

theorem parts_any (p : Option Addr) (w : World) : Calls Tryd.prog 22 #[.pointer p] w fun e w' => e = .returned (.func (.func 36) #[] #[.pointer (some ⟨w.heap.size, 0, none⟩)]) ∧ w' = w.alloc (.cells #[.pointer p] 49) := by
  go_enter Tryd.func22, Tryd.ntmps22
  go_wp2
  go_ret
  simp

/-- The world where such a loop begins. -/
structure PB (w Wb : World) (c0 c1 c2 : Value) (a : A) (v : Value) (t : TypeId) : Prop where
  nu : Nu w Wb
  hc : Wb.cell? ⟨w.heap.size + 1 + 1, 0, none⟩ = some (.pointer (some ⟨w.heap.size, 0, none⟩))
  h0 : Wb.cell? ⟨w.heap.size, 0, none⟩ = some c0
  h1 : Wb.cell? ⟨w.heap.size, 0 + 1, none⟩ = some c1
  h2 : Wb.cell? ⟨w.heap.size, 0 + 2, none⟩ = some c2
  tr : AIn Wb w.heap.size c0 c1 c2 a
  rb : Wb.heap[w.heap.size + 1]? = some (.cells #[v] t (0, 0))
  sz : Wb.heap.size = w.heap.size + 3

theorem PB.of {w : World} {c0 c1 c2 : Value} {a : A} (h : AIn w w.heap.size c0 c1 c2 a) (v : Value) (t t1 t2 : TypeId) : PB w (((w.alloc (.cells #[c0, c1, c2] t1)).alloc (.cells #[v] t)).alloc (.cells #[.pointer (some ⟨w.heap.size, 0, none⟩)] t2)) c0 c1 c2 a v t := by
  obtain ⟨W1, hW1⟩ : ∃ W1, w.alloc (.cells #[c0, c1, c2] t1) = W1 := ⟨_, rfl⟩
  obtain ⟨W2, hW2⟩ : ∃ W2, W1.alloc (.cells #[v] t) = W2 := ⟨_, rfl⟩
  obtain ⟨W3, hW3⟩ : ∃ W3, W2.alloc (.cells #[.pointer (some ⟨w.heap.size, 0, none⟩)] t2) = W3 := ⟨_, rfl⟩
  have s1 : W1.heap.size = w.heap.size + 1 := by rw [← hW1]; simp
  have s2 : W2.heap.size = w.heap.size + 1 + 1 := by rw [← hW2]; simp [s1]
  have s3 : W3.heap.size = w.heap.size + 3 := by rw [← hW3]; simp [s2]
  have m1 : Nu w W1 := by rw [← hW1]; exact Mv.alloc _ _ _
  have m2 : Nu W1 W2 := by rw [← hW2]; exact Mv.alloc _ _ _
  have m3 : Nu W2 W3 := by rw [← hW3]; exact Mv.alloc _ _ _
  have b1 : W1.heap[w.heap.size]? = some (.cells #[c0, c1, c2] t1 (0, 0)) := by rw [← hW1]; exact heap_alloc_new w _
  have b2 : W2.heap[w.heap.size + 1]? = some (.cells #[v] t (0, 0)) := by rw [← hW2, ← s1]; exact heap_alloc_new W1 _
  have b3 : W3.heap[w.heap.size + 1 + 1]? = some (.cells #[.pointer (some ⟨w.heap.size, 0, none⟩)] t2 (0, 0)) := by rw [← hW3, ← s2]; exact heap_alloc_new W2 _
  rw [hW1, hW2, hW3]
  have m := mv0 m1 (mv0 m2 m3)
  have b1' := (mv0 m2 m3).heap b1 id
  exact ⟨m, by rw [cell_blk b3]; rfl, by rw [cell_blk b1']; rfl, by rw [cell_blk b1']; rfl, by rw [cell_blk b1']; rfl, h.mv m (fun _ h => h.elim), m3.heap b2 id, s3⟩

/-- What is known between two rounds that only look. -/
def LkI {α : Type} (Wb : World) (ok : α → Bool) (pre : List α) (W : World) : Prop := Nu Wb W ∧ ∀ x ∈ pre, ok x = true
theorem LkI.abides {α : Type} {Wb : World} {ok : α → Bool} : Abides Wb.heap.size ItP (LkI Wb ok) := fun s A A' h hm => ⟨h.1.trans hm (fun x hx => .inr hx.1), h.2⟩

/-- What is known where a round has found one: the cell holds the answer. -/
def LkX {α : Type} (w Wb : World) (rb : Nat) (t : TypeId) (v : Value) (ok : α → Bool) (c : Code) (pre : List α) (W : World) : Prop := c = .ret ∧ Nu w W ∧ Wb.heap.size ≤ W.heap.size ∧ W.heap[rb]? = some (.cells #[v] t (0, 0)) ∧ ∃ x ∈ pre, ok x = false
theorem LkX.abides {α : Type} {w Wb : World} {rb : Nat} {t : TypeId} {v : Value} {ok : α → Bool} (h1 : w.heap.size ≤ Wb.heap.size) (h2 : rb < Wb.heap.size) (c : Code) : Abides Wb.heap.size ItP (LkX w Wb rb t v ok c) := fun s A A' h hm =>
  ⟨h.1, h.2.1.trans hm (fun x hx => .inr (Nat.le_trans h1 hx.1)), Nat.le_trans h.2.2.1 hm.size, hm.heap h.2.2.2.1 (fun hx => by omega), h.2.2.2.2⟩

theorem Books.set {W : World} {rb : Nat} {cs : Array Value} {t : TypeId} {m : Nat × Nat} (h : W.heap[rb]? = some (.cells cs t m)) (i : Nat) (v : Value) : Books W (W.setCell ⟨rb, i, none⟩ v) :=
  ⟨fun k o hk hb => (Mv.setCell W ⟨rb, i, none⟩ v).heap hk (fun e => by
    have e' : k = rb := e
    rw [e', h] at hk
    cases hk
    cases hb)⟩

end Go.Proofs.YtidihaecgmbhpabDoor
/-
  The names of a tree's propositions, one by one: laws. No walk.
-/
set_option linter.unusedSimpArgs false
set_option linter.unusedVariables false
namespace Go.Proofs.YtidihaecgmbhpabDoor
open Go.RowKit Q

/-- What the iterator turns: that of the parts', and the books of loops. -/
def ItN (A : World) (y : Nat) : Prop := ∃ o, A.heap[y]? = some o ∧ (itO o = true ∨ bookO o = true)

/-- What must be kept for it. -/
def kpO : Obj → Bool
  | .cells _ t _ => t == 82 || t == 22 || t == 86 || t == 49
  | .map _ _ => true
  | _ => false
theorem kpO_it {o : Obj} (h : itO o = true) : kpO o = true := by
  cases o <;> simp_all [itO, kpO]
structure KpN (pb : Nat) (root : A) (H : Nat) (W W' : World) : Prop where
  own : ∀ (y : Nat) (o : Obj), W.heap[y]? = some o → kpO o = true → W'.heap[y]? = some o
  books : BooksFrom H W W'
  tree : ∀ (y : Nat), (y = pb ∨ ∃ a ∈ root.subs, a.kids ≠ [] ∧ y = a.ent.b) → ∀ o, W.heap[y]? = some o → bookO o = false → W'.heap[y]? = some o
  size : W.heap.size ≤ W'.heap.size
theorem KpN.trans {pb : Nat} {root : A} (H : Nat) (A B C : World) (h : KpN pb root H A B) (k : KpN pb root H B C) : KpN pb root H A C :=
  ⟨fun y o h1 h2 => k.own y o (h.own y o h1 h2) h2, h.books.trans k.books, fun y hy o h1 h2 => k.tree y hy o (h.tree y hy o h1 h2) h2, Nat.le_trans h.size k.size⟩
theorem KpN.nu {pb : Nat} {root : A} {H : Nat} {W W' : World} (h : Nu W W') : KpN pb root H W W' := ⟨fun y o h1 _ => h.heap h1 id, (Books.of_nu h).from H, fun y _ o h1 _ => h.heap h1 id, h.size⟩
theorem KpN.put {pb : Nat} {root : A} (H : Nat) (W : World) (l : Nat) (r r' : Loop) (hl : l < H) (h : W.heap[l]? = some (.loop r)) : KpN pb root H W (W.putObj l (.loop r')) := by
  have key : ∀ (y : Nat) (o : Obj), W.heap[y]? = some o → (∀ q, o ≠ .loop q) → (W.putObj l (.loop r')).heap[y]? = some o := fun y o h1 h2 => by
    have : y ≠ l := fun e => by rw [e, h] at h1; cases h1; exact h2 r rfl
    rw [World.putObj_heap_other this]
    exact h1
  exact ⟨fun y o h1 h2 => key y o h1 (fun q e => by rw [e] at h2; cases h2), BooksFrom.put _ _ _ hl, fun y _ o h1 h2 => key y o h1 (fun q e => by rw [e] at h2; cases h2), by simp⟩
theorem KpN.kp {cb pb : Nat} {root : A} {H : Nat} {W W' : World} {cs : Array Value} (h : KpN pb root H W W') (hc : W.heap[cb]? = some (.cells cs 49 (0, 0))) : KpP cb pb root W W' := by
  refine ⟨fun y o h1 h2 => h.own y o h1 (kpO_it h2), fun y hy o h1 h2 => ?_, h.size⟩
  rcases hy with rfl | hy
  · rw [hc] at h1
    cases h1
    exact h.own _ _ hc (by simp [kpO])
  · exact h.tree y hy o h1 h2

/-- The names of parts so far. -/
def nmsOf {w : World} {B pb : Nat} {root : A} (pre : List (PE w B pb root)) : List Wd := pre.filterMap fun x => if x.a.kind = 3 then some x.a.name else none
theorem nmsOf_yes {w : World} {B pb : Nat} {root : A} (pre : List (PE w B pb root)) (x : PE w B pb root) (h : x.a.kind = 3) : nmsOf (pre ++ [x]) = nmsOf pre ++ [x.a.name] := by
  simp [nmsOf, List.filterMap_append, h]
theorem nmsOf_no {w : World} {B pb : Nat} {root : A} (pre : List (PE w B pb root)) (x : PE w B pb root) (h : ¬ x.a.kind = 3) : nmsOf (pre ++ [x]) = nmsOf pre := by
  simp [nmsOf, List.filterMap_append, h]
theorem nmsOf_len {w : World} {B pb : Nat} {root : A} (pre : List (PE w B pb root)) : (nmsOf pre).length ≤ pre.length := by
  unfold nmsOf
  exact List.length_filterMap_le _ _

/-- All names, none but names. -/
def NmS (root : A) (xs : List Wd) : Prop := ∀ n, n ∈ xs ↔ ∃ a ∈ root.subs, a.kind = 3 ∧ a.name = n
theorem NmS.of {w : World} {B pb : Nat} {root : A} {pre : List (PE w B pb root)} (h : AllP root pre) : NmS root (nmsOf pre) := fun n => by
  unfold nmsOf
  rw [List.mem_filterMap]
  constructor
  · rintro ⟨x, hx, hn⟩
    split at hn
    · rename_i hk
      cases hn
      exact ⟨x.a, x.2.1, hk, rfl⟩
    · cases hn
  · rintro ⟨a, ha, hk, rfl⟩
    obtain ⟨x, hx, rfl⟩ := h a ha
    exact ⟨x, hx, by rw [if_pos hk]⟩

/-- A part's cells, read in a later world. -/
theorem PE.cellsT {w W : World} {B cb pb : Nat} {root : A} (x : PE w B pb root) (h : TSame cb pb root w W) : x.a.name.length ≤ 140737488355328 ∧ W.cell? ⟨x.1.1, x.1.2.1, none⟩ = some (.int .i64 x.a.kind) ∧ W.cell? ⟨x.1.1, x.1.2.1 + 1, none⟩ = some (.string (strOfL x.a.name)) := by
  obtain ⟨ao, cap, h1, h2, h3, _⟩ := x.cells (Mv.refl _ _)
  have hb := h x.1.1 (.inr x.2.2.1)
  exact ⟨h1, cell_same hb h2, cell_same hb h3⟩

/-- Between two rounds. -/
structure NMid (w Wb : World) (B pb cb yb l : Nat) (root : A) (J : List Wd → World → Prop) (pre : List (PE Wb B pb root)) (W : World) : Prop where
  same : TSame cb pb root Wb W
  j : J (nmsOf pre) W
  y : W.heap[yb]? = some (.cells #[.func (.yield l) #[] #[]] 86 (0, 0))
  c : ∃ cs, W.heap[cb]? = some (.cells cs 49 (0, 0))

theorem NMid.abides {w Wb : World} {B pb cb yb l : Nat} {root : A} {J : List Wd → World → Prop} {H : Nat} (hJ : Stays H ItN J) (hH : H ≤ Wb.heap.size) (hy : yb < Wb.heap.size) (hc : cb < Wb.heap.size) : Abides Wb.heap.size ItP (NMid w Wb B pb cb yb l root J) := fun pre A A' h hm => by
  refine ⟨h.same.mv hm (fun x hx => hx.1), hJ _ _ _ h.j (hm.mono (fun x hx => .inl ⟨Nat.le_trans hH hx.1, ?_⟩)), hm.heap h.y (fun hx => by omega), ?_⟩
  · rcases hx.2 with ⟨o, h1, h2⟩ | ⟨o, h1, h2⟩
    · exact ⟨o, h1, .inl h2⟩
    · exact ⟨o, h1, .inr h2⟩
  · obtain ⟨cs, h1⟩ := h.c
    exact ⟨cs, hm.heap h1 (fun hx => by omega)⟩

/-- Where a round has left. -/
def NLeft {Wb : World} {B pb : Nat} {root : A} (Jx : List Wd → World → Prop) (c : Code) (pre : List (PE Wb B pb root)) (W : World) : Prop := c = .ret ∧ ∃ q, Jx q W
theorem NLeft.abides {Wb : World} {B pb : Nat} {root : A} {Jx : List Wd → World → Prop} {H : Nat} (hJ : Stays H ItN Jx) (hH : H ≤ Wb.heap.size) (c : Code) : Abides Wb.heap.size ItP (NLeft (Wb := Wb) (B := B) (pb := pb) (root := root) Jx c) := fun pre A A' h hm => by
  obtain ⟨h1, q, h2⟩ := h
  refine ⟨h1, q, hJ _ _ _ h2 (hm.mono (fun x hx => .inl ⟨Nat.le_trans hH hx.1, ?_⟩))⟩
  rcases hx.2 with ⟨o, g1, g2⟩ | ⟨o, g1, g2⟩
  · exact ⟨o, g1, .inl g2⟩
  · exact ⟨o, g1, .inr g2⟩

theorem NMid.next {w Wb : World} {B pb cb yb l : Nat} {root : A} {J : List Wd → World → Prop} {pre : List (PE Wb B pb root)} {W W' : World} {x : PE Wb B pb root} (h : NMid w Wb B pb cb yb l root J pre W) {H : Nat} (hk : KpN pb root H W W') (hj : J (nmsOf (pre ++ [x])) W') : NMid w Wb B pb cb yb l root J (pre ++ [x]) W' := by
  obtain ⟨cs, hc⟩ := h.c
  exact ⟨h.same.kp (hk.kp hc), hj, hk.own _ _ h.y (by simp [kpO]), cs, hk.own _ _ hc (by simp [kpO])⟩

end Go.Proofs.YtidihaecgmbhpabDoor
/-
  The names of a tree's propositions, one by one: the walk.
-/
set_option linter.unusedSimpArgs false
set_option linter.unusedVariables false
namespace Go.Proofs.YtidihaecgmbhpabDoor
open Go.RowKit Q
attribute [local go_sem] Oper.semAt_some

theorem names_end {n : Nat} {W : World} {D : Nat} {R : Ending → World → Prop} (hD : W.heap[D]? = some (.deferred (some []))) (hR : R (.returned (.tuple #[])) (W.putObj D (.deferred none))) (T : Array Value) (x : Exit) (hx : x = .ret ∨ x = .normal) :
    bodyPostM Fence.wide n Tryd.prog Tryd.f51 R x { tmps := T, defers := [{ target := .collected D, args := #[] }] } W := by
  have key : LeavesInM Fence.wide n Tryd.prog Tryd.f51 T R [{ target := .collected D, args := #[] }] .returning W :=
    ⟨by simp, .inl ⟨D, _, rfl, run_takeDeferred hD, ⟨.tuple #[], results_none rfl _ _ _, hR⟩⟩⟩
  rcases hx with rfl | rfl
  · exact key
  · exact key

theorem roundW {m m' l2 : Nat} {P : Program} {l : Nat} {fn : FuncId} {tmps : Array Value} {assign body : Code} {w : World} {R : Ending → World → Prop} (h : RoundIn Fence.wide m P l fn tmps assign body w R) : RoundIn (Fence.wide.inRound l2) m' P l fn tmps assign body w R := ⟨trivial, fun c cs _ => h.2 c cs (fun d hd => by cases hd)⟩
theorem none_some (Q : FuncId → Prop) : (∀ f : FuncId, (none : Option FuncId) = some f → Q f) = True := eq_true fun f h => by cases h

set_option maxHeartbeats 4000000 in
set_option maxRecDepth 100000 in
theorem names_seq (n : Nat) (hn : 2 ≤ n) (w : World) (B cn pb po : Nat) (hB : B ≤ w.heap.size) (hpl : pb < w.heap.size) (c0 c1 c2 : Value) (root : A) (hc : w.cell? ⟨cn, 0, none⟩ = some (.pointer (some ⟨pb, po, none⟩)))
    (h0 : w.cell? ⟨pb, po, none⟩ = some c0) (h1 : w.cell? ⟨pb, po + 1, none⟩ = some c1) (h2 : w.cell? ⟨pb, po + 2, none⟩ = some c2) (hA : AIn w B c0 c1 c2 root) (hs : root.t.size ≤ 1000000) :
    SeqI n 51 #[.pointer (some ⟨cn, 0, none⟩)] (fun x : Wd => #[.string (strOfL x)]) ItN (KpN pb root) (NmS root) (fun _ => True) 2000000000000 w := fun l J Jx W hW hJ hJx hY hj0 => by
  have hcW := cell_mv hW hc id
  have HS := hid hs
  have HJ := hid hJ
  have HJx := hid hJx
  have HY := hid hY
  have HJ0 := hid hj0
  have HC := hid (And.intro (cell_mv hW h0 id) (And.intro (cell_mv hW h1 id) (And.intro (cell_mv hW h2 id) (hA.mv hW (fun _ h => h.elim)))))
  have HBW : Hid (B ≤ W.heap.size) := Nat.le_trans hB hW.size
  clear hs hJ hJx hY hj0 hc h0 h1 h2 hA hB hpl hW
  have hn1 : 1 ≤ n := by omega
  have hcn : cn < W.heap.size := World.block_lt_of_cell? W _ hcW
  refine callsIn_of_wp_marks Tryd.func51 rfl trivial ?_ rfl
  simp only [Tryd.ntmps51, List.size_toArray, List.length_cons, List.length_nil, Nat.reduceAdd, Nat.reduceSub, Array.replicate_succ, Array.replicate_zero, List.push_toArray, List.append_toArray, List.nil_append, List.cons_append]
  gi_wp2_with (refine ⟨trivial, ?_⟩; gi_at_call 22; refine (callsIn_wide.2 (parts_any _ _)).mono ?_; rintro e w1 ⟨rfl, rfl⟩)
  clear hcW hcn
  have hNb : Nu W ((W.alloc (.cells #[.func (.yield l) #[] #[]] 86)).alloc (.cells #[.pointer (some ⟨pb, po, none⟩)] 49)) := mv0 (Mv.alloc _ _ _) (Mv.alloc _ _ _)
  have hyb : ((W.alloc (.cells #[.func (.yield l) #[] #[]] 86)).alloc (.cells #[.pointer (some ⟨pb, po, none⟩)] 49)).heap[W.heap.size]? = some (.cells #[.func (.yield l) #[] #[]] 86 (0, 0)) := (Mv.alloc (fun _ => False) _ _).heap (heap_alloc_new W _) id
  have hcb : ((W.alloc (.cells #[.func (.yield l) #[] #[]] 86)).alloc (.cells #[.pointer (some ⟨pb, po, none⟩)] 49)).heap[W.heap.size + 1]? = some (.cells #[.pointer (some ⟨pb, po, none⟩)] 49 (0, 0)) := by
    have := heap_alloc_new (W.alloc (.cells #[.func (.yield l) #[] #[]] 86)) (.cells #[.pointer (some ⟨pb, po, none⟩)] 49)
    rw [show (W.alloc (.cells #[.func (.yield l) #[] #[]] 86)).heap.size = W.heap.size + 1 by simp] at this
    exact this
  generalize hWb : World.alloc _ _ = Wb at hNb hyb hcb ⊢
  clear hWb
  have HNb := hid hNb
  have HYb := hid hyb
  have HCb := hid hcb
  have hylt := lt_of_block hyb
  have hclt := lt_of_block hcb
  clear hNb hyb hcb
  refine range_any (α := PE Wb B pb root) (gf := 36) (lb := #[.pointer (some ⟨W.heap.size + 1, 0, none⟩)]) rfl (enters_of Tryd.func36 (by kernel_rfl) rfl)
    (parts_seq (n - 1) (by omega) Wb B (W.heap.size + 1) pb po (Nat.le_trans HBW.out HNb.out.size) c0 c1 c2 root (by rw [cell_blk HCb.out]; rfl) (cell_mv HNb.out HC.out.1 id) (cell_mv HNb.out HC.out.2.1 id) (cell_mv HNb.out HC.out.2.2.1 id) (HC.out.2.2.2.mv HNb.out (fun _ h => h.elim)) HS.out) (fun _ => KpP.trans) (fun _ W l r r' _ h => KpP.put W l r r' h) (fun _ => rfl)
    (NMid w Wb B pb (W.heap.size + 1) W.heap.size l root J) (NLeft Jx) (NMid.abides HJ.out HNb.out.size hylt hclt) (NLeft.abides HJx.out HNb.out.size)
    ⟨fun _ _ _ h _ => h, HJ.out _ _ _ HJ0.out (HNb.out.mono (fun _ h => h.elim)), HYb.out, _, HCb.out⟩
    (fun x => { tmps := #[.func (.yield l) #[] #[], .pointer (some ⟨cn, 0, none⟩), .pointer (some ⟨W.heap.size, 0, none⟩), .pointer (some ⟨x.1.1, x.1.2.1, none⟩), .pointer (some ⟨pb, po, none⟩), .func (.func 36) #[] #[.pointer (some ⟨W.heap.size + 1, 0, none⟩)], .pointer (some ⟨x.1.1, x.1.2.1, none⟩), undef, undef, undef, undef, undef, undef, undef, undef, undef, undef, undef, undef, undef, undef], defers := [] }) ?assign ?body ?done ?stop
  case assign =>
    intro l x W K hK
    simp only [PE.v]
    gi_wp2
    exact hK
  case stop =>
    rintro D c pre V hD _ ⟨rfl, q, hq⟩ hd
    have HQ : Hid (Jx q V) := hq
    clear hq
    gi_wp2_with fail
    refine names_end hd ?_ _ _ (.inl rfl)
    exact ⟨⟨_, rfl⟩, .inr ⟨q, trivial, HJx.out _ _ _ HQ.out ((mv_putObj V D _).mono (fun x hx => .inl ⟨by have := HNb.out.size; omega, .deferred (some []), by rw [hx]; exact hd, .inr rfl⟩))⟩⟩
  case done =>
    rintro D xs V hD hS hmid hd
    have HMd := hid hmid
    have HSx : Hid (AllP root xs) := hS
    clear hmid hS
    gi_wp2_with fail
    refine names_end hd ?_ _ _ (.inr rfl)
    exact ⟨⟨_, rfl⟩, .inl ⟨_, NmS.of HSx.out, HJ.out _ _ _ HMd.out.j ((mv_putObj V D _).mono (fun x hx => .inl ⟨by have := HNb.out.size; omega, .deferred (some []), by rw [hx]; exact hd, .inr rfl⟩))⟩⟩
  case body =>
    rintro l2 pre x V hmid hlen
    obtain ⟨q1, q2, q3⟩ := x.cellsT hmid.same
    have y0 : V.cell? ⟨W.heap.size, 0, none⟩ = some (.func (.yield l) #[] #[]) := by rw [cell_blk hmid.y]; rfl
    have HMd := hid hmid
    clear hmid q1
    by_cases hk : x.a.kind = 3
    · have hd3 : decide (x.a.kind = 3) = true := decide_eq_true hk
      rw [hk] at q2
      have hne := nmsOf_yes pre x hk
      have hl := nmsOf_len pre
      have HYY : Hid (∀ V', Nu V V' → YieldAt Fence.wide (n - 1) Tryd.prog l #[.string (strOfL x.a.name)] V' fun e W' => ∃ b : Bool, e = .returned (.bool b) ∧ ((b = true ∧ J (nmsOf (pre ++ [x])) W' ∧ KpN pb root W.heap.size V W') ∨ (b = false ∧ BooksFrom W.heap.size V W' ∧ ∃ q, Jx q W'))) := fun V' hV' => by
        refine (HY.out (nmsOf pre) x.a.name V' (HJ.out _ _ _ HMd.out.j (hV'.mono (fun _ h => h.elim))) (by omega)).mono ?_
        rintro e W' (⟨rfl, g1, g2⟩ | ⟨rfl, g1, g2⟩)
        · exact ⟨true, rfl, .inl ⟨rfl, by rw [hne]; exact g1, KpN.trans _ _ _ _ (KpN.nu hV') g2⟩⟩
        · exact ⟨false, rfl, .inr ⟨rfl, ((Books.of_nu hV').from _).trans g2, _, g1⟩⟩
      have hmx : Tryd.prog.follows Departure.mixedOrders = true := by kernel_rfl
      obtain ⟨fn, tmps, assign, body, hy, hR⟩ := HYY.out V.drew (Mv.drew _ _)
      have HR := hid hR
      clear hR hne hl
      gi_wp2_with fail
      gi_region_with_o (refine ⟨fun h => by simp [Fence.wide] at h, (roundW HR.out).mono ?_⟩; rintro e W3 ⟨bb, rfl, hb⟩; have HBB := hid hb; clear hb)
      all_goals
        rcases HBB.out with ⟨rfl, hj, hkp⟩ | ⟨rfl, hbk, q, hq⟩
        · have HJJ := hid (And.intro hj hkp)
          clear hj hkp
          gi_wp2_with fail
          obtain ⟨cs, hcc⟩ := HMd.out.c
          exact ⟨HJJ.out.2.books.up HNb.out.size, HJJ.out.2.kp hcc, HMd.out.next HJJ.out.2 HJJ.out.1⟩
        · have HJJ : Hid (BooksFrom W.heap.size V W3 ∧ ∃ q, Jx q W3) := ⟨hbk, q, hq⟩
          clear hbk hq
          gi_wp2_with fail
          exact ⟨HJJ.out.1.up HNb.out.size, rfl, HJJ.out.2⟩
    · have hd3 : decide (x.a.kind = 3) = false := decide_eq_false hk
      have hb3 : (x.a.kind == 3) = false := by simpa using hk
      have hmx : Tryd.prog.follows Departure.mixedOrders = true := by kernel_rfl
      have hns : (∀ f : FuncId, (none : Option FuncId) = some f → Fence.wide.fn f) = True := none_some _
      have hwf : ∀ f : FuncId, Fence.wide.fn f = True := fun _ => rfl
      gi_wp2_with fail
      gi_region_with_o (fail)
      all_goals
        gi_wp2_with fail
        refine ⟨(Books.of_nu (Mv.drew _ _)).from _, KpP.nu (Mv.drew _ _), HMd.out.next (H := 0) (KpN.nu (Mv.drew _ _)) ?_⟩
        rw [nmsOf_no pre x hk]
        exact HJ.out _ _ _ HMd.out.j ((Mv.drew (fun _ => False) V).mono (fun _ h => h.elim))

end Go.Proofs.YtidihaecgmbhpabDoor
/-
  slices.AppendSeq over the names: what is kept between two rounds. No walk.
-/
set_option linter.unusedSimpArgs false
set_option linter.unusedVariables false
namespace Go.Proofs.YtidihaecgmbhpabDoor
open Go.RowKit Q

def strV (xs : List Wd) : List Value := xs.map fun x => .string (strOfL x)

/-- Between two rounds: the box holds a slice of the texts so far. -/
structure CMidN (w : World) (ab : Nat) (pre : List Wd) (W : World) : Prop where
  nu : Nu w W
  len : pre.length ≤ 4000000000000
  ex : ∃ v, W.heap[ab]? = some (.cells #[v] 38 (0, 0)) ∧ W.ownsRow (ab + 1) 9 1 v pre.length (strV pre)

theorem row_kept {S : Nat → Prop} {w w' : World} {base : Nat} {e : TypeId} {size : Nat} {v : Value} {n : Nat} {xs : List Value} (hr : w.ownsRow base e size v n xs) (h : Mv S w w') (hS : ∀ x cs m, w.heap[x]? = some (.cells cs e m) → ¬ S x) : w'.ownsRow base e size v n xs := by
  refine ⟨hr.1, ?_⟩
  rcases hr.2 with hn' | ⟨g, cap, cur, rfl, hb, hgg, rest⟩
  · exact .inl hn'
  · exact .inr ⟨g, cap, cur, rfl, hb, h.heap hgg (hS g _ _ hgg), rest⟩

theorem CMidN.abides {w Wb : World} {ab : Nat} (h1 : w.heap.size ≤ Wb.heap.size) (h2 : ab < Wb.heap.size) : Abides Wb.heap.size ItN (CMidN w ab) := fun pre A A' h hm => by
  obtain ⟨v, g1, g2⟩ := h.ex
  refine ⟨h.nu.trans hm (fun x hx => .inr (Nat.le_trans h1 hx.1)), h.len, v, hm.heap g1 (fun hx => by omega), row_kept g2 hm (fun x cs m hx hs => ?_)⟩
  rcases hs.2 with ⟨o, q1, q2⟩ | ⟨o, q1, q2⟩
  · rw [hx] at q1
    cases q1
    rcases q2 with q2 | q2
    · simp [itO] at q2
    · cases q2
  · rw [hx] at q1
    cases q1
    cases q2

theorem CMidN.next {w V V5 : World} {ab : Nat} {pre : List Wd} {x : Wd} {v v' : Value} {O : Obj} (hN : Nu w V) (hll : pre.length + 1 ≤ 4000000000000) (hab : w.heap.size ≤ ab) (hb : V.heap[ab]? = some (.cells #[v] 38 (0, 0))) (hr : V.ownsRow (ab + 1) 9 1 v pre.length (strV pre))
    (ho : V5.ownsRow (ab + 1) 9 1 v' (pre.length + 1) (strV pre ++ [.string (strOfL x)])) (hg : (V.alloc O).grownBy V5 v.ownBlock) {pb : Nat} {root : A} {H : Nat} (hpb : pb < w.heap.size) (htr : ∀ a ∈ root.subs, a.kids ≠ [] → a.ent.b < w.heap.size) :
    V5.heap[ab]? = some (.cells #[v] 38 (0, 0)) ∧ CMidN w ab (pre ++ [x]) (V5.setCell ⟨ab, 0, none⟩ v') ∧ KpN pb root H V (V5.setCell ⟨ab, 0, none⟩ v') := by
  have hblt := lt_of_block hb
  have hown : ∀ y, v.ownBlock = some y → ab + 1 ≤ y ∧ ∃ cs, V.heap[y]? = some (.cells cs 9 (0, 0)) := fun y hy => by
    rcases hr.2 with ⟨rfl, _⟩ | ⟨g, cap, cur, rfl, h1, h2, _⟩
    · cases hy
    · cases hy
      exact ⟨h1, cur, h2⟩
  have m1 : Mv (fun y => v.ownBlock = some y) V V5 := (Mv.alloc (fun y => v.ownBlock = some y) V O).trans (Mv.grown hg) (fun y hy => .inl hy)
  have hb5 := m1.heap hb (fun e => by have := (hown _ e).1; omega)
  have m2 : Mv (fun y => v.ownBlock = some y ∨ y = ab) V (V5.setCell ⟨ab, 0, none⟩ v') := (m1.mono (fun y hy => .inl (.inl hy))).trans (Mv.setCell _ _ _) (fun y hy => .inl (.inr hy))
  have hv' : v'.ownBlock ≠ some ab := fun e => by
    rcases ho.2 with ⟨rfl, _⟩ | ⟨g, cap, cur, rfl, h1, _⟩
    · cases e
    · have e' : g = ab := by injection e
      omega
  have key : ∀ (y : Nat) (o : Obj), V.heap[y]? = some o → (∀ cs, o ≠ .cells cs 9 (0, 0)) → y ≠ ab → (V5.setCell ⟨ab, 0, none⟩ v').heap[y]? = some o := fun y o h1 h2 h3 => m2.heap h1 (fun e => by
    rcases e with e | e
    · obtain ⟨_, cs, h4⟩ := hown y e
      rw [h1] at h4
      cases h4
      exact h2 cs rfl
    · exact h3 e)
  have hne : ∀ (y : Nat) (o : Obj), V.heap[y]? = some o → (∀ cs, o ≠ .cells cs 38 (0, 0)) → y ≠ ab := fun y o h1 h2 e => by
    rw [e, hb] at h1
    cases h1
    exact h2 _ rfl
  refine ⟨hb5, ⟨hN.trans m2 (fun y hy => .inr ?_), by rw [List.length_append]; exact hll, v', by rw [setCell_blk hb5]; rfl, ?_⟩, ⟨fun y o h1 h2 => key y o h1 (fun cs e => ?_) (hne y o h1 (fun cs e => ?_)), fun y o _ h1 h2 => key y o h1 (fun cs e => ?_) (hne y o h1 (fun cs e => ?_)), fun y hy o h1 _ => m2.heap h1 (fun e => ?_), by have := m2.size; exact this⟩⟩
  · rcases hy with hy | hy
    · have := (hown y hy).1; omega
    · omega
  · rw [List.length_append]
    have : strV (pre ++ [x]) = strV pre ++ [.string (strOfL x)] := by simp [strV]
    rw [this]
    exact row_mv ho (Mv.setCell V5 ⟨ab, 0, none⟩ v') (fun y hy e => hv' (by rw [hy, e]))
  · rw [e] at h2; simp [kpO] at h2
  · rw [e] at h2; simp [kpO] at h2
  · rw [e] at h2; cases h2
  · rw [e] at h2; cases h2
  · have hyl : y < w.heap.size := by
      rcases hy with rfl | ⟨a, ha, hk, rfl⟩
      · exact hpb
      · exact htr a ha hk
    rcases e with e | e
    · have := (hown y e).1; omega
    · omega

end Go.Proofs.YtidihaecgmbhpabDoor
/-
  slices.AppendSeq over the names: the walk.
-/
set_option linter.unusedSimpArgs false
set_option linter.unusedVariables false
namespace Go.Proofs.YtidihaecgmbhpabDoor
open Go.RowKit Q
attribute [local go_sem] Oper.semAt_some

theorem coll_end {w W : World} {D : Nat} {v : Value} {R : Ending → World → Prop} (hD : W.heap[D]? = some (.deferred (some []))) (hR : R (.returned v) (W.putObj D (.deferred none))) (T : Array Value) (hT : T[4]?.getD undef = v) (x : Exit) (hx : x = .ret ∨ x = .normal) :
    bodyPostM Fence.wide 6 Tryd.prog Tryd.f65 R x { tmps := T, defers := [{ target := .collected D, args := #[] }] } W := by
  have key : LeavesInM Fence.wide 6 Tryd.prog Tryd.f65 T R [{ target := .collected D, args := #[] }] .returning W := by
    refine ⟨by simp, .inl ⟨D, _, rfl, run_takeDeferred hD, ⟨v, ?_, hR⟩⟩⟩
    simp only [results, Tryd.results65]
    simp [hT, go_sem]
  rcases hx with rfl | rfl
  · exact key
  · exact key

set_option maxHeartbeats 4000000 in
set_option maxRecDepth 100000 in
theorem AppendSeq_any (w : World) (cn pb po : Nat) (hpl : pb < w.heap.size) (c0 c1 c2 : Value) (root : A) (hc : w.cell? ⟨cn, 0, none⟩ = some (.pointer (some ⟨pb, po, none⟩)))
    (h0 : w.cell? ⟨pb, po, none⟩ = some c0) (h1 : w.cell? ⟨pb, po + 1, none⟩ = some c1) (h2 : w.cell? ⟨pb, po + 2, none⟩ = some c2) (hA : AIn w w.heap.size c0 c1 c2 root) (hs : root.t.size ≤ 1000000) :
    Calls Tryd.prog 65 #[.slice none 0 0, .func (.func 51) #[] #[.pointer (some ⟨cn, 0, none⟩)]] w fun e w' => Nu w w' ∧ ∃ v xs, e = .returned v ∧ xs.length ≤ 4000000000000 ∧ NmS root xs ∧ w'.ownsRow (w.heap.size + 1) 9 1 v xs.length (strV xs) := by
  have HA := hid hA
  have HS := hid hs
  have HTr : Hid (∀ a ∈ root.subs, a.kids ≠ [] → a.ent.b < w.heap.size) := fun a ha hk => (hA.subs a ha hk).lt
  have HC := hid (And.intro hc (And.intro h0 (And.intro h1 h2)))
  clear hA hs hc h0 h1 h2
  obtain ⟨i0, hi0⟩ := info_parts (P := Tryd.prog) (e := 9) (z := .string ⟨#[]⟩) (size := 1) (bytes := 16) (by kernel_rfl)
  have HI0 := hid hi0
  clear hi0
  refine (callsIn_wide (n := 6)).1 ?_
  refine callsIn_of_wp_marks Tryd.func65 rfl trivial ?_ rfl
  simp only [Tryd.ntmps65, List.size_toArray, List.length_cons, List.length_nil, Nat.reduceAdd, Nat.reduceSub, Array.replicate_succ, Array.replicate_zero, List.push_toArray, List.append_toArray, List.nil_append, List.cons_append]
  gi_wp2_with fail
  have hNb : Nu w (w.alloc (.cells #[.slice none 0 0] 38)) := Mv.alloc _ _ _
  have hab := heap_alloc_new w (.cells #[.slice none 0 0] 38)
  generalize hWb : World.alloc _ _ = Wb at hNb hab ⊢
  clear hWb
  have HNb := hid hNb
  have HAb := hid hab
  have halt := lt_of_block hab
  clear hNb hab
  refine range_any (α := Wd) (gf := 51) (lb := #[.pointer (some ⟨cn, 0, none⟩)]) rfl (enters_of Tryd.func51 (by kernel_rfl) rfl)
    (names_seq 5 (by omega) Wb w.heap.size cn pb po HNb.out.size (by have := HNb.out.size; omega) c0 c1 c2 root (cell_mv HNb.out HC.out.1 id) (cell_mv HNb.out HC.out.2.1 id) (cell_mv HNb.out HC.out.2.2.1 id) (cell_mv HNb.out HC.out.2.2.2 id) (HA.out.mv HNb.out (fun _ h => h.elim)) HS.out) KpN.trans KpN.put (fun _ => rfl)
    (CMidN w w.heap.size) (fun _ _ _ => False) (CMidN.abides HNb.out.size halt) (fun _ _ _ _ h _ => h) ⟨HNb.out, Nat.zero_le _, _, HAb.out, World.ownsRow_nil _ _ _ _⟩
    (fun x => { tmps := #[.slice none 0 0, .func (.func 51) #[] #[.pointer (some ⟨cn, 0, none⟩)], .pointer (some ⟨w.heap.size, 0, none⟩), undef, .slice none 0 0, .string (strOfL x), .func (.func 51) #[] #[.pointer (some ⟨cn, 0, none⟩)], .string (strOfL x), undef, undef, undef, undef, undef], defers := [] }) ?assign ?body ?done ?stop
  case assign =>
    intro l x W K hK
    gi_wp2
    exact hK
  case stop =>
    rintro D c pre V hD _ h hd
    exact h.elim
  case done =>
    rintro D xs V hD hS hmid hd
    obtain ⟨v, g1, g2⟩ := hmid.ex
    obtain ⟨ao, cap, rfl⟩ := row_len g2
    have k0 : V.cell? ⟨w.heap.size, 0, none⟩ = some (.slice ao xs.length cap) := by rw [cell_blk g1]; rfl
    have HG2 := hid g2
    have HNu := hid hmid.nu
    have HLe := hid hmid.len
    have HNm : Hid (NmS root xs) := hS
    have HDz : Hid (w.heap.size ≤ D) := Nat.le_trans HNb.out.size hD
    clear g1 g2 hmid hS
    gi_wp2_with fail
    refine coll_end (w := w) (v := .slice ao xs.length cap) hd ?_ _ rfl _ (by first | exact .inl rfl | exact .inr rfl)
    refine ⟨HNu.out.trans (mv_putObj V D _) (fun x hx => .inr (by have := HDz.out; omega)), _, xs, rfl, HLe.out, HNm.out, row_kept HG2.out (mv_putObj V D _) (fun x cs m hx e => ?_)⟩
    rw [e, hd] at hx
    cases hx
  case body =>
    rintro l2 pre x V hmid hlen
    obtain ⟨v, g1, g2⟩ := hmid.ex
    obtain ⟨ao, cap, rfl⟩ := row_len g2
    have k0 : V.cell? ⟨w.heap.size, 0, none⟩ = some (.slice ao pre.length cap) := by rw [cell_blk g1]; rfl
    have hvl := lt_of_block g1
    have HG1 := hid g1
    have HG2 := hid g2
    have HNu := hid hmid.nu
    have HLn := hid hlen
    have HBV : Hid (w.heap.size + 1 ≤ V.heap.size) := hvl
    clear g1 g2 hmid hlen
    gi_wp2_with (gi_at_builtin; refine wpListIn_append_own _ rfl _ _ 38 rfl (w.heap.size + 1) 9 i0 (.string ⟨#[]⟩) 1 16 Tryd.underlying38 HI0.out.1 HI0.out.2.1 HI0.out.2.2.1 HI0.out.2.2.2 rfl (by omega) (.slice ao pre.length cap) pre.length (strV pre) rfl (HG2.out.alloc _) ⟨V.heap.size, 0, none⟩ 1 1 [.string (strOfL x)] rfl rfl (World.news_of_block (heap_alloc_new V _)) (by simp [Value.oneCell']) (by have := HLn.out; unfold maxLen; omega) (by have := HLn.out; omega) (by have := HBV.out; simp; omega) ?_; intro v5 w5 hown hgrow _; obtain ⟨ao5, cap5, rfl⟩ := row_len hown; obtain ⟨q1, q2, q3⟩ := CMidN.next (x := x) (H := 0) HNu.out (by have := HLn.out; omega) (Nat.le_refl _) HG1.out HG2.out hown hgrow hpl HTr.out; have k5 : w5.cell? ⟨w.heap.size, 0, none⟩ = some (.slice ao pre.length cap) := (by rw [cell_blk q1]; rfl); have f5 : w5.frozen? ⟨w.heap.size, 0, none⟩ = false := free_blk q1 0; have HQ := hid (And.intro q2 q3); clear q1 q2 q3 hown hgrow)
    exact ⟨HQ.out.2.books.up (Nat.zero_le _), ⟨HQ.out.2.own, HQ.out.2.books.up (Nat.zero_le _), HQ.out.2.tree, HQ.out.2.size⟩, HQ.out.1⟩

end Go.Proofs.YtidihaecgmbhpabDoor
/-
  What the program's Check gives.
-/
set_option linter.unusedSimpArgs false
set_option linter.unusedVariables false
namespace Go.Proofs.YtidihaecgmbhpabDoor
open Go.RowKit Q
attribute [local go_sem] Oper.semAt_some

theorem AIn.up {w : World} {B B' : Nat} {c0 c1 c2 : Value} {a : A} (h : AIn w B c0 c1 c2 a) (hB : B ≤ B') : AIn w B' c0 c1 c2 a := h.same hB (fun _ _ _ _ h _ => h)

theorem check_end {w W : World} {D rb : Nat} {v : Value} {t : TypeId} (hD : W.heap[D]? = some (.deferred (some []))) (hr : W.heap[rb]? = some (.cells #[v] t (0, 0))) (hN : Nu w W) (hw : w.heap.size ≤ D) (T : Array Value) (hT : T[2]?.getD undef = .pointer (some ⟨rb, 0, none⟩)) (x : Exit) (hx : x = .ret ∨ x = .normal) :
    bodyPostM Fence.wide 5 Tryd.prog Tryd.f19 (fun e w' => e = .returned v ∧ Nu w w') x { tmps := T, defers := [{ target := .collected D, args := #[] }] } W := by
  have hne : rb ≠ D := fun e => by rw [e, hD] at hr; cases hr
  have hr2 : (W.putObj D (.deferred none)).heap[rb]? = some (.cells #[v] t (0, 0)) := (World.putObj_heap_other hne).trans hr
  have hc : (W.putObj D (.deferred none)).cell? ⟨rb, 0, none⟩ = some v := by rw [cell_blk hr2]; rfl
  have key : LeavesInM Fence.wide 5 Tryd.prog Tryd.f19 T (fun e w' => e = .returned v ∧ Nu w w') [{ target := .collected D, args := #[] }] .returning W := by
    refine ⟨by simp, .inl ⟨D, _, rfl, run_takeDeferred hD, ?_⟩⟩
    refine ⟨v, ?_, rfl, hN.trans (mv_putObj W D _) (fun y hy => .inr (by rw [hy]; exact hw))⟩
    simp only [results, Tryd.results19]
    simp [hT, go_sem, hc]
  rcases hx with rfl | rfl
  · exact key
  · exact key

set_option maxHeartbeats 4000000 in
set_option maxRecDepth 100000 in
theorem Check_any' (a : A) (hs : a.t.size ≤ 1000000) (w : World) (hG : Gl w) (c0 c1 c2 : Value) (h : AIn w w.heap.size c0 c1 c2 a) : Looks 19 #[.agg #[c0, c1, c2]] w (.int .i64 (chk a.t : Int)) := by
  have HA := hid h
  have HS := hid hs
  have HG := hid hG
  clear h hs hG
  obtain ⟨R, hR⟩ : ∃ R : Int, (chk a.t : Int) = R := ⟨_, rfl⟩
  have HR := hid hR
  rw [hR]
  clear hR
  refine (callsIn_wide (n := 5)).1 ?_
  refine callsIn_of_wp_marks Tryd.func19 rfl trivial ?_ rfl
  simp only [Tryd.ntmps19, List.size_toArray, List.length_cons, List.length_nil, Nat.reduceAdd, Nat.reduceSub, Array.replicate_succ, Array.replicate_zero, List.push_toArray, List.append_toArray, List.nil_append, List.cons_append]
  gi_wp2_with (refine ⟨trivial, ?_⟩; gi_at_call 22; refine (callsIn_wide.2 (parts_any _ _)).mono ?_; rintro e w1 ⟨rfl, rfl⟩)
  have HP := hid (PB.of HA.out (.int .i64 0) 27 24 49)
  generalize hW : World.alloc _ _ = Wb at HP ⊢
  clear hW
  have HTD := hid (fun W (hW : Nu Wb W) => tooDeep_any W w.heap.size 0 c0 c1 c2 a (cell_mv hW HP.out.h2 id) ((HP.out.tr.mv hW (fun _ h => h.elim)).up (by have := hW.size; have := HP.out.sz; omega)) HS.out)
  refine range_any (α := PE Wb w.heap.size w.heap.size a) (gf := 36) (lb := #[.pointer (some ⟨w.heap.size + 1 + 1, 0, none⟩)]) rfl (enters_of Tryd.func36 (by kernel_rfl) rfl)
    (parts_seq 4 (by omega) Wb w.heap.size (w.heap.size + 1 + 1) w.heap.size 0 HP.out.nu.size c0 c1 c2 a HP.out.hc HP.out.h0 HP.out.h1 HP.out.h2 HP.out.tr HS.out) (fun _ => KpP.trans) (fun _ W l r r' _ h => KpP.put W l r r' h) (fun _ => rfl)
    (LkI Wb (fun x => x.a.snd)) (LkX w Wb (w.heap.size + 1) 27 (.int .i64 92) (fun x => x.a.snd)) LkI.abides (LkX.abides HP.out.nu.size (by have := HP.out.sz; omega)) ⟨Mv.refl _ _, fun x hx => by cases hx⟩
    (fun x => { tmps := #[.agg #[c0, c1, c2], .pointer (some ⟨w.heap.size, 0, none⟩), .pointer (some ⟨w.heap.size + 1, 0, none⟩), .pointer (some ⟨x.1.1, x.1.2.1, none⟩), .func (.func 36) #[] #[.pointer (some ⟨w.heap.size + 1 + 1, 0, none⟩)], .pointer (some ⟨x.1.1, x.1.2.1, none⟩), undef, undef, undef, undef], defers := [] }) ?assign ?body ?done ?stop
  case assign =>
    intro l x W K hK
    simp only [PE.v]
    gi_wp2
    exact hK
  case stop =>
    rintro D c pre W hD _ ⟨rfl, hN, hz, hr, x, hx, hxs⟩ hd
    have HE : Hid (R = 92) := by
      show _ = _
      rw [← HR.out]
      have : a.t.may = false := Bool.eq_false_iff.2 fun hm => by
        have := (may_subs a).1 hm x.a x.2.1
        cases this.symm.trans hxs
      unfold chk
      rw [if_pos this]
      rfl
    gi_wp2_with fail
    rw [HE.out]
    exact check_end hd hr hN (Nat.le_trans HP.out.nu.size hD) _ rfl _ (.inl rfl)
  case body =>
    rintro l pre x W ⟨hN, hok⟩ _
    obtain ⟨ao, cap, q1, q2, q3, q4, _⟩ := x.cells hN
    have HSn := hid (sound_any W (HG.out.nu (mv0 HP.out.nu hN)) x.1.1 x.1.2.1 x.a.kind x.a.name ao x.a.kids.length cap q1 q2 q3 q4)
    have HN := hid hN
    have HOk : Hid (∀ x ∈ pre, x.a.snd = true) := hok
    clear q1 q2 q3 q4 hN hok
    cases hb : x.a.snd with
    | true =>
      have hb' : sound1 x.a.kind x.a.name x.a.kids.length = true := hb
      rw [hb'] at HSn
      gi_wp2_with (refine ⟨trivial, ?_⟩; gi_at_call 23; refine (CallsIn.inRound l (callsIn_wide.2 HSn.out)).mono ?_; rintro e w2 ⟨rfl, hn2⟩)
      refine ⟨(Books.of_nu hn2).from _, KpP.nu hn2, mv0 HN.out hn2, fun y hy => ?_⟩
      rcases List.mem_append.1 hy with hy | hy
      · exact HOk.out y hy
      · obtain rfl := List.mem_singleton.1 hy
        exact hb
    | false =>
      have hb' : sound1 x.a.kind x.a.name x.a.kids.length = false := hb
      rw [hb'] at HSn
      gi_wp2_with (refine ⟨trivial, ?_⟩; gi_at_call 23; refine (CallsIn.inRound l (callsIn_wide.2 HSn.out)).mono ?_; rintro e w2 ⟨rfl, hn2⟩; have hr2 := (mv0 HN.out hn2).heap HP.out.rb id; have k2 : w2.cell? ⟨w.heap.size + 1, 0, none⟩ = some (.int .i64 0) := (by rw [cell_blk hr2]; rfl); have f2 : w2.frozen? ⟨w.heap.size + 1, 0, none⟩ = false := free_blk hr2 0)
      refine ⟨((Books.of_nu hn2).trans (Books.set hr2 0 _)).from _, rfl, (mv0 HP.out.nu (mv0 HN.out hn2)).trans (Mv.setCell _ _ _) (fun y hy => .inr (by rw [hy]; show w.heap.size ≤ w.heap.size + 1; omega)), ?_, ?_, x, by simp, hb⟩
      · have := (mv0 HN.out hn2).size
        simp
        exact this
      · rw [setCell_blk hr2]; rfl
  case done =>
    rintro D xs W hD hS ⟨hN, hok⟩ hd
    have HM : Hid (a.t.may = true) := (may_subs a).2 fun y hy => by
      obtain ⟨x, hx, rfl⟩ := hS y hy
      exact hok x hx
    have HN := hid hN
    have HD := hid hd
    have HDz := hid (Nat.le_trans HP.out.nu.size hD)
    clear hN hd hok hS hD
    cases hb : decide (100 < a.t.depth) with
    | true =>
      have HT := hid (HTD.out W HN.out)
      rw [hb] at HT
      have HE : Hid (R = 93) := by
        show _ = _
        rw [← HR.out]
        unfold chk
        rw [HM.out, if_neg (by simp), if_pos (of_decide_eq_true hb)]
        rfl
      clear hb
      gi_wp2_with (refine ⟨trivial, ?_⟩; gi_at_call 27; refine (callsIn_wide.2 HT.out).mono ?_; rintro e w2 ⟨rfl, hn2⟩; have hr2 := (mv0 HN.out hn2).heap HP.out.rb id; have k2 : w2.cell? ⟨w.heap.size + 1, 0, none⟩ = some (.int .i64 0) := (by rw [cell_blk hr2]; rfl); have f2 : w2.frozen? ⟨w.heap.size + 1, 0, none⟩ = false := free_blk hr2 0)
      rw [HE.out]
      refine check_end (rb := w.heap.size + 1) (t := 27) ((Books.set hr2 0 _).same _ _ (hn2.heap HD.out id) rfl) (by rw [setCell_blk hr2]; rfl) ((mv0 HP.out.nu (mv0 HN.out hn2)).trans (Mv.setCell _ _ _) (fun y hy => .inr (by rw [hy]; show w.heap.size ≤ w.heap.size + 1; omega))) HDz.out _ rfl _ (.inl rfl)
    | false =>
      have HT := hid (HTD.out W HN.out)
      rw [hb] at HT
      have HE : Hid (R = 0) := by
        show _ = _
        rw [← HR.out]
        unfold chk
        rw [HM.out, if_neg (by simp), if_neg (of_decide_eq_false hb)]
        rfl
      clear hb
      gi_wp2_with (refine ⟨trivial, ?_⟩; gi_at_call 27; refine (callsIn_wide.2 HT.out).mono ?_; rintro e w2 ⟨rfl, hn2⟩; have hr2 := (mv0 HN.out hn2).heap HP.out.rb id; have k2 : w2.cell? ⟨w.heap.size + 1, 0, none⟩ = some (.int .i64 0) := (by rw [cell_blk hr2]; rfl); have f2 : w2.frozen? ⟨w.heap.size + 1, 0, none⟩ = false := free_blk hr2 0)
      rw [HE.out]
      refine check_end (rb := w.heap.size + 1) (t := 27) ((Books.set hr2 0 _).same _ _ (hn2.heap HD.out id) rfl) (by rw [setCell_blk hr2]; rfl) ((mv0 HP.out.nu (mv0 HN.out hn2)).trans (Mv.setCell _ _ _) (fun y hy => .inr (by rw [hy]; show w.heap.size ≤ w.heap.size + 1; omega))) HDz.out _ rfl _ (.inl rfl)

end Go.Proofs.YtidihaecgmbhpabDoor
/-
  What the program's Size gives.
-/
set_option linter.unusedSimpArgs false
set_option linter.unusedVariables false
namespace Go.Proofs.YtidihaecgmbhpabDoor
open Go.RowKit Q

/-- A row of kids as a value. -/
def RV (w : World) (B : Nat) (v : Value) (l : List A) : Prop := ∃ ao cap, v = .slice ao l.length cap ∧ l.length ≤ 140737488355328 ∧ (l ≠ [] → ∃ b o, ao = some ⟨b, o, none⟩ ∧ ARow w B b o l)
theorem RV.of {w : World} {B : Nat} {c0 c1 c2 : Value} {a : A} (h : AIn w B c0 c1 c2 a) : RV w B c2 a.kids := by
  obtain ⟨k, n, b, o, cap, l⟩ := a
  obtain ⟨_, _, _, _, ⟨rfl, ao, c, rfl⟩ | ⟨rfl, hr⟩⟩ := h.form
  · exact ⟨ao, c, rfl, by simp [A.kids], fun h => absurd rfl h⟩
  · exact ⟨_, cap, rfl, hr.len, fun _ => ⟨b, o, rfl, hr⟩⟩

/-- What lies below a row's parts; what lies in rows. -/
def rst (l : List A) : Nat := (l.map fun a => T.sizes (A.ts a.kids)).sum
def ssz (S : List (Value × List A)) : Nat := (S.map fun e => T.sizes (A.ts e.2)).sum
theorem sizes_rst (l : List A) : T.sizes (A.ts l) = l.length + rst l := by
  induction l with
  | nil => rfl
  | cons a l ih =>
    obtain ⟨k, n, b, o, c, l'⟩ := a
    simp only [A.ts, T.sizes, A.t, T.size, ih, rst, List.map_cons, List.sum_cons, List.length_cons, A.kids]
    omega
theorem ssz_append (S S' : List (Value × List A)) : ssz (S ++ S') = ssz S + ssz S' := by simp [ssz]
theorem rst_drop (l : List A) (i : Nat) (a : A) (h : l[i]? = some a) : rst (l.drop i) = T.sizes (A.ts a.kids) + rst (l.drop (i + 1)) := by
  obtain ⟨hi, rfl⟩ := List.getElem?_eq_some_iff.1 h
  unfold rst
  rw [List.drop_eq_getElem_cons hi, List.map_cons, List.sum_cons]

/-- Rows that wait, between two rounds. -/
structure ZMid (w wr : World) (s n : Nat) (v : Value) (S : List (Value × List A)) : Prop where
  nu : Nu w wr
  row : wr.ownsRow w.heap.size 22 1 v S.length (S.map Prod.fst)
  ent : ∀ e ∈ S, RV w w.heap.size e.1 e.2
  sum : n + ssz S = s
  len : S.length ≤ n
  small : n ≤ 20000
  pos : 1 ≤ n

/-- Within a row. -/
structure ZIn (w wr : World) (s n q : Nat) (l : List A) (i : Nat) (v : Value) (S : List (Value × List A)) : Prop where
  nu : Nu w wr
  row : wr.ownsRow w.heap.size 22 1 v S.length (S.map Prod.fst)
  ent : ∀ e ∈ S, RV w w.heap.size e.1 e.2
  sum : n + ssz S + rst (l.drop i) = s
  cnt : S.length = q + i
  len : q + l.length ≤ n

theorem row_pop {w : World} {B : Nat} {e : TypeId} {g n cap : Nat} {xs : List Value} {x : Value} (h : w.ownsRow B e 1 (.slice (some ⟨g, 0, none⟩) (n + 1) cap) (n + 1) (xs ++ [x])) : w.ownsRow B e 1 (.slice (some ⟨g, 0, none⟩) n cap) n xs := by
  rcases h.2 with ⟨hv, _⟩ | ⟨g', cap', cur, hv, hb, hgg, hx1, hx2, hx3, ht⟩
  · cases hv
  · injection hv with h1 h2 h3
    injection h1 with h1
    injection h1 with h1
    subst h1 h3
    have hl := h.1
    rw [List.length_append] at hl
    simp at hl
    refine ⟨by omega, .inr ⟨g, cap, cur, rfl, hb, hgg, by omega, hx2, hx3, ?_⟩⟩
    have : (cur.toList.take ((n + 1) * 1)).take (n * 1) = (xs ++ [x]).take (n * 1) := by rw [ht]
    rw [List.take_take, Nat.min_eq_left (by omega), List.take_append_of_le_length (by omega), List.take_of_length_le (l := xs) (by omega)] at this
    exact this

theorem ZMid.pop {w wr : World} {s n : Nat} {v rv : Value} {S0 : List (Value × List A)} {l : List A} (h : ZMid w wr s n v (S0 ++ [(rv, l)])) : ∃ g cap, v = .slice (some ⟨g, 0, none⟩) (S0.length + 1) cap ∧ wr.cell? ⟨g, S0.length, none⟩ = some rv ∧ S0.length + 1 ≤ cap ∧ cap ≤ maxLen ∧ ZIn w wr s (n + l.length) S0.length l 0 (.slice (some ⟨g, 0, none⟩) S0.length cap) S0 := by
  have hr := h.row
  rw [List.length_append, List.map_append] at hr
  obtain ⟨g, cap, rfl, hc⟩ := row_cell (i := S0.length) (x := rv) hr (by simp)
  have hcap : S0.length + 1 ≤ cap ∧ cap ≤ maxLen := by
    rcases hr.2 with ⟨hv, _⟩ | ⟨g', cap', cur, hv, hb, hgg, hx1, hx2, hx3, ht⟩
    · cases hv
    · injection hv with h1 h2 h3
      subst h3
      exact ⟨hx1, hx2⟩
  refine ⟨g, cap, rfl, hc, hcap.1, hcap.2, h.nu, row_pop hr, fun e he => h.ent e (by simp [he]), ?_, rfl, ?_⟩
  · have := h.sum
    rw [ssz_append] at this
    have e : ssz [(rv, l)] = T.sizes (A.ts l) := by simp [ssz]
    rw [e, sizes_rst] at this
    rw [List.drop_zero]
    omega
  · have := h.len
    rw [List.length_append] at this
    simp at this
    omega

theorem ZIn.step {w wr w5 : World} {s n q i : Nat} {l : List A} {v v5 d2 : Value} {S : List (Value × List A)} {a : A} {O : Obj} (h : ZIn w wr s n q l i v S) (ha : l[i]? = some a) (hd : RV w w.heap.size d2 a.kids) (hown : w5.ownsRow w.heap.size 22 1 v5 (S.length + 1) (S.map Prod.fst ++ [d2])) (hg : (wr.alloc O).grownBy w5 v.ownBlock) : ZIn w w5 s n q l (i + 1) v5 (S ++ [(d2, a.kids)]) := by
  refine ⟨h.nu.trans ((Mv.alloc (fun x => v.ownBlock = some x) wr O).trans (Mv.grown hg) (fun x hx => .inl hx)) (fun x hx => .inr ?_), by rw [List.length_append, List.map_append]; exact hown, fun e he => ?_, ?_, by have := h.cnt; rw [List.length_append]; simp; omega, h.len⟩
  · rcases h.row.2 with ⟨rfl, _⟩ | ⟨g', cap', cur, rfl, hb, _⟩
    · cases hx
    · cases hx
      exact hb
  · rcases List.mem_append.1 he with he | he
    · exact h.ent e he
    · obtain rfl := List.mem_singleton.1 he
      exact hd
  · have := h.sum
    rw [rst_drop l i a ha] at this
    rw [ssz_append]
    have e : ssz [(d2, a.kids)] = T.sizes (A.ts a.kids) := by simp [ssz]
    omega

theorem ZIn.mid {w wr : World} {s n q i : Nat} {l : List A} {v : Value} {S : List (Value × List A)} (h : ZIn w wr s n q l i v S) (hi : l.length = i) (hn : n ≤ 20000) (hp : 1 ≤ n) : ZMid w wr s n v S := by
  refine ⟨h.nu, h.row, h.ent, ?_, by have := h.len; have := h.cnt; omega, hn, hp⟩
  have := h.sum
  rw [List.drop_eq_nil_of_le (by omega)] at this
  simpa [rst] using this

theorem ZMid.start {w wr : World} {c0 c1 c2 : Value} {a : A} {g : Nat} (h : AIn w w.heap.size c0 c1 c2 a) (hm : Nu w wr) (hg : w.heap.size ≤ g) (hb : wr.heap[g]? = some (.cells #[c2] 22 (0, 0))) : ZMid w wr a.t.size 1 (.slice (some ⟨g, 0, none⟩) 1 1) [(c2, a.kids)] := by
  refine ⟨hm, ⟨rfl, .inr ⟨g, 1, #[c2], rfl, hg, hb, by simp, by unfold maxLen; omega, by simp, by simp⟩⟩, fun e he => ?_, ?_, by simp, by omega, by omega⟩
  · obtain rfl := List.mem_singleton.1 he
    exact RV.of h
  · obtain ⟨k, n, b, o, c, l⟩ := a
    simp [ssz, A.kids, A.t, T.size]

def slen : Value → Nat | .slice _ n _ => n | _ => 0

set_option maxHeartbeats 4000000 in
theorem Size_any' (a : A) (w : World) (c0 c1 c2 : Value) (h : AIn w w.heap.size c0 c1 c2 a) : Looks 18 #[.agg #[c0, c1, c2]] w (.int .i64 (capN a.t.size : Int)) := by
  obtain ⟨ao0, cap0, hc2, _, _⟩ := RV.of h
  generalize a.kids.length = k0 at hc2
  subst hc2
  have HA := hid h
  clear h
  obtain ⟨R, hR⟩ : ∃ R : Int, (capN a.t.size : Int) = R := ⟨_, rfl⟩
  have HR := hid hR
  rw [hR]
  clear hR
  unfold Looks
  go_enter Tryd.func18, Tryd.ntmps18
  go_wp2_with fail
  have HZ : Hid (ZMid w ((w.alloc (.cells #[c0, c1, .slice ao0 k0 cap0] 24)).alloc (.cells #[.slice ao0 k0 cap0] 22)) a.t.size 1 (.slice (some ⟨w.heap.size + 1, 0, none⟩) 1 1) [(.slice ao0 k0 cap0, a.kids)]) := by
    refine ZMid.start HA.out (mv0 (Mv.alloc _ _ _) (Mv.alloc _ _ _)) (by omega) ?_
    have := heap_alloc_new (w.alloc (.cells #[c0, c1, .slice ao0 k0 cap0] 24)) (.cells #[.slice ao0 k0 cap0] 22)
    rw [show (w.alloc (.cells #[c0, c1, .slice ao0 k0 cap0] 24)).heap.size = w.heap.size + 1 by simp] at this
    exact this
  generalize hW : World.alloc _ _ = W1 at HZ ⊢
  clear hW
  obtain ⟨i0, hi0⟩ := info_parts (P := Tryd.prog) (e := 22) (z := .slice none 0 0) (size := 1) (bytes := 24) (by kernel_rfl)
  have HI0 := hid hi0
  clear hi0
  go_loopw [3, 4] (fun nv vv wr => ∃ (n : Nat) (v : Value) (S : List (Value × List A)), nv = .int .i64 (n : Int) ∧ vv = v ∧ slen v = S.length ∧ Hid (ZMid w wr a.t.size n v S)) (fun nv vv _ => (20001 - (intOf nv).toNat) * 30000 + slen vv)
  case atStart => exact ⟨1, _, _, rfl, rfl, rfl, HZ⟩
  case round =>
    rename World => V
    clear HZ
    obtain ⟨n, v, S, rfl, rfl, hsl, HZ⟩ := hrel
    have hn1 : n ≤ 20000 := HZ.out.small
    have hn2 : S.length ≤ n := HZ.out.len
    rcases List.eq_nil_or_concat S with rfl | ⟨S0, ⟨rv, l⟩, rfl⟩
    · obtain ⟨ao, cap, rfl⟩ := row_len HZ.out.row
      have HE : Hid (R = n) := by
        have := HZ.out.sum
        simp [ssz] at this
        show _ = _
        rw [← HR.out]
        unfold capN
        omega
      have HN := hid HZ.out.nu
      go_wp2_with fail
      go_ret
      refine ⟨?_, HN.out⟩
      rw [HE.out]
      rfl
    · rw [List.concat_eq_append] at *
      obtain ⟨g, cap, rfl, kc, hcp1, hcp2, hin⟩ := HZ.out.pop
      obtain ⟨ao, rcap, hrv, hl, hrow⟩ : RV w w.heap.size rv l := HZ.out.ent (rv, l) (by simp)
      subst hrv
      have HI := hid hin
      have HRow := hid hrow
      have HP : Hid (1 ≤ n) := HZ.out.pos
      have hlt : S0.length < 140737488355328 := by rw [List.length_append] at hn2; simp at hn2; omega
      have HS0 : Hid (S0.length + 1 ≤ n) := by show _ ≤ _; rw [List.length_append] at hn2; simpa using hn2
      clear hin hrow hn2 hsl
      obtain ⟨M, hM⟩ : ∃ M : Nat, l.length = M := ⟨_, rfl⟩
      have HM := hid hM
      rw [hM] at kc hl HI
      clear hM
      obtain ⟨q, hq⟩ : ∃ q : Nat, S0.length = q := ⟨_, rfl⟩
      have HQ := hid hq
      rw [hq] at kc hcp1 hlt HI HS0 ⊢
      clear hq
      by_cases hbig : 20000 < (n : Int) + (M : Int)
      · have HE : Hid (R = 20001) := by
          have := HI.out.sum
          show _ = _
          rw [← HR.out]
          unfold capN
          omega
        have HN := hid HI.out.nu
        go_wp2_with fail
        go_ret
        refine ⟨?_, HN.out⟩
        rw [HE.out]
        rfl
      · go_wp2_with fail
        go_loopw [4, 32] (fun vv iv wr => ∃ (i : Nat) (v : Value) (S : List (Value × List A)), i ≤ M ∧ vv = v ∧ iv = .int .i64 (i : Int) ∧ slen v = S.length ∧ Hid (ZIn w wr a.t.size (n + M) q l i v S)) (fun _ iv _ => M - (intOf iv).toNat)
        case atStart => exact ⟨0, _, _, Nat.zero_le _, rfl, rfl, by simp [slen, HQ.out], HI⟩
        case round =>
          clear HI kc
          obtain ⟨i, v, S, hi, rfl, rfl, hsl, HI⟩ := hrel
          by_cases hj : i < M
          · have hj' : (i : Int) < (M : Int) := by omega
            obtain ⟨x, hx⟩ : ∃ x, l[i]? = some x := ⟨_, List.getElem?_eq_getElem (by have := HM.out; omega)⟩
            obtain ⟨rb, ro, rfl, hrow⟩ := HRow.out (fun e => by rw [e] at hx; simp at hx)
            obtain ⟨d0, d1, d2, e0, e1, e2, e3⟩ := hrow.at' i x hx
            obtain ⟨xo, xc, hd2, _, _⟩ := RV.of e3
            have HRV := hid (RV.of e3)
            generalize x.kids.length = xk at hd2
            subst hd2
            have kc := cell_mv HI.out.nu e2 id
            have HX : Hid (l[i]? = some x) := hx
            have hSl : S.length ≤ 20000 := by have := HI.out.len; have := HI.out.cnt; have := HM.out; omega
            have HSl := hid hSl
            have HB : Hid (w.heap.size ≤ wr.heap.size) := HI.out.nu.size
            have HOw := hid HI.out.row
            obtain ⟨ao2, cap2, rfl⟩ := row_len HI.out.row
            clear hrow e0 e1 e2 e3 hx hSl hsl
            go_wp2_with (at_builtin; refine wpList_append_lies _ rfl _ _ _ rfl w.heap.size 22 i0 (.slice none 0 0) 1 24 Tryd.underlying65 HI0.out.1 HI0.out.2.1 HI0.out.2.2.1 HI0.out.2.2.2 rfl (by omega) (.slice ao2 S.length cap2) S.length (S.map Prod.fst) rfl (HOw.out.alloc _) ⟨wr.heap.size, 0, none⟩ 1 1 [.slice xo xk xc] rfl rfl (World.news_of_block (heap_alloc_new wr _)) (by simp [Value.oneCell']) (by decide) (by have := HSl.out; unfold maxLen; omega) (by have := HSl.out; omega) (by have := HB.out; simp; omega) (wr.heap.size + 1) (by simp) ?_; intro g5 cap5 w5 hown hgrow hat hg5; have HI5 := hid (HI.out.step HX.out HRV.out hown hgrow); clear hown hgrow hat hg5)
            go_roundw
            case rel => exact ⟨i + 1, _, _, by omega, rfl, by go_num, by simp [slen], HI5⟩
            case measure => simp [intOf]; omega
          · have hj' : ¬ (i : Int) < (M : Int) := by omega
            have hnM : n + M ≤ 20000 := by omega
            have HZ5 := hid (HI.out.mid (by have := HM.out; omega) hnM (by have := HP.out; omega))
            have hlen : S.length = q + i := HI.out.cnt
            have hiM : i = M := by omega
            go_wp2_with fail
            refine ⟨⟨n + M, _, S, by congr 1, rfl, hsl, HZ5⟩, ?_⟩
            have h1 : (intOf (Value.int IntKind.i64 ((n : Int) + (M : Int)))).toNat = n + M := by simp only [intOf]; omega
            have h2 : (intOf (Value.int IntKind.i64 (n : Int))).toNat = n := by simp only [intOf]; omega
            rw [h1, h2, hsl]
            simp only [slen]
            omega

end Go.Proofs.YtidihaecgmbhpabDoor
/-
  What the program's Plain gives.
-/
set_option linter.unusedSimpArgs false
set_option linter.unusedVariables false
namespace Go.Proofs.YtidihaecgmbhpabDoor
open Go.RowKit Q
attribute [local go_sem] Oper.semAt_some

theorem plain_end {w W : World} {D rb : Nat} {v : Value} {t : TypeId} (hD : W.heap[D]? = some (.deferred (some []))) (hr : W.heap[rb]? = some (.cells #[v] t (0, 0))) (hN : Nu w W) (hw : w.heap.size ≤ D) (T : Array Value) (hT : T[2]?.getD undef = .pointer (some ⟨rb, 0, none⟩)) (x : Exit) (hx : x = .ret ∨ x = .normal) :
    bodyPostM Fence.wide 5 Tryd.prog Tryd.f12 (fun e w' => e = .returned v ∧ Nu w w') x { tmps := T, defers := [{ target := .collected D, args := #[] }] } W := by
  have hne : rb ≠ D := fun e => by rw [e, hD] at hr; cases hr
  have hr2 : (W.putObj D (.deferred none)).heap[rb]? = some (.cells #[v] t (0, 0)) := (World.putObj_heap_other hne).trans hr
  have hc : (W.putObj D (.deferred none)).cell? ⟨rb, 0, none⟩ = some v := by rw [cell_blk hr2]; rfl
  have key : LeavesInM Fence.wide 5 Tryd.prog Tryd.f12 T (fun e w' => e = .returned v ∧ Nu w w') [{ target := .collected D, args := #[] }] .returning W := by
    refine ⟨by simp, .inl ⟨D, _, rfl, run_takeDeferred hD, ?_⟩⟩
    refine ⟨v, ?_, rfl, hN.trans (mv_putObj W D _) (fun y hy => .inr (by rw [hy]; exact hw))⟩
    simp only [results, Tryd.results12]
    simp [hT, go_sem, hc]
  rcases hx with rfl | rfl
  · exact key
  · exact key

/-- A plain part by itself. -/
def A.good (a : A) : Bool := a.snd && a.pln
theorem good_subs (a : A) : (a.t.may && plainT a.t) = true ↔ ∀ x ∈ a.subs, x.good = true := by
  simp only [Bool.and_eq_true, A.good]
  constructor
  · rintro ⟨h1, h2⟩ x hx
    have hs := (may_subs a).1 h1
    exact ⟨hs x hx, (plain_subs a hs).1 h2 x hx⟩
  · intro h
    have hs : ∀ x ∈ a.subs, x.snd = true := fun x hx => (h x hx).1
    exact ⟨(may_subs a).2 hs, (plain_subs a hs).2 fun x hx => (h x hx).2⟩

set_option maxHeartbeats 4000000 in
set_option maxRecDepth 100000 in
theorem Plain_any' (a : A) (hs : a.t.size ≤ 1000000) (w : World) (hG : Gl w) (c0 c1 c2 : Value) (h : AIn w w.heap.size c0 c1 c2 a) : Looks 12 #[.agg #[c0, c1, c2]] w (.bool (a.t.may && plainT a.t)) := by
  have HA := hid h
  have HS := hid hs
  have HG := hid hG
  clear h hs hG
  obtain ⟨R, hR⟩ : ∃ R : Bool, (a.t.may && plainT a.t) = R := ⟨_, rfl⟩
  have HR := hid hR
  rw [hR]
  clear hR
  refine (callsIn_wide (n := 5)).1 ?_
  refine callsIn_of_wp_marks Tryd.func12 rfl trivial ?_ rfl
  simp only [Tryd.ntmps12, List.size_toArray, List.length_cons, List.length_nil, Nat.reduceAdd, Nat.reduceSub, Array.replicate_succ, Array.replicate_zero, List.push_toArray, List.append_toArray, List.nil_append, List.cons_append]
  gi_wp2_with (refine ⟨trivial, ?_⟩; gi_at_call 22; refine (callsIn_wide.2 (parts_any _ _)).mono ?_; rintro e w1 ⟨rfl, rfl⟩)
  have HP := hid (PB.of HA.out (.bool false) 4 24 49)
  generalize hW : World.alloc _ _ = Wb at HP ⊢
  clear hW
  refine range_any (α := PE Wb w.heap.size w.heap.size a) (gf := 36) (lb := #[.pointer (some ⟨w.heap.size + 1 + 1, 0, none⟩)]) rfl (enters_of Tryd.func36 (by kernel_rfl) rfl)
    (parts_seq 4 (by omega) Wb w.heap.size (w.heap.size + 1 + 1) w.heap.size 0 HP.out.nu.size c0 c1 c2 a HP.out.hc HP.out.h0 HP.out.h1 HP.out.h2 HP.out.tr HS.out) (fun _ => KpP.trans) (fun _ W l r r' _ h => KpP.put W l r r' h) (fun _ => rfl)
    (LkI Wb (fun x => x.a.good)) (LkX w Wb (w.heap.size + 1) 4 (.bool false) (fun x => x.a.good)) LkI.abides (LkX.abides HP.out.nu.size (by have := HP.out.sz; omega)) ⟨Mv.refl _ _, fun x hx => by cases hx⟩
    (fun x => { tmps := #[.agg #[c0, c1, c2], .pointer (some ⟨w.heap.size, 0, none⟩), .pointer (some ⟨w.heap.size + 1, 0, none⟩), .pointer (some ⟨x.1.1, x.1.2.1, none⟩), .func (.func 36) #[] #[.pointer (some ⟨w.heap.size + 1 + 1, 0, none⟩)], .pointer (some ⟨x.1.1, x.1.2.1, none⟩), undef, undef, undef, undef, undef, undef, undef, undef], defers := [] }) ?assign ?body ?done ?stop
  case assign =>
    intro l x W K hK
    simp only [PE.v]
    gi_wp2
    exact hK
  case stop =>
    rintro D c pre W hD _ ⟨rfl, hN, hz, hr, x, hx, hxs⟩ hd
    have HE : Hid (R = false) := by
      show _ = _
      rw [← HR.out]
      refine Bool.eq_false_iff.2 fun hm => ?_
      have := (good_subs a).1 hm x.a x.2.1
      cases this.symm.trans hxs
    gi_wp2_with fail
    rw [HE.out]
    exact plain_end hd hr hN (Nat.le_trans HP.out.nu.size hD) _ rfl _ (.inl rfl)
  case body =>
    rintro l pre x W ⟨hN, hok⟩ _
    obtain ⟨ao, cap, q1, q2, q3, q4, q5⟩ := x.cells hN
    have HSn := hid (sound_any W (HG.out.nu (mv0 HP.out.nu hN)) x.1.1 x.1.2.1 x.a.kind x.a.name ao x.a.kids.length cap q1 q2 q3 q4)
    have HPn : Hid (x.a.snd = true → ∀ W', Nu W W' → Looks 24 #[.pointer (some ⟨x.1.1, x.1.2.1, none⟩)] W' (.bool x.a.pln)) := fun hsn W' hW' => by
      refine plain_any' W' x.1.1 x.1.2.1 x.a.kind (hdk x.a.kids) ao x.a.kids.length cap (cell_mv hW' q2 id) (cell_mv hW' q4 id) (fun h4 => ?_)
      have hl : 0 < x.a.kids.length := by
        simp only [A.snd, sound1, Bool.and_eq_true, decide_eq_true_eq, h4] at hsn
        have := hsn.1
        simp [T.kidsN] at this
        omega
      obtain ⟨b, o, e1, e2⟩ := q5 hl
      exact ⟨hl, b, o, e1, cell_mv hW' e2 id⟩
    have HN := hid hN
    have HOk : Hid (∀ x ∈ pre, x.a.good = true) := hok
    clear q1 q2 q3 q4 q5 hN hok
    cases hb : x.a.snd with
    | true =>
      have hb' : sound1 x.a.kind x.a.name x.a.kids.length = true := hb
      rw [hb'] at HSn
      have HPm := hid (HPn.out hb)
      clear HPn
      cases hp : x.a.pln with
      | true =>
        rw [hp] at HPm
        gi_wp2_with (first
          | (refine ⟨trivial, ?_⟩; gi_at_call 23; refine (CallsIn.inRound l (callsIn_wide.2 HSn.out)).mono ?_; rintro e w2 ⟨rfl, hn2⟩)
          | (refine ⟨trivial, ?_⟩; gi_at_call 24; refine (CallsIn.inRound l (callsIn_wide.2 (HPm.out _ hn2))).mono ?_; rintro e w3 ⟨rfl, hn3⟩))
        refine ⟨(Books.of_nu (mv0 hn2 hn3)).from _, KpP.nu (mv0 hn2 hn3), mv0 HN.out (mv0 hn2 hn3), fun y hy => ?_⟩
        rcases List.mem_append.1 hy with hy | hy
        · exact HOk.out y hy
        · obtain rfl := List.mem_singleton.1 hy
          simp only [A.good, hb, hp, Bool.and_true]
      | false =>
        rw [hp] at HPm
        gi_wp2_with (first
          | (refine ⟨trivial, ?_⟩; gi_at_call 23; refine (CallsIn.inRound l (callsIn_wide.2 HSn.out)).mono ?_; rintro e w2 ⟨rfl, hn2⟩)
          | (refine ⟨trivial, ?_⟩; gi_at_call 24; refine (CallsIn.inRound l (callsIn_wide.2 (HPm.out _ hn2))).mono ?_; rintro e w3 ⟨rfl, hn3⟩; have hr2 := (mv0 HN.out (mv0 hn2 hn3)).heap HP.out.rb id; have k2 : w3.cell? ⟨w.heap.size + 1, 0, none⟩ = some (.bool false) := (by rw [cell_blk hr2]; rfl); have f2 : w3.frozen? ⟨w.heap.size + 1, 0, none⟩ = false := free_blk hr2 0))
        have hn4 := mv0 hn2 hn3
        refine ⟨((Books.of_nu hn4).trans (Books.set hr2 0 _)).from _, rfl, (mv0 HP.out.nu (mv0 HN.out hn4)).trans (Mv.setCell _ _ _) (fun y hy => .inr (by rw [hy]; show w.heap.size ≤ w.heap.size + 1; omega)), ?_, ?_, x, by simp, by simp only [A.good, hb, hp, Bool.and_false]⟩
        · have := (mv0 HN.out hn4).size
          simp
          exact this
        · rw [setCell_blk hr2]; rfl
    | false =>
      have hb' : sound1 x.a.kind x.a.name x.a.kids.length = false := hb
      rw [hb'] at HSn
      clear HPn
      gi_wp2_with (first
        | (refine ⟨trivial, ?_⟩; gi_at_call 23; refine (CallsIn.inRound l (callsIn_wide.2 HSn.out)).mono ?_; rintro e w2 ⟨rfl, hn2⟩; have hr2 := (mv0 HN.out hn2).heap HP.out.rb id; have k2 : w2.cell? ⟨w.heap.size + 1, 0, none⟩ = some (.bool false) := (by rw [cell_blk hr2]; rfl); have f2 : w2.frozen? ⟨w.heap.size + 1, 0, none⟩ = false := free_blk hr2 0)
        | (refine ⟨trivial, ?_⟩))
      refine ⟨((Books.of_nu hn2).trans (Books.set hr2 0 _)).from _, rfl, (mv0 HP.out.nu (mv0 HN.out hn2)).trans (Mv.setCell _ _ _) (fun y hy => .inr (by rw [hy]; show w.heap.size ≤ w.heap.size + 1; omega)), ?_, ?_, x, by simp, by simp only [A.good, hb, Bool.false_and]⟩
      · have := (mv0 HN.out hn2).size
        simp
        exact this
      · rw [setCell_blk hr2]; rfl
  case done =>
    rintro D xs W hD hS ⟨hN, hok⟩ hd
    have HE : Hid (R = true) := by
      show _ = _
      rw [← HR.out]
      refine (good_subs a).2 fun y hy => ?_
      obtain ⟨x, hx, rfl⟩ := hS y hy
      exact hok x hx
    have HN := hid hN
    have HD := hid hd
    have HDz := hid (Nat.le_trans HP.out.nu.size hD)
    have hr2 := hN.heap HP.out.rb id
    have k2 : W.cell? ⟨w.heap.size + 1, 0, none⟩ = some (.bool false) := by rw [cell_blk hr2]; rfl
    have f2 : W.frozen? ⟨w.heap.size + 1, 0, none⟩ = false := free_blk hr2 0
    have HR2 := hid hr2
    clear hN hd hok hS hD hr2
    gi_wp2_with fail
    rw [HE.out]
    refine plain_end (rb := w.heap.size + 1) (t := 4) ((Books.set HR2.out 0 _).same _ _ HD.out rfl) (by rw [setCell_blk HR2.out]; rfl) ((mv0 HP.out.nu HN.out).trans (Mv.setCell _ _ _) (fun y hy => .inr (by rw [hy]; show w.heap.size ≤ w.heap.size + 1; omega))) HDz.out _ rfl _ (.inl rfl)

end Go.Proofs.YtidihaecgmbhpabDoor
