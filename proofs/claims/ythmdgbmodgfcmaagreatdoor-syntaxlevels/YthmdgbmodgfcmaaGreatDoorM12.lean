/-
  SRow.
-/
import Derived.Test.YthmdgbmodgfcmaaGreatDoorM11
/-
  Rows that grow by one zero element, which is then read: the laws on worlds.
-/
namespace Go.Proofs.YthmdgbmodgfcmaaGreatDoor
open Go.RowKit

/-- What a zero datum is as a value. -/
def zval : D → Value
  | .num n => .int .i64 n
  | .bit b => .bool b
  | .str s => .string (strOfL s)
  | .row _ _ => .slice none 0 0

theorem zval_is (τ : Tys) (w : World) (F : Nat → Prop) (T : Ty) : ∀ d ∈ zero T, DIs τ w F (zval d) d := by
  intro d hd
  cases T <;> simp [zero, zAst, zArg, zVar, zDecl, zStmt, zUnit, zRef] at hd <;> (repeat' (first | (rcases hd with rfl | hd) | subst hd)) <;> first | exact .num _ _ | exact .bit _ _ | exact .str _ _ | exact .nil _ _

theorem zval_one (T : Ty) : ∀ u ∈ (zero T).map zval, u.oneCell' = true := by
  intro u hu
  obtain ⟨d, _, rfl⟩ := List.mem_map.1 hu
  cases d <;> rfl

theorem zero_size (T : Ty) : (zero T).length = ty.size T := by cases T <;> rfl
theorem size_pos (T : Ty) : 0 < ty.size T := by cases T <;> decide

theorem info_of (T : Ty) : ∃ i z, Tryz.prog.info? (ty.id T) = some i ∧ i.zero = some z ∧ z.cells.toList = (zero T).map zval ∧ i.size = ty.size T ∧ i.bytes ≤ 65536 := by
  have h : ∃ n, n ≤ 65536 ∧ (Tryz.prog.info? (ty.id T)).map (fun i => (i.zero.map (fun z => z.cells.toList), i.size, i.bytes)) = some (some ((zero T).map zval), ty.size T, n) := by
    cases T
    · exact ⟨16, by decide, by kernel_rfl⟩
    · exact ⟨168, by decide, by kernel_rfl⟩
    · exact ⟨1, by decide, by kernel_rfl⟩
    · exact ⟨176, by decide, by kernel_rfl⟩
    · exact ⟨456, by decide, by kernel_rfl⟩
    · exact ⟨24, by decide, by kernel_rfl⟩
    · exact ⟨56, by decide, by kernel_rfl⟩
    · exact ⟨400, by decide, by kernel_rfl⟩
    · exact ⟨8, by decide, by kernel_rfl⟩
    · exact ⟨352, by decide, by kernel_rfl⟩
  obtain ⟨n, hn, h⟩ := h
  cases hi : Tryz.prog.info? (ty.id T) with
  | none => rw [hi] at h; cases h
  | some i =>
    rw [hi] at h
    simp only [Option.map_some, Option.some.injEq, Prod.mk.injEq] at h
    obtain ⟨h1, h2, h3⟩ := h
    cases hz : i.zero with
    | none => rw [hz] at h1; cases h1
    | some z => rw [hz] at h1; exact ⟨i, z, rfl, hz, by simpa using h1, h2, by omega⟩

variable {τ : Tys}

theorem flat_len {n : Nat} : ∀ {els : List (List D)}, (∀ e ∈ els, e.length = n) → els.flatten.length = els.length * n
  | [], _ => by simp
  | e :: r, h => by
    rw [List.flatten_cons, List.length_append, h e (by simp), flat_len (els := r) (fun x hx => h x (by simp [hx])), List.length_cons, Nat.add_mul]
    omega

/-- A row as an owned row of cells. -/
theorem DIs.owns {w : World} {F : Nat → Prop} {v : Value} {t : Ty} {els : List (List D)} (h : DIs τ w F v (.row t els)) :
    ∃ (xs : List Value) (Fe : Nat → Prop), w.ownsRow 0 (τ.id t) (τ.size t) v els.length xs ∧ (∀ k, v.ownBlock = some k → F k ∧ ¬ Fe k) ∧ (∀ x, Fe x → F x) ∧ (∀ e ∈ els, e.length = τ.size t) ∧
      (∀ (i : Nat) (d : D), els.flatten[i]? = some d → ∃ u, xs[i]? = some u ∧ DIs τ w Fe u d) := by
  cases h with
  | nil => exact ⟨[], fun _ => False, World.ownsRow_nil _ _ _ _, fun k hk => by simp [Value.ownBlock] at hk, fun _ h => h.elim, fun e he => by simp at he, fun i d hd => by simp at hd⟩
  | row _ Fe _ _ g cap cur hg h0 hn hc hs hel hF hFe hcells hd =>
    have hfl := flat_len hel
    have hle : els.length * τ.size t ≤ cur.size := by rw [hs]; exact Nat.mul_le_mul_right _ hn
    refine ⟨cur.toList.take (els.length * τ.size t), Fe, ⟨by simp; omega, .inr ⟨g, cap, cur, rfl, Nat.zero_le _, hg, hn, hc, hs, rfl⟩⟩, fun k hk => ?_, fun x hx => (hFe x hx).1, hel, fun i d hi => ?_⟩
    · simp [Value.ownBlock] at hk
      subst hk
      exact ⟨hF, fun hx => (hFe _ hx).2 rfl⟩
    · obtain ⟨u, hu⟩ := hcells i d hi
      refine ⟨u, ?_, hd i d u hi hu⟩
      have hlt := (List.getElem?_eq_some_iff.1 hi).1
      rw [List.getElem?_take, if_pos (by omega)]
      simpa using hu

/-- A block of cells as a row. -/
theorem DIs.of_block {w : World} {F Fe : Nat → Prop} {t : Ty} {els : List (List D)} {g cap : Nat} {cur : Array Value} (hg : w.heap[g]? = some (.cells cur (τ.id t) (0, 0))) (h0 : 0 < els.length) (hn : els.length ≤ cap) (hc : cap ≤ maxLen) (hs : cur.size = cap * τ.size t)
    (hel : ∀ e ∈ els, e.length = τ.size t) (hF : F g) (hFe : ∀ x, Fe x → F x ∧ x ≠ g) (hd : ∀ (i : Nat) (d : D), els.flatten[i]? = some d → ∃ v, cur[i]? = some v ∧ DIs τ w Fe v d) : DIs τ w F (.slice (some ⟨g, 0, none⟩) els.length cap) (.row t els) :=
  .row F Fe t els g cap cur hg h0 hn hc hs hel hF hFe (fun i d hi => let ⟨v, h1, _⟩ := hd i d hi; ⟨v, h1⟩) (fun i d v hi hv => let ⟨u, h1, h2⟩ := hd i d hi; by rw [h1] at hv; cases hv; exact h2)

/-- One element more has been appended, and the slice stored: what is to be read. -/
structure Grew (E : Env) (w : World) (F : Nat → Prop) (b : Nat) (t : TypeId) (N o : Nat) (T : Ty) (els : List (List D)) (i : Nat) (w2 : World) (g cap : Nat) (Fe : Nat → Prop) : Prop where
  rd : Rd E w2 i
  new : At ty w2 (fun _ => False) g (ty.id T) (cap * ty.size T) (els.length * ty.size T) (zero T)
  own : ¬ E.own g
  cell : w2.cell? ⟨b, o, none⟩ = some (.slice (some ⟨g, 0, none⟩) (els.length + 1) cap)
  blk : ∃ cs, w2.heap[b]? = some (.cells cs t (0, 0)) ∧ cs.size = N
  room : o + 1 ≤ N
  hn : els.length + 1 ≤ cap
  hc : cap ≤ maxLen
  ne : g ≠ b
  hFe : ∀ x, Fe x → F x ∧ x ≠ g
  gF : F g ∨ w.heap.size ≤ g
  sizes : ∀ e ∈ els, e.length = ty.size T
  old : ∀ (j : Nat) (d : D), els.flatten[j]? = some d → ∃ u, w2.cell? ⟨g, j, none⟩ = some u ∧ DIs ty w2 Fe u d
  mv : Mv (fun x => x = b ∨ F x) w w2
  out : Out b o 1 w w2
  flt : ∀ x, F x → x < w.heap.size
  bF : ¬ F b
  Fown : ∀ x, F x → ¬ E.own x
  bown : ¬ E.own b

theorem grew {E : Env} {w w1 : World} {F : Nat → Prop} {b : Nat} {t : TypeId} {N o : Nat} {T : Ty} {els : List (List D)} {i : Nat} {v : Value} {xs : List Value} {Fe : Nat → Prop} {g cap : Nat}
    (hr : Rd E w i) (ha : At ty w F b t N o [.row T els]) (hb : ¬ E.own b) (hF : ∀ x, F x → ¬ E.own x) (hblk : ∀ k, v.ownBlock = some k → F k ∧ ¬ Fe k) (hFe : ∀ x, Fe x → F x) (hsz : ∀ e ∈ els, e.length = ty.size T)
    (hxs : xs.length = els.length * ty.size T) (hold : ∀ (j : Nat) (d : D), els.flatten[j]? = some d → ∃ u, xs[j]? = some u ∧ DIs ty w Fe u d)
    (hown : w1.ownsRow 0 (ty.id T) (ty.size T) (.slice (some ⟨g, 0, none⟩) (els.length + 1) cap) (els.length + 1) (xs ++ (zero T).map zval)) (hg : w.grownBy w1 v.ownBlock) (hat : v.ownBlock = some g ∨ g = w.heap.size) :
    Grew E w F b t N o T els i (w1.setCell ⟨b, o, none⟩ (.slice (some ⟨g, 0, none⟩) (els.length + 1) cap)) g cap Fe := by
  have hblt := ha.blt
  have hgb : g ≠ b := by
    rcases hat with h | h
    · intro e; subst e; exact ha.nb (hblk _ h).1
    · omega
  have hgF : F g ∨ w.heap.size ≤ g := hat.elim (fun h => .inl (hblk g h).1) (fun h => .inr (by omega))
  have hgown : ¬ E.own g := by
    rcases hat with h | h
    · exact hF g (hblk g h).1
    · rintro (e | e | e)
      · have := hr.rlt; omega
      · have := hr.wlt; omega
      · have := hr.tn.lt; omega
  have hFe' : ∀ x, Fe x → F x ∧ x ≠ g := fun x hx => ⟨hFe x hx, fun e => by
    subst e
    rcases hat with h | h
    · exact (hblk _ h).2 hx
    · have := ha.lt _ (hFe _ hx); omega⟩
  have hm1 := Mv.grown hg
  have hS1 : ∀ x, v.ownBlock = some x → F x := fun x hx => (hblk x hx).1
  have hm2 := Mv.setCell w1 ⟨b, o, none⟩ (.slice (some ⟨g, 0, none⟩) (els.length + 1) cap)
  have hm : Mv (fun x => x = b ∨ F x) w (w1.setCell ⟨b, o, none⟩ (.slice (some ⟨g, 0, none⟩) (els.length + 1) cap)) := (hm1.mono (fun x hx => .inl (.inr (hS1 x hx)))).trans hm2 (fun x hx => .inl (.inl hx))
  obtain ⟨cs, hcs, hcsz⟩ := ha.blk
  have hroom := ha.room
  simp at hroom
  have hb1 : w1.heap[b]? = some (.cells cs t (0, 0)) := hm1.heap hcs (fun hx => ha.nb (hS1 b hx))
  obtain ⟨hlen, hform⟩ := hown
  rcases hform with ⟨hv, _⟩ | ⟨g', cap', cur, hv, _, hcur, hn, hc, hsize, htake⟩
  · cases hv
  obtain ⟨rfl, rfl⟩ : g = g' ∧ cap = cap' := by injection hv with h1 h2 h3; injection h1 with h1; injection h1 with h1; exact ⟨h1, h3⟩
  have hcur2 : (w1.setCell ⟨b, o, none⟩ (.slice (some ⟨g, 0, none⟩) (els.length + 1) cap)).heap[g]? = some (.cells cur (ty.id T) (0, 0)) := hm2.heap hcur hgb
  have hfl := flat_len hsz
  have hget : ∀ (j : Nat) (u : Value), (xs ++ (zero T).map zval)[j]? = some u → cur[j]? = some u := fun j u hu => by
    rw [← htake, List.getElem?_take] at hu
    split at hu
    · simpa using hu
    · cases hu
  have hzl := zero_size T
  refine ⟨?_, ⟨⟨cur, fun _ _ => False, hcur2, hsize, fun j d hd => ?_, fun _ _ h => h, fun _ _ _ h => h.elim⟩, ?_, fun h => h, fun _ h => h.elim⟩, hgown, ?_, ⟨_, setCell_blk hb1, by simpa using hcsz⟩, hroom, hn, hc, hgb, hFe', hgF, hsz, fun j d hd => ?_, hm, fun j hj => ?_, ha.lt, ha.nb, hF, hb⟩
  · exact (hr.kept hm1 (fun hx => hF _ (hS1 _ hx) (.inl rfl)) (fun hx => hF _ (hS1 _ hx) (.inr (.inl rfl))) (fun hx => hF _ (hS1 _ hx) (.inr (.inr rfl)))).kept hm2 (fun e => hb (.inl e.symm)) (fun e => hb (.inr (.inl e.symm))) (fun e => hb (.inr (.inr e.symm)))
  · refine ⟨zval d, hget _ _ ?_, zval_is _ _ _ T d (List.mem_of_getElem? hd)⟩
    rw [List.getElem?_append_right (by omega), hxs, Nat.add_sub_cancel_left, List.getElem?_map, hd]
    rfl
  · rw [hzl, ← Nat.succ_mul]
    exact Nat.mul_le_mul_right _ hn
  · rw [cell_blk (setCell_blk hb1)]
    rw [Array.getElem?_setIfInBounds_self]
    simp; omega
  · obtain ⟨u, hu, hdu⟩ := hold j d hd
    refine ⟨u, ?_, hdu.kept fun x hx hlt => ?_⟩
    · rw [cell_blk hcur2]
      exact hget j u (by rw [List.getElem?_append_left (List.getElem?_eq_some_iff.1 hu).1]; exact hu)
    · have hxb : ¬ x = b := fun e => ha.nb (by rw [← e]; exact hFe x hx)
      exact (hm2.block x (Nat.lt_of_lt_of_le hlt hm1.size) hxb).trans (hm1.block x hlt (fun h => (hblk x h).2 hx))
  · have e1 : (w1.setCell ⟨b, o, none⟩ (.slice (some ⟨g, 0, none⟩) (els.length + 1) cap)).cell? ⟨b, j, none⟩ = w1.cell? ⟨b, j, none⟩ := World.cell?_setCell_other _ _ _ _ (by intro e; injection e; omega)
    rw [e1, cell_blk hb1, cell_blk hcs]

theorem Grew.bad {E : Env} {w w2 w3 : World} {F Fe : Nat → Prop} {b : Nat} {t : TypeId} {N o : Nat} {T : Ty} {els : List (List D)} {i g cap : Nat} (h : Grew E w F b t N o T els i w2 g cap Fe) {m : Mis} {e : Ending}
    (hp : Post E (fun _ => False) g (ty.id T) (cap * ty.size T) (els.length * ty.size T) (ty.size T) w2 (.error m) e w3) : Post E F b t N o 1 w (.error m) e w3 :=
  ⟨hp.1, (h.mv.mono (fun x hx => .inl (.inr hx))).trans hp.2 (fun x hx => by
    rcases hx with hx | rfl | hx
    · exact .inl (.inl hx)
    · exact h.gF.elim (fun hx => .inl (.inr (.inr hx))) .inr
    · exact hx.elim)⟩

theorem Grew.done {E : Env} {w w2 w3 : World} {F Fe : Nat → Prop} {b : Nat} {t : TypeId} {N o : Nat} {T : Ty} {els : List (List D)} {i g cap : Nat} (h : Grew E w F b t N o T els i w2 g cap Fe) {ds : List D} {j : Nat} {e : Ending}
    (hp : Post E (fun _ => False) g (ty.id T) (cap * ty.size T) (els.length * ty.size T) (ty.size T) w2 (.ok (ds, j)) e w3) : Post E F b t N o 1 w (.ok ([.row T (els ++ [ds])], j)) e w3 := by
  obtain ⟨he, hr, hl, ⟨F', ha, hF'⟩, hm, ho⟩ := hp
  obtain ⟨cs, hcs, hcsz⟩ := h.blk
  have hrb : ¬ b = E.rb := fun e => h.bown (.inl e)
  have hb3 : w3.heap[b]? = some (.cells cs t (0, 0)) := hm.heap hcs (by
    rintro (e | e | e)
    · exact hrb e
    · exact h.ne e.symm
    · exact e)
  obtain ⟨cur, fp, hcur, hcz, hcell, hfpF, _⟩ := ha.ex
  have hfl := flat_len h.sizes
  have hgo : g < w2.heap.size := h.new.blt
  have hFn : ∀ x, F' x → w2.heap.size ≤ x := fun x hx => (hF' x hx).elim (fun h => h.elim) id
  have hgc : cs[o]? = some (.slice (some ⟨g, 0, none⟩) (els ++ [ds]).length cap) := by
    have := h.cell
    rw [cell_blk hcs] at this
    simpa using this
  have hdis : DIs ty w3 (fun x => (F x ∨ F' x ∨ x = g)) (.slice (some ⟨g, 0, none⟩) (els ++ [ds]).length cap) (.row T (els ++ [ds])) := by
    refine DIs.of_block (Fe := fun x => Fe x ∨ F' x) hcur (by simp) (by simpa using h.hn) h.hc hcz (fun e he => ?_) (.inr (.inr rfl)) (fun x hx => ?_) (fun q d hd => ?_)
    · rcases List.mem_append.1 he with he | he
      · exact h.sizes e he
      · simp at he; subst he; exact hl
    · rcases hx with hx | hx
      · exact ⟨.inl (h.hFe x hx).1, (h.hFe x hx).2⟩
      · exact ⟨.inr (.inl hx), by have := hFn x hx; omega⟩
    · rw [List.flatten_append, List.flatten_singleton] at hd
      by_cases hq : q < els.flatten.length
      · rw [List.getElem?_append_left hq] at hd
        obtain ⟨u, hu, hdu⟩ := h.old q d hd
        refine ⟨u, ?_, (hdu.kept fun x hx hlt => hm.block x hlt ?_).mono (fun x hx => .inl hx)⟩
        · have := ho q (by omega)
          rw [cell_blk hcur, hu] at this
          exact this
        · rintro (e | e | e)
          · exact h.Fown x (h.hFe x hx).1 (.inl e)
          · exact (h.hFe x hx).2 e
          · exact e
      · rw [List.getElem?_append_right (by omega)] at hd
        obtain ⟨u, hu, hdu⟩ := hcell _ d hd
        exact ⟨u, by rw [← hu]; congr 1; omega, hdu.mono (fun x hx => .inr (hfpF _ x hx))⟩
  refine ⟨he, hr, rfl, ⟨fun x => (F x ∨ F' x ∨ x = g), ⟨⟨cs, fun q x => q = 0 ∧ (F x ∨ F' x ∨ x = g), hb3, hcsz, fun q d hd => ?_, fun q x hx => hx.2, fun q q' x hx hx' => hx.1.trans hx'.1.symm⟩, h.room, ?_, ?_⟩, ?_⟩, ?_, ?_⟩
  · cases q with
    | zero => simp at hd; subst hd; exact ⟨_, hgc, hdis.mono (fun x hx => ⟨rfl, hx⟩)⟩
    | succ q => simp at hd
  · rintro (hx | hx | hx)
    · exact h.bF hx
    · have := hFn _ hx; have := lt_of_block hcs; omega
    · exact h.ne hx.symm
  · rintro x (hx | hx | rfl)
    · exact Nat.lt_of_lt_of_le (h.flt x hx) (Nat.le_trans h.mv.size hm.size)
    · exact ha.lt x hx
    · exact ha.blt
  · rintro x (hx | hx | rfl)
    · exact .inl hx
    · exact .inr (Nat.le_trans h.mv.size (hFn x hx))
    · exact h.gF
  · exact (h.mv.mono (fun x hx => .inl (.inr hx))).trans hm (fun x hx => by
      rcases hx with hx | rfl | hx
      · exact .inl (.inl hx)
      · exact h.gF.elim (fun hx => .inl (.inr (.inr hx))) .inr
      · exact hx.elim)
  · intro q hq
    have e1 : w3.cell? ⟨b, q, none⟩ = w2.cell? ⟨b, q, none⟩ := by rw [cell_blk hb3, cell_blk hcs]
    exact e1.trans (h.out q hq)

theorem Grew.same {E : Env} {w w2 w3 : World} {F Fe : Nat → Prop} {b : Nat} {t : TypeId} {N o : Nat} {T : Ty} {els : List (List D)} {i g cap : Nat} (h : Grew E w F b t N o T els i w2 g cap Fe) (hm : Mv (fun _ => False) w2 w3) : Grew E w F b t N o T els i w3 g cap Fe where
  rd := h.rd.same hm
  new := h.new.kept hm id (fun _ _ => id)
  own := h.own
  cell := cell_mv hm h.cell id
  blk := let ⟨cs, h1, h2⟩ := h.blk; ⟨cs, hm.heap h1 id, h2⟩
  room := h.room
  hn := h.hn
  hc := h.hc
  ne := h.ne
  hFe := h.hFe
  gF := h.gF
  sizes := h.sizes
  old := fun j d hd => let ⟨u, h1, h2⟩ := h.old j d hd; ⟨u, cell_mv hm h1 id, h2.kept (fun x _ hlt => hm.block x hlt id)⟩
  mv := h.mv.trans hm (fun _ hx => hx.elim)
  out := fun j hj => by
    obtain ⟨cs, h1, _⟩ := h.blk
    exact (out_of_mv (o := o) (k := 1) hm id (lt_of_block h1) j hj).trans (h.out j hj)
  flt := h.flt
  bF := h.bF
  Fown := h.Fown
  bown := h.bown

theorem wrap_small {n : Int} (h : n ≤ 1000000000) (h0 : 0 ≤ n) : IntKind.i64.wrap n = n := by
  rw [IntKind.wrap_i64]; omega

/-- It returns, or throws. -/
theorem Post.ends {E : Env} {F : Nat → Prop} {b : Nat} {t : TypeId} {N o k : Nat} {w : World} {r : Res} {e : Ending} {w' : World} (h : Post E F b t N o k w r e w') : e = .returned (.tuple #[]) ∨ ∃ m, e = .panicked (thrown m) := by
  cases r with
  | error m => exact .inr ⟨m, h.1⟩
  | ok x => exact .inl h.1

/-- A call of that function enters it. -/
def Entered (K : FuncId) : Prop := ∀ (args : Array Value) (w : World), (callFunc K args).run Tryz.prog w = .ok (.enter K args) w

/-- What a function that reads a part does, wherever it is to be laid. -/
def Reads (E : Env) (K : FuncId) (pre : List D) (i : Nat) (r : Res) : Prop :=
  ∀ (w : World) (F : Nat → Prop) (b : Nat) (t : TypeId) (N o : Nat), Rd E w i → At ty w F b t N o pre → ¬ E.own b → (∀ x, F x → ¬ E.own x) →
    Calls Tryz.prog K #[.pointer (some ⟨E.rb, 0, none⟩), .pointer (some ⟨b, o, none⟩)] w (Post E F b t N o pre.length w r)

end Go.Proofs.YthmdgbmodgfcmaaGreatDoor
