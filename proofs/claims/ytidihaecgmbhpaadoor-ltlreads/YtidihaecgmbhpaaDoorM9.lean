/-
  QD, QDepth, QLook, QSmall, QSame, QSp, VChar, QMay, QPlain.
-/
import Derived.Test.YtidihaecgmbhpaaDoorM1
import Derived.Test.YtidihaecgmbhpaaDoorM3
import Derived.Test.YtidihaecgmbhpaaDoorM8
/-
  What the walks of layer 9 share besides: words of the contracts, boxes, texts. No walk of a function of the program.
-/
set_option linter.unusedSimpArgs false
namespace Go.Proofs.YtidihaecgmbhpaaDoor
open Go.RowKit Q

/-- What is told of a tree. -/
def chk (t : T) : Nat := if t.may = false then 92 else if 100 < t.depth then 93 else 0

/-- A text and what is wrong. -/
def printF (f : F) : Wd × Nat := if 100 < f.depth then ([], 93) else if 4096 < f.size then ([], 2) else if 4096 < f.text.length then ([], 2) else (f.text, 0)

theorem sizes_take (l : List T) (i : Nat) (t : T) (h : l[i]? = some t) : T.sizes (l.take (i + 1)) = T.sizes (l.take i) + t.size := by
  induction l generalizing i with
  | nil => simp at h
  | cons a l ih =>
    cases i with
    | zero => simp at h; subst h; simp [T.sizes]
    | succ i => simp only [List.getElem?_cons_succ] at h; simp only [List.take_succ_cons, T.sizes, ih i h]; omega

theorem sizes_take_le (l : List T) (i : Nat) : T.sizes (l.take i) ≤ T.sizes l := by
  induction l generalizing i with
  | nil => simp [T.sizes]
  | cons a l ih =>
    cases i with
    | zero => simp [T.sizes]
    | succ i => have := ih i; simp only [List.take_succ_cons, T.sizes]; omega

/-- A size as it is told. -/
def capN (n : Nat) : Nat := min n 20001

/-- Is the first kid a name? -/
def hd3 : List T → Bool
  | t :: _ => decide (t.kind = 3)
  | [] => false

mutual
/-- Plain, of a tree that may be. -/
def plainT : T → Bool
  | .mk k _ l => if k = 6 ∨ k = 7 ∨ k = 10 ∨ k = 11 ∨ k = 14 then false else if k = 4 then hd3 l else plainTs l
def plainTs : List T → Bool
  | [] => true
  | t :: r => plainT t && plainTs r
end

theorem plainTs_all (l : List T) : plainTs l = l.all plainT := by
  induction l with
  | nil => rfl
  | cons a l ih => simp [plainTs, ih]

theorem plainT_f (f : F) : plainT f.t = plainF f := by
  induction f with
  | tt => rfl
  | ff => rfl
  | pr s => rfl
  | u o a ih =>
    cases o
    case not =>
      cases a with
      | tt => rfl
      | ff => rfl
      | pr s => rfl
      | u o b => cases o <;> rfl
      | b o b c => cases o <;> rfl
    case next => simp [F.t, plainT, plainTs, plainF, U.kind, ih]
    case always => simp [F.t, plainT, plainTs, plainF, U.kind]
    case fin => simp [F.t, plainT, plainTs, plainF, U.kind]
  | b o a c iha ihc => cases o <;> simp [F.t, plainT, plainTs, plainF, B.kind, iha, ihc]

theorem strOfL_toList (n : List UInt8) : (strOfL n).toList = n := by rw [ByteArray.toList_eq]; simp [strOfL]

/-- A row of texts of its own. -/
structure Tab (w W0 : World) (L : List Wd) : Prop where
  mv : Nu w W0
  at' : ∀ (i : Nat) s, L[i]? = some s → W0.cell? ⟨w.heap.size, i, none⟩ = some (.string (strOfL s))
  lt : w.heap.size < W0.heap.size

theorem tab (w : World) (L : List Wd) (t : TypeId) : Tab w (w.alloc (.cells (L.map fun s => Value.string (strOfL s)).toArray t)) L := by
  have h := heap_alloc_new w (.cells (L.map fun s => Value.string (strOfL s)).toArray t)
  exact ⟨Mv.alloc _ _ _, fun i s hs => by rw [cell_blk h]; simp [hs], by simp⟩

theorem ret_i64 {a b : Int} (h : a = b) : Ending.returned (.int .i64 a) = .returned (.int .i64 b) := by rw [h]

/-- Three cells of a formula's kinds. -/
def Cell3 (d0 d1 d2 : Value) : Prop := ∃ k s a l c, d0 = .int .i64 k ∧ d1 = .string s ∧ d2 = .slice a l c

theorem TIn.cell3 {w : World} {P : Nat → Prop} {d0 d1 d2 : Value} {t : T} (h : TIn w P d0 d1 d2 t) : Cell3 d0 d1 d2 := by
  cases t with
  | mk k n l => obtain ⟨_, _, _, h0, h1, ao, cap, h2, _⟩ := h.form; exact ⟨k, _, ao, _, cap, h0, h1, h2⟩

theorem setCell_blk {w : World} {b i : Nat} {cs : Array Value} {u : Value} {t : TypeId} {m : Nat × Nat} (h : w.heap[b]? = some (.cells cs t m)) :
    (w.setCell ⟨b, i, none⟩ u).heap[b]? = some (.cells (cs.setIfInBounds i u) t m) := by
  have hlt := lt_of_block h
  have h' : w.heap[b] = .cells cs t m := by simpa [Array.getElem?_eq_getElem hlt] using h
  show (w.heap.modify b _)[b]? = _
  rw [Array.getElem?_eq_getElem (by simpa using hlt), Array.getElem_modify_self, h']
  rfl

/-- Three cells are written into a block of three. -/
structure Set3 (w W : World) (g : Nat) (d0 d1 d2 : Value) (t : TypeId) : Prop where
  mv : Mv (· = g) w W
  blk : W.heap[g]? = some (.cells #[d0, d1, d2] t (0, 0))
  sz : W.heap.size = w.heap.size

theorem set3 {w : World} {g : Nat} {c0 c1 c2 : Value} {t : TypeId} (h : w.heap[g]? = some (.cells #[c0, c1, c2] t (0, 0))) (d0 d1 d2 : Value) :
    Set3 w (((w.setCell ⟨g, 0, none⟩ d0).setCell ⟨g, 1, none⟩ d1).setCell ⟨g, 2, none⟩ d2) g d0 d1 d2 t :=
  ⟨((Mv.setCell w ⟨g, 0, none⟩ d0).trans (Mv.setCell _ ⟨g, 1, none⟩ d1) (fun _ h => .inl h)).trans (Mv.setCell _ ⟨g, 2, none⟩ d2) (fun _ h => .inl h), by
    rw [setCell_blk (setCell_blk (setCell_blk h))]; rfl, by simp [World.setCell]⟩

/-- A block's three cells, and that they may be written. -/
structure Three (w : World) (g : Nat) (d0 d1 d2 : Value) : Prop where
  c0 : w.cell? ⟨g, 0, none⟩ = some d0
  c1 : w.cell? ⟨g, 1, none⟩ = some d1
  c2 : w.cell? ⟨g, 2, none⟩ = some d2
  f0 : w.frozen? ⟨g, 0, none⟩ = false
  f1 : w.frozen? ⟨g, 1, none⟩ = false
  f2 : w.frozen? ⟨g, 2, none⟩ = false

theorem three {w : World} {g : Nat} {d0 d1 d2 : Value} {t : TypeId} (h : w.heap[g]? = some (.cells #[d0, d1, d2] t (0, 0))) : Three w g d0 d1 d2 :=
  ⟨by rw [cell_blk h]; rfl, by rw [cell_blk h]; rfl, by rw [cell_blk h]; rfl, free_blk h 0, free_blk h 1, free_blk h 2⟩

theorem str_app (a b : List UInt8) : strOfL a ++ strOfL b = strOfL (a ++ b) := by
  apply ByteArray.ext
  simp [strOfL]

/-- A text that is small. -/
def Small (a : ByteArray) : Prop := a.size ≤ 1000000000

@[go_sem high] theorem run_add_small {P : Program} (w : World) (a b : ByteArray) (ha : Small a) (hb : Small b) : (Op.stringOp .add a b).run P w = .ok (.string (a ++ b)) w :=
  run_string_add_sum w a b (by unfold Small at ha hb; omega)

theorem ext_toList (s : Wd) (a b : Nat) : ((strOfL s).extract a b).toList = (s.take b).drop a := by
  rw [ByteArray.toList_eq]
  simp [strOfL, ByteArray.data_extract, List.drop_take]

theorem ext_str (s : Wd) (a b : Nat) : (strOfL s).extract a b = strOfL ((s.take b).drop a) := by
  apply ByteArray.ext
  simp [strOfL, ByteArray.data_extract, List.drop_take]

/-- A row of texts that can be read. -/
def RowAt (w : World) (v : Value) (L : List Wd) : Prop := ∃ ao c, v = .slice ao L.length c ∧ (L = [] ∨ ∃ ad, ao = some ad ∧ ∀ (j : Nat) n, L[j]? = some n → w.cell? (ad.add j) = some (.string (strOfL n)))

theorem add_at (g o j : Nat) : (⟨g, o, none⟩ : Addr).add j = ⟨g, o + j, none⟩ := by unfold Addr.add; split <;> simp_all

mutual
/-- The names of a tree, as they stand. -/
def nm : T → List Wd
  | .mk k n l => (if k = 3 then [n] else []) ++ nms l
def nms : List T → List Wd
  | [] => []
  | t :: r => nm t ++ nms r
end

theorem nms_map (l : List T) : nms l = l.flatMap nm := by
  induction l with
  | nil => rfl
  | cons a l ih => simp [nms, ih]

theorem nm_size : ∀ t : T, (nm t).length ≤ t.size := by
  refine T.ind fun k n l ih => ?_
  have : (nms l).length ≤ T.sizes l := by
    clear k n
    induction l with
    | nil => simp [nms]
    | cons a l ih2 =>
      have h1 := ih a (by simp)
      have h2 := ih2 (fun t ht => ih t (by simp [ht]))
      simp only [nms, T.sizes, List.length_append]
      omega
  simp only [nm, T.size, List.length_append]
  split <;> simp <;> omega

/-- Where a text belongs. -/
def pos (n : Wd) (L : List Wd) : Nat := (L.takeWhile fun x => Go.Op.bytesLess x n).length

/-- A text is put where it belongs, if it isn't there. -/
def ins (L : List Wd) (n : Wd) : List Wd := if L[pos n L]? = some n then L else L.take (pos n L) ++ [n] ++ L.drop (pos n L)

def srt (L : List Wd) : List Wd := L.foldl ins []

theorem ins_len (L : List Wd) (n : Wd) : (ins L n).length ≤ L.length + 1 := by
  unfold ins
  split
  · omega
  · simp; omega

theorem srt_len (L : List Wd) : (srt L).length ≤ L.length := by
  have : ∀ (M acc : List Wd), (M.foldl ins acc).length ≤ acc.length + M.length := fun M => by
    induction M with
    | nil => simp
    | cons a M ih => intro acc; have := ih (ins acc a); have := ins_len acc a; simp only [List.foldl_cons, List.length_cons]; omega
  have h := this L []
  unfold srt
  simpa using h

theorem zero_t (w : World) (P : Nat → Prop) : TIn w P (.int .i64 0) (.string ⟨#[]⟩) (.slice none 0 0) (.mk 0 [] []) := .leaf 0 [] none 0 (by decide) (by decide)

theorem chk_lt (t : T) : chk t ≤ 93 := by unfold chk; split; omega; split <;> omega

/-- Two boxes of three cells. -/
structure Box33 (w W0 : World) (c0 c1 c2 d0 d1 d2 : Value) : Prop where
  mv : Nu w W0
  a0 : W0.cell? ⟨w.heap.size, 0, none⟩ = some c0
  a1 : W0.cell? ⟨w.heap.size, 1, none⟩ = some c1
  a2 : W0.cell? ⟨w.heap.size, 2, none⟩ = some c2
  b0 : W0.cell? ⟨w.heap.size + 1, 0, none⟩ = some d0
  b1 : W0.cell? ⟨w.heap.size + 1, 1, none⟩ = some d1
  b2 : W0.cell? ⟨w.heap.size + 1, 2, none⟩ = some d2

theorem box33 (w : World) (c0 c1 c2 d0 d1 d2 : Value) (t : TypeId) : Box33 w ((w.alloc (.cells #[c0, c1, c2] t)).alloc (.cells #[d0, d1, d2] t)) c0 c1 c2 d0 d1 d2 := by
  have hm : Nu w ((w.alloc (.cells #[c0, c1, c2] t)).alloc (.cells #[d0, d1, d2] t)) := mv0 (Mv.alloc _ w _) (Mv.alloc _ _ _)
  have ha := (Mv.alloc (fun _ => False) (w.alloc (.cells #[c0, c1, c2] t)) (.cells #[d0, d1, d2] t)).heap (heap_alloc_new w _) id
  have hb := heap_alloc_new (w.alloc (.cells #[c0, c1, c2] t)) (.cells #[d0, d1, d2] t)
  rw [show (w.alloc (.cells #[c0, c1, c2] t)).heap.size = w.heap.size + 1 by simp] at hb
  exact ⟨hm, by rw [cell_blk ha]; rfl, by rw [cell_blk ha]; rfl, by rw [cell_blk ha]; rfl, by rw [cell_blk hb]; rfl, by rw [cell_blk hb]; rfl, by rw [cell_blk hb]; rfl⟩

theorem strOfL_inj {a b : List UInt8} : strOfL a = strOfL b ↔ a = b := by
  constructor
  · intro h
    have := congrArg (fun s : ByteArray => s.data.toList) h
    simpa [strOfL] using this
  · exact fun h => h ▸ rfl

/-- A block of three cells. -/
abbrev Blk (w : World) (g : Nat) (d0 d1 d2 : Value) : Prop := w.heap[g]? = some (.cells #[d0, d1, d2] 24 (0, 0))

/-- The zero of a formula. -/
abbrev Z3 : Obj := .cells #[.int .i64 0, .string ⟨#[]⟩, .slice none 0 0] 24

def IsT (P0 : Nat → Prop) (w : World) (v : Value) (t : T) : Prop := ∃ d0 d1 d2, v = .agg #[d0, d1, d2] ∧ TIn w P0 d0 d1 d2 t
def IsL (P0 : Nat → Prop) (w : World) (v : Value) (l : List T) : Prop := (∃ ao n c, v = .slice ao n c) ∧ ∀ k : Int, (-9223372036854775808 ≤ k ∧ k ≤ 9223372036854775807) → TIn w P0 (.int .i64 k) (.string ⟨#[]⟩) v (.mk k [] l)

theorem IsT.go {P0 : Nat → Prop} {S : Nat → Prop} {w w' : World} {v : Value} {t : T} (h : IsT P0 w v t) (hm : Mv S w w') (hS : ∀ x, P0 x → ¬ S x) : IsT P0 w' v t := by
  obtain ⟨d0, d1, d2, h1, h2⟩ := h
  exact ⟨d0, d1, d2, h1, h2.mv hm (fun x hx _ => hS x hx)⟩
theorem IsL.go {P0 : Nat → Prop} {S : Nat → Prop} {w w' : World} {v : Value} {l : List T} (h : IsL P0 w v l) (hm : Mv S w w') (hS : ∀ x, P0 x → ¬ S x) : IsL P0 w' v l :=
  ⟨h.1, fun k hk => (h.2 k hk).mv hm (fun x hx _ => hS x hx)⟩

theorem isL1 {P0 : Nat → Prop} {w : World} {d0 d1 d2 : Value} {t : T} (ht : TIn w P0 d0 d1 d2 t) (hG : P0 w.heap.size) : IsL P0 (w.alloc (.cells #[d0, d1, d2] 24)) (.slice (some ⟨w.heap.size, 0, none⟩) 1 1) [t] := by
  refine ⟨⟨_, _, _, rfl⟩, fun k hk => ?_⟩
  have hg := heap_alloc_new w (.cells #[d0, d1, d2] 24)
  have ht' := ht.nu (Mv.alloc (fun _ => False) w (.cells #[d0, d1, d2] 24))
  refine .node k [] [t] w.heap.size 0 1 (fun _ => (d0, d1, d2)) hk (by decide) (by simp) hG (fun i hi => ?_) ⟨_, _, hg⟩ (fun i v hv => ?_)
  · simp only [List.length_cons, List.length_nil] at hi
    have : i = 0 := by omega
    subst this
    exact ⟨by rw [cell_blk hg]; rfl, by rw [cell_blk hg]; rfl, by rw [cell_blk hg]; rfl⟩
  · have hi : i = 0 := by have := (List.getElem?_eq_some_iff.1 hv).1; simp at this; omega
    subst hi
    simp at hv; subst hv; exact ht'

theorem isL2 {P0 : Nat → Prop} {w : World} {d0 d1 d2 e0 e1 e2 : Value} {t u : T} (ht : TIn w P0 d0 d1 d2 t) (hu : TIn w P0 e0 e1 e2 u) (hG : P0 w.heap.size) :
    IsL P0 (w.alloc (.cells #[d0, d1, d2, e0, e1, e2] 24)) (.slice (some ⟨w.heap.size, 0, none⟩) 2 2) [t, u] := by
  refine ⟨⟨_, _, _, rfl⟩, fun k hk => ?_⟩
  have hg := heap_alloc_new w (.cells #[d0, d1, d2, e0, e1, e2] 24)
  have ht' := ht.nu (Mv.alloc (fun _ => False) w (.cells #[d0, d1, d2, e0, e1, e2] 24))
  have hu' := hu.nu (Mv.alloc (fun _ => False) w (.cells #[d0, d1, d2, e0, e1, e2] 24))
  refine .node k [] [t, u] w.heap.size 0 2 (fun i => if i = 0 then (d0, d1, d2) else (e0, e1, e2)) hk (by decide) (by simp) hG (fun i hi => ?_) ⟨_, _, hg⟩ (fun i v hv => ?_)
  · simp only [List.length_cons, List.length_nil] at hi
    have : i = 0 ∨ i = 1 := by omega
    rcases this with rfl | rfl
    · exact ⟨by rw [cell_blk hg]; rfl, by rw [cell_blk hg]; rfl, by rw [cell_blk hg]; rfl⟩
    · exact ⟨by rw [cell_blk hg]; rfl, by rw [cell_blk hg]; rfl, by rw [cell_blk hg]; rfl⟩
  · have hi : i = 0 ∨ i = 1 := by have := (List.getElem?_eq_some_iff.1 hv).1; simp at this; omega
    rcases hi with rfl | rfl
    · simp at hv; subst hv; exact ht'
    · simp at hv; subst hv; exact hu'

theorem op_bs1 {o : Oper} {a : Act} {w : World} {K : Act → World → Prop} {Q : Exit → Act → World → Prop} {d x : Nat} {d0 d1 d2 : Value} (hd : o.dst = some d) (ho : o.op = .buildSlice 22 1 #[(0, .tmp x)]) (hx : a.tmps[x]? = some (.agg #[d0, d1, d2])) (hc : Cell3 d0 d1 d2)
    (hK : K ⟨a.tmps.setIfInBounds d (.slice (some ⟨w.heap.size, 0, none⟩) 1 1), a.defers⟩ (w.alloc (.cells #[d0, d1, d2] 24))) : Oper.wp Tryd.prog o a w K Q := by
  obtain ⟨k, s', ao, l, c, rfl, rfl, rfl⟩ := hc
  unfold Oper.wp execOp
  simp only [ho, hd]
  go_simp
  exact hK

theorem op_bs2 {o : Oper} {a : Act} {w : World} {K : Act → World → Prop} {Q : Exit → Act → World → Prop} {d x y : Nat} {d0 d1 d2 e0 e1 e2 : Value} (hd : o.dst = some d) (ho : o.op = .buildSlice 22 2 #[(0, .tmp x), (1, .tmp y)]) (hx : a.tmps[x]? = some (.agg #[d0, d1, d2])) (hy : a.tmps[y]? = some (.agg #[e0, e1, e2]))
    (hc : Cell3 d0 d1 d2) (hc' : Cell3 e0 e1 e2) (hK : K ⟨a.tmps.setIfInBounds d (.slice (some ⟨w.heap.size, 0, none⟩) 2 2), a.defers⟩ (w.alloc (.cells #[d0, d1, d2, e0, e1, e2] 24))) : Oper.wp Tryd.prog o a w K Q := by
  obtain ⟨k, s', ao, l, c, rfl, rfl, rfl⟩ := hc
  obtain ⟨k2, s2, ao2, l2, c2, rfl, rfl, rfl⟩ := hc'
  unfold Oper.wp execOp
  simp only [ho, hd]
  go_simp
  exact hK

end Go.Proofs.YtidihaecgmbhpaaDoor
/-
  What the reference's functions that only look at a tree give: its depth.
-/
namespace Go.Proofs.YtidihaecgmbhpaaDoor
open Go.RowKit Q

theorem depths_take (l : List T) (i : Nat) (t : T) (h : l[i]? = some t) : T.depths (l.take (i + 1)) = max (T.depths (l.take i)) t.depth := by
  induction l generalizing i with
  | nil => simp at h
  | cons a l ih =>
    cases i with
    | zero => simp at h; subst h; simp [T.depths]
    | succ i => simp only [List.getElem?_cons_succ] at h; simp only [List.take_succ_cons, T.depths, ih i h]; omega

theorem sizes_mem {l : List T} {t : T} (h : t ∈ l) : t.size ≤ T.sizes l := by
  induction l with
  | nil => cases h
  | cons a l ih =>
    rcases List.mem_cons.1 h with rfl | h
    · simp only [T.sizes]; omega
    · have := ih h; simp only [T.sizes]; omega

theorem depths_le_sizes (l : List T) : T.depths l ≤ T.sizes l := by
  induction l with
  | nil => exact Nat.le_refl _
  | cons a l ih => have := a.depth_le_size; simp only [T.depths, T.sizes]; omega
theorem depths_take_le (l : List T) (i : Nat) : T.depths (l.take i) ≤ T.sizes l := by
  induction l generalizing i with
  | nil => simp [T.depths]
  | cons a l ih =>
    cases i with
    | zero => simp [T.depths]
    | succ i => have := a.depth_le_size; have := ih i; simp only [List.take_succ_cons, T.depths, T.sizes]; omega

set_option maxHeartbeats 2000000 in
theorem Depth_any : ∀ t : T, t.size ≤ 1000000000 → ∀ (w : World) (c0 c1 c2 : Value), TAt w c0 c1 c2 t → Looks 23 #[.agg #[c0, c1, c2]] w (.int .i64 (t.depth : Int)) := by
  refine T.ind fun k n l ih hsz w c0 c1 c2 h => ?_
  obtain ⟨_, _, hl, rfl, rfl, ao, cap, rfl, hels⟩ := h.form
  obtain ⟨N, hN⟩ : ∃ N : Nat, l.length = N := ⟨_, rfl⟩
  rw [hN] at hl ⊢
  have HE := hid (kids_call (K := 23) (val := fun t => .int .i64 (t.depth : Int)) hels (fun t ht => ih t ht (by have := sizes_mem ht; simp only [T.size] at hsz; omega)))
  rw [hN] at HE
  have hd : ∀ i, ((T.depths (l.take i) : Nat) : Int) ≤ 1000000000 := fun i => by
    have := depths_take_le l i
    simp only [T.size] at hsz
    omega
  have HD : Hid (T.depths l = T.depths (l.take N)) := by rw [← hN, List.take_length]; exact rfl
  have HT : Hid (∀ i t, l[i]? = some t → T.depths (l.take (i + 1)) = max (T.depths (l.take i)) t.depth) := fun i t h => depths_take l i t h
  clear hels hN h
  simp only [T.depth]
  obtain ⟨W0, hW0⟩ : ∃ W0, w.alloc (.cells #[.int .i64 k, .string (strOfL n), .slice ao N cap] 24) = W0 := ⟨_, rfl⟩
  have hB := box3 w (.int .i64 k) (.string (strOfL n)) (.slice ao N cap) 24
  rw [hW0] at hB
  have HB : Hid (Box3 w W0 (.int .i64 k) (.string (strOfL n)) (.slice ao N cap)) := hB
  unfold Looks
  go_enter Tryd.func23, Tryd.ntmps23
  go_upto_region 1 with fail
  clear hW0 hB
  go_wp2_with fail
  go_loopw [3, 4] (fun nv iv wr => ∃ i : Nat, i ≤ N ∧ nv = .int .i64 ((T.depths (l.take i) : Nat) : Int) ∧ iv = .int .i64 (i : Int) ∧ Hid (Nu W0 wr)) (fun _ iv _ => N - (intOf iv).toNat)
  case atStart => exact ⟨0, Nat.zero_le _, rfl, rfl, Mv.refl _ _⟩
  case round =>
    obtain ⟨i, hi, rfl, rfl, HM⟩ := hrel
    have hc := cell_mv HM.out HB.out.a2 id
    have hdi := hd i
    by_cases hj : i < N
    · have hj' : (i : Int) < (N : Int) := by omega
      obtain ⟨b, o, d0, d1, d2, t, rfl, h0, h1, h2, ht, hcall⟩ := HE.out i hj
      have hm := mv0 HB.out.mv HM.out
      replace h0 := cell_mv hm h0 id
      replace h1 := cell_mv hm h1 id
      replace h2 := cell_mv hm h2 id
      have HX : Hid (∀ W, Nu w W → Looks 23 #[.agg #[d0, d1, d2]] W (.int .i64 (t.depth : Int))) := hcall
      have hs := HT.out i t ht
      have hdn := hd (i + 1)
      have HS : Hid (T.depths (l.take (i + 1)) = max (T.depths (l.take i)) t.depth) := hs
      have HDN : Hid (((T.depths (l.take (i + 1)) : Nat) : Int) ≤ 1000000000) := hdn
      have HMW : Hid (Nu w wr) := hm
      clear hcall hs hdn ht hd hm HE HT
      go_wp2_with fail
      refine Calls.mono (HX.out _ HMW.out) ?_
      rintro e w1 ⟨rfl, hm1⟩
      have HM1 : Hid (Nu W0 w1) := mv0 HM.out hm1
      clear hm1
      go_wp2_with fail
      all_goals
        go_roundw
        case rel => exact ⟨i + 1, hj, by rw [HS.out]; go_num, by go_num, HM1⟩
        case measure => simp [intOf]; omega
    · have hj' : ¬ (i : Int) < (N : Int) := by omega
      have hiN : i = N := by omega
      subst hiN
      have HDI : Hid (((T.depths (l.take i) : Nat) : Int) ≤ 1000000000) := hdi
      clear HE HT
      go_wp2_with fail
      go_ret
      exact ⟨by rw [HD.out]; rfl, mv0 HB.out.mv HM.out⟩

end Go.Proofs.YtidihaecgmbhpaaDoor
/-
  What the reference's functions that only look at a tree give: does it speak of the next letter; its size.
-/
namespace Go.Proofs.YtidihaecgmbhpaaDoor
open Go.RowKit Q

set_option maxHeartbeats 2000000 in
theorem Size_any : ∀ (t : T) (w : World) (c0 c1 c2 : Value), TAt w c0 c1 c2 t → Looks 31 #[.agg #[c0, c1, c2]] w (.int .i64 (capN t.size : Int)) := by
  refine T.ind fun k n l ih w c0 c1 c2 h => ?_
  obtain ⟨hk, _, hl, rfl, rfl, ao, cap, rfl, hels⟩ := h.form
  obtain ⟨N, hN⟩ : ∃ N : Nat, l.length = N := ⟨_, rfl⟩
  have HE := hid (kids_call (K := 31) (val := fun t => .int .i64 (capN t.size : Int)) hels ih)
  rw [hN] at hl HE ⊢
  have HN : Hid (T.sizes l = T.sizes (l.take N)) := by rw [← hN, List.take_length]; exact rfl
  clear hels hN h ih
  simp only [T.size]
  obtain ⟨W0, hW0⟩ : ∃ W0, w.alloc (.cells #[.int .i64 k, .string (strOfL n), .slice ao N cap] 24) = W0 := ⟨_, rfl⟩
  have hB := box3 w (.int .i64 k) (.string (strOfL n)) (.slice ao N cap) 24
  rw [hW0] at hB
  have HB : Hid (Box3 w W0 (.int .i64 k) (.string (strOfL n)) (.slice ao N cap)) := hB
  unfold Looks
  go_enter Tryd.func31, Tryd.ntmps31
  go_upto_region 1 with fail
  clear hW0 hB
  go_wp2_with fail
  go_loopw [3, 4] (fun nv iv wr => ∃ i q : Nat, i ≤ N ∧ q ≤ 20000 ∧ nv = .int .i64 (q : Int) ∧ iv = .int .i64 (i : Int) ∧ Hid (Nu W0 wr) ∧ Hid (q = 1 + T.sizes (l.take i))) (fun _ iv _ => N - (intOf iv).toNat)
  case atStart => exact ⟨0, 1, Nat.zero_le _, by omega, rfl, rfl, Mv.refl _ _, show 1 = 1 + T.sizes (l.take 0) by simp [T.sizes]⟩
  case round =>
    obtain ⟨i, q, hi, hq, rfl, rfl, HM, HQ⟩ := hrel
    have hc := cell_mv HM.out HB.out.a2 id
    by_cases hj : i < N
    · have hj' : (i : Int) < (N : Int) := by omega
      obtain ⟨b, o, d0, d1, d2, t, rfl, h0, h1, h2, ht, hcall⟩ := HE.out i hj
      have hm := mv0 HB.out.mv HM.out
      replace h0 := cell_mv hm h0 id
      replace h1 := cell_mv hm h1 id
      replace h2 := cell_mv hm h2 id
      have HX : Hid (∀ W, Nu w W → Looks 31 #[.agg #[d0, d1, d2]] W (.int .i64 (capN t.size : Int))) := hcall
      have HS : Hid (T.sizes (l.take (i + 1)) = T.sizes (l.take i) + t.size) := sizes_take l i t ht
      have HMW : Hid (Nu w wr) := hm
      clear hcall ht hm HE
      obtain ⟨x, hx⟩ : ∃ x : Nat, capN t.size = x := ⟨_, rfl⟩
      rw [hx] at HX
      have hx2 : x ≤ 20001 := by rw [← hx]; unfold capN; omega
      have HXX : Hid (capN t.size = x) := hx
      clear hx
      go_wp2_with fail
      refine Calls.mono (HX.out _ HMW.out) ?_
      rintro e w1 ⟨rfl, hm1⟩
      have HM1 : Hid (Nu W0 w1) := mv0 HM.out hm1
      clear hm1
      by_cases hg : 20000 < q + x
      · have hg' : (20000 : Int) < (q : Int) + (x : Int) := by omega
        go_wp2_with fail
        go_ret
        refine ⟨?_, mv0 HB.out.mv HM1.out⟩
        have h1 := HQ.out
        have h2 := HS.out
        have h3 := sizes_take_le l (i + 1)
        have h4 := HXX.out
        have : capN (1 + T.sizes l) = 20001 := by unfold capN at h4 ⊢; omega
        exact ret_nat (a := 20001) this.symm
      · have hg' : ¬ (20000 : Int) < (q : Int) + (x : Int) := by omega
        go_wp2_with fail
        go_roundw
        case rel => exact ⟨i + 1, q + x, hj, by omega, by go_num, by go_num, HM1, by have h1 := HQ.out; have h2 := HS.out; have h4 := HXX.out; unfold capN at h4; show q + x = _; omega⟩
        case measure => simp [intOf]; omega
    · have hj' : ¬ (i : Int) < (N : Int) := by omega
      have hiN : i = N := by omega
      subst hiN
      clear HE
      go_wp2_with fail
      go_ret
      refine ⟨?_, mv0 HB.out.mv HM.out⟩
      have h1 := HQ.out
      have h2 := HN.out
      have : capN (1 + T.sizes l) = q := by unfold capN; omega
      exact ret_nat this.symm

end Go.Proofs.YtidihaecgmbhpaaDoor
/-
  What the reference's small functions give: tests of a byte, of a word, of a kind.
-/
set_option linter.unusedSimpArgs false
namespace Go.Proofs.YtidihaecgmbhpaaDoor
open Go.RowKit Q

theorem u8_beq (c d : UInt8) : (c == d) = ((c.toNat : Int) == (d.toNat : Int)) := by
  rw [Bool.eq_iff_iff]; simp [← UInt8.toNat_inj]; omega
theorem u8_le (c d : UInt8) : (decide (c ≤ d)) = decide ((c.toNat : Int) ≤ (d.toNat : Int)) := by
  rw [Bool.eq_iff_iff]; simp [UInt8.le_iff_toNat_le]
theorem isBl_int (c : UInt8) : isBl c = (((c.toNat : Int) == 9) || ((c.toNat : Int) == 10) || ((c.toNat : Int) == 13) || ((c.toNat : Int) == 32)) := by
  unfold isBl; simp only [u8_beq]; rfl
theorem isLet_int (c : UInt8) : isLet c = ((decide (97 ≤ (c.toNat : Int)) && decide ((c.toNat : Int) ≤ 122)) || (decide (65 ≤ (c.toNat : Int)) && decide ((c.toNat : Int) ≤ 90)) || ((c.toNat : Int) == 95)) := by
  unfold isLet; simp only [u8_le, u8_beq]; rfl
theorem isDig_int (c : UInt8) : isDig c = (decide (48 ≤ (c.toNat : Int)) && decide ((c.toNat : Int) ≤ 57)) := by
  unfold isDig; simp only [u8_le]; rfl

set_option maxHeartbeats 400000 in
theorem blank_any (c : UInt8) (w : World) : Calls Tryd.prog 40 #[.int .u8 (c.toNat : Int)] w fun e w' => e = .returned (.bool (isBl c)) ∧ w' = w := by
  go_enter Tryd.func40, Tryd.ntmps40
  go_wp2
  all_goals go_ret
  all_goals (refine ⟨?_, rfl⟩; rw [isBl_int]; simp [*])
set_option maxHeartbeats 400000 in
theorem letter_any (c : UInt8) (w : World) : Calls Tryd.prog 41 #[.int .u8 (c.toNat : Int)] w fun e w' => e = .returned (.bool (isLet c)) ∧ w' = w := by
  go_enter Tryd.func41, Tryd.ntmps41
  go_wp2
  all_goals go_ret
  all_goals (refine ⟨?_, rfl⟩; rw [isLet_int]; first | (simp [*]; done) | (simp [*]; omega) | (simp [*]; rw [Bool.eq_iff_iff]; simp; omega))
set_option maxHeartbeats 400000 in
theorem digit_any (c : UInt8) (w : World) : Calls Tryd.prog 42 #[.int .u8 (c.toNat : Int)] w fun e w' => e = .returned (.bool (isDig c)) ∧ w' = w := by
  go_enter Tryd.func42, Tryd.ntmps42
  go_wp2
  all_goals go_ret
  all_goals (refine ⟨?_, rfl⟩; rw [isDig_int]; first | (simp [*]; done) | (simp [*]; omega) | (simp [*]; rw [Bool.eq_iff_iff]; simp; omega))

set_option maxHeartbeats 400000 in
theorem Kids_any (k : Int) (w : World) : Calls Tryd.prog 83 #[.int .i64 k] w fun e w' => e = .returned (.int .i64 (T.kidsN k)) ∧ w' = w := by
  go_enter Tryd.func83, Tryd.ntmps83
  go_wp2
  all_goals go_ret
  all_goals (refine ⟨ret_i64 ?_, rfl⟩; unfold T.kidsN; (repeat' split) <;> omega)

/-- A kind's level. -/
def lvK (k : Int) : Nat := if 4 ≤ k ∧ k ≤ 7 then 5 else if 12 ≤ k ∧ k ≤ 14 then 4 else if k = 8 then 3 else if k = 9 then 2 else if k = 10 then 1 else if k = 11 then 0 else 6

set_option maxHeartbeats 400000 in
theorem level_any (k : Int) (w : World) : Calls Tryd.prog 71 #[.int .i64 k] w fun e w' => e = .returned (.int .i64 (lvK k : Int)) ∧ w' = w := by
  go_enter Tryd.func71, Tryd.ntmps71
  go_wp2
  all_goals go_ret
  all_goals (refine ⟨ret_i64 ?_, rfl⟩; unfold lvK; simp only [beq_iff_eq, beq_eq_false_iff_ne, ne_eq] at *; (repeat' split) <;> first | rfl | omega)

set_option maxHeartbeats 2000000 in
theorem Word_any (s : Wd) (w : World) : Looks 89 #[.string (strOfL s)] w (.bool (decide (s ∈ noNames))) := by
  unfold Looks
  go_enter Tryd.func89, Tryd.ntmps89
  go_wp2_with fail
  go_loopw [4] (fun iv wr => ∃ i : Nat, i ≤ 12 ∧ iv = .int .i64 (i : Int) ∧ Hid (Tab w wr noNames) ∧ Hid (∀ (j : Nat) u, j < i → noNames[j]? = some u → u ≠ s)) (fun iv _ => 12 - (intOf iv).toNat)
  case atStart => exact ⟨0, Nat.zero_le _, rfl, tab w noNames 9, fun j t hj => absurd hj (Nat.not_lt_zero _)⟩
  case round =>
    obtain ⟨i, hi, rfl, HB, HF⟩ := hrel
    by_cases hj : i < 12
    · have hj' : (i : Int) < 12 := by omega
      obtain ⟨u, hu⟩ : ∃ u, noNames[i]? = some u := ⟨_, List.getElem?_eq_getElem (by exact hj)⟩
      have hc := HB.out.at' i u hu
      have HU := hid hu
      clear hu
      by_cases he : u = s
      · subst he
        have HE : Hid (decide (u ∈ noNames) = true) := decide_eq_true (List.mem_of_getElem? HU.out)
        go_wp2_with fail
        go_ret
        exact ⟨ret_bool (a := true) HE.out.symm, HB.out.mv⟩
      · have he' : ((strOfL u).toList == (strOfL s).toList) = false := by rw [strOfL_toList, strOfL_toList]; simpa using he
        have HNE := hid he
        have HF1 : Hid (∀ (j : Nat) u, j < i + 1 → noNames[j]? = some u → u ≠ s) := fun j v hj hv => by
          by_cases e : j = i
          · rw [e, HU.out] at hv; cases hv; exact HNE.out
          · exact HF.out j v (by omega) hv
        clear he
        go_wp2_with fail
        go_roundw
        case rel => exact ⟨i + 1, hj, by go_num, HB, HF1⟩
        case measure => simp [intOf]; omega
    · have hj' : ¬ (i : Int) < 12 := by omega
      have hiN : i = 12 := by omega
      subst hiN
      go_wp2_with fail
      go_ret
      refine ⟨ret_bool (a := false) ?_, HB.out.mv⟩
      symm
      refine decide_eq_false fun hm => ?_
      obtain ⟨j, hj, e⟩ := List.getElem_of_mem hm
      exact absurd rfl (HF.out j s hj (by rw [List.getElem?_eq_getElem hj, e]))

set_option maxHeartbeats 2000000 in
theorem IsName_any (s : Wd) (hs : s.length ≤ 140737488355328) (w : World) : Looks 70 #[.string (strOfL s)] w (.bool (isName s)) := by
  have hsz : (strOfL s).size = s.length := by simp [strOfL, ByteArray.size]
  unfold Looks
  by_cases h1 : 1 ≤ s.length ∧ s.length ≤ 32
  case neg =>
    have hN : Hid (isName s = false) := by
      show _ = _
      unfold isName
      cases hd : (decide (1 ≤ s.length) && decide (s.length ≤ 32)) with
      | false => simp
      | true => simp at hd; exact absurd hd h1
    go_enter Tryd.func70, Tryd.ntmps70
    by_cases h2 : s.length < 1
    · have h2' : ((strOfL s).size : Int) < 1 := by omega
      go_wp2_with fail
      go_ret
      exact ⟨ret_bool (a := false) hN.out.symm, Mv.refl _ _⟩
    · have h2' : ¬ ((strOfL s).size : Int) < 1 := by omega
      have h3' : ((strOfL s).size : Int) > 32 := by omega
      go_wp2_with fail
      go_ret
      exact ⟨ret_bool (a := false) hN.out.symm, Mv.refl _ _⟩
  obtain ⟨h1a, h1b⟩ := h1
  have HW := hid (fun W => Word_any s W)
  have HG : Hid (∀ i (hi : i < (strOfL s).size), s[i]? = some ((strOfL s)[i]'hi)) := fun i hi => by
    have : i < s.length := by omega
    rw [List.getElem?_eq_getElem this]
    rfl
  have HIS : Hid (letFirst s = true → s.all isLD = true → isName s = !decide (s ∈ noNames)) := fun h1 h2 => by
    unfold isName
    rw [h1, h2, decide_eq_true h1a, decide_eq_true h1b]
    rfl
  have HI1 : Hid (letFirst s = false ∨ s.all isLD = false → isName s = false) := fun h => by
    unfold isName
    rcases h with h | h <;> simp [h]
  have HFL : Hid (∀ c, s[0]? = some c → letFirst s = isLet c) := fun c hc => by
    cases s with
    | nil => simp at hc
    | cons a r => simp at hc; subst hc; rfl
  have HSZ := hid hsz
  generalize hS : strOfL s = S at *
  have h2' : ¬ (S.size : Int) < 1 := by omega
  have h3' : ¬ (S.size : Int) > 32 := by omega
  have h4 : S.size ≤ 32 := by omega
  have HPos : Hid (0 < s.length) := h1a
  clear hS hsz hs h1a h1b
  go_enter Tryd.func70, Tryd.ntmps70
  go_wp2_with fail
  clear h2' h3'
  go_loop [3] (fun iv => ∃ i : Nat, i ≤ S.size ∧ iv = .int .i64 (i : Int) ∧ Hid (∀ (j : Nat) c, j < i → s[j]? = some c → isLD c = true ∧ (j = 0 → isLet c = true))) (fun iv => S.size - (intOf iv).toNat)
  case atStart => exact ⟨0, Nat.zero_le _, rfl, fun j c hj => absurd hj (Nat.not_lt_zero _)⟩
  case round =>
    obtain ⟨i, hi, rfl, HF⟩ := hrel
    by_cases hj : i < S.size
    · have HC := hid (HG.out i hj)
      generalize hc : S[i] = c at HC
      have HLet := hid (letter_any c)
      have HDig := hid (digit_any c)
      cases ha : isLet c with
      | true =>
        rw [ha] at HLet
        have HF1 : Hid (∀ (j : Nat) c, j < i + 1 → s[j]? = some c → isLD c = true ∧ (j = 0 → isLet c = true)) := fun j d hj hd => by
          by_cases e : j = i
          · rw [e, HC.out] at hd; cases hd; exact ⟨by unfold isLD; rw [ha]; rfl, fun _ => ha⟩
          · exact HF.out j d (by omega) hd
        clear ha
        go_wp2_with fail
        refine Calls.mono (HLet.out _) ?_
        rintro e w1 ⟨rfl, rfl⟩
        go_wp2_with fail
        refine Calls.mono (HDig.out _) ?_
        rintro e w1 ⟨rfl, rfl⟩
        go_wp2_with fail
        go_round
        case rel => exact ⟨i + 1, hj, by go_num, HF1⟩
        case measure => simp [intOf]; omega
      | false =>
        rw [ha] at HLet
        cases hd : isDig c with
        | false =>
          rw [hd] at HDig
          have HBad : Hid (isName s = false) := HI1.out (.inr (by
            rw [List.all_eq_false]
            exact ⟨c, List.mem_of_getElem? HC.out, by unfold isLD; rw [ha, hd]; simp⟩))
          clear ha hd
          go_wp2_with fail
          refine Calls.mono (HLet.out _) ?_
          rintro e w1 ⟨rfl, rfl⟩
          go_wp2_with fail
          refine Calls.mono (HDig.out _) ?_
          rintro e w1 ⟨rfl, rfl⟩
          go_wp2_with fail
          go_ret
          exact ⟨ret_bool (a := false) HBad.out.symm, Mv.refl _ _⟩
        | true =>
          rw [hd] at HDig
          by_cases h0 : i = 0
          · subst h0
            have HBad : Hid (isName s = false) := HI1.out (.inl (by rw [HFL.out c HC.out]; exact ha))
            clear ha hd
            go_wp2_with fail
            refine Calls.mono (HLet.out _) ?_
            rintro e w1 ⟨rfl, rfl⟩
            go_wp2_with fail
            refine Calls.mono (HDig.out _) ?_
            rintro e w1 ⟨rfl, rfl⟩
            go_wp2_with fail
            go_ret
            exact ⟨ret_bool (a := false) HBad.out.symm, Mv.refl _ _⟩
          · have HF1 : Hid (∀ (j : Nat) c, j < i + 1 → s[j]? = some c → isLD c = true ∧ (j = 0 → isLet c = true)) := fun j x hj hx => by
              by_cases e : j = i
              · rw [e, HC.out] at hx; cases hx; exact ⟨by unfold isLD; rw [hd]; simp, fun e' => absurd (e ▸ e') h0⟩
              · exact HF.out j x (by omega) hx
            have h0' : ((i : Int) == 0) = false := by simpa using h0
            clear ha hd h0
            go_wp2_with fail
            refine Calls.mono (HLet.out _) ?_
            rintro e w1 ⟨rfl, rfl⟩
            go_wp2_with fail
            refine Calls.mono (HDig.out _) ?_
            rintro e w1 ⟨rfl, rfl⟩
            go_wp2_with fail
            go_round
            case rel => exact ⟨i + 1, hj, by go_num, HF1⟩
            case measure => simp [intOf]; omega
    · have hj' : ¬ (i : Int) < (S.size : Int) := by omega
      have hiN : i = S.size := by omega
      subst hiN
      go_wp2_with fail
      refine Calls.mono (HW.out _) ?_
      rintro e w1 ⟨rfl, hm1⟩
      have HM1 := hid hm1
      clear hm1
      go_wp2_with fail
      go_ret
      refine ⟨ret_bool ?_, HM1.out⟩
      have hlen := HSZ.out
      symm
      refine HIS.out ?_ ?_
      · have : 0 < s.length := HPos.out
        rw [HFL.out _ (List.getElem?_eq_getElem this)]
        exact (HF.out 0 _ (by rw [hlen]; exact this) (List.getElem?_eq_getElem this)).2 rfl
      · rw [List.all_eq_true]
        intro c hc
        obtain ⟨j, hj, rfl⟩ := List.getElem_of_mem hc
        exact (HF.out j _ (by rw [hlen]; exact hj) (List.getElem?_eq_getElem hj)).1

end Go.Proofs.YtidihaecgmbhpaaDoor
/-
  Are two trees the same? What the reference's function gives.
-/
set_option linter.unusedSimpArgs false
namespace Go.Proofs.YtidihaecgmbhpaaDoor
open Go.RowKit Q

/-- The calls of two kids. -/
theorem kids_call2 {K : FuncId} {w : World} {ao bo : Option Addr} {l m : List T} (h : KidsAt w (fun _ => True) ao l) (g : KidsAt w (fun _ => True) bo m) (hL : l.length = m.length)
    (ih : ∀ t ∈ l, ∀ (u : T) (w : World) (c0 c1 c2 d0 d1 d2 : Value), TAt w c0 c1 c2 t → TAt w d0 d1 d2 u → Looks K #[.agg #[c0, c1, c2], .agg #[d0, d1, d2]] w (.bool (t.same u))) :
    ∀ i, i < l.length → ∃ b o c0 c1 c2 t b' o' d0 d1 d2 u, ao = some ⟨b, o, none⟩ ∧ w.cell? ⟨b, o + i * 3, none⟩ = some c0 ∧ w.cell? ⟨b, o + i * 3 + 1, none⟩ = some c1 ∧ w.cell? ⟨b, o + i * 3 + 2, none⟩ = some c2 ∧ l[i]? = some t ∧
      bo = some ⟨b', o', none⟩ ∧ w.cell? ⟨b', o' + i * 3, none⟩ = some d0 ∧ w.cell? ⟨b', o' + i * 3 + 1, none⟩ = some d1 ∧ w.cell? ⟨b', o' + i * 3 + 2, none⟩ = some d2 ∧ m[i]? = some u ∧
      ∀ W, Nu w W → Looks K #[.agg #[c0, c1, c2], .agg #[d0, d1, d2]] W (.bool (t.same u)) := fun i hi => by
  have hi' : i < m.length := by omega
  obtain ⟨b, o, c0, c1, c2, h1, h2, h3, h4, h5⟩ := h i _ (List.getElem?_eq_getElem hi)
  obtain ⟨b', o', d0, d1, d2, g1, g2, g3, g4, g5⟩ := g i _ (List.getElem?_eq_getElem hi')
  exact ⟨b, o, c0, c1, c2, _, b', o', d0, d1, d2, _, h1, h2, h3, h4, List.getElem?_eq_getElem hi, g1, g2, g3, g4, List.getElem?_eq_getElem hi', fun W hW => ih _ (List.getElem_mem hi) _ W c0 c1 c2 d0 d1 d2 (h5.nu hW) (g5.nu hW)⟩

theorem upto2_succ {l m : List T} {i : Nat} {t v : T} (h : ∀ (j : Nat) u x, j < i → l[j]? = some u → m[j]? = some x → u.same x = true) (ht : l[i]? = some t) (hv : m[i]? = some v) (hp : t.same v = true) :
    ∀ (j : Nat) u x, j < i + 1 → l[j]? = some u → m[j]? = some x → u.same x = true := by
  intro j u x hj hu hx
  by_cases e : j = i
  · subst e; rw [ht] at hu; rw [hv] at hx; cases hu; cases hx; exact hp
  · exact h j u x (by omega) hu hx

theorem sames_len : ∀ {l m : List T}, l.length ≠ m.length → T.sames l m = false
  | [], [], h => absurd rfl h
  | [], _ :: _, _ => rfl
  | _ :: _, [], _ => rfl
  | a :: l, b :: m, h => by simp [T.sames, sames_len (l := l) (m := m) (by simpa using h)]

theorem sames_true : ∀ {l m : List T}, l.length = m.length → (∀ (j : Nat) t u, l[j]? = some t → m[j]? = some u → t.same u = true) → T.sames l m = true
  | [], [], _, _ => rfl
  | [], _ :: _, h, _ => by simp at h
  | _ :: _, [], h, _ => by simp at h
  | a :: l, b :: m, h, hj => by
    have h0 := hj 0 a b rfl rfl
    have := sames_true (l := l) (m := m) (by simpa using h) (fun j t u h1 h2 => hj (j + 1) t u (by simpa using h1) (by simpa using h2))
    simp [T.sames, h0, this]

theorem sames_false : ∀ {l m : List T} {j : Nat} {t u : T}, l[j]? = some t → m[j]? = some u → t.same u = false → T.sames l m = false
  | [], _, j, _, _, h, _, _ => by simp at h
  | _ :: _, [], j, _, _, _, h, _ => by simp at h
  | a :: l, b :: m, 0, t, u, h1, h2, h3 => by simp at h1 h2; subst h1 h2; simp [T.sames, h3]
  | a :: l, b :: m, j + 1, t, u, h1, h2, h3 => by
    have := sames_false (l := l) (m := m) (j := j) (by simpa using h1) (by simpa using h2) h3
    simp [T.sames, this]

set_option maxHeartbeats 4000000 in
theorem Same_any : ∀ (t u : T) (w : World) (c0 c1 c2 d0 d1 d2 : Value), TAt w c0 c1 c2 t → TAt w d0 d1 d2 u → Looks 9 #[.agg #[c0, c1, c2], .agg #[d0, d1, d2]] w (.bool (t.same u)) := by
  refine T.ind fun k n l ih u w c0 c1 c2 d0 d1 d2 h g => ?_
  obtain ⟨k', n', l'⟩ := u
  obtain ⟨_, _, hl, rfl, rfl, ao, cap, rfl, hels⟩ := h.form
  obtain ⟨_, _, hl', rfl, rfl, bo, cbp, rfl, gels⟩ := g.form
  obtain ⟨W0, hW0⟩ : ∃ W0, (w.alloc (.cells #[.int .i64 k, .string (strOfL n), .slice ao l.length cap] 24)).alloc (.cells #[.int .i64 k', .string (strOfL n'), .slice bo l'.length cbp] 24) = W0 := ⟨_, rfl⟩
  have hB := box33 w (.int .i64 k) (.string (strOfL n)) (.slice ao l.length cap) (.int .i64 k') (.string (strOfL n')) (.slice bo l'.length cbp) 24
  rw [hW0] at hB
  have HB := hid hB
  simp only [T.same]
  unfold Looks
  go_enter Tryd.func9, Tryd.ntmps9
  go_upto_region 1 with fail
  clear hW0 hB
  obtain ⟨p0, p1, p2, q0, q1, q2⟩ := (⟨HB.out.a0, HB.out.a1, HB.out.a2, HB.out.b0, HB.out.b1, HB.out.b2⟩ : _ ∧ _ ∧ _ ∧ _ ∧ _ ∧ _)
  by_cases hk : k = k'
  case neg =>
    have hk' : (k == k') = false := by simpa using hk
    go_wp2_with fail
    go_ret
    exact ⟨ret_bool (a := false) (by simp [hk]), HB.out.mv⟩
  subst hk
  by_cases hn : n = n'
  case neg =>
    have hn' : ¬ (strOfL n).toList = (strOfL n').toList := by rw [strOfL_toList, strOfL_toList]; exact hn
    go_wp2_with fail
    go_ret
    exact ⟨ret_bool (a := false) (by simp [hn]), HB.out.mv⟩
  subst hn
  by_cases hL : l.length = l'.length
  case neg =>
    have hL' : ((l.length : Int) == (l'.length : Int)) = false := by simpa using (fun e => hL (by omega))
    go_wp2_with fail
    go_ret
    exact ⟨ret_bool (a := false) (by simp [sames_len hL]), HB.out.mv⟩
  have HE := hid (kids_call2 (K := 9) hels gels hL ih)
  have HL := hid hL
  obtain ⟨N, hN⟩ : ∃ N : Nat, l.length = N := ⟨_, rfl⟩
  rw [← hL, hN] at q2
  rw [hN] at HE p2 hl
  have HN : Hid (l.length = N) := hN
  clear hels gels ih h g hN hl' hL
  go_wp2_with fail
  clear p0 p1 q0 q1
  have P2 := hid p2
  have Q2 := hid q2
  clear p2 q2
  go_loopw [5] (fun iv wr => ∃ i : Nat, i ≤ N ∧ iv = .int .i64 (i : Int) ∧ Hid (Nu W0 wr) ∧ Hid (∀ (j : Nat) u x, j < i → l[j]? = some u → l'[j]? = some x → u.same x = true)) (fun iv _ => N - (intOf iv).toNat)
  case atStart => exact ⟨0, Nat.zero_le _, rfl, Mv.refl _ _, fun j t u hj => absurd hj (Nat.not_lt_zero _)⟩
  case round =>
    obtain ⟨i, hi, rfl, HM, HF⟩ := hrel
    have p2 := cell_mv HM.out P2.out id
    have q2 := cell_mv HM.out Q2.out id
    by_cases hj : i < N
    · have hj' : (i : Int) < (N : Int) := by omega
      obtain ⟨b, o, c0, c1, c2, t, b', o', d0, d1, d2, u, rfl, h0, h1, h2, ht, rfl, g0, g1, g2, hu, hcall⟩ := HE.out i hj
      have hm := mv0 HB.out.mv HM.out
      replace h0 := cell_mv hm h0 id
      replace h1 := cell_mv hm h1 id
      replace h2 := cell_mv hm h2 id
      replace g0 := cell_mv hm g0 id
      replace g1 := cell_mv hm g1 id
      replace g2 := cell_mv hm g2 id
      have HX := hid hcall
      have HT := hid ht
      have HU := hid hu
      have HMW := hid hm
      clear hcall ht hu hm HE
      go_wp2_with fail
      go_region_with (go_at_call 9; refine Calls.mono (HX.out _ (mv0 HMW.out (by repeat (first | exact Mv.refl _ _ | refine mv0 ?_ (Mv.drew _ _) | refine mv0 ?_ (Mv.drewN _ _ _))))) ?_; rintro e w1 ⟨rfl, hm1⟩; have HM1 : Hid (Nu W0 w1) := mv0 (mv0 HM.out (by repeat (first | exact Mv.refl _ _ | refine mv0 ?_ (Mv.drew _ _) | refine mv0 ?_ (Mv.drewN _ _ _)))) hm1; clear hm1)
      all_goals
        cases hb : t.same u with
        | true =>
          have HBT := hid hb
          clear hb
          go_wp2_with fail
          go_roundw
          case rel => exact ⟨i + 1, hj, by go_num, HM1, upto2_succ HF.out HT.out HU.out HBT.out⟩
          case measure => simp [intOf]; omega
        | false =>
          have HBT := hid hb
          clear hb
          go_wp2_with fail
          go_ret
          exact ⟨ret_bool (a := false) (by simp [sames_false HT.out HU.out HBT.out]), mv0 HB.out.mv HM1.out⟩
    · have hj' : ¬ (i : Int) < (N : Int) := by omega
      have hiN : i = N := by omega
      subst hiN
      clear HE
      go_wp2_with fail
      go_ret
      refine ⟨ret_bool (a := true) ?_, mv0 HB.out.mv HM.out⟩
      rw [sames_true HL.out (fun j t u h1 h2 => HF.out j t u (by rw [← HN.out]; exact (List.getElem?_eq_some_iff.1 h1).1) h1 h2)]
      try simp

end Go.Proofs.YtidihaecgmbhpaaDoor
/-
  An owner's writing into a formula: what may be written, and that it stays so.
-/
set_option linter.unusedSimpArgs false
namespace Go.Proofs.YtidihaecgmbhpaaDoor
open Go.RowKit Q

/-- A slice of trees that may be written to the bottom, its blocks being such as P tells; so deep at most. -/
def Sp (w : World) (P : Nat → Prop) : Nat → Value → Prop
  | 0, v => ∃ ao len, v = .slice ao len 0
  | m + 1, v => ∃ ao len cap, v = .slice ao len cap ∧ len ≤ cap ∧ cap ≤ 140737488355328 ∧ (cap = 0 ∨ ∃ b o, ao = some ⟨b, 3 * o, none⟩ ∧ P b ∧
      ∀ i, i < cap → ∃ k s c, w.cell? ⟨b, 3 * o + i * 3, none⟩ = some (.int .i64 k) ∧ w.cell? ⟨b, 3 * o + i * 3 + 1, none⟩ = some (.string s) ∧ w.cell? ⟨b, 3 * o + i * 3 + 2, none⟩ = some c ∧ Sp w P m c ∧
        w.frozen? ⟨b, 3 * o + i * 3, none⟩ = false ∧ w.frozen? ⟨b, 3 * o + i * 3 + 1, none⟩ = false ∧ w.frozen? ⟨b, 3 * o + i * 3 + 2, none⟩ = false)

theorem Sp.nu {w w' : World} {P : Nat → Prop} (hm : Nu w w') : ∀ {m : Nat} {v : Value}, Sp w P m v → Sp w' P m v
  | 0, _, h => h
  | m + 1, _, ⟨ao, len, cap, h1, h2, h3, h4⟩ => ⟨ao, len, cap, h1, h2, h3, h4.imp id fun ⟨b, o, g1, g2, g3⟩ => ⟨b, o, g1, g2, fun i hi => by
      obtain ⟨k, s, c, c0, c1, c2, c3, f0, f1, f2⟩ := g3 i hi
      have hlt := World.block_lt_of_cell? w _ c0
      exact ⟨k, s, c, cell_mv hm c0 id, cell_mv hm c1 id, cell_mv hm c2 id, c3.nu hm, frozen_mv hm hlt f0 id, frozen_mv hm hlt f1 id, frozen_mv hm hlt f2 id⟩⟩⟩

/-- Nothing to be written is in nil. -/
theorem Sp.nil (w : World) (P : Nat → Prop) : ∀ m, Sp w P m (.slice none 0 0)
  | 0 => ⟨none, 0, rfl⟩
  | _ + 1 => ⟨none, 0, 0, rfl, Nat.le_refl _, Nat.zero_le _, .inl rfl⟩

/-- The world behind one element's writing. -/
def spoilt (w : World) (b a : Nat) : World := ((w.setCell ⟨b, a, none⟩ (.int .i64 66)).setCell ⟨b, a + 1, none⟩ (.string ⟨#[115, 112, 111, 105, 108, 116]⟩)).setCell ⟨b, a + 2, none⟩ (.slice none 0 0)

theorem cell_set_other {w : World} {b i b' i' : Nat} {v : Value} (h : ¬ (b' = b ∧ i' = i)) : (w.setCell ⟨b, i, none⟩ v).cell? ⟨b', i', none⟩ = w.cell? ⟨b', i', none⟩ :=
  World.cell?_setCell_other _ _ _ _ (by intro e; injection e with e1 e2; exact h ⟨e1.symm, e2.symm⟩)

theorem spoilt_mv (w : World) (b a : Nat) : Mv (· = b) w (spoilt w b a) :=
  ((Mv.setCell w ⟨b, a, none⟩ _).trans (Mv.setCell _ ⟨b, a + 1, none⟩ _) (fun _ h => .inl h)).trans (Mv.setCell _ ⟨b, a + 2, none⟩ _) (fun _ h => .inl h)

theorem spoilt_other {w : World} {b q b' p j : Nat} (hj : j < 3) (h : ¬ (b' = b ∧ p = q)) : (spoilt w b (3 * q)).cell? ⟨b', 3 * p + j, none⟩ = w.cell? ⟨b', 3 * p + j, none⟩ := by
  unfold spoilt
  rw [cell_set_other (by omega), cell_set_other (by omega), cell_set_other (by omega)]

theorem spoilt_same {w : World} {b q : Nat} {x0 x1 x2 : Value} (h0 : w.cell? ⟨b, 3 * q, none⟩ = some x0) (h1 : w.cell? ⟨b, 3 * q + 1, none⟩ = some x1) (h2 : w.cell? ⟨b, 3 * q + 2, none⟩ = some x2) :
    (spoilt w b (3 * q)).cell? ⟨b, 3 * q, none⟩ = some (.int .i64 66) ∧ (spoilt w b (3 * q)).cell? ⟨b, 3 * q + 1, none⟩ = some (.string ⟨#[115, 112, 111, 105, 108, 116]⟩) ∧ (spoilt w b (3 * q)).cell? ⟨b, 3 * q + 2, none⟩ = some (.slice none 0 0) := by
  unfold spoilt
  refine ⟨?_, ?_, ?_⟩
  · rw [cell_set_other (by omega), cell_set_other (by omega)]
    exact World.cell?_setCell_same _ _ _ h0
  · rw [cell_set_other (by omega)]
    exact World.cell?_setCell_same _ _ _ (by rw [cell_set_other (by omega)]; exact h1)
  · exact World.cell?_setCell_same _ _ _ (by rw [cell_set_other (by omega), cell_set_other (by omega)]; exact h2)

theorem spoilt_frozen (w : World) (b a : Nat) (p : Addr) : (spoilt w b a).frozen? p = w.frozen? p := by unfold spoilt; simp

/-- What may be written may still be written behind a writing. -/
theorem Sp.spoilt {w : World} {P : Nat → Prop} {b q : Nat} {x0 x1 x2 : Value} (h0 : w.cell? ⟨b, 3 * q, none⟩ = some x0) (h1 : w.cell? ⟨b, 3 * q + 1, none⟩ = some x1) (h2 : w.cell? ⟨b, 3 * q + 2, none⟩ = some x2) : ∀ {m : Nat} {v : Value}, Sp w P m v → Sp (Go.Proofs.YtidihaecgmbhpaaDoor.spoilt w b (3 * q)) P m v
  | 0, _, h => h
  | m + 1, _, ⟨ao, len, cap, e1, e2, e3, e4⟩ => ⟨ao, len, cap, e1, e2, e3, e4.imp id fun ⟨b', o, g1, g2, g3⟩ => ⟨b', o, g1, g2, fun i hi => by
      obtain ⟨k, s, c, c0, c1, c2, c3, f0, f1, f2⟩ := g3 i hi
      have hoi : 3 * o + i * 3 = 3 * (o + i) := by omega
      rw [hoi] at c0 c1 c2 f0 f1 f2 ⊢
      by_cases hb : b' = b ∧ o + i = q
      · obtain ⟨rfl, hq⟩ := hb
        rw [hq]
        rw [hq] at f0 f1 f2
        obtain ⟨d0, d1, d2⟩ := spoilt_same h0 h1 h2
        exact ⟨66, _, _, d0, d1, d2, Sp.nil _ _ _, by rw [spoilt_frozen]; exact f0, by rw [spoilt_frozen]; exact f1, by rw [spoilt_frozen]; exact f2⟩
      · have s0 := spoilt_other (w := w) (j := 0) (by omega) hb
        have s1 := spoilt_other (w := w) (j := 1) (by omega) hb
        have s2 := spoilt_other (w := w) (j := 2) (by omega) hb
        exact ⟨k, s, c, s0.trans c0, s1.trans c1, s2.trans c2, c3.spoilt h0 h1 h2, by rw [spoilt_frozen]; exact f0, by rw [spoilt_frozen]; exact f1, by rw [spoilt_frozen]; exact f2⟩⟩⟩

end Go.Proofs.YtidihaecgmbhpaaDoor
/-
  What the program's functions on bytes give: which byte it is; where blanks end, and rows of letters.
-/
set_option linter.unusedSimpArgs false
namespace Go.Proofs.YtidihaecgmbhpaaDoor
open Go.RowKit Q

theorem v8_beq (c d : UInt8) : (c == d) = ((c.toNat : Int) == (d.toNat : Int)) := by
  rw [Bool.eq_iff_iff]; simp [← UInt8.toNat_inj]; omega
theorem v8_le (c d : UInt8) : (decide (c ≤ d)) = decide ((c.toNat : Int) ≤ (d.toNat : Int)) := by
  rw [Bool.eq_iff_iff]; simp [UInt8.le_iff_toNat_le]
theorem vBl_int (c : UInt8) : isBl c = (((c.toNat : Int) == 9) || ((c.toNat : Int) == 10) || ((c.toNat : Int) == 13) || ((c.toNat : Int) == 32)) := by
  unfold isBl; simp only [v8_beq]; rfl
theorem vLet_int (c : UInt8) : isLet c = ((decide (97 ≤ (c.toNat : Int)) && decide ((c.toNat : Int) ≤ 122)) || (decide (65 ≤ (c.toNat : Int)) && decide ((c.toNat : Int) ≤ 90)) || ((c.toNat : Int) == 95)) := by
  unfold isLet; simp only [v8_le, v8_beq]; rfl
theorem vDig_int (c : UInt8) : isDig c = (decide (48 ≤ (c.toNat : Int)) && decide ((c.toNat : Int) ≤ 57)) := by
  unfold isDig; simp only [v8_le]; rfl

set_option maxHeartbeats 400000 in
theorem isLetter_any (c : UInt8) (w : World) : Calls Tryd.prog 92 #[.int .u8 (c.toNat : Int)] w fun e w' => e = .returned (.bool (isLet c)) ∧ w' = w := by
  go_enter Tryd.func92, Tryd.ntmps92
  go_wp2
  all_goals go_ret
  all_goals (refine ⟨?_, rfl⟩; rw [vLet_int]; first | (simp [*]; done) | (simp [*]; omega) | (simp [*]; rw [Bool.eq_iff_iff]; simp; omega))
set_option maxHeartbeats 400000 in
theorem isDigit_any (c : UInt8) (w : World) : Calls Tryd.prog 91 #[.int .u8 (c.toNat : Int)] w fun e w' => e = .returned (.bool (isDig c)) ∧ w' = w := by
  go_enter Tryd.func91, Tryd.ntmps91
  go_wp2
  all_goals go_ret
  all_goals (refine ⟨?_, rfl⟩; rw [vDig_int]; first | (simp [*]; done) | (simp [*]; omega) | (simp [*]; rw [Bool.eq_iff_iff]; simp; omega))

/-- Where a row of such bytes ends. -/
def tw (q : UInt8 → Bool) (s : Wd) (p : Nat) : Nat := p + ((s.drop p).takeWhile q).length

theorem tw_of {q : UInt8 → Bool} {s : Wd} : ∀ {p i : Nat}, p ≤ i → i ≤ s.length → (∀ (j : Nat) c, p ≤ j → j < i → s[j]? = some c → q c = true) → (∀ c, s[i]? = some c → q c = false) → tw q s p = i := by
  have key : ∀ (n : Nat) (p i : Nat), i - p = n → p ≤ i → i ≤ s.length → (∀ (j : Nat) c, p ≤ j → j < i → s[j]? = some c → q c = true) → (∀ c, s[i]? = some c → q c = false) → tw q s p = i := by
    intro n
    induction n with
    | zero =>
      intro p i hn h1 h2 h3 h4
      have : p = i := by omega
      subst this
      unfold tw
      cases hd : s.drop p with
      | nil => rfl
      | cons c r =>
        have : s[p]? = some c := by
          have := congrArg (·[0]?) hd
          simpa using this
        simp [List.takeWhile, h4 c this]
    | succ n ih =>
      intro p i hn h1 h2 h3 h4
      have hp : p < s.length := by omega
      have := ih (p + 1) i (by omega) (by omega) h2 (fun j c hj => h3 j c (by omega)) h4
      unfold tw at this ⊢
      rw [List.drop_eq_getElem_cons hp, List.takeWhile_cons, if_pos (h3 p _ (Nat.le_refl _) (by omega) (List.getElem?_eq_getElem hp))]
      simp only [List.length_cons]
      omega
  intro p i
  exact key _ p i rfl

theorem all_step {q : UInt8 → Bool} {s : Wd} {p i : Nat} {c : UInt8} (h : ∀ (j : Nat) d, p ≤ j → j < i → s[j]? = some d → q d = true) (hc : s[i]? = some c) (hq : q c = true) : ∀ (j : Nat) d, p ≤ j → j < i + 1 → s[j]? = some d → q d = true := fun j d h1 h2 h3 => by
  by_cases hji : j = i
  · subst hji
    rw [hc] at h3
    cases h3
    exact hq
  · exact h j d h1 (by omega) h3

theorem tw_ge (q : UInt8 → Bool) (s : Wd) (p : Nat) : p ≤ tw q s p := Nat.le_add_right _ _
theorem tw_le (q : UInt8 → Bool) (s : Wd) (p : Nat) (h : p ≤ s.length) : tw q s p ≤ s.length := by
  unfold tw
  have h1 : ((s.drop p).takeWhile q).length ≤ (s.drop p).length := List.IsPrefix.length_le (List.takeWhile_prefix q)
  simp only [List.length_drop] at h1
  omega

/-- A text's bytes, as its values have them. -/
theorem str_bytes (s : Wd) : ∀ i (hi : i < (strOfL s).size), s[i]? = some ((strOfL s)[i]'hi) := fun i hi => by
  have hsz : (strOfL s).size = s.length := by simp [strOfL, ByteArray.size]
  have : i < s.length := by omega
  rw [List.getElem?_eq_getElem this]
  rfl
theorem str_size (s : Wd) : (strOfL s).size = s.length := by simp [strOfL, ByteArray.size]

set_option maxHeartbeats 2000000 in
theorem behindBlanks_any (s : Wd) (p : Nat) (hs : s.length ≤ 140737488355328) (hp : p ≤ s.length) (w : World) : Calls Tryd.prog 46 #[.string (strOfL s), .int .i64 (p : Int)] w fun e w' => e = .returned (.int .i64 (tw isBl s p : Int)) ∧ w' = w := by
  have HG := hid (str_bytes s)
  have hsz := str_size s
  have HSZ := hid hsz
  rw [← hsz] at hs hp
  have HP := hid hp
  generalize hS : strOfL s = S at *
  clear hS hsz
  go_enter Tryd.func46, Tryd.ntmps46
  go_wp2_with fail
  go_loop [1] (fun iv => ∃ i : Nat, p ≤ i ∧ i ≤ S.size ∧ iv = .int .i64 (i : Int) ∧ Hid (∀ (j : Nat) c, p ≤ j → j < i → s[j]? = some c → isBl c = true)) (fun iv => S.size - (intOf iv).toNat)
  case atStart => exact ⟨p, Nat.le_refl _, hp, rfl, fun j c h1 h2 => by omega⟩
  case round =>
    obtain ⟨i, hpi, hi, rfl, HF⟩ := hrel
    by_cases hj : i < S.size
    · have hj' : (i : Int) < (S.size : Int) := by omega
      obtain ⟨c, hc⟩ : ∃ c, S[i]'hj = c := ⟨_, rfl⟩
      have HC : Hid (s[i]? = some c) := by rw [← hc]; exact HG.out i hj
      go_wp2_with fail
      all_goals first
        | (refine ⟨⟨i + 1, by omega, by omega, by simp, all_step HF.out HC.out (by rw [vBl_int]; simp only [Bool.or_eq_true, beq_iff_eq] at *; omega)⟩, ?_⟩
           simp [intOf]; omega)
        | (go_ret
           refine ⟨ret_i64 ?_, rfl⟩
           rw [tw_of hpi (by have := HSZ.out; omega) HF.out (fun d hd => by
             have hcd : c = d := Option.some.inj (HC.out.symm.trans hd)
             rw [← hcd, vBl_int, Bool.eq_false_iff]; intro h; simp only [Bool.or_eq_true, beq_iff_eq, ne_eq] at *; first | omega | (simp_all; omega) | simp_all)])
    · have hj' : ¬ (i : Int) < (S.size : Int) := by omega
      go_wp2_with fail
      go_ret
      refine ⟨ret_i64 ?_, rfl⟩
      rw [tw_of hpi (by have := HSZ.out; omega) HF.out (fun c hc => by have := (List.getElem?_eq_some_iff.1 hc).1; have := HSZ.out; omega)]

/-- Where a row of letters, digits and _ ends that begins with no digit. -/
def rowEnd (s : Wd) (p : Nat) : Nat := match s[p]? with
  | some c => if isDig c then p else tw isLD s p
  | none => p

set_option maxHeartbeats 2000000 in
theorem rowEnd_any (s : Wd) (p : Nat) (hs : s.length ≤ 140737488355328) (hp : p < s.length) (w : World) : Calls Tryd.prog 73 #[.string (strOfL s), .int .i64 (p : Int)] w fun e w' => e = .returned (.int .i64 (rowEnd s p : Int)) ∧ w' = w := by
  have HG := hid (str_bytes s)
  have hsz := str_size s
  have HSZ := hid hsz
  have HP := hid hp
  rw [← hsz] at hs hp
  generalize hS : strOfL s = S at *
  clear hS hsz
  have HL := hid (fun c => isLetter_any c w)
  have HD := hid (fun c => isDigit_any c w)
  obtain ⟨c0, hc0⟩ : ∃ c, S[p]'hp = c := ⟨_, rfl⟩
  have HC0 : Hid (s[p]? = some c0) := by rw [← hc0]; exact HG.out p hp
  have hb0 : (p : Int) < (S.size : Int) := by omega
  go_enter Tryd.func73, Tryd.ntmps73
  go_wp2_with fail
  refine Calls.mono (HD.out c0) ?_
  rintro e w1 ⟨rfl, hw1⟩
  subst hw1
  cases hd : isDig c0 with
  | true =>
    go_wp2_with fail
    go_ret
    refine ⟨ret_i64 ?_, rfl⟩
    unfold rowEnd
    rw [HC0.out]
    simp [hd]
  | false =>
    have HE : Hid (rowEnd s p = tw isLD s p) := by
      show _ = _
      unfold rowEnd
      rw [HC0.out]
      simp [hd]
    clear hd hc0 hb0
    go_wp2_with fail
    go_loop [1] (fun iv => ∃ i : Nat, p ≤ i ∧ i ≤ S.size ∧ iv = .int .i64 (i : Int) ∧ Hid (∀ (j : Nat) c, p ≤ j → j < i → s[j]? = some c → isLD c = true)) (fun iv => S.size - (intOf iv).toNat)
    case atStart => exact ⟨p, Nat.le_refl _, Nat.le_of_lt hp, rfl, fun j c h1 h2 => by omega⟩
    case round =>
      obtain ⟨i, hpi, hi, rfl, HF⟩ := hrel
      by_cases hj : i < S.size
      · have hj' : (i : Int) < (S.size : Int) := by omega
        obtain ⟨c, hc⟩ : ∃ c, S[i]'hj = c := ⟨_, rfl⟩
        have HC : Hid (s[i]? = some c) := by rw [← hc]; exact HG.out i hj
        go_wp2_with fail
        refine Calls.mono (HL.out c) ?_
        rintro e w1 ⟨rfl, hw1⟩
        subst hw1
        cases hl : isLet c with
        | true =>
          go_wp2_with fail
          refine ⟨⟨i + 1, by omega, by omega, by simp, all_step HF.out HC.out (by unfold isLD; rw [hl]; rfl)⟩, ?_⟩
          simp [intOf]; omega
        | false =>
          go_wp2_with fail
          refine Calls.mono (HD.out c) ?_
          rintro e w1 ⟨rfl, hw1⟩
          subst hw1
          cases hd : isDig c with
          | true =>
            go_wp2_with fail
            refine ⟨⟨i + 1, by omega, by omega, by simp, all_step HF.out HC.out (by unfold isLD; rw [hl, hd]; rfl)⟩, ?_⟩
            simp [intOf]; omega
          | false =>
            go_wp2_with fail
            go_ret
            refine ⟨ret_i64 ?_, rfl⟩
            rw [HE.out, tw_of hpi (by have := HSZ.out; omega) HF.out (fun d hd' => by
              have hcd : c = d := Option.some.inj (HC.out.symm.trans hd')
              rw [← hcd]; unfold isLD; rw [hl, hd]; rfl)]
      · have hj' : ¬ (i : Int) < (S.size : Int) := by omega
        go_wp2_with fail
        go_ret
        refine ⟨ret_i64 ?_, rfl⟩
        rw [HE.out, tw_of hpi (by have := HSZ.out; omega) HF.out (fun c hc => by have := (List.getElem?_eq_some_iff.1 hc).1; have := HSZ.out; omega)]

end Go.Proofs.YtidihaecgmbhpaaDoor
/-
  May a tree be a formula? What the reference's functions give.
-/
set_option linter.unusedSimpArgs false
namespace Go.Proofs.YtidihaecgmbhpaaDoor
open Go.RowKit Q

theorem nonempty_forms {n : List UInt8} (h : n ≠ []) : ((strOfL n).toList == []) = false := by rw [strOfL_toList]; simpa using h

/-- The first part of May, by its outcome. -/
structure MayCase (k : Int) (n : Wd) (N : Nat) (q : Int) (x : Bool) : Prop where
  out : (decide (q = (N : Int)) && (if k = 3 then isName n else decide (n = []))) = x

set_option maxHeartbeats 4000000 in
theorem May_any : ∀ (t : T) (w : World) (c0 c1 c2 : Value), TAt w c0 c1 c2 t → Looks 60 #[.agg #[c0, c1, c2]] w (.bool t.may) := by
  refine T.ind fun k n l ih w c0 c1 c2 h => ?_
  obtain ⟨hk, hn, hl, rfl, rfl, ao, cap, rfl, hels⟩ := h.form
  obtain ⟨N, hN⟩ : ∃ N : Nat, l.length = N := ⟨_, rfl⟩
  have HE := hid (kids_call (K := 60) (val := fun t => .bool t.may) hels ih)
  have HI := hid (fun W => IsName_any n hn W)
  have HK := hid (fun W => Kids_any k W)
  simp only [T.may, mays_all]
  obtain ⟨q, hq⟩ : ∃ q, T.kidsN k = q := ⟨_, rfl⟩
  have hqb : -1 ≤ q ∧ q ≤ 2 := by rw [← hq]; unfold T.kidsN; (repeat' split) <;> omega
  rw [hq] at HK ⊢
  rw [hN] at hl HE ⊢
  have HN : Hid (l.length = N) := hN
  obtain ⟨R, hR⟩ : ∃ R : Bool, (decide (q = (N : Int)) && (if k = 3 then isName n else decide (n = [])) && l.all T.may) = R := ⟨_, rfl⟩
  rw [hR]
  have HR := hid hR
  clear hels hN h ih hq hR
  obtain ⟨W0, hW0⟩ : ∃ W0, w.alloc (.cells #[.int .i64 k, .string (strOfL n), .slice ao N cap] 24) = W0 := ⟨_, rfl⟩
  have hB := box3 w (.int .i64 k) (.string (strOfL n)) (.slice ao N cap) 24
  rw [hW0] at hB
  have HB : Hid (Box3 w W0 (.int .i64 k) (.string (strOfL n)) (.slice ao N cap)) := hB
  unfold Looks
  go_enter Tryd.func60, Tryd.ntmps60
  go_upto_region 1 with fail
  clear hW0 hB
  have hc1 := HB.out.a1
  go_wp2_with fail
  refine Calls.mono (HI.out _) ?_
  rintro e w1 ⟨rfl, hm1⟩
  have HM1 := hid hm1
  replace hc1 := cell_mv hm1 HB.out.a1 id
  have hc0 := cell_mv hm1 HB.out.a0 id
  have hc2 := cell_mv hm1 HB.out.a2 id
  clear hm1
  by_cases h1 : q = (N : Int)
  case neg =>
    have h1' : (q != (N : Int)) = true := by simpa using h1
    go_wp2_with fail
    go_quiet ((go_at_call 83; exact Calls.quiet_of_same (HK.out _)))
    go_wp2_with fail
    go_ret
    exact ⟨ret_bool (a := false) (by rw [← HR.out]; simp [h1]), mv0 HB.out.mv (mv0 HM1.out (Mv.drewN _ _ _))⟩
  have h1' : (q != (N : Int)) = false := by simpa using h1
  have hcase : ((k = 3 ∧ isName n = false) ∨ (k ≠ 3 ∧ n ≠ [])) ∨ ((k = 3 ∧ isName n = true) ∨ (k ≠ 3 ∧ n = [])) := by
    by_cases h3 : k = 3
    · cases hnm : isName n with
      | false => exact .inl (.inl ⟨h3, rfl⟩)
      | true => exact .inr (.inl ⟨h3, rfl⟩)
    · by_cases hnn : n = []
      · exact .inr (.inr ⟨h3, hnn⟩)
      · exact .inl (.inr ⟨h3, hnn⟩)
  rcases hcase with hbad | hgood
  · have HBad : Hid (R = false) := by
      show _ = _
      rw [← HR.out]
      rcases hbad with ⟨h3, hnm⟩ | ⟨h3, hnn⟩ <;> simp [*]
    rcases hbad with ⟨h3, hnm⟩ | ⟨h3, hnn⟩
    · subst h3
      rw [hnm]
      go_wp2_with fail
      go_quiet ((go_at_call 83; exact Calls.quiet_of_same (HK.out _)))
      go_wp2_with fail
      go_ret
      exact ⟨ret_bool (a := false) HBad.out.symm, mv0 HB.out.mv (mv0 HM1.out (Mv.drewN _ _ _))⟩
    · have h3' : (k == 3) = false := by simpa using h3
      have h3'' : (k != 3) = true := by simpa using h3
      have hne := nonempty_forms hnn
      clear h3 hnn
      go_wp2_with fail
      go_quiet ((go_at_call 83; exact Calls.quiet_of_same (HK.out _)))
      go_wp2_with fail
      go_ret
      exact ⟨ret_bool (a := false) HBad.out.symm, mv0 HB.out.mv (mv0 HM1.out (Mv.drewN _ _ _))⟩
  · have HGood : Hid (R = l.all T.may) := by
      show _ = _
      rw [← HR.out]
      rcases hgood with ⟨h3, hnm⟩ | ⟨h3, hnn⟩ <;> simp [*]
    clear HR
    rcases hgood with ⟨h3, hnm⟩ | ⟨h3, hnn⟩
    · subst h3
      rw [hnm]
      go_wp2_with fail
      go_quiet ((go_at_call 83; exact Calls.quiet_of_same (HK.out _)))
      have HQ := hid (mv0 HM1.out (Mv.drewN _ w1 nq))
      go_wp2_with fail
      clear hc0 hc1 hc2 h1 h1'
      go_loopw [4] (fun iv wr => ∃ i : Nat, i ≤ N ∧ iv = .int .i64 (i : Int) ∧ Hid (Nu W0 wr) ∧ Hid (∀ (j : Nat) t, j < i → l[j]? = some t → t.may = true)) (fun iv _ => N - (intOf iv).toNat)
      case atStart => exact ⟨0, Nat.zero_le _, rfl, HQ, fun j t hj => absurd hj (Nat.not_lt_zero _)⟩
      case round =>
        obtain ⟨i, hi, rfl, HM, HF⟩ := hrel
        have hc := cell_mv HM.out HB.out.a2 id
        by_cases hj : i < N
        · have hj' : (i : Int) < (N : Int) := by omega
          obtain ⟨b, o, d0, d1, d2, t, rfl, h0, h1, h2, ht, hcall⟩ := HE.out i hj
          have hm := mv0 HB.out.mv HM.out
          replace h0 := cell_mv hm h0 id
          replace h1 := cell_mv hm h1 id
          replace h2 := cell_mv hm h2 id
          have HX := hid hcall
          have HT := hid ht
          have HMW := hid hm
          clear hcall ht hm HE
          go_wp2_with fail
          refine Calls.mono (HX.out _ HMW.out) ?_
          rintro e w1 ⟨rfl, hm1⟩
          have HM1 : Hid (Nu W0 w1) := mv0 HM.out hm1
          clear hm1
          cases hb : t.may with
          | false =>
            have HBT := hid hb
            clear hb
            go_wp2_with fail
            go_ret
            exact ⟨ret_bool (a := false) (by rw [HGood.out, all_broken HT.out HBT.out]), mv0 HB.out.mv HM1.out⟩
          | true =>
            have HBT := hid hb
            clear hb
            go_wp2_with fail
            go_roundw
            case rel => exact ⟨i + 1, hj, by go_num, HM1, upto_succ HF.out HT.out HBT.out⟩
            case measure => simp [intOf]; omega
        · have hj' : ¬ (i : Int) < (N : Int) := by omega
          have hiN : i = N := by omega
          subst hiN
          clear HE
          go_wp2_with fail
          go_ret
          exact ⟨ret_bool (a := true) (by rw [HGood.out, all_take (upto_all HF.out HN.out)]), mv0 HB.out.mv HM.out⟩
    · have h3' : (k == 3) = false := by simpa using h3
      have h3'' : (k != 3) = true := by simpa using h3
      subst hnn
      have hz : ((strOfL []).toList == []) = true := by rw [strOfL_toList]; rfl
      clear h3
      go_wp2_with fail
      go_quiet ((go_at_call 83; exact Calls.quiet_of_same (HK.out _)))
      have HQ := hid (mv0 HM1.out (Mv.drewN _ w1 nq))
      go_wp2_with fail
      clear hc0 hc1 hc2 h1 h1'
      go_loopw [4] (fun iv wr => ∃ i : Nat, i ≤ N ∧ iv = .int .i64 (i : Int) ∧ Hid (Nu W0 wr) ∧ Hid (∀ (j : Nat) t, j < i → l[j]? = some t → t.may = true)) (fun iv _ => N - (intOf iv).toNat)
      case atStart => exact ⟨0, Nat.zero_le _, rfl, HQ, fun j t hj => absurd hj (Nat.not_lt_zero _)⟩
      case round =>
        obtain ⟨i, hi, rfl, HM, HF⟩ := hrel
        have hc := cell_mv HM.out HB.out.a2 id
        by_cases hj : i < N
        · have hj' : (i : Int) < (N : Int) := by omega
          obtain ⟨b, o, d0, d1, d2, t, rfl, h0, h1, h2, ht, hcall⟩ := HE.out i hj
          have hm := mv0 HB.out.mv HM.out
          replace h0 := cell_mv hm h0 id
          replace h1 := cell_mv hm h1 id
          replace h2 := cell_mv hm h2 id
          have HX := hid hcall
          have HT := hid ht
          have HMW := hid hm
          clear hcall ht hm HE
          go_wp2_with fail
          refine Calls.mono (HX.out _ HMW.out) ?_
          rintro e w1 ⟨rfl, hm1⟩
          have HM1 : Hid (Nu W0 w1) := mv0 HM.out hm1
          clear hm1
          cases hb : t.may with
          | false =>
            have HBT := hid hb
            clear hb
            go_wp2_with fail
            go_ret
            exact ⟨ret_bool (a := false) (by rw [HGood.out, all_broken HT.out HBT.out]), mv0 HB.out.mv HM1.out⟩
          | true =>
            have HBT := hid hb
            clear hb
            go_wp2_with fail
            go_roundw
            case rel => exact ⟨i + 1, hj, by go_num, HM1, upto_succ HF.out HT.out HBT.out⟩
            case measure => simp [intOf]; omega
        · have hj' : ¬ (i : Int) < (N : Int) := by omega
          have hiN : i = N := by omega
          subst hiN
          clear HE
          go_wp2_with fail
          go_ret
          exact ⟨ret_bool (a := true) (by rw [HGood.out, all_take (upto_all HF.out HN.out)]), mv0 HB.out.mv HM.out⟩

end Go.Proofs.YtidihaecgmbhpaaDoor
/-
  Is a tree a plain formula? May it be one, and how deep? How great is it? What the reference's functions and the statements' own give.
-/
set_option linter.unusedSimpArgs false
namespace Go.Proofs.YtidihaecgmbhpaaDoor
open Go.RowKit Q

set_option maxHeartbeats 2000000 in
theorem Check_any (t : T) (hs : t.size ≤ 1000000000) (w : World) (c0 c1 c2 : Value) (h : TAt w c0 c1 c2 t) : Looks 30 #[.agg #[c0, c1, c2]] w (.int .i64 (chk t : Int)) := by
  have HM := hid (fun W (hW : Nu w W) => May_any t W c0 c1 c2 (h.nu hW))
  have HD := hid (fun W (hW : Nu w W) => Depth_any t hs W c0 c1 c2 (h.nu hW))
  have hform : ∃ k n ao m cap, c0 = .int .i64 k ∧ c1 = .string (strOfL n) ∧ c2 = .slice ao m cap := by
    cases t with
    | mk k n l => obtain ⟨_, _, _, h0, h1, ao, cap, h2, _⟩ := h.form; exact ⟨k, n, ao, _, cap, h0, h1, h2⟩
  obtain ⟨k, n, ao, m, cap, rfl, rfl, rfl⟩ := hform
  clear h
  obtain ⟨d, hd⟩ : ∃ d, t.depth = d := ⟨_, rfl⟩
  have hdb : d ≤ 1000000000 := by have := t.depth_le_size; omega
  obtain ⟨r, hr⟩ : ∃ r, chk t = r := ⟨_, rfl⟩
  rw [hr]
  have HR : Hid (chk t = r) := hr
  have HDD : Hid (t.depth = d) := hd
  rw [hd] at HD
  clear hr hd
  obtain ⟨W0, hW0⟩ : ∃ W0, w.alloc (.cells #[.int .i64 k, .string (strOfL n), .slice ao m cap] 24) = W0 := ⟨_, rfl⟩
  have hB := box3 w (.int .i64 k) (.string (strOfL n)) (.slice ao m cap) 24
  rw [hW0] at hB
  have HB := hid hB
  unfold Looks
  go_enter Tryd.func30, Tryd.ntmps30
  go_upto_region 1 with fail
  clear hW0 hB
  have hc0 := HB.out.a0
  have hc1 := HB.out.a1
  have hc2 := HB.out.a2
  go_wp2_with fail
  refine Calls.mono (HM.out _ HB.out.mv) ?_
  rintro e w1 ⟨rfl, hm1⟩
  have HM1 := hid (mv0 HB.out.mv hm1)
  replace hc0 := cell_mv hm1 hc0 id
  replace hc1 := cell_mv hm1 hc1 id
  replace hc2 := cell_mv hm1 hc2 id
  clear hm1
  cases hmay : t.may with
  | false =>
    have HX : Hid (r = 92) := by show _ = _; rw [← HR.out]; unfold chk; rw [if_pos hmay]
    clear hmay
    go_wp2_with fail
    go_ret
    exact ⟨ret_nat (a := 92) HX.out.symm, HM1.out⟩
  | true =>
    have HY : Hid (r = if 100 < d then 93 else 0) := by show _ = _; rw [← HR.out, ← HDD.out]; unfold chk; rw [if_neg (by rw [hmay]; simp)]
    clear hmay
    go_wp2_with fail
    refine Calls.mono (HD.out _ HM1.out) ?_
    rintro e w2 ⟨rfl, hm2⟩
    have HM2 := hid (mv0 HM1.out hm2)
    clear hm2 hc0 hc1 hc2
    by_cases hg : 100 < d
    · have hg' : (100 : Int) < (d : Int) := by omega
      have HX : Hid (r = 93) := by show _ = _; rw [HY.out, if_pos hg]
      go_wp2_with fail
      go_ret
      exact ⟨ret_nat (a := 93) HX.out.symm, HM2.out⟩
    · have hg' : ¬ (100 : Int) < (d : Int) := by omega
      have HX : Hid (r = 0) := by show _ = _; rw [HY.out, if_neg hg]
      go_wp2_with fail
      go_ret
      exact ⟨ret_nat (a := 0) HX.out.symm, HM2.out⟩

end Go.Proofs.YtidihaecgmbhpaaDoor
