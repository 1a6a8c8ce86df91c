/-
  QD, QDepth, QSp, VChar, QPick, QLooks, QLooks2, QLkB, QLooks4, QTextP.
-/
import Derived.Test.YtidihaecgmbhpabDoorM1
import Derived.Test.YtidihaecgmbhpabDoorM3
import Derived.Test.YtidihaecgmbhpabDoorM8
/-
  What the walks of layer 9 share besides: words of the contracts, boxes, texts. No walk of a function of the program.
-/
set_option linter.unusedSimpArgs false
namespace Go.Proofs.YtidihaecgmbhpabDoor
open Go.RowKit Q

/-- What is told of a tree. -/
def chk (t : T) : Nat := if t.may = false then 92 else if 100 < t.depth then 93 else 0

/-- A text and what is wrong. -/
def printF (f : F) : Wd × Nat := if 100 < f.depth then ([], 93) else if 4096 < f.size then ([], 2) else if 4096 < f.text.length then ([], 2) else (f.text, 0)

theorem sizes_take (l : List T) (i : Nat) (t : T) (h : l[i]? = some t) : T.sizes (l.take (i + 1)) = T.sizes (l.take i) + t.size := by
  induction l generalizing i with
  | nil => simp at h
  | cons a l ih =>
    cases i with
    | zero => simp at h; subst h; simp [T.sizes]
    | succ i => simp only [List.getElem?_cons_succ] at h; simp only [List.take_succ_cons, T.sizes, ih i h]; omega

theorem sizes_take_le (l : List T) (i : Nat) : T.sizes (l.take i) ≤ T.sizes l := by
  induction l generalizing i with
  | nil => simp [T.sizes]
  | cons a l ih =>
    cases i with
    | zero => simp [T.sizes]
    | succ i => have := ih i; simp only [List.take_succ_cons, T.sizes]; omega

/-- A size as it is told. -/
def capN (n : Nat) : Nat := min n 20001

/-- Is the first kid a name? -/
def hd3 : List T → Bool
  | t :: _ => decide (t.kind = 3)
  | [] => false

mutual
/-- Plain, of a tree that may be. -/
def plainT : T → Bool
  | .mk k _ l => if k = 6 ∨ k = 7 ∨ k = 10 ∨ k = 11 ∨ k = 14 then false else if k = 4 then hd3 l else plainTs l
def plainTs : List T → Bool
  | [] => true
  | t :: r => plainT t && plainTs r
end

theorem plainTs_all (l : List T) : plainTs l = l.all plainT := by
  induction l with
  | nil => rfl
  | cons a l ih => simp [plainTs, ih]

theorem plainT_f (f : F) : plainT f.t = plainF f := by
  induction f with
  | tt => rfl
  | ff => rfl
  | pr s => rfl
  | u o a ih =>
    cases o
    case not =>
      cases a with
      | tt => rfl
      | ff => rfl
      | pr s => rfl
      | u o b => cases o <;> rfl
      | b o b c => cases o <;> rfl
    case next => simp [F.t, plainT, plainTs, plainF, U.kind, ih]
    case always => simp [F.t, plainT, plainTs, plainF, U.kind]
    case fin => simp [F.t, plainT, plainTs, plainF, U.kind]
  | b o a c iha ihc => cases o <;> simp [F.t, plainT, plainTs, plainF, B.kind, iha, ihc]

theorem strOfL_toList (n : List UInt8) : (strOfL n).toList = n := by rw [ByteArray.toList_eq]; simp [strOfL]

/-- A row of texts of its own. -/
structure Tab (w W0 : World) (L : List Wd) : Prop where
  mv : Nu w W0
  at' : ∀ (i : Nat) s, L[i]? = some s → W0.cell? ⟨w.heap.size, i, none⟩ = some (.string (strOfL s))
  lt : w.heap.size < W0.heap.size

theorem tab (w : World) (L : List Wd) (t : TypeId) : Tab w (w.alloc (.cells (L.map fun s => Value.string (strOfL s)).toArray t)) L := by
  have h := heap_alloc_new w (.cells (L.map fun s => Value.string (strOfL s)).toArray t)
  exact ⟨Mv.alloc _ _ _, fun i s hs => by rw [cell_blk h]; simp [hs], by simp⟩

theorem ret_i64 {a b : Int} (h : a = b) : Ending.returned (.int .i64 a) = .returned (.int .i64 b) := by rw [h]

/-- Three cells of a formula's kinds. -/
def Cell3 (d0 d1 d2 : Value) : Prop := ∃ k s a l c, d0 = .int .i64 k ∧ d1 = .string s ∧ d2 = .slice a l c

theorem TIn.cell3 {w : World} {P : Nat → Prop} {d0 d1 d2 : Value} {t : T} (h : TIn w P d0 d1 d2 t) : Cell3 d0 d1 d2 := by
  cases t with
  | mk k n l => obtain ⟨_, _, _, h0, h1, ao, cap, h2, _⟩ := h.form; exact ⟨k, _, ao, _, cap, h0, h1, h2⟩

theorem setCell_blk {w : World} {b i : Nat} {cs : Array Value} {u : Value} {t : TypeId} {m : Nat × Nat} (h : w.heap[b]? = some (.cells cs t m)) :
    (w.setCell ⟨b, i, none⟩ u).heap[b]? = some (.cells (cs.setIfInBounds i u) t m) := by
  have hlt := lt_of_block h
  have h' : w.heap[b] = .cells cs t m := by simpa [Array.getElem?_eq_getElem hlt] using h
  show (w.heap.modify b _)[b]? = _
  rw [Array.getElem?_eq_getElem (by simpa using hlt), Array.getElem_modify_self, h']
  rfl

/-- Three cells are written into a block of three. -/
structure Set3 (w W : World) (g : Nat) (d0 d1 d2 : Value) (t : TypeId) : Prop where
  mv : Mv (· = g) w W
  blk : W.heap[g]? = some (.cells #[d0, d1, d2] t (0, 0))
  sz : W.heap.size = w.heap.size

theorem set3 {w : World} {g : Nat} {c0 c1 c2 : Value} {t : TypeId} (h : w.heap[g]? = some (.cells #[c0, c1, c2] t (0, 0))) (d0 d1 d2 : Value) :
    Set3 w (((w.setCell ⟨g, 0, none⟩ d0).setCell ⟨g, 1, none⟩ d1).setCell ⟨g, 2, none⟩ d2) g d0 d1 d2 t :=
  ⟨((Mv.setCell w ⟨g, 0, none⟩ d0).trans (Mv.setCell _ ⟨g, 1, none⟩ d1) (fun _ h => .inl h)).trans (Mv.setCell _ ⟨g, 2, none⟩ d2) (fun _ h => .inl h), by
    rw [setCell_blk (setCell_blk (setCell_blk h))]; rfl, by simp [World.setCell]⟩

/-- A block's three cells, and that they may be written. -/
structure Three (w : World) (g : Nat) (d0 d1 d2 : Value) : Prop where
  c0 : w.cell? ⟨g, 0, none⟩ = some d0
  c1 : w.cell? ⟨g, 1, none⟩ = some d1
  c2 : w.cell? ⟨g, 2, none⟩ = some d2
  f0 : w.frozen? ⟨g, 0, none⟩ = false
  f1 : w.frozen? ⟨g, 1, none⟩ = false
  f2 : w.frozen? ⟨g, 2, none⟩ = false

theorem three {w : World} {g : Nat} {d0 d1 d2 : Value} {t : TypeId} (h : w.heap[g]? = some (.cells #[d0, d1, d2] t (0, 0))) : Three w g d0 d1 d2 :=
  ⟨by rw [cell_blk h]; rfl, by rw [cell_blk h]; rfl, by rw [cell_blk h]; rfl, free_blk h 0, free_blk h 1, free_blk h 2⟩

theorem str_app (a b : List UInt8) : strOfL a ++ strOfL b = strOfL (a ++ b) := by
  apply ByteArray.ext
  simp [strOfL]

/-- A text that is small. -/
def Small (a : ByteArray) : Prop := a.size ≤ 1000000000

@[go_sem high] theorem run_add_small {P : Program} (w : World) (a b : ByteArray) (ha : Small a) (hb : Small b) : (Op.stringOp .add a b).run P w = .ok (.string (a ++ b)) w :=
  run_string_add_sum w a b (by unfold Small at ha hb; omega)

theorem ext_toList (s : Wd) (a b : Nat) : ((strOfL s).extract a b).toList = (s.take b).drop a := by
  rw [ByteArray.toList_eq]
  simp [strOfL, ByteArray.data_extract, List.drop_take]

theorem ext_str (s : Wd) (a b : Nat) : (strOfL s).extract a b = strOfL ((s.take b).drop a) := by
  apply ByteArray.ext
  simp [strOfL, ByteArray.data_extract, List.drop_take]

/-- A row of texts that can be read. -/
def RowAt (w : World) (v : Value) (L : List Wd) : Prop := ∃ ao c, v = .slice ao L.length c ∧ (L = [] ∨ ∃ ad, ao = some ad ∧ ∀ (j : Nat) n, L[j]? = some n → w.cell? (ad.add j) = some (.string (strOfL n)))

theorem add_at (g o j : Nat) : (⟨g, o, none⟩ : Addr).add j = ⟨g, o + j, none⟩ := by unfold Addr.add; split <;> simp_all

mutual
/-- The names of a tree, as they stand. -/
def nm : T → List Wd
  | .mk k n l => (if k = 3 then [n] else []) ++ nms l
def nms : List T → List Wd
  | [] => []
  | t :: r => nm t ++ nms r
end

theorem nms_map (l : List T) : nms l = l.flatMap nm := by
  induction l with
  | nil => rfl
  | cons a l ih => simp [nms, ih]

theorem nm_size : ∀ t : T, (nm t).length ≤ t.size := by
  refine T.ind fun k n l ih => ?_
  have : (nms l).length ≤ T.sizes l := by
    clear k n
    induction l with
    | nil => simp [nms]
    | cons a l ih2 =>
      have h1 := ih a (by simp)
      have h2 := ih2 (fun t ht => ih t (by simp [ht]))
      simp only [nms, T.sizes, List.length_append]
      omega
  simp only [nm, T.size, List.length_append]
  split <;> simp <;> omega

/-- Where a text belongs. -/
def pos (n : Wd) (L : List Wd) : Nat := (L.takeWhile fun x => Go.Op.bytesLess x n).length

/-- A text is put where it belongs, if it isn't there. -/
def ins (L : List Wd) (n : Wd) : List Wd := if L[pos n L]? = some n then L else L.take (pos n L) ++ [n] ++ L.drop (pos n L)

def srt (L : List Wd) : List Wd := L.foldl ins []

theorem ins_len (L : List Wd) (n : Wd) : (ins L n).length ≤ L.length + 1 := by
  unfold ins
  split
  · omega
  · simp; omega

theorem srt_len (L : List Wd) : (srt L).length ≤ L.length := by
  have : ∀ (M acc : List Wd), (M.foldl ins acc).length ≤ acc.length + M.length := fun M => by
    induction M with
    | nil => simp
    | cons a M ih => intro acc; have := ih (ins acc a); have := ins_len acc a; simp only [List.foldl_cons, List.length_cons]; omega
  have h := this L []
  unfold srt
  simpa using h

theorem zero_t (w : World) (P : Nat → Prop) : TIn w P (.int .i64 0) (.string ⟨#[]⟩) (.slice none 0 0) (.mk 0 [] []) := .leaf 0 [] none 0 (by decide) (by decide)

theorem chk_lt (t : T) : chk t ≤ 93 := by unfold chk; split; omega; split <;> omega

/-- Two boxes of three cells. -/
structure Box33 (w W0 : World) (c0 c1 c2 d0 d1 d2 : Value) : Prop where
  mv : Nu w W0
  a0 : W0.cell? ⟨w.heap.size, 0, none⟩ = some c0
  a1 : W0.cell? ⟨w.heap.size, 1, none⟩ = some c1
  a2 : W0.cell? ⟨w.heap.size, 2, none⟩ = some c2
  b0 : W0.cell? ⟨w.heap.size + 1, 0, none⟩ = some d0
  b1 : W0.cell? ⟨w.heap.size + 1, 1, none⟩ = some d1
  b2 : W0.cell? ⟨w.heap.size + 1, 2, none⟩ = some d2

theorem box33 (w : World) (c0 c1 c2 d0 d1 d2 : Value) (t : TypeId) : Box33 w ((w.alloc (.cells #[c0, c1, c2] t)).alloc (.cells #[d0, d1, d2] t)) c0 c1 c2 d0 d1 d2 := by
  have hm : Nu w ((w.alloc (.cells #[c0, c1, c2] t)).alloc (.cells #[d0, d1, d2] t)) := mv0 (Mv.alloc _ w _) (Mv.alloc _ _ _)
  have ha := (Mv.alloc (fun _ => False) (w.alloc (.cells #[c0, c1, c2] t)) (.cells #[d0, d1, d2] t)).heap (heap_alloc_new w _) id
  have hb := heap_alloc_new (w.alloc (.cells #[c0, c1, c2] t)) (.cells #[d0, d1, d2] t)
  rw [show (w.alloc (.cells #[c0, c1, c2] t)).heap.size = w.heap.size + 1 by simp] at hb
  exact ⟨hm, by rw [cell_blk ha]; rfl, by rw [cell_blk ha]; rfl, by rw [cell_blk ha]; rfl, by rw [cell_blk hb]; rfl, by rw [cell_blk hb]; rfl, by rw [cell_blk hb]; rfl⟩

theorem strOfL_inj {a b : List UInt8} : strOfL a = strOfL b ↔ a = b := by
  constructor
  · intro h
    have := congrArg (fun s : ByteArray => s.data.toList) h
    simpa [strOfL] using this
  · exact fun h => h ▸ rfl

/-- A block of three cells. -/
abbrev Blk (w : World) (g : Nat) (d0 d1 d2 : Value) : Prop := w.heap[g]? = some (.cells #[d0, d1, d2] 24 (0, 0))

/-- The zero of a formula. -/
abbrev Z3 : Obj := .cells #[.int .i64 0, .string ⟨#[]⟩, .slice none 0 0] 24

def IsT (P0 : Nat → Prop) (w : World) (v : Value) (t : T) : Prop := ∃ d0 d1 d2, v = .agg #[d0, d1, d2] ∧ TIn w P0 d0 d1 d2 t
def IsL (P0 : Nat → Prop) (w : World) (v : Value) (l : List T) : Prop := (∃ ao n c, v = .slice ao n c) ∧ ∀ k : Int, (-9223372036854775808 ≤ k ∧ k ≤ 9223372036854775807) → TIn w P0 (.int .i64 k) (.string ⟨#[]⟩) v (.mk k [] l)

theorem IsT.go {P0 : Nat → Prop} {S : Nat → Prop} {w w' : World} {v : Value} {t : T} (h : IsT P0 w v t) (hm : Mv S w w') (hS : ∀ x, P0 x → ¬ S x) : IsT P0 w' v t := by
  obtain ⟨d0, d1, d2, h1, h2⟩ := h
  exact ⟨d0, d1, d2, h1, h2.mv hm (fun x hx _ => hS x hx)⟩
theorem IsL.go {P0 : Nat → Prop} {S : Nat → Prop} {w w' : World} {v : Value} {l : List T} (h : IsL P0 w v l) (hm : Mv S w w') (hS : ∀ x, P0 x → ¬ S x) : IsL P0 w' v l :=
  ⟨h.1, fun k hk => (h.2 k hk).mv hm (fun x hx _ => hS x hx)⟩

theorem isL1 {P0 : Nat → Prop} {w : World} {d0 d1 d2 : Value} {t : T} (ht : TIn w P0 d0 d1 d2 t) (hG : P0 w.heap.size) : IsL P0 (w.alloc (.cells #[d0, d1, d2] 24)) (.slice (some ⟨w.heap.size, 0, none⟩) 1 1) [t] := by
  refine ⟨⟨_, _, _, rfl⟩, fun k hk => ?_⟩
  have hg := heap_alloc_new w (.cells #[d0, d1, d2] 24)
  have ht' := ht.nu (Mv.alloc (fun _ => False) w (.cells #[d0, d1, d2] 24))
  refine .node k [] [t] w.heap.size 0 1 (fun _ => (d0, d1, d2)) hk (by decide) (by simp) hG (fun i hi => ?_) ⟨_, _, hg⟩ (fun i v hv => ?_)
  · simp only [List.length_cons, List.length_nil] at hi
    have : i = 0 := by omega
    subst this
    exact ⟨by rw [cell_blk hg]; rfl, by rw [cell_blk hg]; rfl, by rw [cell_blk hg]; rfl⟩
  · have hi : i = 0 := by have := (List.getElem?_eq_some_iff.1 hv).1; simp at this; omega
    subst hi
    simp at hv; subst hv; exact ht'

theorem isL2 {P0 : Nat → Prop} {w : World} {d0 d1 d2 e0 e1 e2 : Value} {t u : T} (ht : TIn w P0 d0 d1 d2 t) (hu : TIn w P0 e0 e1 e2 u) (hG : P0 w.heap.size) :
    IsL P0 (w.alloc (.cells #[d0, d1, d2, e0, e1, e2] 24)) (.slice (some ⟨w.heap.size, 0, none⟩) 2 2) [t, u] := by
  refine ⟨⟨_, _, _, rfl⟩, fun k hk => ?_⟩
  have hg := heap_alloc_new w (.cells #[d0, d1, d2, e0, e1, e2] 24)
  have ht' := ht.nu (Mv.alloc (fun _ => False) w (.cells #[d0, d1, d2, e0, e1, e2] 24))
  have hu' := hu.nu (Mv.alloc (fun _ => False) w (.cells #[d0, d1, d2, e0, e1, e2] 24))
  refine .node k [] [t, u] w.heap.size 0 2 (fun i => if i = 0 then (d0, d1, d2) else (e0, e1, e2)) hk (by decide) (by simp) hG (fun i hi => ?_) ⟨_, _, hg⟩ (fun i v hv => ?_)
  · simp only [List.length_cons, List.length_nil] at hi
    have : i = 0 ∨ i = 1 := by omega
    rcases this with rfl | rfl
    · exact ⟨by rw [cell_blk hg]; rfl, by rw [cell_blk hg]; rfl, by rw [cell_blk hg]; rfl⟩
    · exact ⟨by rw [cell_blk hg]; rfl, by rw [cell_blk hg]; rfl, by rw [cell_blk hg]; rfl⟩
  · have hi : i = 0 ∨ i = 1 := by have := (List.getElem?_eq_some_iff.1 hv).1; simp at this; omega
    rcases hi with rfl | rfl
    · simp at hv; subst hv; exact ht'
    · simp at hv; subst hv; exact hu'

theorem op_bs1 {o : Oper} {a : Act} {w : World} {K : Act → World → Prop} {Q : Exit → Act → World → Prop} {d x : Nat} {d0 d1 d2 : Value} (hd : o.dst = some d) (ho : o.op = .buildSlice 22 1 #[(0, .tmp x)]) (hx : a.tmps[x]? = some (.agg #[d0, d1, d2])) (hc : Cell3 d0 d1 d2)
    (hK : K ⟨a.tmps.setIfInBounds d (.slice (some ⟨w.heap.size, 0, none⟩) 1 1), a.defers⟩ (w.alloc (.cells #[d0, d1, d2] 24))) : Oper.wp Tryd.prog o a w K Q := by
  obtain ⟨k, s', ao, l, c, rfl, rfl, rfl⟩ := hc
  unfold Oper.wp execOp
  simp only [ho, hd]
  go_simp
  exact hK

theorem op_bs2 {o : Oper} {a : Act} {w : World} {K : Act → World → Prop} {Q : Exit → Act → World → Prop} {d x y : Nat} {d0 d1 d2 e0 e1 e2 : Value} (hd : o.dst = some d) (ho : o.op = .buildSlice 22 2 #[(0, .tmp x), (1, .tmp y)]) (hx : a.tmps[x]? = some (.agg #[d0, d1, d2])) (hy : a.tmps[y]? = some (.agg #[e0, e1, e2]))
    (hc : Cell3 d0 d1 d2) (hc' : Cell3 e0 e1 e2) (hK : K ⟨a.tmps.setIfInBounds d (.slice (some ⟨w.heap.size, 0, none⟩) 2 2), a.defers⟩ (w.alloc (.cells #[d0, d1, d2, e0, e1, e2] 24))) : Oper.wp Tryd.prog o a w K Q := by
  obtain ⟨k, s', ao, l, c, rfl, rfl, rfl⟩ := hc
  obtain ⟨k2, s2, ao2, l2, c2, rfl, rfl, rfl⟩ := hc'
  unfold Oper.wp execOp
  simp only [ho, hd]
  go_simp
  exact hK

end Go.Proofs.YtidihaecgmbhpabDoor
/-
  What the reference's functions that only look at a tree give: its depth.
-/
namespace Go.Proofs.YtidihaecgmbhpabDoor
open Go.RowKit Q

theorem depths_take (l : List T) (i : Nat) (t : T) (h : l[i]? = some t) : T.depths (l.take (i + 1)) = max (T.depths (l.take i)) t.depth := by
  induction l generalizing i with
  | nil => simp at h
  | cons a l ih =>
    cases i with
    | zero => simp at h; subst h; simp [T.depths]
    | succ i => simp only [List.getElem?_cons_succ] at h; simp only [List.take_succ_cons, T.depths, ih i h]; omega

theorem sizes_mem {l : List T} {t : T} (h : t ∈ l) : t.size ≤ T.sizes l := by
  induction l with
  | nil => cases h
  | cons a l ih =>
    rcases List.mem_cons.1 h with rfl | h
    · simp only [T.sizes]; omega
    · have := ih h; simp only [T.sizes]; omega

theorem depths_le_sizes (l : List T) : T.depths l ≤ T.sizes l := by
  induction l with
  | nil => exact Nat.le_refl _
  | cons a l ih => have := a.depth_le_size; simp only [T.depths, T.sizes]; omega
theorem depths_take_le (l : List T) (i : Nat) : T.depths (l.take i) ≤ T.sizes l := by
  induction l generalizing i with
  | nil => simp [T.depths]
  | cons a l ih =>
    cases i with
    | zero => simp [T.depths]
    | succ i => have := a.depth_le_size; have := ih i; simp only [List.take_succ_cons, T.depths, T.sizes]; omega

set_option maxHeartbeats 2000000 in
theorem Depth_any : ∀ t : T, t.size ≤ 1000000000 → ∀ (w : World) (c0 c1 c2 : Value), TAt w c0 c1 c2 t → Looks 15 #[.agg #[c0, c1, c2]] w (.int .i64 (t.depth : Int)) := by
  refine T.ind fun k n l ih hsz w c0 c1 c2 h => ?_
  obtain ⟨_, _, hl, rfl, rfl, ao, cap, rfl, hels⟩ := h.form
  obtain ⟨N, hN⟩ : ∃ N : Nat, l.length = N := ⟨_, rfl⟩
  rw [hN] at hl ⊢
  have HE := hid (kids_call (K := 15) (val := fun t => .int .i64 (t.depth : Int)) hels (fun t ht => ih t ht (by have := sizes_mem ht; simp only [T.size] at hsz; omega)))
  rw [hN] at HE
  have hd : ∀ i, ((T.depths (l.take i) : Nat) : Int) ≤ 1000000000 := fun i => by
    have := depths_take_le l i
    simp only [T.size] at hsz
    omega
  have HD : Hid (T.depths l = T.depths (l.take N)) := by rw [← hN, List.take_length]; exact rfl
  have HT : Hid (∀ i t, l[i]? = some t → T.depths (l.take (i + 1)) = max (T.depths (l.take i)) t.depth) := fun i t h => depths_take l i t h
  clear hels hN h
  simp only [T.depth]
  obtain ⟨W0, hW0⟩ : ∃ W0, w.alloc (.cells #[.int .i64 k, .string (strOfL n), .slice ao N cap] 24) = W0 := ⟨_, rfl⟩
  have hB := box3 w (.int .i64 k) (.string (strOfL n)) (.slice ao N cap) 24
  rw [hW0] at hB
  have HB : Hid (Box3 w W0 (.int .i64 k) (.string (strOfL n)) (.slice ao N cap)) := hB
  unfold Looks
  go_enter Tryd.func15, Tryd.ntmps15
  go_upto_region 1 with fail
  clear hW0 hB
  go_wp2_with fail
  go_loopw [3, 4] (fun nv iv wr => ∃ i : Nat, i ≤ N ∧ nv = .int .i64 ((T.depths (l.take i) : Nat) : Int) ∧ iv = .int .i64 (i : Int) ∧ Hid (Nu W0 wr)) (fun _ iv _ => N - (intOf iv).toNat)
  case atStart => exact ⟨0, Nat.zero_le _, rfl, rfl, Mv.refl _ _⟩
  case round =>
    obtain ⟨i, hi, rfl, rfl, HM⟩ := hrel
    have hc := cell_mv HM.out HB.out.a2 id
    have hdi := hd i
    by_cases hj : i < N
    · have hj' : (i : Int) < (N : Int) := by omega
      obtain ⟨b, o, d0, d1, d2, t, rfl, h0, h1, h2, ht, hcall⟩ := HE.out i hj
      have hm := mv0 HB.out.mv HM.out
      replace h0 := cell_mv hm h0 id
      replace h1 := cell_mv hm h1 id
      replace h2 := cell_mv hm h2 id
      have HX : Hid (∀ W, Nu w W → Looks 15 #[.agg #[d0, d1, d2]] W (.int .i64 (t.depth : Int))) := hcall
      have hs := HT.out i t ht
      have hdn := hd (i + 1)
      have HS : Hid (T.depths (l.take (i + 1)) = max (T.depths (l.take i)) t.depth) := hs
      have HDN : Hid (((T.depths (l.take (i + 1)) : Nat) : Int) ≤ 1000000000) := hdn
      have HMW : Hid (Nu w wr) := hm
      clear hcall hs hdn ht hd hm HE HT
      go_wp2_with fail
      refine Calls.mono (HX.out _ HMW.out) ?_
      rintro e w1 ⟨rfl, hm1⟩
      have HM1 : Hid (Nu W0 w1) := mv0 HM.out hm1
      clear hm1
      go_wp2_with fail
      all_goals
        go_roundw
        case rel => exact ⟨i + 1, hj, by rw [HS.out]; go_num, by go_num, HM1⟩
        case measure => simp [intOf]; omega
    · have hj' : ¬ (i : Int) < (N : Int) := by omega
      have hiN : i = N := by omega
      subst hiN
      have HDI : Hid (((T.depths (l.take i) : Nat) : Int) ≤ 1000000000) := hdi
      clear HE HT
      go_wp2_with fail
      go_ret
      exact ⟨by rw [HD.out]; rfl, mv0 HB.out.mv HM.out⟩

end Go.Proofs.YtidihaecgmbhpabDoor
/-
  An owner's writing into a formula: what may be written, and that it stays so.
-/
set_option linter.unusedSimpArgs false
namespace Go.Proofs.YtidihaecgmbhpabDoor
open Go.RowKit Q

/-- A slice of trees that may be written to the bottom, its blocks being such as P tells; so deep at most. -/
def Sp (w : World) (P : Nat → Prop) : Nat → Value → Prop
  | 0, v => ∃ ao len, v = .slice ao len 0
  | m + 1, v => ∃ ao len cap, v = .slice ao len cap ∧ len ≤ cap ∧ cap ≤ 140737488355328 ∧ (cap = 0 ∨ ∃ b o, ao = some ⟨b, 3 * o, none⟩ ∧ P b ∧
      ∀ i, i < cap → ∃ k s c, w.cell? ⟨b, 3 * o + i * 3, none⟩ = some (.int .i64 k) ∧ w.cell? ⟨b, 3 * o + i * 3 + 1, none⟩ = some (.string s) ∧ w.cell? ⟨b, 3 * o + i * 3 + 2, none⟩ = some c ∧ Sp w P m c ∧
        w.frozen? ⟨b, 3 * o + i * 3, none⟩ = false ∧ w.frozen? ⟨b, 3 * o + i * 3 + 1, none⟩ = false ∧ w.frozen? ⟨b, 3 * o + i * 3 + 2, none⟩ = false)

theorem Sp.nu {w w' : World} {P : Nat → Prop} (hm : Nu w w') : ∀ {m : Nat} {v : Value}, Sp w P m v → Sp w' P m v
  | 0, _, h => h
  | m + 1, _, ⟨ao, len, cap, h1, h2, h3, h4⟩ => ⟨ao, len, cap, h1, h2, h3, h4.imp id fun ⟨b, o, g1, g2, g3⟩ => ⟨b, o, g1, g2, fun i hi => by
      obtain ⟨k, s, c, c0, c1, c2, c3, f0, f1, f2⟩ := g3 i hi
      have hlt := World.block_lt_of_cell? w _ c0
      exact ⟨k, s, c, cell_mv hm c0 id, cell_mv hm c1 id, cell_mv hm c2 id, c3.nu hm, frozen_mv hm hlt f0 id, frozen_mv hm hlt f1 id, frozen_mv hm hlt f2 id⟩⟩⟩

/-- Nothing to be written is in nil. -/
theorem Sp.nil (w : World) (P : Nat → Prop) : ∀ m, Sp w P m (.slice none 0 0)
  | 0 => ⟨none, 0, rfl⟩
  | _ + 1 => ⟨none, 0, 0, rfl, Nat.le_refl _, Nat.zero_le _, .inl rfl⟩

/-- The world behind one element's writing. -/
def spoilt (w : World) (b a : Nat) : World := ((w.setCell ⟨b, a, none⟩ (.int .i64 66)).setCell ⟨b, a + 1, none⟩ (.string ⟨#[115, 112, 111, 105, 108, 116]⟩)).setCell ⟨b, a + 2, none⟩ (.slice none 0 0)

theorem cell_set_other {w : World} {b i b' i' : Nat} {v : Value} (h : ¬ (b' = b ∧ i' = i)) : (w.setCell ⟨b, i, none⟩ v).cell? ⟨b', i', none⟩ = w.cell? ⟨b', i', none⟩ :=
  World.cell?_setCell_other _ _ _ _ (by intro e; injection e with e1 e2; exact h ⟨e1.symm, e2.symm⟩)

theorem spoilt_mv (w : World) (b a : Nat) : Mv (· = b) w (spoilt w b a) :=
  ((Mv.setCell w ⟨b, a, none⟩ _).trans (Mv.setCell _ ⟨b, a + 1, none⟩ _) (fun _ h => .inl h)).trans (Mv.setCell _ ⟨b, a + 2, none⟩ _) (fun _ h => .inl h)

theorem spoilt_other {w : World} {b q b' p j : Nat} (hj : j < 3) (h : ¬ (b' = b ∧ p = q)) : (spoilt w b (3 * q)).cell? ⟨b', 3 * p + j, none⟩ = w.cell? ⟨b', 3 * p + j, none⟩ := by
  unfold spoilt
  rw [cell_set_other (by omega), cell_set_other (by omega), cell_set_other (by omega)]

theorem spoilt_same {w : World} {b q : Nat} {x0 x1 x2 : Value} (h0 : w.cell? ⟨b, 3 * q, none⟩ = some x0) (h1 : w.cell? ⟨b, 3 * q + 1, none⟩ = some x1) (h2 : w.cell? ⟨b, 3 * q + 2, none⟩ = some x2) :
    (spoilt w b (3 * q)).cell? ⟨b, 3 * q, none⟩ = some (.int .i64 66) ∧ (spoilt w b (3 * q)).cell? ⟨b, 3 * q + 1, none⟩ = some (.string ⟨#[115, 112, 111, 105, 108, 116]⟩) ∧ (spoilt w b (3 * q)).cell? ⟨b, 3 * q + 2, none⟩ = some (.slice none 0 0) := by
  unfold spoilt
  refine ⟨?_, ?_, ?_⟩
  · rw [cell_set_other (by omega), cell_set_other (by omega)]
    exact World.cell?_setCell_same _ _ _ h0
  · rw [cell_set_other (by omega)]
    exact World.cell?_setCell_same _ _ _ (by rw [cell_set_other (by omega)]; exact h1)
  · exact World.cell?_setCell_same _ _ _ (by rw [cell_set_other (by omega), cell_set_other (by omega)]; exact h2)

theorem spoilt_frozen (w : World) (b a : Nat) (p : Addr) : (spoilt w b a).frozen? p = w.frozen? p := by unfold spoilt; simp

/-- What may be written may still be written behind a writing. -/
theorem Sp.spoilt {w : World} {P : Nat → Prop} {b q : Nat} {x0 x1 x2 : Value} (h0 : w.cell? ⟨b, 3 * q, none⟩ = some x0) (h1 : w.cell? ⟨b, 3 * q + 1, none⟩ = some x1) (h2 : w.cell? ⟨b, 3 * q + 2, none⟩ = some x2) : ∀ {m : Nat} {v : Value}, Sp w P m v → Sp (Go.Proofs.YtidihaecgmbhpabDoor.spoilt w b (3 * q)) P m v
  | 0, _, h => h
  | m + 1, _, ⟨ao, len, cap, e1, e2, e3, e4⟩ => ⟨ao, len, cap, e1, e2, e3, e4.imp id fun ⟨b', o, g1, g2, g3⟩ => ⟨b', o, g1, g2, fun i hi => by
      obtain ⟨k, s, c, c0, c1, c2, c3, f0, f1, f2⟩ := g3 i hi
      have hoi : 3 * o + i * 3 = 3 * (o + i) := by omega
      rw [hoi] at c0 c1 c2 f0 f1 f2 ⊢
      by_cases hb : b' = b ∧ o + i = q
      · obtain ⟨rfl, hq⟩ := hb
        rw [hq]
        rw [hq] at f0 f1 f2
        obtain ⟨d0, d1, d2⟩ := spoilt_same h0 h1 h2
        exact ⟨66, _, _, d0, d1, d2, Sp.nil _ _ _, by rw [spoilt_frozen]; exact f0, by rw [spoilt_frozen]; exact f1, by rw [spoilt_frozen]; exact f2⟩
      · have s0 := spoilt_other (w := w) (j := 0) (by omega) hb
        have s1 := spoilt_other (w := w) (j := 1) (by omega) hb
        have s2 := spoilt_other (w := w) (j := 2) (by omega) hb
        exact ⟨k, s, c, s0.trans c0, s1.trans c1, s2.trans c2, c3.spoilt h0 h1 h2, by rw [spoilt_frozen]; exact f0, by rw [spoilt_frozen]; exact f1, by rw [spoilt_frozen]; exact f2⟩⟩⟩

end Go.Proofs.YtidihaecgmbhpabDoor
/-
  What the program's functions on bytes give: which byte it is; where blanks end, and rows of letters.
-/
set_option linter.unusedSimpArgs false
namespace Go.Proofs.YtidihaecgmbhpabDoor
open Go.RowKit Q

theorem v8_beq (c d : UInt8) : (c == d) = ((c.toNat : Int) == (d.toNat : Int)) := by
  rw [Bool.eq_iff_iff]; simp [← UInt8.toNat_inj]; omega
theorem v8_le (c d : UInt8) : (decide (c ≤ d)) = decide ((c.toNat : Int) ≤ (d.toNat : Int)) := by
  rw [Bool.eq_iff_iff]; simp [UInt8.le_iff_toNat_le]
theorem vBl_int (c : UInt8) : isBl c = (((c.toNat : Int) == 9) || ((c.toNat : Int) == 10) || ((c.toNat : Int) == 13) || ((c.toNat : Int) == 32)) := by
  unfold isBl; simp only [v8_beq]; rfl
theorem vLet_int (c : UInt8) : isLet c = ((decide (97 ≤ (c.toNat : Int)) && decide ((c.toNat : Int) ≤ 122)) || (decide (65 ≤ (c.toNat : Int)) && decide ((c.toNat : Int) ≤ 90)) || ((c.toNat : Int) == 95)) := by
  unfold isLet; simp only [v8_le, v8_beq]; rfl
theorem vDig_int (c : UInt8) : isDig c = (decide (48 ≤ (c.toNat : Int)) && decide ((c.toNat : Int) ≤ 57)) := by
  unfold isDig; simp only [v8_le]; rfl

set_option maxHeartbeats 400000 in
theorem isLetter_any (c : UInt8) (w : World) : Calls Tryd.prog 70 #[.int .u8 (c.toNat : Int)] w fun e w' => e = .returned (.bool (isLet c)) ∧ w' = w := by
  go_enter Tryd.func70, Tryd.ntmps70
  go_wp2
  all_goals go_ret
  all_goals (refine ⟨?_, rfl⟩; rw [vLet_int]; first | (simp [*]; done) | (simp [*]; omega) | (simp [*]; rw [Bool.eq_iff_iff]; simp; omega))
set_option maxHeartbeats 400000 in
theorem isDigit_any (c : UInt8) (w : World) : Calls Tryd.prog 69 #[.int .u8 (c.toNat : Int)] w fun e w' => e = .returned (.bool (isDig c)) ∧ w' = w := by
  go_enter Tryd.func69, Tryd.ntmps69
  go_wp2
  all_goals go_ret
  all_goals (refine ⟨?_, rfl⟩; rw [vDig_int]; first | (simp [*]; done) | (simp [*]; omega) | (simp [*]; rw [Bool.eq_iff_iff]; simp; omega))

/-- Where a row of such bytes ends. -/
def tw (q : UInt8 → Bool) (s : Wd) (p : Nat) : Nat := p + ((s.drop p).takeWhile q).length

theorem tw_of {q : UInt8 → Bool} {s : Wd} : ∀ {p i : Nat}, p ≤ i → i ≤ s.length → (∀ (j : Nat) c, p ≤ j → j < i → s[j]? = some c → q c = true) → (∀ c, s[i]? = some c → q c = false) → tw q s p = i := by
  have key : ∀ (n : Nat) (p i : Nat), i - p = n → p ≤ i → i ≤ s.length → (∀ (j : Nat) c, p ≤ j → j < i → s[j]? = some c → q c = true) → (∀ c, s[i]? = some c → q c = false) → tw q s p = i := by
    intro n
    induction n with
    | zero =>
      intro p i hn h1 h2 h3 h4
      have : p = i := by omega
      subst this
      unfold tw
      cases hd : s.drop p with
      | nil => rfl
      | cons c r =>
        have : s[p]? = some c := by
          have := congrArg (·[0]?) hd
          simpa using this
        simp [List.takeWhile, h4 c this]
    | succ n ih =>
      intro p i hn h1 h2 h3 h4
      have hp : p < s.length := by omega
      have := ih (p + 1) i (by omega) (by omega) h2 (fun j c hj => h3 j c (by omega)) h4
      unfold tw at this ⊢
      rw [List.drop_eq_getElem_cons hp, List.takeWhile_cons, if_pos (h3 p _ (Nat.le_refl _) (by omega) (List.getElem?_eq_getElem hp))]
      simp only [List.length_cons]
      omega
  intro p i
  exact key _ p i rfl

theorem all_step {q : UInt8 → Bool} {s : Wd} {p i : Nat} {c : UInt8} (h : ∀ (j : Nat) d, p ≤ j → j < i → s[j]? = some d → q d = true) (hc : s[i]? = some c) (hq : q c = true) : ∀ (j : Nat) d, p ≤ j → j < i + 1 → s[j]? = some d → q d = true := fun j d h1 h2 h3 => by
  by_cases hji : j = i
  · subst hji
    rw [hc] at h3
    cases h3
    exact hq
  · exact h j d h1 (by omega) h3

theorem tw_ge (q : UInt8 → Bool) (s : Wd) (p : Nat) : p ≤ tw q s p := Nat.le_add_right _ _
theorem tw_le (q : UInt8 → Bool) (s : Wd) (p : Nat) (h : p ≤ s.length) : tw q s p ≤ s.length := by
  unfold tw
  have h1 : ((s.drop p).takeWhile q).length ≤ (s.drop p).length := List.IsPrefix.length_le (List.takeWhile_prefix q)
  simp only [List.length_drop] at h1
  omega

/-- A text's bytes, as its values have them. -/
theorem str_bytes (s : Wd) : ∀ i (hi : i < (strOfL s).size), s[i]? = some ((strOfL s)[i]'hi) := fun i hi => by
  have hsz : (strOfL s).size = s.length := by simp [strOfL, ByteArray.size]
  have : i < s.length := by omega
  rw [List.getElem?_eq_getElem this]
  rfl
theorem str_size (s : Wd) : (strOfL s).size = s.length := by simp [strOfL, ByteArray.size]

set_option maxHeartbeats 2000000 in
theorem behindBlanks_any (s : Wd) (p : Nat) (hs : s.length ≤ 140737488355328) (hp : p ≤ s.length) (w : World) : Calls Tryd.prog 41 #[.string (strOfL s), .int .i64 (p : Int)] w fun e w' => e = .returned (.int .i64 (tw isBl s p : Int)) ∧ w' = w := by
  have HG := hid (str_bytes s)
  have hsz := str_size s
  have HSZ := hid hsz
  rw [← hsz] at hs hp
  have HP := hid hp
  generalize hS : strOfL s = S at *
  clear hS hsz
  go_enter Tryd.func41, Tryd.ntmps41
  go_wp2_with fail
  go_loop [1] (fun iv => ∃ i : Nat, p ≤ i ∧ i ≤ S.size ∧ iv = .int .i64 (i : Int) ∧ Hid (∀ (j : Nat) c, p ≤ j → j < i → s[j]? = some c → isBl c = true)) (fun iv => S.size - (intOf iv).toNat)
  case atStart => exact ⟨p, Nat.le_refl _, hp, rfl, fun j c h1 h2 => by omega⟩
  case round =>
    obtain ⟨i, hpi, hi, rfl, HF⟩ := hrel
    by_cases hj : i < S.size
    · have hj' : (i : Int) < (S.size : Int) := by omega
      obtain ⟨c, hc⟩ : ∃ c, S[i]'hj = c := ⟨_, rfl⟩
      have HC : Hid (s[i]? = some c) := by rw [← hc]; exact HG.out i hj
      go_wp2_with fail
      all_goals first
        | (refine ⟨⟨i + 1, by omega, by omega, by simp, all_step HF.out HC.out (by rw [vBl_int]; simp only [Bool.or_eq_true, beq_iff_eq] at *; omega)⟩, ?_⟩
           simp [intOf]; omega)
        | (go_ret
           refine ⟨ret_i64 ?_, rfl⟩
           rw [tw_of hpi (by have := HSZ.out; omega) HF.out (fun d hd => by
             have hcd : c = d := Option.some.inj (HC.out.symm.trans hd)
             rw [← hcd, vBl_int, Bool.eq_false_iff]; intro h; simp only [Bool.or_eq_true, beq_iff_eq, ne_eq] at *; first | omega | (simp_all; omega) | simp_all)])
    · have hj' : ¬ (i : Int) < (S.size : Int) := by omega
      go_wp2_with fail
      go_ret
      refine ⟨ret_i64 ?_, rfl⟩
      rw [tw_of hpi (by have := HSZ.out; omega) HF.out (fun c hc => by have := (List.getElem?_eq_some_iff.1 hc).1; have := HSZ.out; omega)]

/-- Where a row of letters, digits and _ ends that begins with no digit. -/
def rowEnd (s : Wd) (p : Nat) : Nat := match s[p]? with
  | some c => if isDig c then p else tw isLD s p
  | none => p

set_option maxHeartbeats 2000000 in
theorem rowEnd_any (s : Wd) (p : Nat) (hs : s.length ≤ 140737488355328) (hp : p < s.length) (w : World) : Calls Tryd.prog 56 #[.string (strOfL s), .int .i64 (p : Int)] w fun e w' => e = .returned (.int .i64 (rowEnd s p : Int)) ∧ w' = w := by
  have HG := hid (str_bytes s)
  have hsz := str_size s
  have HSZ := hid hsz
  have HP := hid hp
  rw [← hsz] at hs hp
  generalize hS : strOfL s = S at *
  clear hS hsz
  have HL := hid (fun c => isLetter_any c w)
  have HD := hid (fun c => isDigit_any c w)
  obtain ⟨c0, hc0⟩ : ∃ c, S[p]'hp = c := ⟨_, rfl⟩
  have HC0 : Hid (s[p]? = some c0) := by rw [← hc0]; exact HG.out p hp
  have hb0 : (p : Int) < (S.size : Int) := by omega
  go_enter Tryd.func56, Tryd.ntmps56
  go_wp2_with fail
  refine Calls.mono (HD.out c0) ?_
  rintro e w1 ⟨rfl, hw1⟩
  subst hw1
  cases hd : isDig c0 with
  | true =>
    go_wp2_with fail
    go_ret
    refine ⟨ret_i64 ?_, rfl⟩
    unfold rowEnd
    rw [HC0.out]
    simp [hd]
  | false =>
    have HE : Hid (rowEnd s p = tw isLD s p) := by
      show _ = _
      unfold rowEnd
      rw [HC0.out]
      simp [hd]
    clear hd hc0 hb0
    go_wp2_with fail
    go_loop [1] (fun iv => ∃ i : Nat, p ≤ i ∧ i ≤ S.size ∧ iv = .int .i64 (i : Int) ∧ Hid (∀ (j : Nat) c, p ≤ j → j < i → s[j]? = some c → isLD c = true)) (fun iv => S.size - (intOf iv).toNat)
    case atStart => exact ⟨p, Nat.le_refl _, Nat.le_of_lt hp, rfl, fun j c h1 h2 => by omega⟩
    case round =>
      obtain ⟨i, hpi, hi, rfl, HF⟩ := hrel
      by_cases hj : i < S.size
      · have hj' : (i : Int) < (S.size : Int) := by omega
        obtain ⟨c, hc⟩ : ∃ c, S[i]'hj = c := ⟨_, rfl⟩
        have HC : Hid (s[i]? = some c) := by rw [← hc]; exact HG.out i hj
        go_wp2_with fail
        refine Calls.mono (HL.out c) ?_
        rintro e w1 ⟨rfl, hw1⟩
        subst hw1
        cases hl : isLet c with
        | true =>
          go_wp2_with fail
          refine ⟨⟨i + 1, by omega, by omega, by simp, all_step HF.out HC.out (by unfold isLD; rw [hl]; rfl)⟩, ?_⟩
          simp [intOf]; omega
        | false =>
          go_wp2_with fail
          refine Calls.mono (HD.out c) ?_
          rintro e w1 ⟨rfl, hw1⟩
          subst hw1
          cases hd : isDig c with
          | true =>
            go_wp2_with fail
            refine ⟨⟨i + 1, by omega, by omega, by simp, all_step HF.out HC.out (by unfold isLD; rw [hl, hd]; rfl)⟩, ?_⟩
            simp [intOf]; omega
          | false =>
            go_wp2_with fail
            go_ret
            refine ⟨ret_i64 ?_, rfl⟩
            rw [HE.out, tw_of hpi (by have := HSZ.out; omega) HF.out (fun d hd' => by
              have hcd : c = d := Option.some.inj (HC.out.symm.trans hd')
              rw [← hcd]; unfold isLD; rw [hl, hd]; rfl)]
      · have hj' : ¬ (i : Int) < (S.size : Int) := by omega
        go_wp2_with fail
        go_ret
        refine ⟨ret_i64 ?_, rfl⟩
        rw [HE.out, tw_of hpi (by have := HSZ.out; omega) HF.out (fun c hc => by have := (List.getElem?_eq_some_iff.1 hc).1; have := HSZ.out; omega)]

end Go.Proofs.YtidihaecgmbhpabDoor
/-
  What pick does: which of n things a raw number speaks of.
-/
namespace Go.Proofs.YtidihaecgmbhpabDoor
open Go.RowKit

/-- Which of n things the raw number c speaks of. -/
def pickN (c n : Int) : Int := (if c < 0 then -(c + 1) else c) % n
theorem pickN_lo (c : Int) {n : Int} (h : 0 < n) : 0 ≤ pickN c n := Int.emod_nonneg _ (by omega)
theorem pickN_hi (c : Int) {n : Int} (h : 0 < n) : pickN c n < n := Int.emod_lt_of_pos _ h

set_option maxHeartbeats 400000 in
theorem pick_any (c n : Int) (w : World) (h0 : -9223372036854775808 ≤ c) (h1 : c ≤ 9223372036854775807) (hn : 0 < n) (hn1 : n ≤ 1000) :
    Calls Tryd.prog 14 #[.int .i64 c, .int .i64 n] w fun e w' => e = .returned (.int .i64 (pickN c n)) ∧ w' = w := by
  have hz : (n == 0) = false := by simp; omega
  by_cases a : c < 0
  · have e : pickN c n = (-(c + 1)) % n := by unfold pickN; rw [if_pos a]
    have HE : Hid (pickN c n = (-(c + 1)) % n) := e
    clear e
    go_enter Tryd.func14, Tryd.ntmps14
    go_wp2
    go_ret
    exact ⟨ret_i64 (by rw [HE.out, ← Int.tmod_eq_emod_of_nonneg (by omega : 0 ≤ -(c + 1)), Int.neg_tmod]), rfl⟩
  · have e : pickN c n = c % n := by unfold pickN; rw [if_neg a]
    have HE : Hid (pickN c n = c % n) := e
    clear e
    have a' : 0 ≤ c := by omega
    go_enter Tryd.func14, Tryd.ntmps14
    go_wp2
    go_ret
    exact ⟨ret_i64 HE.out.symm, rfl⟩

end Go.Proofs.YtidihaecgmbhpabDoor
/-
  A region that draws its order and only looks: each operation has one value, whatever has come up ahead of it. No order is gone through.
-/
set_option linter.unusedSimpArgs false
namespace Go.Proofs.YtidihaecgmbhpabDoor
open Go.RowKit Q

/-- The slots of the operations that are waited for, and their values. -/
def Had (vals : Nat → Value) (a : Act) : List (Nat × Nat) → Prop
  | [] => True
  | p :: r => a.tmps[p.1]? = some (vals p.2) ∧ Had vals a r

/-- What of a region is told by its numbers. -/
def waits (ops : Array Oper) (o : Oper) : List (Nat × Nat) := (o.after.toList.filter (Region.binds .any)).filterMap fun e => ((ops[e.on]?).bind (·.dst)).map fun d => (d, e.on)
def apartO : List Oper → Bool
  | [] => true
  | o :: l => (l.all fun q => q.dst != o.dst) && apartO l
def aheadB (i : Nat) : List Oper → Bool
  | [] => true
  | o :: l => (o.after.toList.all fun e => !Region.binds .any e || decide (e.on < i)) && aheadB (i + 1) l
def looksB (ops : Array Oper) (N : Nat) : Bool := apartO ops.toList && (ops.toList.all fun o => match o.dst with | some d => decide (d < N) | none => false) && aheadB 0 ops.toList

theorem apartO_of : ∀ {l : List Oper}, apartO l = true → ∀ (i j : Nat) o o' d, l[i]? = some o → l[j]? = some o' → o.dst = some d → o'.dst = some d → i = j := by
  intro l
  induction l with
  | nil => intro _ i j o o' d h; simp at h
  | cons p l ih =>
    intro h i j o o' d hi hj hd hd'
    simp only [apartO, Bool.and_eq_true, List.all_eq_true] at h
    have hne : ∀ q ∈ l, q.dst ≠ p.dst := fun q hq => by simpa using h.1 q hq
    cases i with
    | zero =>
      simp at hi; subst hi
      cases j with
      | zero => rfl
      | succ j => exact absurd (by rw [hd, hd']) (hne o' (List.mem_of_getElem? (by simpa using hj)))
    | succ i =>
      cases j with
      | zero => simp at hj; subst hj; exact absurd (by rw [hd, hd']) (hne o (List.mem_of_getElem? (by simpa using hi)))
      | succ j => rw [ih h.2 i j o o' d (by simpa using hi) (by simpa using hj) hd hd']

theorem aheadB_of : ∀ {l : List Oper} {k : Nat}, aheadB k l = true → ∀ (i : Nat) o, l[i]? = some o → ∀ e ∈ o.after, Region.binds .any e = true → e.on < k + i := by
  intro l
  induction l with
  | nil => intro k _ i o h; simp at h
  | cons p l ih =>
    intro k h i o hi e he hb
    simp only [aheadB, Bool.and_eq_true, List.all_eq_true] at h
    cases i with
    | zero =>
      simp at hi; subst hi
      have := h.1 e (Array.mem_toList_iff.2 he)
      rw [hb] at this
      simpa using this
    | succ i =>
      have := ih h.2 i o (by simpa using hi) e he hb
      omega

/-- What is known on the way. -/
structure LI (ops : Array Oper) (vals : Nat → Value) (A0 : Act) (W : World) (l : Array Bool) (a : Act) (w : World) : Prop where
  ls : l.size = ops.size
  sz : a.tmps.size = A0.tmps.size
  df : a.defers = A0.defers
  nu : Nu W w
  fr : ∀ j : Nat, (∀ (i : Nat) (o : Oper), ops[i]? = some o → o.dst ≠ some j) → a.tmps[j]? = A0.tmps[j]?
  tv : ∀ (i : Nat) (o : Oper) (d : Nat), ops[i]? = some o → l.getD i false = true → o.dst = some d → a.tmps[d]? = some (vals i)

theorem getD_set' {l : Array Bool} {i j : Nat} (h : (l.setIfInBounds i true).getD j false = true) : j = i ∨ l.getD j false = true := by
  by_cases hji : j = i
  · exact .inl hji
  · right
    rw [Array.getD_eq_getD_getElem?, Array.getElem?_setIfInBounds_ne (Ne.symm hji), ← Array.getD_eq_getD_getElem?] at h
    exact h

theorem had_of {ops : Array Oper} {vals : Nat → Value} {a : Act} {l : Array Bool} (tv : ∀ (i : Nat) (o : Oper) (d : Nat), ops[i]? = some o → l.getD i false = true → o.dst = some d → a.tmps[d]? = some (vals i)) :
    ∀ es : List Edge, (∀ e ∈ es, l.getD e.on false = true) → Had vals a (es.filterMap fun e => ((ops[e.on]?).bind (·.dst)).map fun d => (d, e.on)) := by
  intro es
  induction es with
  | nil => exact fun _ => trivial
  | cons e es ih =>
    intro h
    have hr := ih (fun x hx => h x (List.mem_cons_of_mem _ hx))
    cases ho : ops[e.on]? with
    | none =>
      rw [List.filterMap_cons_none (by rw [ho]; rfl)]
      exact hr
    | some o =>
      cases hd : o.dst with
      | none =>
        rw [List.filterMap_cons_none (by rw [ho]; simp [hd])]
        exact hr
      | some d =>
        rw [List.filterMap_cons_some (b := (d, e.on)) (by rw [ho]; simp [hd])]
        exact And.intro (tv e.on o d ho (h e List.mem_cons_self) hd) hr

theorem LI.put {ops : Array Oper} {vals : Nat → Value} {A0 : Act} {W : World} {l : Array Bool} {a : Act} {w w' : World} (h : LI ops vals A0 W l a w) (hk : looksB ops A0.tmps.size = true) (hm : Nu w w') {i : Nat} {o : Oper} {d : Nat} (hi : ops[i]? = some o) (hd : o.dst = some d) :
    LI ops vals A0 W (l.setIfInBounds i true) ⟨a.tmps.setIfInBounds d (vals i), a.defers⟩ w' := by
  simp only [looksB, Bool.and_eq_true, List.all_eq_true] at hk
  have hlt : d < a.tmps.size := by
    have := hk.1.2 o (Array.mem_toList_iff.2 (Array.mem_of_getElem? hi))
    rw [hd] at this
    rw [h.sz]
    simpa using this
  refine ⟨by simp [h.ls], by simp [h.sz], h.df, mv0 h.nu hm, fun j hj => ?_, fun j o' d' hj hlj hd' => ?_⟩
  · have hne : d ≠ j := fun e => hj i o hi (by rw [hd, e])
    rw [Array.getElem?_setIfInBounds_ne hne]
    exact h.fr j hj
  · by_cases hji : j = i
    · subst hji
      rw [hi] at hj
      cases hj
      rw [hd] at hd'
      cases hd'
      rw [Array.getElem?_setIfInBounds_self]
      simp [hlt]
    · rcases getD_set' hlj with e | hlj
      · exact absurd e hji
      · have hne : d ≠ d' := fun e => hji (apartO_of hk.1.1 j i o' o d (by rw [Array.getElem?_toList]; exact hj) (by rw [Array.getElem?_toList]; exact hi) (by rw [e]; exact hd') hd)
        rw [Array.getElem?_setIfInBounds_ne hne]
        exact h.tv j o' d' hj hlj hd'

/-- THE LAW. -/
theorem wp_looks {ops : Array Oper} {A0 : Act} {W : World} {Q : Exit → Act → World → Prop} {id : Nat} (vals : Nat → Value) (hF : Tryd.prog.follows Departure.mixedOrders = true) (hk : looksB ops A0.tmps.size = true)
    (hstep : ∀ (i : Nat) (o : Oper) (d : Nat) (a : Act) (w : World), ops[i]? = some o → o.dst = some d → Nu W w → (∀ j : Nat, (∀ (i : Nat) (o : Oper), ops[i]? = some o → o.dst ≠ some j) → a.tmps[j]? = A0.tmps[j]?) → Had vals a (waits ops o) →
      ∀ K : Act → World → Prop, (∀ w', Nu w w' → K ⟨a.tmps.setIfInBounds d (vals i), a.defers⟩ w') → if Region.wanted o (yielded ops a.tmps) = true then Oper.wp Tryd.prog o a w K Q else K (a.put o.dst undef) w)
    (hQ : ∀ a w, Nu W w → a.defers = A0.defers → a.tmps.size = A0.tmps.size → (∀ j : Nat, (∀ (i : Nat) (o : Oper), ops[i]? = some o → o.dst ≠ some j) → a.tmps[j]? = A0.tmps[j]?) → (∀ (i : Nat) (o : Oper) (d : Nat), ops[i]? = some o → o.dst = some d → a.tmps[d]? = some (vals i)) → Q .normal a w) :
    Code.wp Tryd.prog (Code.region id ops true) Q A0 W := by
  have hk' := hk
  simp only [looksB, Bool.and_eq_true, List.all_eq_true] at hk'
  have hfalse : ∀ i, (Array.replicate ops.size false).getD i false = false := fun i => by
    rw [Array.getD_eq_getD_getElem?, Array.getElem?_replicate]
    split <;> rfl
  have hahead : ∀ (i : Nat) o, ops[i]? = some o → ∀ e ∈ o.after, Region.binds .any e = true → e.on < i := fun i o ho e he hb => by
    have := aheadB_of hk'.2 i o (by rw [Array.getElem?_toList]; exact ho) e he hb
    omega
  refine wp_region_inv hF (LI ops vals A0 W) ?_ ?_ ?_
  · exact ⟨by simp, rfl, rfl, Mv.drew _ _, fun _ _ => rfl, fun i _ _ _ hl => absurd hl (by rw [hfalse]; simp)⟩
  · intro l a w hI hrd
    have hall : ∀ i, i < ops.size → l.getD i false = true := by
      intro i
      induction i using Nat.strongRecOn with
      | _ i ih =>
        intro hi
        cases hg : l.getD i false with
        | true => rfl
        | false =>
          exfalso
          have hmem : i ∈ Region.ready .any ops l := by
            unfold Region.ready
            rw [List.mem_filter]
            refine ⟨List.mem_range.2 hi, ?_⟩
            obtain ⟨o, ho⟩ : ∃ o, ops[i]? = some o := ⟨_, Array.getElem?_eq_getElem hi⟩
            have hgt : l.getD i true = false := by
              have hls := hI.ls
              rw [Array.getD_eq_getD_getElem?, Array.getElem?_eq_getElem (by omega)] at hg ⊢
              simpa using hg
            rw [hgt, ho]
            simp only [Bool.not_false, Bool.true_and, Option.map_some, Option.getD_some]
            rw [Array.all_eq_true']
            intro e he
            cases hb : Region.binds .any e with
            | false => simp
            | true => rw [ih e.on (hahead i o ho e he hb) (by have := hahead i o ho e he hb; omega)]; simp
          rw [hrd] at hmem
          cases hmem
    exact hQ a w hI.nu hI.df hI.sz hI.fr (fun i o d ho hd => hI.tv i o d ho (hall i (Array.getElem?_eq_some_iff.1 ho).1) hd)
  · intro l a w i o hI ho _ haft
    have hdo : ∃ d, o.dst = some d := by
      have := hk'.1.2 o (Array.mem_toList_iff.2 (Array.mem_of_getElem? ho))
      cases hd : o.dst with
      | none => rw [hd] at this; cases this
      | some d => exact ⟨d, rfl⟩
    obtain ⟨d, hd⟩ := hdo
    refine hstep i o d a w ho hd hI.nu hI.fr (had_of hI.tv _ (fun e he => ?_)) (LI ops vals A0 W (l.setIfInBounds i true)) (fun w' hm => hI.put hk hm ho hd)
    rw [List.mem_filter] at he
    exact haft e (Array.mem_toList_iff.1 he.1) he.2

end Go.Proofs.YtidihaecgmbhpabDoor
/-
  Regions that draw their order and only look: the operations, by themselves.
-/
set_option linter.unusedSimpArgs false
namespace Go.Proofs.YtidihaecgmbhpabDoor
open Go.RowKit Q

theorem ite_yes {c : Bool} {p q : Prop} (h : c = true) (hp : p) : if c = true then p else q := by rw [if_pos h]; exact hp
theorem ite_no {c : Bool} {p q : Prop} (h : c = false) (hq : q) : if c = true then p else q := by rw [if_neg (by simp [h])]; exact hq

theorem want_none {o : Oper} {y : Nat → Option Bool} (h : o.guard = none) : Region.wanted o y = true := by simp [Region.wanted, h]
theorem want_some {ops : Array Oper} {o o' : Oper} {a : Act} {j d : Nat} {b : Bool} (h : o.guard = some (j, b)) (ho : ops[j]? = some o') (hd : o'.dst = some d) (hv : a.tmps[d]? = some (.bool b)) : Region.wanted o (yielded ops a.tmps) = true := by
  simp [Region.wanted, h, yielded, ho, hd, hv]
theorem want_not {ops : Array Oper} {o o' : Oper} {a : Act} {j d : Nat} {b : Bool} (h : o.guard = some (j, b)) (ho : ops[j]? = some o') (hd : o'.dst = some d) (hv : a.tmps[d]? = some (.bool (!b))) : Region.wanted o (yielded ops a.tmps) = false := by
  simp [Region.wanted, h, yielded, ho, hd, hv]

section
variable {o : Oper} {a : Act} {w : World} {K : Act → World → Prop} {Q : Exit → Act → World → Prop} {d : Nat}

theorem lk_move {s : Nat} {v : Value} (hd : o.dst = some d) (ho : o.op = .move (.tmp s)) (hs : a.tmps[s]? = some v) (hK : ∀ w', Nu w w' → K ⟨a.tmps.setIfInBounds d v, a.defers⟩ w') : Oper.wp Tryd.prog o a w K Q := by
  have he : a.eval (.tmp s) = v := by simp [Act.eval, hs]
  unfold Oper.wp execOp
  simp only [ho, he, hd]
  go_simp
  exact hK w (Mv.refl _ _)

theorem lk_assign {s : Nat} {v : Value} (hd : o.dst = some d) (ho : o.op = .assign (.tmp s)) (hs : a.tmps[s]? = some v) (hK : ∀ w', Nu w w' → K ⟨a.tmps.setIfInBounds d v, a.defers⟩ w') : Oper.wp Tryd.prog o a w K Q := by
  have he : a.eval (.tmp s) = v := by simp [Act.eval, hs]
  unfold Oper.wp execOp
  simp only [ho, he, hd]
  go_simp
  exact hK w (Mv.refl _ _)

theorem lk_load {s g : Nat} {k : Int} {n : ByteArray} {ao : Option Addr} {l c : Nat} (hd : o.dst = some d) (ho : o.op = .load 24 (.tmp s)) (hs : a.tmps[s]? = some (.pointer (some ⟨g, 0, none⟩)))
    (h0 : w.cell? ⟨g, 0, none⟩ = some (.int .i64 k)) (h1 : w.cell? ⟨g, 1, none⟩ = some (.string n)) (h2 : w.cell? ⟨g, 2, none⟩ = some (.slice ao l c)) (hK : ∀ w', Nu w w' → K ⟨a.tmps.setIfInBounds d (.agg #[.int .i64 k, .string n, .slice ao l c]), a.defers⟩ w') : Oper.wp Tryd.prog o a w K Q := by
  have he : a.eval (.tmp s) = .pointer (some ⟨g, 0, none⟩) := by simp [Act.eval, hs]
  unfold Oper.wp execOp
  simp only [ho, he, hd]
  go_simp
  exact hK w (Mv.refl _ _)

theorem lk_len {s : Nat} {ao : Option Addr} {l c : Nat} (hd : o.dst = some d) (ho : o.op = .call { callee := .builtin .len, args := #[.tmp s], argTypes := #[38] }) (hs : a.tmps[s]? = some (.slice ao l c)) (hK : ∀ w', Nu w w' → K ⟨a.tmps.setIfInBounds d (.int .i64 (l : Int)), a.defers⟩ w') : Oper.wp Tryd.prog o a w K Q := by
  unfold Oper.wp execOp
  simp only [ho, hd]
  go_simp
  exact hK w (Mv.refl _ _)

theorem lk_pickF {s r : Nat} {c v : Value} (hd : o.dst = some d) (ho : o.op = .pick (.tmp s) (.const c) (.tmp r)) (hs : a.tmps[s]? = some (.bool false)) (hr : a.tmps[r]? = some v) (hK : ∀ w', Nu w w' → K ⟨a.tmps.setIfInBounds d v, a.defers⟩ w') : Oper.wp Tryd.prog o a w K Q := by
  have he : a.eval (.tmp s) = .bool false := by simp [Act.eval, hs]
  have he' : a.eval (.tmp r) = v := by simp [Act.eval, hr]
  unfold Oper.wp execOp
  simp only [ho, hd]
  go_simp
  exact hK w (Mv.refl _ _)

theorem lk_pickT {s r : Nat} {c v : Value} (hd : o.dst = some d) (ho : o.op = .pick (.tmp s) (.tmp r) (.const c)) (hs : a.tmps[s]? = some (.bool true)) (hr : a.tmps[r]? = some v) (hK : ∀ w', Nu w w' → K ⟨a.tmps.setIfInBounds d v, a.defers⟩ w') : Oper.wp Tryd.prog o a w K Q := by
  have he : a.eval (.tmp s) = .bool true := by simp [Act.eval, hs]
  have he' : a.eval (.tmp r) = v := by simp [Act.eval, hr]
  unfold Oper.wp execOp
  simp only [ho, hd]
  go_simp
  exact hK w (Mv.refl _ _)

theorem lk_not {s : Nat} {b : Bool} (hd : o.dst = some d) (ho : o.op = .unOp .not 4 (.tmp s)) (hs : a.tmps[s]? = some (.bool b)) (hK : ∀ w', Nu w w' → K ⟨a.tmps.setIfInBounds d (.bool (!b)), a.defers⟩ w') : Oper.wp Tryd.prog o a w K Q := by
  have he : a.eval (.tmp s) = .bool b := by simp [Act.eval, hs]
  unfold Oper.wp execOp
  cases b <;> (simp only [ho, hd, he]; go_simp; exact hK w (Mv.refl _ _))

theorem lk_neqI {s r : Nat} {x : Int} {ty : TypeId} (ht : ty = 3 ∨ ty = 27) (hd : o.dst = some d) (ho : o.op = .binOp .neq ty (.tmp s) (.tmp r) ty) (hs : a.tmps[s]? = some (.int .i64 x)) (hr : a.tmps[r]? = some (.int .i64 x)) (hK : ∀ w', Nu w w' → K ⟨a.tmps.setIfInBounds d (.bool false), a.defers⟩ w') : Oper.wp Tryd.prog o a w K Q := by
  have he : a.eval (.tmp s) = .int .i64 x := by simp [Act.eval, hs]
  have he' : a.eval (.tmp r) = .int .i64 x := by simp [Act.eval, hr]
  unfold Oper.wp execOp
  rcases ht with rfl | rfl <;> (simp only [ho, hd, he, he']; go_simp; exact hK w (Mv.refl _ _))

theorem lk_neqB {s r : Nat} {b : Bool} (hd : o.dst = some d) (ho : o.op = .binOp .neq 4 (.tmp s) (.tmp r) 4) (hs : a.tmps[s]? = some (.bool b)) (hr : a.tmps[r]? = some (.bool b)) (hK : ∀ w', Nu w w' → K ⟨a.tmps.setIfInBounds d (.bool false), a.defers⟩ w') : Oper.wp Tryd.prog o a w K Q := by
  have he : a.eval (.tmp s) = .bool b := by simp [Act.eval, hs]
  have he' : a.eval (.tmp r) = .bool b := by simp [Act.eval, hr]
  unfold Oper.wp execOp
  cases b <;> (simp only [ho, hd, he, he']; go_simp; exact hK w (Mv.refl _ _))

theorem lk_eqlB {s r : Nat} {b : Bool} (hd : o.dst = some d) (ho : o.op = .binOp .eql 4 (.tmp s) (.tmp r) 4) (hs : a.tmps[s]? = some (.bool b)) (hr : a.tmps[r]? = some (.bool b)) (hK : ∀ w', Nu w w' → K ⟨a.tmps.setIfInBounds d (.bool true), a.defers⟩ w') : Oper.wp Tryd.prog o a w K Q := by
  have he : a.eval (.tmp s) = .bool b := by simp [Act.eval, hs]
  have he' : a.eval (.tmp r) = .bool b := by simp [Act.eval, hr]
  unfold Oper.wp execOp
  cases b <;> (simp only [ho, hd, he, he']; go_simp; exact hK w (Mv.refl _ _))

end

end Go.Proofs.YtidihaecgmbhpabDoor
/-
  Regions that draw their order and only look: the calls of LtlAround.
-/
set_option linter.unusedSimpArgs false
namespace Go.Proofs.YtidihaecgmbhpabDoor
open Go.RowKit Q

section
variable {o : Oper} {a : Act} {w : World} {K : Act → World → Prop} {Q : Exit → Act → World → Prop} {d : Nat}

theorem lk_ltlSame {s r : Nat} {u x v : Value} (hd : o.dst = some d) (ho : o.op = .call { callee := .value (.func 10), args := #[.tmp s, .tmp r], argTypes := #[24, 24] }) (hs : a.tmps[s]? = some u) (hr : a.tmps[r]? = some x) (hc : Looks 10 #[u, x] w v) (hK : ∀ w', Nu w w' → K ⟨a.tmps.setIfInBounds d v, a.defers⟩ w') : Oper.wp Tryd.prog o a w K Q := by
  have hes : a.eval (.tmp s) = u := by simp [Act.eval, hs]
  have her : a.eval (.tmp r) = x := by simp [Act.eval, hr]
  unfold Oper.wp execOp
  simp only [ho, hd]
  go_simp
  refine Calls.mono hc ?_
  rintro e w' ⟨rfl, hm⟩
  exact hK w' hm

theorem lk_known {v : Value} (hd : o.dst = some d) (ho : o.op = .call { callee := .value (.func 8), args := #[], argTypes := #[] }) (hc : Looks 8 #[] w v) (hK : ∀ w', Nu w w' → K ⟨a.tmps.setIfInBounds d v, a.defers⟩ w') : Oper.wp Tryd.prog o a w K Q := by
  unfold Oper.wp execOp
  simp only [ho, hd]
  go_simp
  refine Calls.mono hc ?_
  rintro e w' ⟨rfl, hm⟩
  exact hK w' hm

end

end Go.Proofs.YtidihaecgmbhpabDoor
/-
  A region that draws its order, looks and makes memory: what each operation's value is like, told by a relation that what is made besides keeps.
-/
set_option linter.unusedSimpArgs false
namespace Go.Proofs.YtidihaecgmbhpabDoor
open Go.RowKit Q

/-- The slots of the operations that are waited for, and what they hold. -/
def HadR (R : Nat → World → Value → Prop) (a : Act) (w : World) : List (Nat × Nat) → Prop
  | [] => True
  | p :: r => (∃ v, a.tmps[p.1]? = some v ∧ R p.2 w v) ∧ HadR R a w r

/-- What is known on the way. -/
structure LR (ops : Array Oper) (R : Nat → World → Value → Prop) (A0 : Act) (W : World) (l : Array Bool) (a : Act) (w : World) : Prop where
  ls : l.size = ops.size
  sz : a.tmps.size = A0.tmps.size
  df : a.defers = A0.defers
  nu : Nu W w
  fr : ∀ j : Nat, (∀ (i : Nat) (o : Oper), ops[i]? = some o → o.dst ≠ some j) → a.tmps[j]? = A0.tmps[j]?
  tv : ∀ (i : Nat) (o : Oper) (d : Nat), ops[i]? = some o → l.getD i false = true → o.dst = some d → ∃ v, a.tmps[d]? = some v ∧ R i w v

theorem hadR_of {ops : Array Oper} {R : Nat → World → Value → Prop} {a : Act} {w : World} {l : Array Bool} (tv : ∀ (i : Nat) (o : Oper) (d : Nat), ops[i]? = some o → l.getD i false = true → o.dst = some d → ∃ v, a.tmps[d]? = some v ∧ R i w v) :
    ∀ es : List Edge, (∀ e ∈ es, l.getD e.on false = true) → HadR R a w (es.filterMap fun e => ((ops[e.on]?).bind (·.dst)).map fun d => (d, e.on)) := by
  intro es
  induction es with
  | nil => exact fun _ => trivial
  | cons e es ih =>
    intro h
    have hr := ih (fun x hx => h x (List.mem_cons_of_mem _ hx))
    cases ho : ops[e.on]? with
    | none =>
      rw [List.filterMap_cons_none (by rw [ho]; rfl)]
      exact hr
    | some o =>
      cases hd : o.dst with
      | none =>
        rw [List.filterMap_cons_none (by rw [ho]; simp [hd])]
        exact hr
      | some d =>
        rw [List.filterMap_cons_some (b := (d, e.on)) (by rw [ho]; simp [hd])]
        exact And.intro (tv e.on o d ho (h e List.mem_cons_self) hd) hr

theorem LR.put {ops : Array Oper} {R : Nat → World → Value → Prop} {A0 : Act} {W : World} {l : Array Bool} {a : Act} {w w' : World} {v : Value} (h : LR ops R A0 W l a w) (hR : ∀ i w w' v, Nu w w' → R i w v → R i w' v) (hk : looksB ops A0.tmps.size = true) (hm : Nu w w') {i : Nat} {o : Oper} {d : Nat} (hi : ops[i]? = some o) (hd : o.dst = some d) (hv : R i w' v) :
    LR ops R A0 W (l.setIfInBounds i true) ⟨a.tmps.setIfInBounds d v, a.defers⟩ w' := by
  simp only [looksB, Bool.and_eq_true, List.all_eq_true] at hk
  have hlt : d < a.tmps.size := by
    have := hk.1.2 o (Array.mem_toList_iff.2 (Array.mem_of_getElem? hi))
    rw [hd] at this
    rw [h.sz]
    simpa using this
  refine ⟨by simp [h.ls], by simp [h.sz], h.df, mv0 h.nu hm, fun j hj => ?_, fun j o' d' hj hlj hd' => ?_⟩
  · have hne : d ≠ j := fun e => hj i o hi (by rw [hd, e])
    rw [Array.getElem?_setIfInBounds_ne hne]
    exact h.fr j hj
  · by_cases hji : j = i
    · subst hji
      rw [hi] at hj
      cases hj
      rw [hd] at hd'
      cases hd'
      exact ⟨v, by rw [Array.getElem?_setIfInBounds_self]; simp [hlt], hv⟩
    · rcases getD_set' hlj with e | hlj
      · exact absurd e hji
      · have hne : d ≠ d' := fun e => hji (apartO_of hk.1.1 j i o' o d (by rw [Array.getElem?_toList]; exact hj) (by rw [Array.getElem?_toList]; exact hi) (by rw [e]; exact hd') hd)
        obtain ⟨u, h1, h2⟩ := h.tv j o' d' hj hlj hd'
        exact ⟨u, by rw [Array.getElem?_setIfInBounds_ne hne]; exact h1, hR _ _ _ _ hm h2⟩

/-- THE LAW. -/
theorem wp_lookR {ops : Array Oper} {A0 : Act} {W : World} {Q : Exit → Act → World → Prop} {id : Nat} (R : Nat → World → Value → Prop) (hR : ∀ i w w' v, Nu w w' → R i w v → R i w' v) (hF : Tryd.prog.follows Departure.mixedOrders = true) (hk : looksB ops A0.tmps.size = true)
    (hstep : ∀ (i : Nat) (o : Oper) (d : Nat) (a : Act) (w : World), ops[i]? = some o → o.dst = some d → Nu W w → (∀ j : Nat, (ops.toList.all fun o => o.dst != some j) = true → a.tmps[j]? = A0.tmps[j]?) → HadR R a w (waits ops o) →
      ∀ K : Act → World → Prop, (∀ w' v, Nu w w' → R i w' v → K ⟨a.tmps.setIfInBounds d v, a.defers⟩ w') → if Region.wanted o (yielded ops a.tmps) = true then Oper.wp Tryd.prog o a w K Q else K (a.put o.dst undef) w)
    (hQ : ∀ a w, Nu W w → a.defers = A0.defers → a.tmps.size = A0.tmps.size → (∀ j : Nat, (∀ (i : Nat) (o : Oper), ops[i]? = some o → o.dst ≠ some j) → a.tmps[j]? = A0.tmps[j]?) → (∀ (i : Nat) (o : Oper) (d : Nat), ops[i]? = some o → o.dst = some d → ∃ v, a.tmps[d]? = some v ∧ R i w v) → Q .normal a w) :
    Code.wp Tryd.prog (Code.region id ops true) Q A0 W := by
  have hk' := hk
  simp only [looksB, Bool.and_eq_true, List.all_eq_true] at hk'
  have hfalse : ∀ i, (Array.replicate ops.size false).getD i false = false := fun i => by
    rw [Array.getD_eq_getD_getElem?, Array.getElem?_replicate]
    split <;> rfl
  have hahead : ∀ (i : Nat) o, ops[i]? = some o → ∀ e ∈ o.after, Region.binds .any e = true → e.on < i := fun i o ho e he hb => by
    have := aheadB_of hk'.2 i o (by rw [Array.getElem?_toList]; exact ho) e he hb
    omega
  refine wp_region_inv hF (LR ops R A0 W) ?_ ?_ ?_
  · exact ⟨by simp, rfl, rfl, Mv.drew _ _, fun _ _ => rfl, fun i _ _ _ hl => absurd hl (by rw [hfalse]; simp)⟩
  · intro l a w hI hrd
    have hall : ∀ i, i < ops.size → l.getD i false = true := by
      intro i
      induction i using Nat.strongRecOn with
      | _ i ih =>
        intro hi
        cases hg : l.getD i false with
        | true => rfl
        | false =>
          exfalso
          have hmem : i ∈ Region.ready .any ops l := by
            unfold Region.ready
            rw [List.mem_filter]
            refine ⟨List.mem_range.2 hi, ?_⟩
            obtain ⟨o, ho⟩ : ∃ o, ops[i]? = some o := ⟨_, Array.getElem?_eq_getElem hi⟩
            have hgt : l.getD i true = false := by
              have hls := hI.ls
              rw [Array.getD_eq_getD_getElem?, Array.getElem?_eq_getElem (by omega)] at hg ⊢
              simpa using hg
            rw [hgt, ho]
            simp only [Bool.not_false, Bool.true_and, Option.map_some, Option.getD_some]
            rw [Array.all_eq_true']
            intro e he
            cases hb : Region.binds .any e with
            | false => simp
            | true => rw [ih e.on (hahead i o ho e he hb) (by have := hahead i o ho e he hb; omega)]; simp
          rw [hrd] at hmem
          cases hmem
    exact hQ a w hI.nu hI.df hI.sz hI.fr (fun i o d ho hd => hI.tv i o d ho (hall i (Array.getElem?_eq_some_iff.1 ho).1) hd)
  · intro l a w i o hI ho _ haft
    have hdo : ∃ d, o.dst = some d := by
      have := hk'.1.2 o (Array.mem_toList_iff.2 (Array.mem_of_getElem? ho))
      cases hd : o.dst with
      | none => rw [hd] at this; cases this
      | some d => exact ⟨d, rfl⟩
    obtain ⟨d, hd⟩ := hdo
    refine hstep i o d a w ho hd hI.nu (fun j hj => hI.fr j (fun i' o' ho' => ?_)) (hadR_of hI.tv _ (fun e he => ?_)) (LR ops R A0 W (l.setIfInBounds i true)) (fun w' v hm hv => hI.put hR hk hm ho hd hv)
    · rw [List.all_eq_true] at hj
      have := hj o' (Array.mem_toList_iff.2 (Array.mem_of_getElem? ho'))
      simpa using this
    · rw [List.mem_filter] at he
      exact haft e (Array.mem_toList_iff.1 he.1) he.2

end Go.Proofs.YtidihaecgmbhpabDoor
/-
  A formula's kids in memory, its text's length. No walk.
-/
set_option linter.unusedSimpArgs false
namespace Go.Proofs.YtidihaecgmbhpabDoor
open Go.RowKit Q

/-- The kids of a formula, in memory. -/
theorem kid_u {w : World} {P : Nat → Prop} {c0 c1 c2 : Value} {o : U} {a : F} (h : TIn w P c0 c1 c2 (F.u o a).t) :
    ∃ b p cap d0 d1 d2, c0 = .int .i64 o.kind ∧ c1 = .string (strOfL []) ∧ c2 = .slice (some ⟨b, p, none⟩) 1 cap ∧ w.cell? ⟨b, p, none⟩ = some d0 ∧ w.cell? ⟨b, p + 1, none⟩ = some d1 ∧ w.cell? ⟨b, p + 2, none⟩ = some d2 ∧ TIn w P d0 d1 d2 a.t := by
  obtain ⟨_, _, _, h0, h1, ao, cap, h2, hk⟩ := h.form
  obtain ⟨b, p, d0, d1, d2, rfl, e0, e1, e2, ht⟩ := hk 0 a.t rfl
  exact ⟨b, p, cap, d0, d1, d2, h0, h1, h2, by simpa using e0, by simpa using e1, by simpa using e2, ht⟩

theorem kid_b {w : World} {P : Nat → Prop} {c0 c1 c2 : Value} {o : B} {a c : F} (h : TIn w P c0 c1 c2 (F.b o a c).t) :
    ∃ b p cap d0 d1 d2 e0 e1 e2, c0 = .int .i64 o.kind ∧ c1 = .string (strOfL []) ∧ c2 = .slice (some ⟨b, p, none⟩) 2 cap ∧ w.cell? ⟨b, p, none⟩ = some d0 ∧ w.cell? ⟨b, p + 1, none⟩ = some d1 ∧ w.cell? ⟨b, p + 2, none⟩ = some d2 ∧ TIn w P d0 d1 d2 a.t ∧
      w.cell? ⟨b, p + 3, none⟩ = some e0 ∧ w.cell? ⟨b, p + 3 + 1, none⟩ = some e1 ∧ w.cell? ⟨b, p + 3 + 2, none⟩ = some e2 ∧ TIn w P e0 e1 e2 c.t := by
  obtain ⟨_, _, _, h0, h1, ao, cap, h2, hk⟩ := h.form
  obtain ⟨b, p, d0, d1, d2, rfl, x0, x1, x2, ht⟩ := hk 0 a.t rfl
  obtain ⟨b', p', e0, e1, e2, hb, y0, y1, y2, hu⟩ := hk 1 c.t rfl
  simp only [Option.some.injEq, Addr.mk.injEq] at hb
  obtain ⟨rfl, rfl, _⟩ := hb
  exact ⟨b, p, cap, d0, d1, d2, e0, e1, e2, h0, h1, h2, by simpa using x0, by simpa using x1, by simpa using x2, ht, y0, y1, y2, hu⟩

theorem text_len (f : F) : f.ok = true → f.text.length ≤ 40 * f.size := by
  have hp : ∀ (x : Bool) (s : Wd), (par x s).length ≤ s.length + 2 := fun x s => by cases x <;> simp [par]
  induction f with
  | tt => exact fun _ => by decide
  | ff => exact fun _ => by decide
  | pr s => intro h; have := (isName_parts h).1; simp only [F.text, F.size]; omega
  | u o a ih =>
    intro h
    have h1 := ih h
    have h2 := hp (decide (a.level < 5)) a.text
    have h3 : (up o).length ≤ 3 := by cases o <;> decide
    simp only [F.text, F.size, List.length_append]
    omega
  | b o a c iha ihc =>
    intro h
    have h' : a.ok = true ∧ c.ok = true := by simpa [F.ok] using h
    have h1 := iha h'.1
    have h1' := ihc h'.2
    have h2 := hp (decide (a.level < lft o)) a.text
    have h2' := hp (decide (c.level < rgt o)) c.text
    have h3 : (bw o).length ≤ 3 := by cases o <;> decide
    simp only [F.text, F.size, List.length_append, List.length_cons, List.length_nil]
    omega

theorem f_form {w : World} {P : Nat → Prop} {c0 c1 c2 : Value} {f : F} (h : TIn w P c0 c1 c2 f.t) : ∃ n ao m cap, c0 = .int .i64 f.t.kind ∧ c1 = .string (strOfL n) ∧ c2 = .slice ao m cap := by
  generalize f.t = t at *
  cases t with
  | mk k n l => obtain ⟨_, _, _, h0, h1, ao, cap, h2, _⟩ := h.form; exact ⟨n, ao, _, cap, h0, h1, h2⟩

end Go.Proofs.YtidihaecgmbhpabDoor
