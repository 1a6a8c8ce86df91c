/-
  SEnv, SReadAst, SReadUnits, SReadAst2, SParse, SVals, SAwake, SValsB0, SValsB1, SValsE0, SValsE1, SDeepVals, SDeepWalk.
-/
import Derived.Deep.LoopGhost
import Derived.Test.YthmdgbmodgfcmaaGreatDoorM18
import Derived.Test.YthmdgbmodgfcmaaGreatDoorM19
import Derived.Test.YthmdgbmodgfcmaaGreatDoorM21
/-
  A reader over a text's words: its environment out of what Tokens hands back.
-/
namespace Go.Proofs.YthmdgbmodgfcmaaGreatDoor
open Go.RowKit

/-- No word of these two stands in it. -/
def plain (T : List Tok) : Bool := T.all (fun t => !(t.kind == 4 && (t.text == [117, 110, 108, 101, 115, 115] || t.text == [108, 116, 108])))

theorem plain_key {T : List Tok} (h : plain T = true) (len : Nat) (text : List UInt8) (s : List UInt8) (hs : s = [117, 110, 108, 101, 115, 115] ∨ s = [108, 116, 108]) : ¬ ∃ i, Cx.keyAt ⟨len, text, T⟩ i = s := by
  rintro ⟨i, hi⟩
  unfold Cx.keyAt at hi
  simp only at hi
  cases ht : T[i]? with
  | none => rw [ht] at hi; rcases hs with rfl | rfl <;> simp at hi
  | some t =>
    rw [ht] at hi
    simp only at hi
    have := List.all_eq_true.1 h t (List.mem_of_getElem? ht)
    split at hi
    · rename_i hk
      rw [hk, hi] at this
      rcases hs with rfl | rfl <;> simp at this
    · rcases hs with rfl | rfl <;> simp at hi

/-- The reader's environment. -/
def envOf (s : ByteArray) (T : List Tok) (h : tokens (bytesOf s) = .ok T) (rb wb : Nat) (ao : Option Addr) (cap : Nat) (hne : rb ≠ wb) (h1 : rb ≠ 1) (hao : T ≠ [] → ao = some ⟨wb, 0, none⟩) : Env where
  c := ⟨s.size, bytesOf s, T⟩
  s := s
  rb := rb
  wb := wb
  ao := ao
  cap := cap
  small := by have := tokens_facts h; show T.length ≤ 65536; omega
  size := rfl
  len := by have := (tokens_facts h).1; rw [bytesOf_length] at this; exact this
  ne := hne
  r1 := h1
  ao_eq := fun i t ht => hao (by rintro rfl; simp at ht)
  ats := fun i t ht => by have := ((tokens_facts h).2.1 t (List.mem_of_getElem? ht)).1; rw [bytesOf_length] at this; exact this
  txt := rfl
  mono := fun i j t u hij ht hu => by
    obtain ⟨hi, rfl⟩ := List.getElem?_eq_some_iff.1 ht
    obtain ⟨hj, rfl⟩ := List.getElem?_eq_some_iff.1 hu
    exact List.pairwise_iff_getElem.1 (tokens_facts h).2.2.1 i j hi hj hij
  nums := fun i t ht => ((tokens_facts h).2.1 t (List.mem_of_getElem? ht)).2

theorem TN.mv {S : Nat → Prop} {w w' : World} (h : TN w) (hk : Mv S w w') (hs : ¬ S 1) : TN w' := fun k s hs' => cell_mv hk (h k s hs') hs

/-- Words in a slice, and its block. -/
structure Wds (w : World) (T : List Tok) (ao : Option Addr) (wb cap : Nat) : Prop where
  ao : T ≠ [] → ao = some ⟨wb, 0, none⟩
  words : ∀ (k : Nat) (t : Tok), T[k]? = some t → w.cell? ⟨wb, k * 4, none⟩ = some (.int .i64 (t.kind : Int)) ∧ w.cell? ⟨wb, k * 4 + 1, none⟩ = some (.string (strOfL t.text)) ∧ w.cell? ⟨wb, k * 4 + 2, none⟩ = some (.int .i64 (t.n : Int)) ∧ w.cell? ⟨wb, k * 4 + 3, none⟩ = some (.int .i64 (t.at_ : Int))
  lt : wb < w.heap.size

theorem wds_of {W : World} {base : Nat} {T : List Tok} {v : Value} (h : W.ownsRow base 104 4 v T.length (tokCells T)) (hsz : 0 < W.heap.size) : ∃ ao cap wb, v = .slice ao T.length cap ∧ Wds W T ao wb cap ∧ (wb = 0 ∨ base ≤ wb) := by
  obtain ⟨ao, cap, rfl⟩ := row_form h
  by_cases hn : 0 < T.length
  · obtain ⟨g, cp, hv, hbase, hlt⟩ := World.ownsRow.form h hn
    obtain ⟨rfl, rfl⟩ : ao = some ⟨g, 0, none⟩ ∧ cap = cp := by simpa using hv
    have hc := fun k hk => tok_cells h k hk
    refine ⟨_, _, g, rfl, ⟨fun _ => rfl, fun k t ht => ?_, hlt⟩, .inr hbase⟩
    obtain ⟨hk, rfl⟩ := List.getElem?_eq_some_iff.1 ht
    exact hc k hk
  · have : T = [] := List.eq_nil_of_length_eq_zero (by omega)
    subst this
    exact ⟨ao, cap, 0, rfl, ⟨fun h => absurd rfl h, fun k t ht => by simp at ht, hsz⟩, .inl rfl⟩

theorem Wds.mv {S : Nat → Prop} {w w' : World} {T : List Tok} {ao : Option Addr} {wb cap : Nat} (h : Wds w T ao wb cap) (hk : Mv S w w') (hs : ¬ S wb) : Wds w' T ao wb cap :=
  ⟨h.ao, fun k t ht => by obtain ⟨a, b, c, d⟩ := h.words k t ht; exact ⟨cell_mv hk a hs, cell_mv hk b hs, cell_mv hk c hs, cell_mv hk d hs⟩, Nat.lt_of_lt_of_le h.lt hk.size⟩

/-- A new block of zero cells may be read into. -/
theorem At.new (w : World) (t : TypeId) (T : Ty) : At ty (w.alloc (.cells ((zero T).map zval).toArray t (0, 0))) (fun _ => False) w.heap.size t (zero T).length 0 (zero T) := by
  refine ⟨⟨((zero T).map zval).toArray, fun _ _ => False, heap_alloc_new _ _, by simp, fun i d hd => ⟨zval d, by simp [hd], zval_is _ _ _ T d (List.mem_of_getElem? hd)⟩, fun _ _ h => h, fun _ _ _ h => h.elim⟩, by simp, fun h => h, fun _ h => h.elim⟩

end Go.Proofs.YthmdgbmodgfcmaaGreatDoor
/-
  What reading a text as an expression does.
-/
namespace Go.Proofs.YthmdgbmodgfcmaaGreatDoor
open Go.RowKit

/-- What reading a text gives; none: not told here. -/
def readV (g : Goal) (sh : List D → Bool) (dp : List D → Option Nat) (f : Nat) (l : List UInt8) : Option (Except Mis (List D)) :=
  match tokens l with
  | .error m => some (.error m)
  | .ok T => if plain T then match run ⟨l.length, l, T⟩ f g 0 with
      | .error m => if m = (0, 0) then none else some (.error m)
      | .ok (ds, i) => if i < T.length then some (.error (Cx.refuse ⟨l.length, l, T⟩ i)) else if sh ds then match dp ds with
        | none => none
        | some n => some (if 60 < n then .error (3, 0) else .ok ds) else none
    else none

def shAst : List D → Bool
  | [.num _, .num _, .str _, .str _, .row .str _, .row .ast _, .row .bool _, .row .ast _, .row .arg _] => true
  | _ => false
theorem shAst_some {ds : List D} (h : shAst ds = true) : ∃ n0 n1 s2 s3 r4 r5 r6 r7 r8, ds = [.num n0, .num n1, .str s2, .str s3, .row .str r4, .row .ast r5, .row .bool r6, .row .ast r7, .row .arg r8] := by
  unfold shAst at h
  split at h
  · exact ⟨_, _, _, _, _, _, _, _, _, rfl⟩
  · cases h

abbrev S0 : Value := .slice none 0 0
abbrev zAstV : Value := .agg #[.int .i64 0, .int .i64 0, .string ⟨#[]⟩, .string ⟨#[]⟩, S0, S0, S0, S0, S0]
abbrev misV (m : Mis) : Value := .agg #[.int .i64 (m.1 : Int), .int .i64 (m.2 : Int)]
abbrev A0 : Obj := .cells #[.int .i64 0, .int .i64 0, .string ⟨#[]⟩, .string ⟨#[]⟩, S0, S0, S0, S0, S0] 41 (0, 0)
abbrev M0 : Obj := .cells #[.int .i64 0, .int .i64 0] 26 (0, 0)

/-- An expression's value. -/
structure AstV (w : World) (B : Nat) (v : Value) (ds : List D) : Prop where
  ex : ∃ (n0 n1 : Int) (s2 s3 : ByteArray) (v4 v5 v6 v7 v8 : Value), v = .agg #[.int .i64 n0, .int .i64 n1, .string s2, .string s3, v4, v5, v6, v7, v8] ∧ shAst ds = true ∧
    ∀ (i : Nat) (d : D), ds[i]? = some d → ∃ u, [Value.int .i64 n0, .int .i64 n1, .string s2, .string s3, v4, v5, v6, v7, v8][i]? = some u ∧ DIs ty w (fun x => B ≤ x) u d

def AstOut (w : World) (r : Except Mis (List D)) (e : Ending) (w' : World) : Prop := Mv (fun _ => False) w w' ∧ match r with
  | .error m => e = .returned (.tuple #[zAstV, misV m])
  | .ok ds => ∃ v, e = .returned (.tuple #[v, misV (0, 0)]) ∧ AstV w' w.heap.size v ds

theorem facts9 {w : World} {b : Nat} {t : TypeId} {a0 a1 a2 a3 a4 a5 a6 a7 a8 : Value} (h : w.heap[b]? = some (.cells #[a0, a1, a2, a3, a4, a5, a6, a7, a8] t (0, 0))) :
    (w.cell? ⟨b, 0, none⟩ = some a0 ∧ w.cell? ⟨b, 1, none⟩ = some a1 ∧ w.cell? ⟨b, 2, none⟩ = some a2 ∧ w.cell? ⟨b, 3, none⟩ = some a3 ∧ w.cell? ⟨b, 4, none⟩ = some a4 ∧ w.cell? ⟨b, 5, none⟩ = some a5 ∧ w.cell? ⟨b, 6, none⟩ = some a6 ∧ w.cell? ⟨b, 7, none⟩ = some a7 ∧ w.cell? ⟨b, 8, none⟩ = some a8) ∧
      ∀ i, w.frozen? ⟨b, i, none⟩ = false :=
  ⟨⟨by rw [cell_blk h]; rfl, by rw [cell_blk h]; rfl, by rw [cell_blk h]; rfl, by rw [cell_blk h]; rfl, by rw [cell_blk h]; rfl, by rw [cell_blk h]; rfl, by rw [cell_blk h]; rfl, by rw [cell_blk h]; rfl, by rw [cell_blk h]; rfl⟩, free_blk h⟩
theorem facts2 {w : World} {b : Nat} {t : TypeId} {a0 a1 : Value} (h : w.heap[b]? = some (.cells #[a0, a1] t (0, 0))) :
    w.cell? ⟨b, 0, none⟩ = some a0 ∧ w.cell? ⟨b, 1, none⟩ = some a1 ∧ w.frozen? ⟨b, 0, none⟩ = false ∧ w.frozen? ⟨b, 1, none⟩ = false :=
  ⟨by rw [cell_blk h]; rfl, by rw [cell_blk h]; rfl, free_blk h 0, free_blk h 1⟩

/-- The cells of the answers. -/
structure Tw (w W : World) (cs ms : Array Value) : Prop where
  a : W.heap[w.heap.size]? = some (.cells cs 41 (0, 0))
  m : W.heap[w.heap.size + 1]? = some (.cells ms 26 (0, 0))
  mv : Mv (fun _ => False) w W

theorem Mv.old {w W : World} (h : Mv (fun _ => False) w W) (p : Addr) (u : Value) (hp : w.heap.size ≤ p.block) : Mv (fun _ => False) w (W.setCell p u) :=
  h.trans (Mv.setCell W p u) (fun x hx => .inr (by rw [hx]; exact hp))
theorem Tw.setA {w W : World} {cs ms : Array Value} (h : Tw w W cs ms) (i : Nat) (u : Value) : Tw w (W.setCell ⟨w.heap.size, i, none⟩ u) (cs.setIfInBounds i u) ms :=
  ⟨setCell_blk h.a, (set_other (by omega)).trans h.m, h.mv.old _ _ (Nat.le_refl _)⟩
theorem Tw.setM {w W : World} {cs ms : Array Value} (h : Tw w W cs ms) (i : Nat) (u : Value) : Tw w (W.setCell ⟨w.heap.size + 1, i, none⟩ u) cs (ms.setIfInBounds i u) :=
  ⟨(set_other (by omega)).trans h.a, setCell_blk h.m, h.mv.old _ _ (Nat.le_succ _)⟩
theorem Tw.drew {w W : World} {cs ms : Array Value} (h : Tw w W cs ms) : Tw w W.drew cs ms := ⟨h.a, h.m, h.mv.trans (Mv.drew (fun _ => False) W) (fun _ h => h.elim)⟩
theorem Tw.go {S : Nat → Prop} {w W W' : World} {cs ms : Array Value} (h : Tw w W cs ms) (hm : Mv S W W') (ha : ¬ S w.heap.size) (hb : ¬ S (w.heap.size + 1)) (hs : ∀ x, S x → w.heap.size ≤ x) : Tw w W' cs ms :=
  ⟨hm.heap h.a ha, hm.heap h.m hb, h.mv.trans hm (fun x hx => .inr (hs x hx))⟩

/-- The answers are read. -/
theorem resAst {w W : World} {a0 a1 a2 a3 a4 a5 a6 a7 a8 x y : Value} (h : Tw w W #[a0, a1, a2, a3, a4, a5, a6, a7, a8] #[x, y]) {T : Array Value} (h6 : T[6]?.getD undef = .pointer (some ⟨w.heap.size, 0, none⟩)) (h7 : T[7]?.getD undef = .pointer (some ⟨w.heap.size + 1, 0, none⟩)) :
    (results Tryz.f22 T).run Tryz.prog W = .ok (.tuple #[.agg #[a0, a1, a2, a3, a4, a5, a6, a7, a8], .agg #[x, y]]) W := by
  obtain ⟨⟨c0, c1, c2, c3, c4, c5, c6, c7, c8⟩, _⟩ := facts9 h.a
  obtain ⟨d0, d1, _⟩ := facts2 h.m
  simp only [results, Tryz.results22]
  simp [h6, h7, go_sem, c0, c1, c2, c3, c4, c5, c6, c7, c8, d0, d1]

abbrev zc : Array Value := #[.int .i64 0, .int .i64 0, .string ⟨#[]⟩, .string ⟨#[]⟩, S0, S0, S0, S0, S0]

/-- A refusal goes through the door. -/
theorem leave_panic {w w4 : World} {x y : Value} (h : Tw w w4 zc #[x, y]) (m : Mis) {T : Array Value} (h6 : T[6]?.getD undef = .pointer (some ⟨w.heap.size, 0, none⟩)) (h7 : T[7]?.getD undef = .pointer (some ⟨w.heap.size + 1, 0, none⟩)) :
    bodyPostD Tryz.prog Tryz.f22 (AstOut w (.error m)) (.panic (thrown m)) { tmps := T, defers := [{ target := .fn (.func 43) #[.pointer (some ⟨w.heap.size + 1, 0, none⟩)], args := #[] }] } w4 := by
  refine leaves_cons (f := 43) (args := #[.pointer (some ⟨w.heap.size + 1, 0, none⟩)]) (by simp) (by simp [go_sem]) ?_
  refine (catchAst_panicking (w.heap.size + 1) m w4 _ _ h.m).mono ?_
  rintro e u' w5 ⟨rfl, rfl, hb, hmv⟩
  have h5 : Tw w w5 zc #[.int .i64 (m.1 : Int), .int .i64 (m.2 : Int)] := ⟨hmv.heap h.a (by simp), hb, h.mv.trans hmv (fun x hx => .inr (by subst hx; omega))⟩
  exact ⟨_, resAst h5 h6 h7, h5.mv, rfl⟩

/-- A return goes through the door. -/
theorem leave_ret {w w4 : World} {a0 a1 a2 a3 a4 a5 a6 a7 a8 x y : Value} (h : Tw w w4 #[a0, a1, a2, a3, a4, a5, a6, a7, a8] #[x, y]) {R : Ending → World → Prop} {T : Array Value} (h6 : T[6]?.getD undef = .pointer (some ⟨w.heap.size, 0, none⟩)) (h7 : T[7]?.getD undef = .pointer (some ⟨w.heap.size + 1, 0, none⟩))
    (hR : R (.returned (.tuple #[.agg #[a0, a1, a2, a3, a4, a5, a6, a7, a8], .agg #[x, y]])) w4) :
    bodyPostD Tryz.prog Tryz.f22 R .ret { tmps := T, defers := [{ target := .fn (.func 43) #[.pointer (some ⟨w.heap.size + 1, 0, none⟩)], args := #[] }] } w4 := by
  refine leaves_cons (f := 43) (args := #[.pointer (some ⟨w.heap.size + 1, 0, none⟩)]) (by simp) (by simp [go_sem]) ?_
  refine (catchAst_idle ⟨w.heap.size + 1, 0, none⟩ w4).mono ?_
  rintro e u' w5 ⟨rfl, rfl, rfl⟩
  exact ⟨_, resAst h h6 h7, hR⟩

set_option maxHeartbeats 4000000 in
theorem readAst_bad (s : ByteArray) (m : Mis) (ht : tokens (bytesOf s) = .error m) (w : World) (hG : G w) (g1 g2 : Value) :
    Calls Tryz.prog 22 #[.string s, g1, g2] w (AstOut w (.error m)) := by
  have HT : Hid (∀ w, G w → Calls Tryz.prog 28 #[.string s] w (TokOut 104 w (.error m))) := fun w hG => by rw [← ht]; exact Tokens_any s w hG
  obtain ⟨c, k⟩ := m
  have hc : ((c : Int) == 0) = false := by have := tokens_code ht; simpa using this
  clear ht
  have hG1 : G ((w.alloc A0).alloc M0) := (hG.kept (Kept.alloc [] w A0)).kept (Kept.alloc [] _ M0)
  have HG : Hid (G ((w.alloc A0).alloc M0)) := hG1
  clear hG hG1
  go_enter_defers Tryz.func22, Tryz.ntmps22
  go_wp2_with fail
  refine (HT.out _ HG.out).mono ?_
  intro e w2 ho
  obtain ⟨rfl, hk⟩ := ho
  have ht : Tw w w2 #[.int .i64 0, .int .i64 0, .string ⟨#[]⟩, .string ⟨#[]⟩, S0, S0, S0, S0, S0] #[.int .i64 0, .int .i64 0] :=
    ⟨hk.heap ((Kept.alloc [] (w.alloc A0) M0).heap (heap_alloc_new w A0) (by simp)) (by simp), hk.heap (new_at (w.alloc A0) M0 _ (by simp)) (by simp), ((Mv.alloc (fun _ => False) w A0).trans (Mv.alloc (fun _ => False) _ M0) (fun _ h => h.elim)).trans (Mv.of_kept hk) (by simp)⟩
  obtain ⟨⟨a0, a1, a2, a3, a4, a5, a6, a7, a8⟩, af⟩ := facts9 ht.a
  obtain ⟨m0, m1, f0, f1⟩ := facts2 ht.m
  have f2 := af 0; have f3 := af 1; have f4 := af 2; have f5 := af 3; have f6 := af 4; have f7 := af 5; have f8 := af 6; have f9 := af 7; have f10 := af 8
  have HW : Hid (Tw w w2 #[.int .i64 0, .int .i64 0, .string ⟨#[]⟩, .string ⟨#[]⟩, S0, S0, S0, S0, S0] #[.int .i64 0, .int .i64 0]) := ht
  clear hk ht af
  go_wp2_with fail
  go_region
  all_goals go_wp2_with fail
  have hT := (((((((((((((HW.out.setM 0 (.int .i64 (c : Int))).setM 1 (.int .i64 (k : Int))).setA 0 (.int .i64 0)).setA 1 (.int .i64 0)).setA 2 (.string ⟨#[]⟩)).setA 3 (.string ⟨#[]⟩)).setA 4 S0).setA 5 S0).setA 6 S0).setA 7 S0).setA 8 S0).setM 0 (.int .i64 (c : Int))).setM 1 (.int .i64 (k : Int))).drew
  exact ⟨_, resAst hT rfl rfl, hT.mv, rfl⟩

end Go.Proofs.YthmdgbmodgfcmaaGreatDoor
/-
  What reading a text as units does.
-/
namespace Go.Proofs.YthmdgbmodgfcmaaGreatDoor
open Go.RowKit

def shUnits : List D → Bool
  | [.row .unit _] => true
  | _ => false
theorem shUnits_some {ds : List D} (h : shUnits ds = true) : ∃ els, ds = [.row .unit els] := by
  unfold shUnits at h
  split at h
  · exact ⟨_, rfl⟩
  · cases h

def UnitsOut (w : World) (r : Except Mis (List D)) (e : Ending) (w' : World) : Prop := Mv (fun _ => False) w w' ∧ match r with
  | .error m => e = .returned (.tuple #[S0, misV m])
  | .ok ds => ∃ v els, ds = [.row .unit els] ∧ e = .returned (.tuple #[v, misV (0, 0)]) ∧ DIs ty w' (fun x => w.heap.size ≤ x) v (.row .unit els)

/-- The mishap's cells. -/
structure Tu (w W : World) (ms : Array Value) : Prop where
  m : W.heap[w.heap.size]? = some (.cells ms 26 (0, 0))
  mv : Mv (fun _ => False) w W
theorem Tu.setM {w W : World} {ms : Array Value} (h : Tu w W ms) (i : Nat) (u : Value) : Tu w (W.setCell ⟨w.heap.size, i, none⟩ u) (ms.setIfInBounds i u) := ⟨setCell_blk h.m, h.mv.old _ _ (Nat.le_refl _)⟩
theorem Tu.drew {w W : World} {ms : Array Value} (h : Tu w W ms) : Tu w W.drew ms := ⟨h.m, h.mv.trans (Mv.drew (fun _ => False) W) (fun _ h => h.elim)⟩
theorem Tu.go {S : Nat → Prop} {w W W' : World} {ms : Array Value} (h : Tu w W ms) (hm : Mv S W W') (ha : ¬ S w.heap.size) (hs : ∀ x, S x → w.heap.size ≤ x) : Tu w W' ms := ⟨hm.heap h.m ha, h.mv.trans hm (fun x hx => .inr (hs x hx))⟩

theorem resUnits {w W : World} {x y v : Value} (h : Tu w W #[x, y]) {T : Array Value} (h6 : T[6]?.getD undef = v) (h7 : T[7]?.getD undef = .pointer (some ⟨w.heap.size, 0, none⟩)) :
    (results Tryz.f13 T).run Tryz.prog W = .ok (.tuple #[v, .agg #[x, y]]) W := by
  obtain ⟨d0, d1, _⟩ := facts2 h.m
  simp only [results, Tryz.results13]
  simp [h6, h7, go_sem, d0, d1]

theorem leaveU_panic {w w4 : World} {x y : Value} (h : Tu w w4 #[x, y]) (m : Mis) {T : Array Value} (h6 : T[6]?.getD undef = S0) (h7 : T[7]?.getD undef = .pointer (some ⟨w.heap.size, 0, none⟩)) :
    bodyPostD Tryz.prog Tryz.f13 (UnitsOut w (.error m)) (.panic (thrown m)) { tmps := T, defers := [{ target := .fn (.func 29) #[.pointer (some ⟨w.heap.size, 0, none⟩)], args := #[] }] } w4 := by
  refine leaves_cons (f := 29) (args := #[.pointer (some ⟨w.heap.size, 0, none⟩)]) (by simp) (by simp [go_sem]) ?_
  refine (catchUnits_panicking w.heap.size m w4 _ _ h.m).mono ?_
  rintro e u' w5 ⟨rfl, rfl, hb, hmv⟩
  have h5 : Tu w w5 #[.int .i64 (m.1 : Int), .int .i64 (m.2 : Int)] := ⟨hb, h.mv.trans hmv (fun x hx => .inr (by subst hx; omega))⟩
  exact ⟨_, resUnits h5 h6 h7, h5.mv, rfl⟩

theorem leaveU_ret {w w4 : World} {x y v : Value} (h : Tu w w4 #[x, y]) {R : Ending → World → Prop} {T : Array Value} (h6 : T[6]?.getD undef = v) (h7 : T[7]?.getD undef = .pointer (some ⟨w.heap.size, 0, none⟩))
    (hR : R (.returned (.tuple #[v, .agg #[x, y]])) w4) :
    bodyPostD Tryz.prog Tryz.f13 R .ret { tmps := T, defers := [{ target := .fn (.func 29) #[.pointer (some ⟨w.heap.size, 0, none⟩)], args := #[] }] } w4 := by
  refine leaves_cons (f := 29) (args := #[.pointer (some ⟨w.heap.size, 0, none⟩)]) (by simp) (by simp [go_sem]) ?_
  refine (catchUnits_idle ⟨w.heap.size, 0, none⟩ w4).mono ?_
  rintro e u' w5 ⟨rfl, rfl, rfl⟩
  exact ⟨_, resUnits h h6 h7, hR⟩

theorem DIs.sliceU {w : World} {F : Nat → Prop} {v : Value} {t : Ty} {els : List (List D)} (h : DIs ty w F v (.row t els)) : ∃ ao l c, v = .slice ao l c := by
  cases h with
  | nil => exact ⟨_, _, _, rfl⟩
  | row => exact ⟨_, _, _, rfl⟩

set_option maxHeartbeats 4000000 in
theorem readUnits_bad (s : ByteArray) (m : Mis) (ht : tokens (bytesOf s) = .error m) (w : World) (hG : G w) (g1 g2 : Value) :
    Calls Tryz.prog 13 #[.string s, g1, g2] w (UnitsOut w (.error m)) := by
  have HT : Hid (∀ w, G w → Calls Tryz.prog 28 #[.string s] w (TokOut 104 w (.error m))) := fun w hG => by rw [← ht]; exact Tokens_any s w hG
  obtain ⟨c, k⟩ := m
  have hc : ((c : Int) == 0) = false := by have := tokens_code ht; simpa using this
  clear ht
  have HG : Hid (G (w.alloc M0)) := hG.kept (Kept.alloc [] w M0)
  clear hG
  go_enter_defers Tryz.func13, Tryz.ntmps13
  go_wp2_with fail
  refine (HT.out _ HG.out).mono ?_
  intro e w2 ho
  obtain ⟨rfl, hk⟩ := ho
  have ht : Tu w w2 #[.int .i64 0, .int .i64 0] := ⟨hk.heap (heap_alloc_new w M0) (by simp), (Mv.alloc (fun _ => False) w M0).trans (Mv.of_kept hk) (by simp)⟩
  obtain ⟨m0, m1, f0, f1⟩ := facts2 ht.m
  have HW : Hid (Tu w w2 #[.int .i64 0, .int .i64 0]) := ht
  clear hk ht
  go_wp2_with fail
  go_region
  all_goals go_wp2_with fail
  have hT := ((((HW.out.setM 0 (.int .i64 (c : Int))).setM 1 (.int .i64 (k : Int))).setM 0 (.int .i64 (c : Int))).setM 1 (.int .i64 (k : Int))).drew
  exact ⟨_, resUnits hT rfl rfl, hT.mv, rfl⟩

set_option maxHeartbeats 8000000 in
theorem readUnits_good (s : ByteArray) (T : List Tok) (ht : tokens (bytesOf s) = .ok T) (hpl : plain T = true) (f : Nat) (hf : f ≤ 1000000) (r : Except Mis (List D)) (hr : readV (.program []) shUnits (depUnits f) f (bytesOf s) = some r) (w : World) (hG : G w) (hTN : TN w) :
    Calls Tryz.prog 13 #[.string s, .func (.func 14) #[] #[], .func (.func 15) #[] #[]] w (UnitsOut w r) := by
  have HT : Hid (∀ w, G w → Calls Tryz.prog 28 #[.string s] w (TokOut 104 w (.ok T))) := fun w hG => by rw [← ht]; exact Tokens_any s w hG
  have hmf : ∀ (fn : Fn) (first cap : Array Value) (w : World), (Instr.makeFunc fn first cap).run Tryz.prog w = .ok (.func fn first cap) w := fun _ _ _ _ => rfl
  have HG : Hid (G (w.alloc M0)) := hG.kept (Kept.alloc [] w M0)
  have HR : Hid (readV (.program []) shUnits (depUnits f) f (bytesOf s) = some r) := hr
  have HTK : Hid (tokens (bytesOf s) = .ok T) := ht
  have HP : Hid (plain T = true ∧ TN w ∧ f ≤ 1000000) := ⟨hpl, hTN, hf⟩
  clear hG hr ht hpl hTN hf
  go_enter_defers Tryz.func13, Tryz.ntmps13
  go_wp2_with fail
  refine (HT.out _ HG.out).mono ?_
  intro e w2 ho
  obtain ⟨v, rfl, hrow, hk⟩ := ho
  have ht : Tu w w2 #[.int .i64 0, .int .i64 0] := ⟨hk.heap (heap_alloc_new w M0) (by simp), (Mv.alloc (fun _ => False) w M0).trans (Mv.of_kept hk) (by simp)⟩
  have hlt1 : w.heap.size < w2.heap.size := lt_of_block ht.m
  obtain ⟨ao, cap, wb, rfl, hwd, hwb⟩ := wds_of hrow (by omega)
  obtain ⟨m0, m1, f0, f1⟩ := facts2 ht.m
  have HW : Hid (Tu w w2 #[.int .i64 0, .int .i64 0]) := ht
  have hw1 : 1 < w.heap.size := HP.out.2.1.lt
  have hwb1 : ¬ wb = w.heap.size := by
    have hz : (w.alloc M0).heap.size = w.heap.size + 1 := by simp
    rw [hz] at hwb
    rcases hwb with h | h <;> omega
  have hwlt := hwd.lt
  have HX : Hid (∃ E : Env, E.c = ⟨s.size, bytesOf s, T⟩ ∧ E.rb = w2.heap.size ∧ ∀ W3, (((w2.setCell ⟨w.heap.size, 0, none⟩ (.int .i64 0)).setCell ⟨w.heap.size, 1, none⟩ (.int .i64 0)).alloc (.cells #[.string s, .slice ao T.length cap, .int .i64 0] 86)).alloc (.cells #[S0] 23) = W3 →
      Tu w W3 #[.int .i64 0, .int .i64 0] ∧ Rd E W3 0 ∧ At ty W3 (fun _ => False) (w2.heap.size + 1) 23 1 0 [.row .unit []] ∧ ¬ E.own (w2.heap.size + 1) ∧ W3.heap.size = w2.heap.size + 2) := by
    refine ⟨envOf s T HTK.out w2.heap.size wb ao cap (by omega) (by omega) hwd.ao, rfl, rfl, ?_⟩
    rintro W3 rfl
    have hm1 : Mv (· = w.heap.size) w2 ((w2.setCell ⟨w.heap.size, 0, none⟩ (.int .i64 0)).setCell ⟨w.heap.size, 1, none⟩ (.int .i64 0)) := (Mv.setCell w2 ⟨w.heap.size, 0, none⟩ _).trans (Mv.setCell _ ⟨w.heap.size, 1, none⟩ _) (fun x hx => .inl hx)
    have hm2 := hm1.trans (Mv.alloc (fun _ => False) _ (.cells #[.string s, .slice ao T.length cap, .int .i64 0] 86)) (fun _ h => h.elim)
    have hm3 := hm2.trans (Mv.alloc (fun _ => False) _ (.cells #[S0] 23)) (fun _ h => h.elim)
    have hsz : ((w2.setCell ⟨w.heap.size, 0, none⟩ (.int .i64 0)).setCell ⟨w.heap.size, 1, none⟩ (.int .i64 0)).heap.size = w2.heap.size := by simp [World.setCell]
    have hsz2 : (((w2.setCell ⟨w.heap.size, 0, none⟩ (.int .i64 0)).setCell ⟨w.heap.size, 1, none⟩ (.int .i64 0)).alloc (.cells #[.string s, .slice ao T.length cap, .int .i64 0] 86)).heap.size = w2.heap.size + 1 := by simp [hsz]
    have hTN3 : TN w2 := HP.out.2.1.mv HW.out.mv id
    have hwd3 := hwd.mv hm3 hwb1
    refine ⟨((HW.out.setM 0 _).setM 1 _).go (S := fun _ => False) ((Mv.alloc (fun _ => False) _ _).trans (Mv.alloc (fun _ => False) _ _) (fun _ h => h.elim)) id (fun _ h => h.elim), ⟨?_, hwd3.words, Nat.zero_le _, hwd3.lt, hTN3.mv hm3 (by omega)⟩, ?_, ?_, by simp [hsz2]⟩
    · exact (Mv.alloc (fun _ => False) _ _).heap (new_at _ _ _ hsz) id
    · refine ⟨⟨#[S0], fun _ _ => False, new_at _ _ _ hsz2, rfl, fun i d hd => ?_, fun _ _ h => h, fun _ _ _ h => h.elim⟩, by simp, fun h => h, fun _ h => h.elim⟩
      cases i with
      | zero => cases hd; exact ⟨S0, rfl, .nil _ _⟩
      | succ i => cases hd
    · rintro (h | h | h)
      · have h' : w2.heap.size + 1 = w2.heap.size := h
        omega
      · have h' : w2.heap.size + 1 = wb := h
        omega
      · omega
  clear hk ht hrow hwd hwb hwb1 hwlt hw1
  go_wp2_with fail
  obtain ⟨E, hc, hrb, hE⟩ := HX.out
  obtain ⟨hT3, hrd, hat, hown, hs3⟩ := hE _ rfl
  have hsp := (sp_all E (by rw [hc]; exact plain_key HP.out.1 _ _ _ (.inl rfl)) (by rw [hc]; exact plain_key HP.out.1 _ _ _ (.inr rfl)) f HP.out.2.2).program 0
  have hr := HR.out
  unfold readV at hr
  rw [HTK.out] at hr
  simp only [HP.out.1, if_true] at hr
  rw [bytesOf_length, ← hc] at hr
  have hne : ¬ OOF (run E.c f (.program []) 0) := by
    intro h
    rw [h] at hr
    simp at hr
  have hX := hsp hne _ (fun _ => False) (w2.heap.size + 1) 23 1 0 hrd hat hown (fun _ h => h.elim)
  rw [hrb] at hX
  refine hX.mono ?_
  clear hX hsp hne
  intro e w4 hp
  have go4 : ∀ {W : World}, Mv (fun x => x = E.rb ∨ x = w2.heap.size + 1 ∨ False) ((((w2.setCell ⟨w.heap.size, 0, none⟩ (.int .i64 0)).setCell ⟨w.heap.size, 1, none⟩ (.int .i64 0)).alloc (.cells #[.string s, .slice ao T.length cap, .int .i64 0] 86)).alloc (.cells #[S0] 23)) W → Tu w W #[.int .i64 0, .int .i64 0] := fun hm =>
    hT3.go hm (by rw [hrb]; rintro (h | h | h) <;> omega) (fun x h => by
      rcases h with h | h | h
      · rw [hrb] at h; omega
      · omega
      · exact h.elim)
  cases hrun : run E.c f (.program []) 0 with
  | error m =>
    rw [hrun] at hp hr
    simp only at hr
    split at hr
    · cases hr
    · cases hr
      obtain ⟨rfl, hm⟩ := hp
      exact leaveU_panic (go4 hm) m rfl rfl
  | ok x =>
    obtain ⟨ds, i⟩ := x
    rw [hrun] at hp hr
    simp only at hr
    obtain ⟨rfl, hrd4, hlen, ⟨F', hat4, hF'⟩, hm, ho⟩ := hp
    have h4 := go4 hm
    have HF' : Hid (∀ x, F' x → w.heap.size < x) := fun x hx => by have := (hF' x hx).resolve_left id; omega
    have HE : Hid (∀ w5, Mv (fun _ => False) w4 w5 → Tu w w5 #[.int .i64 0, .int .i64 0] ∧ Rd E w5 i ∧ At ty w5 F' (w2.heap.size + 1) 23 1 0 ds) := fun w5 h => ⟨h4.go h id (fun _ h => h.elim), hrd4.same h, hat4.kept h id (fun _ _ => id)⟩
    have HN : Hid (∀ w5, Rd E w5 i → Calls Tryz.prog 30 #[.pointer (some ⟨w2.heap.size, 0, none⟩)] w5 fun e w' => e = .returned (.bool (decide (T.length ≤ i))) ∧ Mv (fun _ => False) w5 w') := fun w5 h => by
      have := ended_any E i w5 h
      rwa [hrb, hc] at this
    have HF : Hid (∀ w5, Rd E w5 i → Calls Tryz.prog 31 #[.pointer (some ⟨w2.heap.size, 0, none⟩)] w5 fun e w' => e = .panicked (thrown (E.c.refuse i)) ∧ Mv (fun _ => False) w5 w') := fun w5 h => by
      have := refuse_any E i w5 h
      rwa [hrb] at this
    have HRr : Hid ((if i < T.length then some (.error (Cx.refuse E.c i)) else if shUnits ds then match depUnits f ds with
        | none => none
        | some n => some (if 60 < n then .error (3, 0) else .ok ds) else none) = some r) := hr
    have HRd4 : Hid (Rd E w4 i) := hrd4
    clear hr hrd4 hat4 h4 hm ho go4 hrun hT3 hrd hat hown hs3 hE HX HR HTK HG HT HW hF' hlen hc hrb
    go_wp2_with fail
    refine (HN.out _ HRd4.out).mono ?_
    rintro e w5 ⟨rfl, hm5⟩
    obtain ⟨h5, hrd5, hat5⟩ := HE.out w5 hm5
    have HE5 : Hid (∀ w6, Mv (fun _ => False) w5 w6 → Tu w w6 #[.int .i64 0, .int .i64 0] ∧ Rd E w6 i ∧ At ty w6 F' (w2.heap.size + 1) 23 1 0 ds) := fun w6 h => HE.out w6 (hm5.trans h (fun _ h => h.elim))
    by_cases hi : i < T.length
    · have hd : decide (T.length ≤ i) = false := by simp; omega
      have hr := HRr.out
      rw [if_pos hi] at hr
      cases hr
      have HRd5 : Hid (Rd E w5 i) := hrd5
      rw [hd]
      clear hat5 hrd5 h5 hm5 hd hi HE HRr
      go_wp2_with fail
      refine (HF.out _ HRd5.out).mono ?_
      rintro e w6 ⟨rfl, hm6⟩
      exact leaveU_panic (HE5.out w6 hm6).1 (E.c.refuse i) rfl rfl
    · have hd : decide (T.length ≤ i) = true := by simp; omega
      have hr := HRr.out
      rw [if_neg hi] at hr
      split at hr
      · rename_i hsh
        cases hdp : depUnits f ds with
        | none => rw [hdp] at hr; cases hr
        | some n =>
          rw [hdp] at hr
          simp only [Option.some.injEq] at hr
          obtain ⟨els, rfl⟩ := shUnits_some hsh
          have HDp : Hid (Gives 15 w5 (w2.heap.size + 1) 0 n) := units_depth f HP.out.2.2 _ n hdp w5 _ _ hat5.ro
          have HR' : Hid ((if 60 < n then .error (3, 0) else .ok [.row .unit els]) = r) := hr
          rw [hd]
          clear hat5 hrd5 h5 hm5 hd hi HE HRr hdp hr hsh
          go_wp2_with fail
          refine HDp.out.mono ?_
          rintro e w6 ⟨rfl, kd, hw6⟩
          have hm6 : Mv (fun _ => False) w5 w6 := by rw [hw6]; exact Mv.drewN _ _ _
          obtain ⟨h6, _, hat6⟩ := HE5.out w6 hm6
          clear hw6 hm6
          obtain ⟨m0, m1, f0, f1⟩ := facts2 h6.m
          have HW6 : Hid (Tu w w6 #[.int .i64 0, .int .i64 0]) := h6
          have HA6 : Hid (At ty w6 F' (w2.heap.size + 1) 23 1 0 [.row .unit els]) := hat6
          clear h6 hat6 HE5 HDp
          by_cases hn : 60 < n
          · have hn' : (60 : Int) < (n : Int) := by omega
            have hr := HR'.out
            rw [if_pos hn] at hr
            subst hr
            clear HR' hn
            go_wp2_with fail
            have hT := (HW6.out.setM 0 (.int .i64 3)).setM 1 (.int .i64 0)
            exact leaveU_ret hT rfl rfl ⟨hT.mv, rfl⟩
          · have hn' : ¬ (60 : Int) < (n : Int) := by omega
            have hr := HR'.out
            rw [if_neg hn] at hr
            subst hr
            clear HR' hn
            have hnb : ¬ w2.heap.size + 1 = w.heap.size := by omega
            obtain ⟨v, b0, e0⟩ := HA6.out.cell 0 _ rfl
            obtain ⟨o4, l4, c4, rfl⟩ := e0.sliceU
            have HV : Hid (∀ W, (∀ x, w.heap.size < x → W.heap[x]? = w6.heap[x]?) → DIs ty W (fun x => w.heap.size ≤ x) (.slice o4 l4 c4) (.row .unit els)) := fun W hW => (e0.kept (fun g hg _ => hW g (HF'.out g hg))).mono (fun x hx => by have := HF'.out x hx; omega)
            clear HA6 e0 HF'
            go_wp2_with fail
            have hT := (HW6.out.setM 0 (.int .i64 0)).setM 1 (.int .i64 0)
            exact leaveU_ret hT rfl rfl ⟨hT.mv, _, els, rfl, rfl, HV.out _ (fun x hx => (set_other (by omega)).trans (set_other (by omega)))⟩
      · cases hr

theorem readUnits_any (s : ByteArray) (f : Nat) (hf : f ≤ 1000000) (r : Except Mis (List D)) (hr : readV (.program []) shUnits (depUnits f) f (bytesOf s) = some r) (w : World) (hG : G w) (hTN : TN w) :
    Calls Tryz.prog 13 #[.string s, .func (.func 14) #[] #[], .func (.func 15) #[] #[]] w (UnitsOut w r) := by
  cases ht : tokens (bytesOf s) with
  | error m =>
    have h := hr
    unfold readV at h
    rw [ht] at h
    cases h
    exact readUnits_bad s m ht w hG _ _
  | ok T =>
    have hpl : plain T = true := by
      have h := hr
      unfold readV at h
      rw [ht] at h
      simp only at h
      split at h
      · assumption
      · cases h
    exact readUnits_good s T ht hpl f hf r hr w hG hTN

end Go.Proofs.YthmdgbmodgfcmaaGreatDoor
/-
  What reading a text as an expression does: its words are read.
-/
namespace Go.Proofs.YthmdgbmodgfcmaaGreatDoor
open Go.RowKit

/-- Blocks behind the answers' are as they were. -/
def Far (w W0 W : World) : Prop := ∀ x, w.heap.size + 1 < x → W.heap[x]? = W0.heap[x]?
theorem Far.refl (w W : World) : Far w W W := fun _ _ => rfl
theorem Far.setA {w W0 W : World} (h : Far w W0 W) (i : Nat) (u : Value) : Far w W0 (W.setCell ⟨w.heap.size, i, none⟩ u) := fun x hx => (set_other (by omega)).trans (h x hx)
theorem Far.setM {w W0 W : World} (h : Far w W0 W) (i : Nat) (u : Value) : Far w W0 (W.setCell ⟨w.heap.size + 1, i, none⟩ u) := fun x hx => (set_other (by omega)).trans (h x hx)

theorem DIs.slice {w : World} {F : Nat → Prop} {v : Value} {t : Ty} {els : List (List D)} (h : DIs ty w F v (.row t els)) : ∃ ao l c, v = .slice ao l c := by
  cases h with
  | nil => exact ⟨_, _, _, rfl⟩
  | row => exact ⟨_, _, _, rfl⟩

set_option maxHeartbeats 8000000 in
theorem readAst_good (s : ByteArray) (T : List Tok) (ht : tokens (bytesOf s) = .ok T) (hpl : plain T = true) (f : Nat) (hf : f ≤ 1000000) (r : Except Mis (List D)) (hr : readV .expr shAst (dep f .ast) f (bytesOf s) = some r) (w : World) (hG : G w) (hTN : TN w) :
    Calls Tryz.prog 22 #[.string s, .func (.func 23) #[] #[], .func (.func 24) #[] #[]] w (AstOut w r) := by
  have HT : Hid (∀ w, G w → Calls Tryz.prog 28 #[.string s] w (TokOut 104 w (.ok T))) := fun w hG => by rw [← ht]; exact Tokens_any s w hG
  have hmf : ∀ (fn : Fn) (first cap : Array Value) (w : World), (Instr.makeFunc fn first cap).run Tryz.prog w = .ok (.func fn first cap) w := fun _ _ _ _ => rfl
  have hG1 : G ((w.alloc A0).alloc M0) := (hG.kept (Kept.alloc [] w A0)).kept (Kept.alloc [] _ M0)
  have HG : Hid (G ((w.alloc A0).alloc M0)) := hG1
  have HR : Hid (readV .expr shAst (dep f .ast) f (bytesOf s) = some r) := hr
  have HTK : Hid (tokens (bytesOf s) = .ok T) := ht
  have HP : Hid (plain T = true ∧ TN w ∧ f ≤ 1000000) := ⟨hpl, hTN, hf⟩
  clear hG hG1 hr ht hpl hTN hf
  go_enter_defers Tryz.func22, Tryz.ntmps22
  go_wp2_with fail
  refine (HT.out _ HG.out).mono ?_
  intro e w2 ho
  obtain ⟨v, rfl, hrow, hk⟩ := ho
  have ht : Tw w w2 #[.int .i64 0, .int .i64 0, .string ⟨#[]⟩, .string ⟨#[]⟩, S0, S0, S0, S0, S0] #[.int .i64 0, .int .i64 0] :=
    ⟨hk.heap ((Kept.alloc [] (w.alloc A0) M0).heap (heap_alloc_new w A0) (by simp)) (by simp), hk.heap (new_at (w.alloc A0) M0 _ (by simp)) (by simp), ((Mv.alloc (fun _ => False) w A0).trans (Mv.alloc (fun _ => False) _ M0) (fun _ h => h.elim)).trans (Mv.of_kept hk) (by simp)⟩
  have hlt1 : w.heap.size + 1 < w2.heap.size := lt_of_block ht.m
  obtain ⟨ao, cap, wb, rfl, hwd, hwb⟩ := wds_of hrow (by omega)
  obtain ⟨m0, m1, f0, f1⟩ := facts2 ht.m
  have HW : Hid (Tw w w2 #[.int .i64 0, .int .i64 0, .string ⟨#[]⟩, .string ⟨#[]⟩, S0, S0, S0, S0, S0] #[.int .i64 0, .int .i64 0]) := ht
  have HD : Hid (Wds w2 T ao wb cap ∧ wb < w2.heap.size) := ⟨hwd, hwd.lt⟩
  have hwb1 : ¬ wb = w.heap.size + 1 := by
    have hz : ((w.alloc A0).alloc M0).heap.size = w.heap.size + 2 := by simp
    rw [hz] at hwb
    rcases hwb with h | h <;> omega
  have hwlt := hwd.lt
  have hw1 : 1 < w.heap.size := HP.out.2.1.lt
  -- the reader, and what it reads into
  have HX : Hid (∃ E : Env, E.c = ⟨s.size, bytesOf s, T⟩ ∧ E.rb = w2.heap.size ∧ ∀ W3, (((w2.setCell ⟨w.heap.size + 1, 0, none⟩ (.int .i64 0)).setCell ⟨w.heap.size + 1, 1, none⟩ (.int .i64 0)).alloc (.cells #[.string s, .slice ao T.length cap, .int .i64 0] 86)).alloc A0 = W3 →
      Tw w W3 zc #[.int .i64 0, .int .i64 0] ∧ Rd E W3 0 ∧ At ty W3 (fun _ => False) (w2.heap.size + 1) 41 9 0 zAst ∧ ¬ E.own (w2.heap.size + 1) ∧ W3.heap.size = w2.heap.size + 2) := by
    refine ⟨envOf s T HTK.out w2.heap.size wb ao cap (by omega) (by omega) hwd.ao, rfl, rfl, ?_⟩
    rintro W3 rfl
    have hm1 : Mv (· = w.heap.size + 1) w2 ((w2.setCell ⟨w.heap.size + 1, 0, none⟩ (.int .i64 0)).setCell ⟨w.heap.size + 1, 1, none⟩ (.int .i64 0)) := (Mv.setCell w2 ⟨w.heap.size + 1, 0, none⟩ _).trans (Mv.setCell _ ⟨w.heap.size + 1, 1, none⟩ _) (fun x hx => .inl hx)
    have hm2 := hm1.trans (Mv.alloc (fun _ => False) _ (.cells #[.string s, .slice ao T.length cap, .int .i64 0] 86)) (fun _ h => h.elim)
    have hm3 := hm2.trans (Mv.alloc (fun _ => False) _ A0) (fun _ h => h.elim)
    have hsz : ((w2.setCell ⟨w.heap.size + 1, 0, none⟩ (.int .i64 0)).setCell ⟨w.heap.size + 1, 1, none⟩ (.int .i64 0)).heap.size = w2.heap.size := by simp [World.setCell]
    have hsz2 : (((w2.setCell ⟨w.heap.size + 1, 0, none⟩ (.int .i64 0)).setCell ⟨w.heap.size + 1, 1, none⟩ (.int .i64 0)).alloc (.cells #[.string s, .slice ao T.length cap, .int .i64 0] 86)).heap.size = w2.heap.size + 1 := by simp [hsz]
    have hTN3 : TN w2 := HP.out.2.1.mv HW.out.mv id
    have hat := At.new (((w2.setCell ⟨w.heap.size + 1, 0, none⟩ (.int .i64 0)).setCell ⟨w.heap.size + 1, 1, none⟩ (.int .i64 0)).alloc (.cells #[.string s, .slice ao T.length cap, .int .i64 0] 86)) 41 .ast
    rw [hsz2] at hat
    have hwd3 := hwd.mv hm3 hwb1
    refine ⟨((HW.out.setM 0 _).setM 1 _).go (S := fun _ => False) ((Mv.alloc (fun _ => False) _ _).trans (Mv.alloc (fun _ => False) _ _) (fun _ h => h.elim)) id id (fun _ h => h.elim), ⟨?_, hwd3.words, Nat.zero_le _, hwd3.lt, hTN3.mv hm3 (by omega)⟩, hat, ?_, by simp [hsz2]⟩
    · exact (Mv.alloc (fun _ => False) _ A0).heap (new_at _ _ _ hsz) id
    · rintro (h | h | h)
      · have h' : w2.heap.size + 1 = w2.heap.size := h
        omega
      · have h' : w2.heap.size + 1 = wb := h
        omega
      · omega
  clear hk ht hrow hwd hwb hwb1 hwlt hw1
  go_wp2_with fail
  obtain ⟨E, hc, hrb, hE⟩ := HX.out
  obtain ⟨hT3, hrd, hat, hown, hs3⟩ := hE _ rfl
  have hsp := (sp_all E (by rw [hc]; exact plain_key HP.out.1 _ _ _ (.inl rfl)) (by rw [hc]; exact plain_key HP.out.1 _ _ _ (.inr rfl)) f HP.out.2.2).expr 0
  have hr := HR.out
  unfold readV at hr
  rw [HTK.out] at hr
  simp only [HP.out.1, if_true] at hr
  rw [bytesOf_length, ← hc] at hr
  have hne : ¬ OOF (run E.c f .expr 0) := by
    intro h
    rw [h] at hr
    simp at hr
  have hX := hsp hne _ (fun _ => False) (w2.heap.size + 1) 41 9 0 hrd hat hown (fun _ h => h.elim)
  rw [hrb] at hX
  refine hX.mono ?_
  clear hX hsp hne
  intro e w4 hp
  have go4 : ∀ {W : World}, Mv (fun x => x = E.rb ∨ x = w2.heap.size + 1 ∨ False) ((((w2.setCell ⟨w.heap.size + 1, 0, none⟩ (.int .i64 0)).setCell ⟨w.heap.size + 1, 1, none⟩ (.int .i64 0)).alloc (.cells #[.string s, .slice ao T.length cap, .int .i64 0] 86)).alloc A0) W → Tw w W zc #[.int .i64 0, .int .i64 0] := fun hm =>
    hT3.go hm (by rw [hrb]; rintro (h | h | h) <;> omega) (by rw [hrb]; rintro (h | h | h) <;> omega) (fun x h => by
      rcases h with h | h | h
      · rw [hrb] at h; omega
      · omega
      · exact h.elim)
  cases hrun : run E.c f .expr 0 with
  | error m =>
    rw [hrun] at hp hr
    simp only at hr
    split at hr
    · cases hr
    · cases hr
      obtain ⟨rfl, hm⟩ := hp
      exact leave_panic (go4 hm) m rfl rfl
  | ok x =>
    obtain ⟨ds, i⟩ := x
    rw [hrun] at hp hr
    simp only at hr
    obtain ⟨rfl, hrd4, hlen, ⟨F', hat4, hF'⟩, hm, ho⟩ := hp
    have h4 := go4 hm
    have HF' : Hid (∀ x, F' x → w.heap.size + 1 < x) := fun x hx => by have := (hF' x hx).resolve_left id; omega
    have HE : Hid (∀ w5, Mv (fun _ => False) w4 w5 → Tw w w5 zc #[.int .i64 0, .int .i64 0] ∧ Rd E w5 i ∧ At ty w5 F' (w2.heap.size + 1) 41 9 0 ds) := fun w5 h => ⟨h4.go h id id (fun _ h => h.elim), hrd4.same h, hat4.kept h id (fun _ _ => id)⟩
    have HN : Hid (∀ w5, Rd E w5 i → Calls Tryz.prog 30 #[.pointer (some ⟨w2.heap.size, 0, none⟩)] w5 fun e w' => e = .returned (.bool (decide (T.length ≤ i))) ∧ Mv (fun _ => False) w5 w') := fun w5 h => by
      have := ended_any E i w5 h
      rwa [hrb, hc] at this
    have HF : Hid (∀ w5, Rd E w5 i → Calls Tryz.prog 31 #[.pointer (some ⟨w2.heap.size, 0, none⟩)] w5 fun e w' => e = .panicked (thrown (E.c.refuse i)) ∧ Mv (fun _ => False) w5 w') := fun w5 h => by
      have := refuse_any E i w5 h
      rwa [hrb] at this
    have HRr : Hid ((if i < T.length then some (.error (Cx.refuse E.c i)) else if shAst ds then match dep f .ast ds with
        | none => none
        | some n => some (if 60 < n then .error (3, 0) else .ok ds) else none) = some r) := hr
    have HRd4 : Hid (Rd E w4 i) := hrd4
    clear hr hrd4 hat4 h4 hm ho go4 hrun hT3 hrd hat hown hs3 hE HX HR HTK HG HT HW HD hF' hlen hc hrb
    go_wp2_with fail
    refine (HN.out _ HRd4.out).mono ?_
    rintro e w5 ⟨rfl, hm5⟩
    obtain ⟨h5, hrd5, hat5⟩ := HE.out w5 hm5
    have HE5 : Hid (∀ w6, Mv (fun _ => False) w5 w6 → Tw w w6 zc #[.int .i64 0, .int .i64 0] ∧ Rd E w6 i ∧ At ty w6 F' (w2.heap.size + 1) 41 9 0 ds) := fun w6 h => HE.out w6 (hm5.trans h (fun _ h => h.elim))
    by_cases hi : i < T.length
    · have hd : decide (T.length ≤ i) = false := by simp; omega
      have hr := HRr.out
      rw [if_pos hi] at hr
      cases hr
      have HRd5 : Hid (Rd E w5 i) := hrd5
      rw [hd]
      clear hat5 hrd5 h5 hm5 hd hi HE HRr
      go_wp2_with fail
      refine (HF.out _ HRd5.out).mono ?_
      rintro e w6 ⟨rfl, hm6⟩
      exact leave_panic (HE5.out w6 hm6).1 (E.c.refuse i) rfl rfl
    · have hd : decide (T.length ≤ i) = true := by simp; omega
      have hr := HRr.out
      rw [if_neg hi] at hr
      split at hr
      · rename_i hsh
        cases hdp : dep f .ast ds with
        | none => rw [hdp] at hr; cases hr
        | some n =>
          rw [hdp] at hr
          simp only [Option.some.injEq] at hr
          obtain ⟨n0, n1, s2, s3, r4, r5, r6, r7, r8, rfl⟩ := shAst_some hsh
          have HDp : Hid (Gives 24 w5 (w2.heap.size + 1) 0 n) := (dp_all f HP.out.2.2).ast _ n hdp w5 _ _ hat5.ro
          have HR' : Hid ((if 60 < n then .error (3, 0) else .ok [.num n0, .num n1, .str s2, .str s3, .row .str r4, .row .ast r5, .row .bool r6, .row .ast r7, .row .arg r8]) = r) := hr
          have HA5 : Hid (At ty w5 F' (w2.heap.size + 1) 41 9 0 [.num n0, .num n1, .str s2, .str s3, .row .str r4, .row .ast r5, .row .bool r6, .row .ast r7, .row .arg r8]) := hat5
          rw [hd]
          clear hat5 hrd5 h5 hm5 hd hi HE HRr hdp hr hsh
          go_wp2_with fail
          refine HDp.out.mono ?_
          rintro e w6 ⟨rfl, kd, hw6⟩
          have hm6 : Mv (fun _ => False) w5 w6 := by rw [hw6]; exact Mv.drewN _ _ _
          obtain ⟨h6, _, hat6⟩ := HE5.out w6 hm6
          clear hw6 hm6
          obtain ⟨⟨a0, a1, a2, a3, a4, a5, a6, a7, a8⟩, af⟩ := facts9 h6.a
          obtain ⟨m0, m1, f0, f1⟩ := facts2 h6.m
          have f2 := af 0; have f3 := af 1; have f4 := af 2; have f5 := af 3; have f6 := af 4; have f7 := af 5; have f8 := af 6; have f9 := af 7; have f10 := af 8
          have HW6 : Hid (Tw w w6 zc #[.int .i64 0, .int .i64 0]) := h6
          have HA6 : Hid (At ty w6 F' (w2.heap.size + 1) 41 9 0 [.num n0, .num n1, .str s2, .str s3, .row .str r4, .row .ast r5, .row .bool r6, .row .ast r7, .row .arg r8]) := hat6
          clear h6 hat6 af HE5 HA5 HDp
          by_cases hn : 60 < n
          · have hn' : (60 : Int) < (n : Int) := by omega
            have hr := HR'.out
            rw [if_pos hn] at hr
            subst hr
            clear HR' hn
            go_wp2_with fail
            have hT := (((((((((((HW6.out.setA 0 (.int .i64 0)).setA 1 (.int .i64 0)).setA 2 (.string ⟨#[]⟩)).setA 3 (.string ⟨#[]⟩)).setA 4 S0).setA 5 S0).setA 6 S0).setA 7 S0).setA 8 S0).setM 0 (.int .i64 3)).setM 1 (.int .i64 0))
            exact leave_ret hT rfl rfl ⟨hT.mv, rfl⟩
          · have hn' : ¬ (60 : Int) < (n : Int) := by omega
            have hr := HR'.out
            rw [if_neg hn] at hr
            subst hr
            clear HR' hn a0 a1 a2 a3 a4 a5 a6 a7 a8
            have hnb : ¬ w2.heap.size + 1 = w.heap.size := by omega
            have hnb2 : ¬ w2.heap.size + 1 = w.heap.size + 1 := by omega
            have b0 := HA6.out.num 0 (n := n0) rfl
            have b1 := HA6.out.num 1 (n := n1) rfl
            have b2 := HA6.out.str 2 (n := s2) rfl
            have b3 := HA6.out.str 3 (n := s3) rfl
            obtain ⟨v4, b4, e4⟩ := HA6.out.cell 4 _ rfl
            obtain ⟨v5, b5, e5⟩ := HA6.out.cell 5 _ rfl
            obtain ⟨v6, b6, e6⟩ := HA6.out.cell 6 _ rfl
            obtain ⟨v7, b7, e7⟩ := HA6.out.cell 7 _ rfl
            obtain ⟨v8, b8, e8⟩ := HA6.out.cell 8 _ rfl
            simp only [Nat.zero_add] at b0 b1 b2 b3 b4 b5 b6 b7 b8
            obtain ⟨o4, l4, c4, rfl⟩ := e4.slice
            obtain ⟨o5, l5, c5, rfl⟩ := e5.slice
            obtain ⟨o6, l6, c6, rfl⟩ := e6.slice
            obtain ⟨o7, l7, c7, rfl⟩ := e7.slice
            obtain ⟨o8, l8, c8, rfl⟩ := e8.slice
            have HV : Hid (∀ W, Far w w6 W → AstV W w.heap.size (.agg #[.int .i64 n0, .int .i64 n1, .string (strOfL s2), .string (strOfL s3), .slice o4 l4 c4, .slice o5 l5 c5, .slice o6 l6 c6, .slice o7 l7 c7, .slice o8 l8 c8])
                [.num n0, .num n1, .str s2, .str s3, .row .str r4, .row .ast r5, .row .bool r6, .row .ast r7, .row .arg r8]) := fun W hW => by
              have hk : ∀ {v : Value} {d : D}, DIs ty w6 F' v d → DIs ty W (fun x => w.heap.size ≤ x) v d := fun h => (h.kept (fun g hg _ => hW g (HF'.out g hg))).mono (fun x hx => by have := HF'.out x hx; omega)
              refine ⟨n0, n1, strOfL s2, strOfL s3, .slice o4 l4 c4, .slice o5 l5 c5, .slice o6 l6 c6, .slice o7 l7 c7, .slice o8 l8 c8, rfl, rfl, fun i d hd => ?_⟩
              rcases i with _ | _ | _ | _ | _ | _ | _ | _ | _ | i
              · cases hd; exact ⟨_, rfl, .num _ _⟩
              · cases hd; exact ⟨_, rfl, .num _ _⟩
              · cases hd; exact ⟨_, rfl, .str _ _⟩
              · cases hd; exact ⟨_, rfl, .str _ _⟩
              · cases hd; exact ⟨_, rfl, hk e4⟩
              · cases hd; exact ⟨_, rfl, hk e5⟩
              · cases hd; exact ⟨_, rfl, hk e6⟩
              · cases hd; exact ⟨_, rfl, hk e7⟩
              · cases hd; exact ⟨_, rfl, hk e8⟩
              · cases hd
            obtain ⟨⟨a0, a1, a2, a3, a4, a5, a6, a7, a8⟩, _⟩ := facts9 HW6.out.a
            clear HA6 e4 e5 e6 e7 e8 HF'
            generalize strOfL s2 = t2 at *
            generalize strOfL s3 = t3 at *
            go_wp2_with fail
            have hT := (((((((((((HW6.out.setA 0 (.int .i64 n0)).setA 1 (.int .i64 n1)).setA 2 (.string t2)).setA 3 (.string t3)).setA 4 (.slice o4 l4 c4)).setA 5 (.slice o5 l5 c5)).setA 6 (.slice o6 l6 c6)).setA 7 (.slice o7 l7 c7)).setA 8 (.slice o8 l8 c8)).setM 0 (.int .i64 0)).setM 1 (.int .i64 0))
            have hF := ((((((((((((Far.refl w w6).setA 0 (.int .i64 n0)).setA 1 (.int .i64 n1)).setA 2 (.string t2)).setA 3 (.string t3)).setA 4 (.slice o4 l4 c4)).setA 5 (.slice o5 l5 c5)).setA 6 (.slice o6 l6 c6)).setA 7 (.slice o7 l7 c7)).setA 8 (.slice o8 l8 c8)).setM 0 (.int .i64 0)).setM 1 (.int .i64 0))
            exact leave_ret hT rfl rfl ⟨hT.mv, _, rfl, HV.out _ hF⟩
      · cases hr

/-- Expr's read, whatever the text, where the specification tells. -/
theorem readAst_any (s : ByteArray) (f : Nat) (hf : f ≤ 1000000) (r : Except Mis (List D)) (hr : readV .expr shAst (dep f .ast) f (bytesOf s) = some r) (w : World) (hG : G w) (hTN : TN w) :
    Calls Tryz.prog 22 #[.string s, .func (.func 23) #[] #[], .func (.func 24) #[] #[]] w (AstOut w r) := by
  cases ht : tokens (bytesOf s) with
  | error m =>
    have h := hr
    unfold readV at h
    rw [ht] at h
    cases h
    exact readAst_bad s m ht w hG _ _
  | ok T =>
    have hpl : plain T = true := by
      have h := hr
      unfold readV at h
      rw [ht] at h
      simp only at h
      split at h
      · assumption
      · cases h
    exact readAst_good s T ht hpl f hf r hr w hG hTN

end Go.Proofs.YthmdgbmodgfcmaaGreatDoor
/-
  What Parse and Expr do.
-/
namespace Go.Proofs.YthmdgbmodgfcmaaGreatDoor
open Go.RowKit

theorem Tw.all {w W : World} {b0 b1 b2 b3 b4 b5 b6 b7 b8 y0 y1 : Value} (h : Tw w W #[b0, b1, b2, b3, b4, b5, b6, b7, b8] #[y0, y1]) (a0 a1 a2 a3 a4 a5 a6 a7 a8 x0 x1 : Value) : Tw w (((((((((((W.setCell ⟨w.heap.size, 0, none⟩ a0).setCell ⟨w.heap.size, 1, none⟩ a1).setCell ⟨w.heap.size, 2, none⟩ a2).setCell ⟨w.heap.size, 3, none⟩ a3).setCell ⟨w.heap.size, 4, none⟩ a4).setCell ⟨w.heap.size, 5, none⟩ a5).setCell ⟨w.heap.size, 6, none⟩ a6).setCell ⟨w.heap.size, 7, none⟩ a7).setCell ⟨w.heap.size, 8, none⟩ a8).setCell ⟨w.heap.size + 1, 0, none⟩ x0).setCell ⟨w.heap.size + 1, 1, none⟩ x1) #[a0, a1, a2, a3, a4, a5, a6, a7, a8] #[x0, x1] := by
  have := (((((((((((h.setA 0 a0).setA 1 a1).setA 2 a2).setA 3 a3).setA 4 a4).setA 5 a5).setA 6 a6).setA 7 a7).setA 8 a8).setM 0 x0).setM 1 x1)
  simpa using this
theorem Far.all {w W0 W : World} (h : Far w W0 W) (a0 a1 a2 a3 a4 a5 a6 a7 a8 x0 x1 : Value) : Far w W0 (((((((((((W.setCell ⟨w.heap.size, 0, none⟩ a0).setCell ⟨w.heap.size, 1, none⟩ a1).setCell ⟨w.heap.size, 2, none⟩ a2).setCell ⟨w.heap.size, 3, none⟩ a3).setCell ⟨w.heap.size, 4, none⟩ a4).setCell ⟨w.heap.size, 5, none⟩ a5).setCell ⟨w.heap.size, 6, none⟩ a6).setCell ⟨w.heap.size, 7, none⟩ a7).setCell ⟨w.heap.size, 8, none⟩ a8).setCell ⟨w.heap.size + 1, 0, none⟩ x0).setCell ⟨w.heap.size + 1, 1, none⟩ x1) := (((((((((((h.setA 0 a0).setA 1 a1).setA 2 a2).setA 3 a3).setA 4 a4).setA 5 a5).setA 6 a6).setA 7 a7).setA 8 a8).setM 0 x0).setM 1 x1)

theorem resExpr {w W : World} {a0 a1 a2 a3 a4 a5 a6 a7 a8 x y : Value} (h : Tw w W #[a0, a1, a2, a3, a4, a5, a6, a7, a8] #[x, y]) {T : Array Value} (h6 : T[2]?.getD undef = .pointer (some ⟨w.heap.size, 0, none⟩)) (h7 : T[3]?.getD undef = .pointer (some ⟨w.heap.size + 1, 0, none⟩)) :
    (results Tryz.f11 T).run Tryz.prog W = .ok (.tuple #[.agg #[a0, a1, a2, a3, a4, a5, a6, a7, a8], .agg #[x, y]]) W := by
  obtain ⟨⟨c0, c1, c2, c3, c4, c5, c6, c7, c8⟩, _⟩ := facts9 h.a
  obtain ⟨d0, d1, _⟩ := facts2 h.m
  simp only [results, Tryz.results11]
  simp [h6, h7, go_sem, c0, c1, c2, c3, c4, c5, c6, c7, c8, d0, d1]

set_option maxHeartbeats 2000000 in
theorem Parse_any (s : ByteArray) (f : Nat) (hf : f ≤ 1000000) (r : Except Mis (List D)) (hr : readV (.program []) shUnits (depUnits f) f (bytesOf s) = some r) (w : World) (hG : G w) (hTN : TN w) :
    Calls Tryz.prog 8 #[.string s] w (UnitsOut w r) := by
  have hG1 : G (w.alloc M0) := hG.kept (Kept.alloc [] w M0)
  have hT1 : TN (w.alloc M0) := hTN.mv (Mv.alloc (fun _ => False) w M0) id
  have HC : Hid (Calls Tryz.prog 13 #[.string s, .func (.func 14) #[] #[], .func (.func 15) #[] #[]] (w.alloc M0) (UnitsOut (w.alloc M0) r)) := readUnits_any s f hf r hr _ hG1 hT1
  clear hG hTN hG1 hT1 hr hf
  go_enter Tryz.func8, Tryz.ntmps8
  go_wp2_with fail
  refine HC.out.mono ?_
  intro e w2 ho
  obtain ⟨hmv, hr⟩ := ho
  have hm : w2.heap[w.heap.size]? = some M0 := hmv.heap (heap_alloc_new w M0) id
  have hT : Tu w w2 #[.int .i64 0, .int .i64 0] := ⟨hm, (Mv.alloc (fun _ => False) w M0).trans hmv (fun _ h => h.elim)⟩
  obtain ⟨m0, m1, f0, f1⟩ := facts2 hm
  have HT : Hid (Tu w w2 #[.int .i64 0, .int .i64 0]) := hT
  clear hm hT hmv
  cases r with
  | error m =>
    obtain rfl := hr
    go_wp2_with fail
    have hT := (HT.out.setM 0 (.int .i64 (m.1 : Int))).setM 1 (.int .i64 (m.2 : Int))
    obtain ⟨d0, d1, _⟩ := facts2 hT.m
    refine bodyPost_ret (v := .tuple #[S0, misV m]) ?_ rfl ⟨hT.mv, rfl⟩
    simp only [results, Tryz.results8]
    simp [go_sem, d0, d1]
  | ok ds =>
    obtain ⟨v, els, rfl, rfl, hd⟩ := hr
    obtain ⟨o4, l4, c4, rfl⟩ := hd.sliceU
    have HD : Hid (∀ W, (∀ x, w.heap.size < x → W.heap[x]? = w2.heap[x]?) → DIs ty W (fun x => w.heap.size ≤ x) (.slice o4 l4 c4) (.row .unit els)) := fun W hW =>
      (hd.kept (fun g hg _ => hW g (by have hz : (w.alloc M0).heap.size = w.heap.size + 1 := (by simp); omega))).mono (fun x hx => by have hz : (w.alloc M0).heap.size = w.heap.size + 1 := (by simp); omega)
    clear hd
    go_wp2_with fail
    have hT := (HT.out.setM 0 (.int .i64 0)).setM 1 (.int .i64 0)
    obtain ⟨d0, d1, _⟩ := facts2 hT.m
    refine bodyPost_ret (v := .tuple #[.slice o4 l4 c4, misV (0, 0)]) ?_ rfl ⟨hT.mv, _, els, rfl, rfl, HD.out _ (fun x hx => (set_other (by omega)).trans (set_other (by omega)))⟩
    simp only [results, Tryz.results8]
    simp [go_sem, d0, d1]

set_option maxHeartbeats 2000000 in
theorem Expr_any (s : ByteArray) (f : Nat) (hf : f ≤ 1000000) (r : Except Mis (List D)) (hr : readV .expr shAst (dep f .ast) f (bytesOf s) = some r) (w : World) (hG : G w) (hTN : TN w) :
    Calls Tryz.prog 11 #[.string s] w (AstOut w r) := by
  have hG1 : G ((w.alloc A0).alloc M0) := (hG.kept (Kept.alloc [] w A0)).kept (Kept.alloc [] _ M0)
  have hT1 : TN ((w.alloc A0).alloc M0) := (hTN.mv (Mv.alloc (fun _ => False) w A0) id).mv (Mv.alloc (fun _ => False) _ M0) id
  have HC : Hid (Calls Tryz.prog 22 #[.string s, .func (.func 23) #[] #[], .func (.func 24) #[] #[]] ((w.alloc A0).alloc M0) (AstOut ((w.alloc A0).alloc M0) r)) := readAst_any s f hf r hr _ hG1 hT1
  clear hG hTN hG1 hT1 hr hf
  go_enter Tryz.func11, Tryz.ntmps11
  go_wp2_with fail
  refine HC.out.mono ?_
  intro e w2 ho
  obtain ⟨hmv, hr⟩ := ho
  have hT : Tw w w2 zc #[.int .i64 0, .int .i64 0] := ⟨hmv.heap ((Mv.alloc (fun _ => False) (w.alloc A0) M0).heap (heap_alloc_new w A0) id) id, hmv.heap (new_at (w.alloc A0) M0 _ (by simp)) id, ((Mv.alloc (fun _ => False) w A0).trans (Mv.alloc (fun _ => False) _ M0) (fun _ h => h.elim)).trans hmv (fun _ h => h.elim)⟩
  obtain ⟨⟨a0, a1, a2, a3, a4, a5, a6, a7, a8⟩, af⟩ := facts9 hT.a
  obtain ⟨m0, m1, f0, f1⟩ := facts2 hT.m
  have f2 := af 0; have f3 := af 1; have f4 := af 2; have f5 := af 3; have f6 := af 4; have f7 := af 5; have f8 := af 6; have f9 := af 7; have f10 := af 8
  have HT : Hid (Tw w w2 zc #[.int .i64 0, .int .i64 0]) := hT
  clear hT hmv af
  cases r with
  | error m =>
    obtain rfl := hr
    go_wp2_with fail
    have hT := (((((((((((HT.out.setA 0 (.int .i64 0)).setA 1 (.int .i64 0)).setA 2 (.string ⟨#[]⟩)).setA 3 (.string ⟨#[]⟩)).setA 4 S0).setA 5 S0).setA 6 S0).setA 7 S0).setA 8 S0).setM 0 (.int .i64 (m.1 : Int))).setM 1 (.int .i64 (m.2 : Int)))
    refine bodyPost_ret (v := .tuple #[zAstV, misV m]) (resExpr hT rfl rfl) rfl ⟨hT.mv, rfl⟩
  | ok ds =>
    obtain ⟨v, rfl, n0, n1, s2, s3, v4, v5, v6, v7, v8, rfl, hsh, hd⟩ := hr
    have HV : Hid (∀ W, Far w w2 W → AstV W w.heap.size (.agg #[.int .i64 n0, .int .i64 n1, .string s2, .string s3, v4, v5, v6, v7, v8]) ds) := fun W hW =>
      ⟨n0, n1, s2, s3, v4, v5, v6, v7, v8, rfl, hsh, fun i d hi => by
        obtain ⟨u, h1, h2⟩ := hd i d hi
        have hz : ((w.alloc A0).alloc M0).heap.size = w.heap.size + 2 := by simp
        exact ⟨u, h1, (h2.kept (fun g hg _ => hW g (by omega))).mono (fun x hx => by omega)⟩⟩
    obtain ⟨k0, k1, k2, k3, r4, r5, r6, r7, r8, rfl⟩ := shAst_some hsh
    obtain ⟨u4, h4, e4⟩ := hd 4 _ rfl
    obtain ⟨u5, h5, e5⟩ := hd 5 _ rfl
    obtain ⟨u6, h6, e6⟩ := hd 6 _ rfl
    obtain ⟨u7, h7, e7⟩ := hd 7 _ rfl
    obtain ⟨u8, h8, e8⟩ := hd 8 _ rfl
    cases h4; cases h5; cases h6; cases h7; cases h8
    obtain ⟨o4, l4, c4, rfl⟩ := e4.slice
    obtain ⟨o5, l5, c5, rfl⟩ := e5.slice
    obtain ⟨o6, l6, c6, rfl⟩ := e6.slice
    obtain ⟨o7, l7, c7, rfl⟩ := e7.slice
    obtain ⟨o8, l8, c8, rfl⟩ := e8.slice
    clear hd hsh e4 e5 e6 e7 e8
    go_wp2_with fail
    have hT := HT.out.all (.int .i64 n0) (.int .i64 n1) (.string s2) (.string s3) (.slice o4 l4 c4) (.slice o5 l5 c5) (.slice o6 l6 c6) (.slice o7 l7 c7) (.slice o8 l8 c8) (.int .i64 0) (.int .i64 0)
    have hF := (Far.refl w w2).all (.int .i64 n0) (.int .i64 n1) (.string s2) (.string s3) (.slice o4 l4 c4) (.slice o5 l5 c5) (.slice o6 l6 c6) (.slice o7 l7 c7) (.slice o8 l8 c8) (.int .i64 0) (.int .i64 0)
    have hV := HV.out _ hF
    clear hF HV HC
    refine bodyPost_ret (resExpr hT rfl rfl) rfl ?_
    exact ⟨hT.mv, _, rfl, hV⟩

end Go.Proofs.YthmdgbmodgfcmaaGreatDoor
/-
  What is read of the texts that the statements lay down: by reckoning.
-/
namespace Go.Proofs.YthmdgbmodgfcmaaGreatDoor
open Go.RowKit

def unitsV (l : List UInt8) : Option (Except Mis (List D)) := readV (.program []) shUnits (depUnits 2000) 2000 l
def exprV (l : List UInt8) : Option (Except Mis (List D)) := readV .expr shAst (dep 2000 .ast) 2000 l

def chk1 : Option (Except Mis (List D)) → Bool
  | some (.ok [.row .unit [_, u]]) => match u with
    | .num k :: _ => k == 5 && (match (u[20]? : Option D) with
      | some (D.row .stmt [st]) => (match (st[26]? : Option D) with | some (D.row .stmts o) => o.length == 2 | _ => false)
      | _ => false)
    | _ => false
  | _ => false
def isErr (m : Mis) : Option (Except Mis (List D)) → Bool
  | some (.error n) => decide (n = m)
  | _ => false
def isOk : Option (Except Mis (List D)) → Bool
  | some (.ok _) => true
  | _ => false

/-- The texts of SyntaxDeep. -/
def heads (b : Bool) : Nat → List UInt8
  | 0 => []
  | n + 1 => heads b n ++ (if b then [123, 32] else [33, 32])
def tails : Nat → List UInt8
  | 0 => []
  | n + 1 => tails n ++ [32, 125]
def deepB (n : Nat) : List UInt8 := [105, 110, 105, 116, 32, 123, 32] ++ heads true n ++ [115, 107, 105, 112] ++ tails n ++ [32, 125]
def deepE (n : Nat) : List UInt8 := heads false n ++ [120]

set_option maxRecDepth 1000000
theorem v1 : chk1 (unitsV [98, 121, 116, 101, 32, 120, 59, 32, 105, 110, 105, 116, 32, 123, 32, 105, 102, 32, 58, 58, 32, 120, 32, 62, 32, 48, 32, 45, 62, 32, 120, 45, 45, 59, 32, 58, 58, 32, 101, 108, 115, 101, 32, 102, 105, 32, 125]) = true := by kernel_rfl
theorem v2 : isErr (30, 11) (unitsV [105, 110, 105, 116, 32, 123, 32, 120, 32, 61, 32, 125]) = true := by kernel_rfl
def chk3 : Option (Except Mis (List D)) → Bool
  | some (.ok [_, _, .str s, _, _, _, _, _, _]) => s == [43]
  | _ => false
theorem v3 : chk3 (exprV [49, 32, 43, 32, 50, 32, 42, 32, 51]) = true := by kernel_rfl
def okB (n : Nat) : Bool := if n < 60 then isOk (unitsV (deepB n)) else isErr (3, 0) (unitsV (deepB n))
def okE (n : Nat) : Bool := if n < 60 then isOk (exprV (deepE n)) else isErr (3, 0) (exprV (deepE n))

end Go.Proofs.YthmdgbmodgfcmaaGreatDoor
/-
  What the statements' own first check does: it answers true.
-/
namespace Go.Proofs.YthmdgbmodgfcmaaGreatDoor
open Go.RowKit

theorem chk1_some {x : Option (Except Mis (List D))} (h : chk1 x = true) : ∃ e0 u st o, x = some (.ok [.row .unit [e0, u]]) ∧ u[0]? = some (.num 5) ∧ u[20]? = some (.row .stmt [st]) ∧ st[26]? = some (.row .stmts o) ∧ o.length = 2 := by
  unfold chk1 at h
  split at h
  · rename_i e0 u
    split at h
    · rename_i k r
      rw [Bool.and_eq_true] at h
      obtain ⟨h1, h2⟩ := h
      split at h2
      · rename_i st hst
        split at h2
        · rename_i o ho
          exact ⟨e0, _, st, o, rfl, by simp at h1 ⊢; exact h1, hst, ho, by simpa using h2⟩
        · cases h2
      · cases h2
    · cases h
  · cases h
theorem isErr_some {m : Mis} {x : Option (Except Mis (List D))} (h : isErr m x = true) : x = some (.error m) := by
  unfold isErr at h
  split at h
  · rw [of_decide_eq_true h]
  · cases h
theorem isOk_some {x : Option (Except Mis (List D))} (h : isOk x = true) : ∃ ds, x = some (.ok ds) := by
  unfold isOk at h
  split at h
  · exact ⟨_, rfl⟩
  · cases h
theorem chk3_some {x : Option (Except Mis (List D))} (h : chk3 x = true) : ∃ ds, x = some (.ok ds) ∧ ds[2]? = some (.str [43]) := by
  unfold chk3 at h
  split at h
  · exact ⟨_, rfl, by simp at h; rw [h]; rfl⟩
  · cases h

/-- A row's elements, of one that is not empty. -/
theorem DIs.nonempty {w : World} {F : Nat → Prop} {v : Value} {t : Ty} {els : List (List D)} (h : DIs ty w F v (.row t els)) (hn : els ≠ []) : ∃ g cap, v = .slice (some ⟨g, 0, none⟩) els.length cap ∧ ∀ (j : Nat) (e : List D), els[j]? = some e → Ro w g (j * ty.size t) e := by
  rcases (h.mono (fun _ _ => trivial)).els with ⟨h1, _⟩ | ⟨g, cap, _, h2, h3⟩
  · exact absurd h1 hn
  · exact ⟨g, cap, h2, h3⟩

theorem DIs.sliceL {w : World} {F : Nat → Prop} {v : Value} {t : Ty} {els : List (List D)} (h : DIs ty w F v (.row t els)) : ∃ ao c, v = .slice ao els.length c := by
  cases h with
  | nil => exact ⟨_, _, rfl⟩
  | row => exact ⟨_, _, rfl⟩
theorem G.mv {S : Nat → Prop} {w w' : World} (h : G w) (hm : Mv S w w') (hs : ¬ S 0) : G w' := by
  obtain ⟨m, hm'⟩ := h
  exact ⟨m, cell_mv hm hm' hs⟩

theorem Parse_of (l : List UInt8) (r : Except Mis (List D)) (h : unitsV l = some r) (w : World) (hG : G w) (hT : TN w) : Calls Tryz.prog 8 #[.string (strOfL l)] w (UnitsOut w r) :=
  Parse_any _ 2000 (by decide) r (by rw [show bytesOf (strOfL l) = l from bytesOf_strL l]; exact h) w hG hT
theorem Expr_of (l : List UInt8) (r : Except Mis (List D)) (h : exprV l = some r) (w : World) (hG : G w) (hT : TN w) : Calls Tryz.prog 11 #[.string (strOfL l)] w (AstOut w r) :=
  Expr_any _ 2000 (by decide) r (by rw [show bytesOf (strOfL l) = l from bytesOf_strL l]; exact h) w hG hT

set_option maxHeartbeats 8000000 in
theorem awake_any (w : World) (hG : G w) (hTN : TN w) : Calls Tryz.prog 7 #[] w fun e w' => e = .returned (.bool true) ∧ Mv (fun _ => False) w w' := by
  obtain ⟨e0, u, st, o, hx1, hu0, hu20, hst, ho⟩ := chk1_some v1
  have hx2 := isErr_some v2
  obtain ⟨ds, hx3, hds⟩ := chk3_some v3
  have H1 : Hid (∀ w, G w → TN w → Calls Tryz.prog 8 #[.string (strOfL [98, 121, 116, 101, 32, 120, 59, 32, 105, 110, 105, 116, 32, 123, 32, 105, 102, 32, 58, 58, 32, 120, 32, 62, 32, 48, 32, 45, 62, 32, 120, 45, 45, 59, 32, 58, 58, 32, 101, 108, 115, 101, 32, 102, 105, 32, 125])] w (UnitsOut w (.ok [.row .unit [e0, u]]))) := fun w hG hT => Parse_of _ _ hx1 w hG hT
  have H2 : Hid (∀ w, G w → TN w → Calls Tryz.prog 8 #[.string (strOfL [105, 110, 105, 116, 32, 123, 32, 120, 32, 61, 32, 125])] w (UnitsOut w (.error (30, 11)))) := fun w hG hT => Parse_of _ _ hx2 w hG hT
  have H3 : Hid (∀ w, G w → TN w → Calls Tryz.prog 11 #[.string (strOfL [49, 32, 43, 32, 50, 32, 42, 32, 51])] w (AstOut w (.ok ds))) := fun w hG hT => Expr_of _ _ hx3 w hG hT
  clear hx1 hx2 hx3
  have HG : Hid (G w ∧ TN w) := ⟨hG, hTN⟩
  clear hG hTN
  go_enter Tryz.func7, Tryz.ntmps7
  go_wp2_with fail
  refine (H1.out _ HG.out.1 HG.out.2).mono ?_
  rintro e w1 ⟨hm1, v, els, hels, rfl, hd1⟩
  cases hels
  obtain ⟨g, cap, rfl, hr1⟩ := hd1.nonempty (by simp)
  have hru := hr1 1 u rfl
  obtain ⟨x0, c0, d0⟩ := hru.c 0 _ hu0
  cases d0
  obtain ⟨x20, c20, d20⟩ := hru.c 20 _ hu20
  obtain ⟨g2, cap2, rfl, hr2⟩ := d20.nonempty (by simp)
  obtain ⟨x26, c26, d26⟩ := (hr2 0 st rfl).c 26 _ hst
  obtain ⟨o3, c3, rfl⟩ := d26.sliceL
  rw [ho] at c26
  simp only [Nat.zero_mul, Nat.zero_add] at c26
  have c0' : w1.cell? ⟨g, 21, none⟩ = some (.int .i64 5) := c0
  have c20' : w1.cell? ⟨g, 41, none⟩ = some (.slice (some ⟨g2, 0, none⟩) 1 cap2) := c20
  clear c0 c20
  have mA : Mv (fun _ => False) w1 (w1.alloc M0) := Mv.alloc _ _ _
  have HG2 : Hid (G (w1.alloc M0) ∧ TN (w1.alloc M0)) := ⟨(HG.out.1.mv hm1 id).mv mA id, (HG.out.2.mv hm1 id).mv mA id⟩
  have HM1 : Hid (Mv (fun _ => False) w w1) := hm1
  clear hm1 mA hd1 hr1 hru d20 hr2 d26 hu0 hu20 hst ho
  go_wp2_with fail
  refine (H2.out _ HG2.out.1 HG2.out.2).mono ?_
  rintro e w2 ⟨hm2, rfl⟩
  have mA2 := (Mv.alloc (fun _ => False) w1 M0).trans hm2 (fun _ h => h.elim)
  replace c0' := cell_mv mA2 c0' id
  replace c20' := cell_mv mA2 c20' id
  replace c26 := cell_mv mA2 c26 id
  obtain ⟨b0, b1, _⟩ := facts2 (hm2.heap (heap_alloc_new w1 M0) id)
  have mB : Mv (fun _ => False) w2 (w2.alloc (.cells #[.int .i64 30, .int .i64 11] 26)) := Mv.alloc _ _ _
  have HM2 : Hid (Mv (fun _ => False) w w2) := HM1.out.trans mA2 (fun _ h => h.elim)
  have HG3 : Hid (G (w2.alloc (.cells #[.int .i64 30, .int .i64 11] 26)) ∧ TN (w2.alloc (.cells #[.int .i64 30, .int .i64 11] 26))) := ⟨(HG.out.1.mv HM2.out id).mv mB id, (HG.out.2.mv HM2.out id).mv mB id⟩
  clear hm2 mA2 mB HG2
  go_wp2_with fail
  refine (H3.out _ HG3.out.1 HG3.out.2).mono ?_
  rintro e w3 ⟨hm3, v, rfl, n0, n1, s2, s3, v4, v5, v6, v7, v8, rfl, hsh, hd⟩
  obtain ⟨u2, h2, e2⟩ := hd 2 _ hds
  cases h2
  cases e2
  obtain ⟨k0, k1, k2, k3, r4, r5, r6, r7, r8, rfl⟩ := shAst_some hsh
  obtain ⟨u4, h4, e4⟩ := hd 4 _ rfl
  obtain ⟨u5, h5, e5⟩ := hd 5 _ rfl
  obtain ⟨u6, h6, e6⟩ := hd 6 _ rfl
  obtain ⟨u7, h7, e7⟩ := hd 7 _ rfl
  obtain ⟨u8, h8, e8⟩ := hd 8 _ rfl
  cases h4; cases h5; cases h6; cases h7; cases h8
  obtain ⟨o4, l4, q4, rfl⟩ := e4.slice
  obtain ⟨o5, l5, q5, rfl⟩ := e5.slice
  obtain ⟨o6, l6, q6, rfl⟩ := e6.slice
  obtain ⟨o7, l7, q7, rfl⟩ := e7.slice
  obtain ⟨o8, l8, q8, rfl⟩ := e8.slice
  have mC := (Mv.alloc (fun _ => False) w2 (.cells #[.int .i64 30, .int .i64 11] 26)).trans hm3 (fun _ h => h.elim)
  replace c0' := cell_mv mC c0' id
  replace c20' := cell_mv mC c20' id
  replace c26 := cell_mv mC c26 id
  replace b0 := cell_mv mC b0 id
  replace b1 := cell_mv mC b1 id
  obtain ⟨d0, d1, _⟩ := facts2 (hm3.heap (heap_alloc_new w2 (.cells #[.int .i64 30, .int .i64 11] 26)) id)
  have hg : g < w3.heap.size := block_lt_of_cell c0'
  have hg2 : g2 < w3.heap.size := block_lt_of_cell c26
  have hb0 : w1.heap.size < w3.heap.size := block_lt_of_cell b0
  have hd0 : w2.heap.size < w3.heap.size := block_lt_of_cell d0
  have HM3 : Hid (Mv (fun _ => False) w w3) := HM2.out.trans mC (fun _ h => h.elim)
  clear hm3 mC hd hsh e4 e5 e6 e7 e8 hds HG HG3 H1 H2 H3
  have hs : ((strOfL [43]).toList == [43]) = true := by kernel_rfl
  go_wp2_with fail
  go_ret
  exact ⟨rfl, (HM3.out.trans (Mv.alloc (fun _ => False) _ _) (fun _ h => h.elim)).trans (Mv.alloc (fun _ => False) _ _) (fun _ h => h.elim)⟩

end Go.Proofs.YthmdgbmodgfcmaaGreatDoor
/-
  Texts that lie deep: by reckoning.
-/
namespace Go.Proofs.YthmdgbmodgfcmaaGreatDoor

set_option maxRecDepth 1000000
theorem vB0 : okB 0 = true := by kernel_rfl
theorem vB1 : okB 1 = true := by kernel_rfl
theorem vB2 : okB 2 = true := by kernel_rfl
theorem vB3 : okB 3 = true := by kernel_rfl
theorem vB4 : okB 4 = true := by kernel_rfl
theorem vB5 : okB 5 = true := by kernel_rfl
theorem vB6 : okB 6 = true := by kernel_rfl
theorem vB7 : okB 7 = true := by kernel_rfl
theorem vB8 : okB 8 = true := by kernel_rfl
theorem vB9 : okB 9 = true := by kernel_rfl
theorem vB10 : okB 10 = true := by kernel_rfl
theorem vB11 : okB 11 = true := by kernel_rfl
theorem vB12 : okB 12 = true := by kernel_rfl
theorem vB13 : okB 13 = true := by kernel_rfl
theorem vB14 : okB 14 = true := by kernel_rfl
theorem vB15 : okB 15 = true := by kernel_rfl
theorem vB16 : okB 16 = true := by kernel_rfl
theorem vB17 : okB 17 = true := by kernel_rfl
theorem vB18 : okB 18 = true := by kernel_rfl
theorem vB19 : okB 19 = true := by kernel_rfl
theorem vB20 : okB 20 = true := by kernel_rfl
theorem vB21 : okB 21 = true := by kernel_rfl
theorem vB22 : okB 22 = true := by kernel_rfl
theorem vB23 : okB 23 = true := by kernel_rfl
theorem vB24 : okB 24 = true := by kernel_rfl
theorem vB25 : okB 25 = true := by kernel_rfl
theorem vB26 : okB 26 = true := by kernel_rfl
theorem vB27 : okB 27 = true := by kernel_rfl
theorem vB28 : okB 28 = true := by kernel_rfl
theorem vB29 : okB 29 = true := by kernel_rfl
theorem vB30 : okB 30 = true := by kernel_rfl
theorem vB31 : okB 31 = true := by kernel_rfl
theorem vB32 : okB 32 = true := by kernel_rfl
theorem vB33 : okB 33 = true := by kernel_rfl
theorem vB34 : okB 34 = true := by kernel_rfl
theorem vB35 : okB 35 = true := by kernel_rfl
theorem vB36 : okB 36 = true := by kernel_rfl
theorem vB37 : okB 37 = true := by kernel_rfl
theorem vB38 : okB 38 = true := by kernel_rfl
theorem vB39 : okB 39 = true := by kernel_rfl
theorem vB40 : okB 40 = true := by kernel_rfl
theorem vB41 : okB 41 = true := by kernel_rfl
theorem vB42 : okB 42 = true := by kernel_rfl
theorem vB43 : okB 43 = true := by kernel_rfl
theorem vB44 : okB 44 = true := by kernel_rfl
theorem vB45 : okB 45 = true := by kernel_rfl
theorem vB46 : okB 46 = true := by kernel_rfl
theorem vB47 : okB 47 = true := by kernel_rfl
theorem vB48 : okB 48 = true := by kernel_rfl
theorem vB49 : okB 49 = true := by kernel_rfl
theorem vB50 : okB 50 = true := by kernel_rfl
theorem vB51 : okB 51 = true := by kernel_rfl
theorem vB52 : okB 52 = true := by kernel_rfl
theorem vB53 : okB 53 = true := by kernel_rfl
theorem vB54 : okB 54 = true := by kernel_rfl
theorem vB55 : okB 55 = true := by kernel_rfl
theorem vB56 : okB 56 = true := by kernel_rfl
theorem vB57 : okB 57 = true := by kernel_rfl
theorem vB58 : okB 58 = true := by kernel_rfl
theorem vB59 : okB 59 = true := by kernel_rfl

end Go.Proofs.YthmdgbmodgfcmaaGreatDoor
/-
  Texts that lie deep: by reckoning.
-/
namespace Go.Proofs.YthmdgbmodgfcmaaGreatDoor

set_option maxRecDepth 1000000
theorem vB60 : okB 60 = true := by kernel_rfl
theorem vB61 : okB 61 = true := by kernel_rfl
theorem vB62 : okB 62 = true := by kernel_rfl
theorem vB63 : okB 63 = true := by kernel_rfl
theorem vB64 : okB 64 = true := by kernel_rfl
theorem vB65 : okB 65 = true := by kernel_rfl
theorem vB66 : okB 66 = true := by kernel_rfl
theorem vB67 : okB 67 = true := by kernel_rfl
theorem vB68 : okB 68 = true := by kernel_rfl
theorem vB69 : okB 69 = true := by kernel_rfl
theorem vB70 : okB 70 = true := by kernel_rfl
theorem vB71 : okB 71 = true := by kernel_rfl
theorem vB72 : okB 72 = true := by kernel_rfl
theorem vB73 : okB 73 = true := by kernel_rfl
theorem vB74 : okB 74 = true := by kernel_rfl
theorem vB75 : okB 75 = true := by kernel_rfl
theorem vB76 : okB 76 = true := by kernel_rfl
theorem vB77 : okB 77 = true := by kernel_rfl
theorem vB78 : okB 78 = true := by kernel_rfl
theorem vB79 : okB 79 = true := by kernel_rfl
theorem vB80 : okB 80 = true := by kernel_rfl
theorem vB81 : okB 81 = true := by kernel_rfl
theorem vB82 : okB 82 = true := by kernel_rfl
theorem vB83 : okB 83 = true := by kernel_rfl
theorem vB84 : okB 84 = true := by kernel_rfl
theorem vB85 : okB 85 = true := by kernel_rfl
theorem vB86 : okB 86 = true := by kernel_rfl
theorem vB87 : okB 87 = true := by kernel_rfl
theorem vB88 : okB 88 = true := by kernel_rfl
theorem vB89 : okB 89 = true := by kernel_rfl
theorem vB90 : okB 90 = true := by kernel_rfl
theorem vB91 : okB 91 = true := by kernel_rfl
theorem vB92 : okB 92 = true := by kernel_rfl
theorem vB93 : okB 93 = true := by kernel_rfl
theorem vB94 : okB 94 = true := by kernel_rfl
theorem vB95 : okB 95 = true := by kernel_rfl
theorem vB96 : okB 96 = true := by kernel_rfl
theorem vB97 : okB 97 = true := by kernel_rfl
theorem vB98 : okB 98 = true := by kernel_rfl
theorem vB99 : okB 99 = true := by kernel_rfl
theorem vB100 : okB 100 = true := by kernel_rfl
theorem vB101 : okB 101 = true := by kernel_rfl
theorem vB102 : okB 102 = true := by kernel_rfl
theorem vB103 : okB 103 = true := by kernel_rfl
theorem vB104 : okB 104 = true := by kernel_rfl
theorem vB105 : okB 105 = true := by kernel_rfl
theorem vB106 : okB 106 = true := by kernel_rfl
theorem vB107 : okB 107 = true := by kernel_rfl
theorem vB108 : okB 108 = true := by kernel_rfl
theorem vB109 : okB 109 = true := by kernel_rfl
theorem vB110 : okB 110 = true := by kernel_rfl
theorem vB111 : okB 111 = true := by kernel_rfl
theorem vB112 : okB 112 = true := by kernel_rfl
theorem vB113 : okB 113 = true := by kernel_rfl
theorem vB114 : okB 114 = true := by kernel_rfl
theorem vB115 : okB 115 = true := by kernel_rfl
theorem vB116 : okB 116 = true := by kernel_rfl
theorem vB117 : okB 117 = true := by kernel_rfl
theorem vB118 : okB 118 = true := by kernel_rfl
theorem vB119 : okB 119 = true := by kernel_rfl

end Go.Proofs.YthmdgbmodgfcmaaGreatDoor
/-
  Texts that lie deep: by reckoning.
-/
namespace Go.Proofs.YthmdgbmodgfcmaaGreatDoor

set_option maxRecDepth 1000000
theorem vE0 : okE 0 = true := by kernel_rfl
theorem vE1 : okE 1 = true := by kernel_rfl
theorem vE2 : okE 2 = true := by kernel_rfl
theorem vE3 : okE 3 = true := by kernel_rfl
theorem vE4 : okE 4 = true := by kernel_rfl
theorem vE5 : okE 5 = true := by kernel_rfl
theorem vE6 : okE 6 = true := by kernel_rfl
theorem vE7 : okE 7 = true := by kernel_rfl
theorem vE8 : okE 8 = true := by kernel_rfl
theorem vE9 : okE 9 = true := by kernel_rfl
theorem vE10 : okE 10 = true := by kernel_rfl
theorem vE11 : okE 11 = true := by kernel_rfl
theorem vE12 : okE 12 = true := by kernel_rfl
theorem vE13 : okE 13 = true := by kernel_rfl
theorem vE14 : okE 14 = true := by kernel_rfl
theorem vE15 : okE 15 = true := by kernel_rfl
theorem vE16 : okE 16 = true := by kernel_rfl
theorem vE17 : okE 17 = true := by kernel_rfl
theorem vE18 : okE 18 = true := by kernel_rfl
theorem vE19 : okE 19 = true := by kernel_rfl
theorem vE20 : okE 20 = true := by kernel_rfl
theorem vE21 : okE 21 = true := by kernel_rfl
theorem vE22 : okE 22 = true := by kernel_rfl
theorem vE23 : okE 23 = true := by kernel_rfl
theorem vE24 : okE 24 = true := by kernel_rfl
theorem vE25 : okE 25 = true := by kernel_rfl
theorem vE26 : okE 26 = true := by kernel_rfl
theorem vE27 : okE 27 = true := by kernel_rfl
theorem vE28 : okE 28 = true := by kernel_rfl
theorem vE29 : okE 29 = true := by kernel_rfl
theorem vE30 : okE 30 = true := by kernel_rfl
theorem vE31 : okE 31 = true := by kernel_rfl
theorem vE32 : okE 32 = true := by kernel_rfl
theorem vE33 : okE 33 = true := by kernel_rfl
theorem vE34 : okE 34 = true := by kernel_rfl
theorem vE35 : okE 35 = true := by kernel_rfl
theorem vE36 : okE 36 = true := by kernel_rfl
theorem vE37 : okE 37 = true := by kernel_rfl
theorem vE38 : okE 38 = true := by kernel_rfl
theorem vE39 : okE 39 = true := by kernel_rfl
theorem vE40 : okE 40 = true := by kernel_rfl
theorem vE41 : okE 41 = true := by kernel_rfl
theorem vE42 : okE 42 = true := by kernel_rfl
theorem vE43 : okE 43 = true := by kernel_rfl
theorem vE44 : okE 44 = true := by kernel_rfl
theorem vE45 : okE 45 = true := by kernel_rfl
theorem vE46 : okE 46 = true := by kernel_rfl
theorem vE47 : okE 47 = true := by kernel_rfl
theorem vE48 : okE 48 = true := by kernel_rfl
theorem vE49 : okE 49 = true := by kernel_rfl
theorem vE50 : okE 50 = true := by kernel_rfl
theorem vE51 : okE 51 = true := by kernel_rfl
theorem vE52 : okE 52 = true := by kernel_rfl
theorem vE53 : okE 53 = true := by kernel_rfl
theorem vE54 : okE 54 = true := by kernel_rfl
theorem vE55 : okE 55 = true := by kernel_rfl
theorem vE56 : okE 56 = true := by kernel_rfl
theorem vE57 : okE 57 = true := by kernel_rfl
theorem vE58 : okE 58 = true := by kernel_rfl
theorem vE59 : okE 59 = true := by kernel_rfl

end Go.Proofs.YthmdgbmodgfcmaaGreatDoor
/-
  Texts that lie deep: by reckoning.
-/
namespace Go.Proofs.YthmdgbmodgfcmaaGreatDoor

set_option maxRecDepth 1000000
theorem vE60 : okE 60 = true := by kernel_rfl
theorem vE61 : okE 61 = true := by kernel_rfl
theorem vE62 : okE 62 = true := by kernel_rfl
theorem vE63 : okE 63 = true := by kernel_rfl
theorem vE64 : okE 64 = true := by kernel_rfl
theorem vE65 : okE 65 = true := by kernel_rfl
theorem vE66 : okE 66 = true := by kernel_rfl
theorem vE67 : okE 67 = true := by kernel_rfl
theorem vE68 : okE 68 = true := by kernel_rfl
theorem vE69 : okE 69 = true := by kernel_rfl
theorem vE70 : okE 70 = true := by kernel_rfl
theorem vE71 : okE 71 = true := by kernel_rfl
theorem vE72 : okE 72 = true := by kernel_rfl
theorem vE73 : okE 73 = true := by kernel_rfl
theorem vE74 : okE 74 = true := by kernel_rfl
theorem vE75 : okE 75 = true := by kernel_rfl
theorem vE76 : okE 76 = true := by kernel_rfl
theorem vE77 : okE 77 = true := by kernel_rfl
theorem vE78 : okE 78 = true := by kernel_rfl
theorem vE79 : okE 79 = true := by kernel_rfl
theorem vE80 : okE 80 = true := by kernel_rfl
theorem vE81 : okE 81 = true := by kernel_rfl
theorem vE82 : okE 82 = true := by kernel_rfl
theorem vE83 : okE 83 = true := by kernel_rfl
theorem vE84 : okE 84 = true := by kernel_rfl
theorem vE85 : okE 85 = true := by kernel_rfl
theorem vE86 : okE 86 = true := by kernel_rfl
theorem vE87 : okE 87 = true := by kernel_rfl
theorem vE88 : okE 88 = true := by kernel_rfl
theorem vE89 : okE 89 = true := by kernel_rfl
theorem vE90 : okE 90 = true := by kernel_rfl
theorem vE91 : okE 91 = true := by kernel_rfl
theorem vE92 : okE 92 = true := by kernel_rfl
theorem vE93 : okE 93 = true := by kernel_rfl
theorem vE94 : okE 94 = true := by kernel_rfl
theorem vE95 : okE 95 = true := by kernel_rfl
theorem vE96 : okE 96 = true := by kernel_rfl
theorem vE97 : okE 97 = true := by kernel_rfl
theorem vE98 : okE 98 = true := by kernel_rfl
theorem vE99 : okE 99 = true := by kernel_rfl
theorem vE100 : okE 100 = true := by kernel_rfl
theorem vE101 : okE 101 = true := by kernel_rfl
theorem vE102 : okE 102 = true := by kernel_rfl
theorem vE103 : okE 103 = true := by kernel_rfl
theorem vE104 : okE 104 = true := by kernel_rfl
theorem vE105 : okE 105 = true := by kernel_rfl
theorem vE106 : okE 106 = true := by kernel_rfl
theorem vE107 : okE 107 = true := by kernel_rfl
theorem vE108 : okE 108 = true := by kernel_rfl
theorem vE109 : okE 109 = true := by kernel_rfl
theorem vE110 : okE 110 = true := by kernel_rfl
theorem vE111 : okE 111 = true := by kernel_rfl
theorem vE112 : okE 112 = true := by kernel_rfl
theorem vE113 : okE 113 = true := by kernel_rfl
theorem vE114 : okE 114 = true := by kernel_rfl
theorem vE115 : okE 115 = true := by kernel_rfl
theorem vE116 : okE 116 = true := by kernel_rfl
theorem vE117 : okE 117 = true := by kernel_rfl
theorem vE118 : okE 118 = true := by kernel_rfl
theorem vE119 : okE 119 = true := by kernel_rfl

end Go.Proofs.YthmdgbmodgfcmaaGreatDoor
/-
  Texts that lie deep.
-/
namespace Go.Proofs.YthmdgbmodgfcmaaGreatDoor

theorem vB_all : ∀ n, n < 120 → okB n = true
  | 0, _ => vB0
  | 1, _ => vB1
  | 2, _ => vB2
  | 3, _ => vB3
  | 4, _ => vB4
  | 5, _ => vB5
  | 6, _ => vB6
  | 7, _ => vB7
  | 8, _ => vB8
  | 9, _ => vB9
  | 10, _ => vB10
  | 11, _ => vB11
  | 12, _ => vB12
  | 13, _ => vB13
  | 14, _ => vB14
  | 15, _ => vB15
  | 16, _ => vB16
  | 17, _ => vB17
  | 18, _ => vB18
  | 19, _ => vB19
  | 20, _ => vB20
  | 21, _ => vB21
  | 22, _ => vB22
  | 23, _ => vB23
  | 24, _ => vB24
  | 25, _ => vB25
  | 26, _ => vB26
  | 27, _ => vB27
  | 28, _ => vB28
  | 29, _ => vB29
  | 30, _ => vB30
  | 31, _ => vB31
  | 32, _ => vB32
  | 33, _ => vB33
  | 34, _ => vB34
  | 35, _ => vB35
  | 36, _ => vB36
  | 37, _ => vB37
  | 38, _ => vB38
  | 39, _ => vB39
  | 40, _ => vB40
  | 41, _ => vB41
  | 42, _ => vB42
  | 43, _ => vB43
  | 44, _ => vB44
  | 45, _ => vB45
  | 46, _ => vB46
  | 47, _ => vB47
  | 48, _ => vB48
  | 49, _ => vB49
  | 50, _ => vB50
  | 51, _ => vB51
  | 52, _ => vB52
  | 53, _ => vB53
  | 54, _ => vB54
  | 55, _ => vB55
  | 56, _ => vB56
  | 57, _ => vB57
  | 58, _ => vB58
  | 59, _ => vB59
  | 60, _ => vB60
  | 61, _ => vB61
  | 62, _ => vB62
  | 63, _ => vB63
  | 64, _ => vB64
  | 65, _ => vB65
  | 66, _ => vB66
  | 67, _ => vB67
  | 68, _ => vB68
  | 69, _ => vB69
  | 70, _ => vB70
  | 71, _ => vB71
  | 72, _ => vB72
  | 73, _ => vB73
  | 74, _ => vB74
  | 75, _ => vB75
  | 76, _ => vB76
  | 77, _ => vB77
  | 78, _ => vB78
  | 79, _ => vB79
  | 80, _ => vB80
  | 81, _ => vB81
  | 82, _ => vB82
  | 83, _ => vB83
  | 84, _ => vB84
  | 85, _ => vB85
  | 86, _ => vB86
  | 87, _ => vB87
  | 88, _ => vB88
  | 89, _ => vB89
  | 90, _ => vB90
  | 91, _ => vB91
  | 92, _ => vB92
  | 93, _ => vB93
  | 94, _ => vB94
  | 95, _ => vB95
  | 96, _ => vB96
  | 97, _ => vB97
  | 98, _ => vB98
  | 99, _ => vB99
  | 100, _ => vB100
  | 101, _ => vB101
  | 102, _ => vB102
  | 103, _ => vB103
  | 104, _ => vB104
  | 105, _ => vB105
  | 106, _ => vB106
  | 107, _ => vB107
  | 108, _ => vB108
  | 109, _ => vB109
  | 110, _ => vB110
  | 111, _ => vB111
  | 112, _ => vB112
  | 113, _ => vB113
  | 114, _ => vB114
  | 115, _ => vB115
  | 116, _ => vB116
  | 117, _ => vB117
  | 118, _ => vB118
  | 119, _ => vB119
  | n + 120, h => absurd h (by omega)

theorem vE_all : ∀ n, n < 120 → okE n = true
  | 0, _ => vE0
  | 1, _ => vE1
  | 2, _ => vE2
  | 3, _ => vE3
  | 4, _ => vE4
  | 5, _ => vE5
  | 6, _ => vE6
  | 7, _ => vE7
  | 8, _ => vE8
  | 9, _ => vE9
  | 10, _ => vE10
  | 11, _ => vE11
  | 12, _ => vE12
  | 13, _ => vE13
  | 14, _ => vE14
  | 15, _ => vE15
  | 16, _ => vE16
  | 17, _ => vE17
  | 18, _ => vE18
  | 19, _ => vE19
  | 20, _ => vE20
  | 21, _ => vE21
  | 22, _ => vE22
  | 23, _ => vE23
  | 24, _ => vE24
  | 25, _ => vE25
  | 26, _ => vE26
  | 27, _ => vE27
  | 28, _ => vE28
  | 29, _ => vE29
  | 30, _ => vE30
  | 31, _ => vE31
  | 32, _ => vE32
  | 33, _ => vE33
  | 34, _ => vE34
  | 35, _ => vE35
  | 36, _ => vE36
  | 37, _ => vE37
  | 38, _ => vE38
  | 39, _ => vE39
  | 40, _ => vE40
  | 41, _ => vE41
  | 42, _ => vE42
  | 43, _ => vE43
  | 44, _ => vE44
  | 45, _ => vE45
  | 46, _ => vE46
  | 47, _ => vE47
  | 48, _ => vE48
  | 49, _ => vE49
  | 50, _ => vE50
  | 51, _ => vE51
  | 52, _ => vE52
  | 53, _ => vE53
  | 54, _ => vE54
  | 55, _ => vE55
  | 56, _ => vE56
  | 57, _ => vE57
  | 58, _ => vE58
  | 59, _ => vE59
  | 60, _ => vE60
  | 61, _ => vE61
  | 62, _ => vE62
  | 63, _ => vE63
  | 64, _ => vE64
  | 65, _ => vE65
  | 66, _ => vE66
  | 67, _ => vE67
  | 68, _ => vE68
  | 69, _ => vE69
  | 70, _ => vE70
  | 71, _ => vE71
  | 72, _ => vE72
  | 73, _ => vE73
  | 74, _ => vE74
  | 75, _ => vE75
  | 76, _ => vE76
  | 77, _ => vE77
  | 78, _ => vE78
  | 79, _ => vE79
  | 80, _ => vE80
  | 81, _ => vE81
  | 82, _ => vE82
  | 83, _ => vE83
  | 84, _ => vE84
  | 85, _ => vE85
  | 86, _ => vE86
  | 87, _ => vE87
  | 88, _ => vE88
  | 89, _ => vE89
  | 90, _ => vE90
  | 91, _ => vE91
  | 92, _ => vE92
  | 93, _ => vE93
  | 94, _ => vE94
  | 95, _ => vE95
  | 96, _ => vE96
  | 97, _ => vE97
  | 98, _ => vE98
  | 99, _ => vE99
  | 100, _ => vE100
  | 101, _ => vE101
  | 102, _ => vE102
  | 103, _ => vE103
  | 104, _ => vE104
  | 105, _ => vE105
  | 106, _ => vE106
  | 107, _ => vE107
  | 108, _ => vE108
  | 109, _ => vE109
  | 110, _ => vE110
  | 111, _ => vE111
  | 112, _ => vE112
  | 113, _ => vE113
  | 114, _ => vE114
  | 115, _ => vE115
  | 116, _ => vE116
  | 117, _ => vE117
  | 118, _ => vE118
  | 119, _ => vE119
  | n + 120, h => absurd h (by omega)

end Go.Proofs.YthmdgbmodgfcmaaGreatDoor
/-
  SyntaxDeep: it answers true.
-/
namespace Go.Proofs.YthmdgbmodgfcmaaGreatDoor
open Go.RowKit

/-- Between two rounds of the loop that makes the text. -/
structure MidS (bl : Bool) (i : Nat) (H T : ByteArray) : Prop where
  h : H = strOfL (heads bl i)
  t : T = strOfL (if bl then tails i else [])
  hs : H.size = 2 * i
  ts : T.size ≤ 2 * i

theorem strOfL_append (a b : List UInt8) : strOfL a ++ strOfL b = strOfL (a ++ b) := by
  show ByteArray.mk _ = ByteArray.mk _
  simp [strOfL]

theorem MidS.zero (bl : Bool) : MidS bl 0 ⟨#[]⟩ ⟨#[]⟩ := ⟨rfl, by cases bl <;> rfl, rfl, Nat.le_refl _⟩
theorem MidS.yes {i : Nat} {H T : ByteArray} (h : MidS true i H T) : MidS true (i + 1) (H ++ ⟨#[123, 32]⟩) (T ++ ⟨#[32, 125]⟩) := by
  refine ⟨?_, ?_, ?_, ?_⟩
  · rw [h.h]; exact strOfL_append _ [123, 32]
  · rw [h.t]; exact strOfL_append _ [32, 125]
  · rw [ByteArray.size_append, h.hs]; show 2 * i + 2 = _; omega
  · rw [ByteArray.size_append]; have := h.ts; show T.size + 2 ≤ _; omega
theorem MidS.no {i : Nat} {H T : ByteArray} (h : MidS false i H T) : MidS false (i + 1) (H ++ ⟨#[33, 32]⟩) T := by
  refine ⟨?_, h.t, ?_, ?_⟩
  · rw [h.h]; exact strOfL_append _ [33, 32]
  · rw [ByteArray.size_append, h.hs]; show 2 * i + 2 = _; omega
  · have := h.ts; omega

theorem deepB_text {i : Nat} {H T : ByteArray} (h : MidS true i H T) : (((⟨#[105, 110, 105, 116, 32, 123, 32]⟩ : ByteArray) ++ H ++ ⟨#[115, 107, 105, 112]⟩) ++ T) ++ ⟨#[32, 125]⟩ = strOfL (deepB i) := by
  rw [h.h, h.t]
  show (((strOfL [105, 110, 105, 116, 32, 123, 32] ++ strOfL (heads true i)) ++ strOfL [115, 107, 105, 112]) ++ strOfL (tails i)) ++ strOfL [32, 125] = _
  rw [strOfL_append, strOfL_append, strOfL_append, strOfL_append]
  rfl
theorem deepE_text {i : Nat} {H T : ByteArray} (h : MidS false i H T) : H ++ ⟨#[120]⟩ = strOfL (deepE i) := by
  rw [h.h]
  exact strOfL_append _ [120]

/-- What Parse, Expr give of such texts: a mishap's code and place. -/
theorem deepB_gives {i : Nat} (hi : i < 120) (w : World) (hG : G w) (hT : TN w) : Calls Tryz.prog 8 #[.string (strOfL (deepB i))] w fun e w' => ∃ ao l c, e = .returned (.tuple #[.slice ao l c, .agg #[.int .i64 (if i < 60 then 0 else 3), .int .i64 0]]) ∧ Mv (fun _ => False) w w' := by
  have h := vB_all i hi
  unfold okB at h
  split at h
  · rename_i hlt
    obtain ⟨ds, hds⟩ := isOk_some h
    refine (Parse_of _ _ hds w hG hT).mono ?_
    rintro e w' ⟨hm, v, els, rfl, rfl, hd⟩
    obtain ⟨ao, c, rfl⟩ := hd.sliceL
    exact ⟨_, _, _, by rw [if_pos hlt]; rfl, hm⟩
  · rename_i hlt
    refine (Parse_of _ _ (isErr_some h) w hG hT).mono ?_
    rintro e w' ⟨hm, rfl⟩
    exact ⟨none, 0, 0, by rw [if_neg hlt]; rfl, hm⟩
theorem deepE_gives {i : Nat} (hi : i < 120) (w : World) (hG : G w) (hT : TN w) : Calls Tryz.prog 11 #[.string (strOfL (deepE i))] w fun e w' => ∃ (n0 n1 : Int) (s2 s3 : ByteArray) (o4 o5 o6 o7 o8 : Option Addr) (l4 l5 l6 l7 l8 c4 c5 c6 c7 c8 : Nat),
    e = .returned (.tuple #[.agg #[.int .i64 n0, .int .i64 n1, .string s2, .string s3, .slice o4 l4 c4, .slice o5 l5 c5, .slice o6 l6 c6, .slice o7 l7 c7, .slice o8 l8 c8], .agg #[.int .i64 (if i < 60 then 0 else 3), .int .i64 0]]) ∧ Mv (fun _ => False) w w' := by
  have h := vE_all i hi
  unfold okE at h
  split at h
  · rename_i hlt
    obtain ⟨ds, hds⟩ := isOk_some h
    refine (Expr_of _ _ hds w hG hT).mono ?_
    rintro e w' ⟨hm, v, rfl, n0, n1, s2, s3, v4, v5, v6, v7, v8, rfl, hsh, hd⟩
    obtain ⟨k0, k1, k2, k3, r4, r5, r6, r7, r8, rfl⟩ := shAst_some hsh
    obtain ⟨u4, h4, e4⟩ := hd 4 _ rfl
    obtain ⟨u5, h5, e5⟩ := hd 5 _ rfl
    obtain ⟨u6, h6, e6⟩ := hd 6 _ rfl
    obtain ⟨u7, h7, e7⟩ := hd 7 _ rfl
    obtain ⟨u8, h8, e8⟩ := hd 8 _ rfl
    cases h4; cases h5; cases h6; cases h7; cases h8
    obtain ⟨o4, l4, q4, rfl⟩ := e4.slice
    obtain ⟨o5, l5, q5, rfl⟩ := e5.slice
    obtain ⟨o6, l6, q6, rfl⟩ := e6.slice
    obtain ⟨o7, l7, q7, rfl⟩ := e7.slice
    obtain ⟨o8, l8, q8, rfl⟩ := e8.slice
    exact ⟨_, _, _, _, _, _, _, _, _, _, _, _, _, _, _, _, _, _, _, by rw [if_pos hlt]; rfl, hm⟩
  · rename_i hlt
    refine (Expr_of _ _ (isErr_some h) w hG hT).mono ?_
    rintro e w' ⟨hm, rfl⟩
    exact ⟨0, 0, ⟨#[]⟩, ⟨#[]⟩, none, none, none, none, none, 0, 0, 0, 0, 0, 0, 0, 0, 0, 0, by rw [if_neg hlt]; rfl, hm⟩

set_option maxHeartbeats 8000000 in
theorem SyntaxDeep_walk (a : Int) (bl : Bool) (ha1 : -9223372036854775808 ≤ a) (ha2 : a ≤ 9223372036854775807) (w : World) (hG : G w) (hTN : TN w) : Calls Tryz.prog 6 #[.int .i64 a, .bool bl] w fun e w' => e = .returned (.bool true) ∧ Mv (fun _ => False) w w' := by
  have HB : Hid (∀ w, G w → TN w → Calls Tryz.prog 7 #[] w fun e w' => e = .returned (.bool true) ∧ Mv (fun _ => False) w w') := fun w h1 h2 => awake_any w h1 h2
  have HG : Hid (G w ∧ TN w) := ⟨hG, hTN⟩
  clear hG hTN
  obtain ⟨M, hM⟩ : ∃ M : Int, (if a < 0 then -(a + 1) else a) = M := ⟨_, rfl⟩
  have hM0 : 0 ≤ M := by rw [← hM]; split <;> omega
  have hM1 : M ≤ 9223372036854775807 := by rw [← hM]; split <;> omega
  obtain ⟨N, hN⟩ : ∃ N : Nat, M.tmod 120 = (N : Int) := ⟨(M.toNat % 120), by
    obtain ⟨k, rfl⟩ : ∃ k : Nat, M = (k : Int) := ⟨M.toNat, by omega⟩
    rw [Int.toNat_natCast]; rfl⟩
  have hN2 : N < 120 := by have := Int.tmod_lt_of_pos M (show (0 : Int) < 120 by omega); omega
  have hNi : ((N : Int)) < 120 := by omega
  have h1 : Hid (a < 0 → wrap64 (a + 1) = a + 1) := fun h => by unfold wrap64; omega
  have h2 : Hid (a < 0 → wrap64 (-(a + 1)) = M) := fun h => by rw [if_pos h] at hM; rw [hM]; unfold wrap64; omega
  have h3 : Hid (¬ a < 0 → a = M) := fun h => by rw [if_neg h] at hM; exact hM
  clear hM ha1 ha2 hM0 hM1
  go_enter Tryz.func6, Tryz.ntmps6
  go_wp2_with fail
  refine (HB.out _ HG.out.1 HG.out.2).mono ?_
  rintro e w1 ⟨rfl, hm1⟩
  have HM1 : Hid (Mv (fun _ => False) w w1) := hm1
  have HG1 : Hid (G w1 ∧ TN w1) := ⟨HG.out.1.mv hm1 id, HG.out.2.mv hm1 id⟩
  clear hm1 HB HG
  have h4 : Hid ((¬ a < 0 → a.tmod 120 = (N : Int)) ∧ (a < 0 ∨ 0 ≤ a)) := ⟨fun h => by rw [h3.out (by omega)]; exact hN, by omega⟩
  rcases h4.out.2 with ha | ha
  · have h1' := h1.out ha
    have h2' := h2.out ha
    clear h1 h2 h3 h4
    go_wp2_with fail
    cases bl with
    | true => 
      go_loopw [6, 7, 8] (fun hv tv iv wr => ∃ (i : Nat) (H T : ByteArray), i ≤ N ∧ hv = .string H ∧ tv = .string T ∧ iv = .int .i64 ((i : Int) + 1) ∧ Hid (MidS true i H T) ∧ wr = w1) (fun _ _ iv _ => 200 - (intOf iv).toNat)
      case atStart => exact ⟨0, ⟨#[]⟩, ⟨#[]⟩, Nat.zero_le _, rfl, rfl, rfl, MidS.zero _, rfl⟩
      case round =>
        obtain ⟨i, H, T, hi, rfl, rfl, rfl, HS, rfl⟩ := hrel
        have hH : H.size = 2 * i := HS.out.hs
        have hT : T.size ≤ 2 * i := HS.out.ts
        by_cases hj : i < N
        · have hj' : (i : Int) + 1 < (N : Int) + 1 := by omega
          go_wp2_with fail
          go_roundw
          case rel => exact ⟨i + 1, _, _, hj, rfl, rfl, by congr 1, HS.out.yes, trivial⟩
          case measure => simp [intOf]; omega
        · have hj' : ¬ (i : Int) + 1 < (N : Int) + 1 := by omega
          obtain rfl : i = N := by omega
          have HC : Hid (∀ w, G w → TN w → Calls Tryz.prog 8 #[.string ((((⟨#[105, 110, 105, 116, 32, 123, 32]⟩ : ByteArray) ++ H ++ ⟨#[115, 107, 105, 112]⟩) ++ T) ++ ⟨#[32, 125]⟩)] w fun e w' => ∃ ao l c, e = .returned (.tuple #[.slice ao l c, .agg #[.int .i64 (if i < 60 then 0 else 3), .int .i64 0]]) ∧ Mv (fun _ => False) w w') := fun w hG hT => by rw [deepB_text HS.out]; exact deepB_gives hN2 w hG hT
          clear hj hi HS
          go_wp2_with fail
          refine (HC.out _ HG1.out.1 HG1.out.2).mono ?_
          rintro e w2 ⟨ao, l, c, rfl, hm2⟩
          have HM2 : Hid (Mv (fun _ => False) w w2) := HM1.out.trans hm2 (fun _ h => h.elim)
          clear hm2 HC HG1 HM1 hH hT
          by_cases h6 : i < 60
          · have h6' : (i : Int) + 1 ≤ 60 := by omega
            rw [if_pos h6]
            go_wp2_with fail
            go_ret
            exact ⟨rfl, HM2.out.trans (Mv.alloc (fun _ => False) _ _) (fun _ h => h.elim)⟩
          · have h6' : ¬ (i : Int) + 1 ≤ 60 := by omega
            rw [if_neg h6]
            go_wp2_with fail
            go_ret
            exact ⟨by rw [show decide ((i : Int) + 1 ≤ 60) = false from decide_eq_false (by omega)]; rfl, HM2.out.trans (Mv.alloc (fun _ => False) _ _) (fun _ h => h.elim)⟩
    | false => 
      go_loopw [6, 7, 8] (fun hv tv iv wr => ∃ (i : Nat) (H T : ByteArray), i ≤ N ∧ hv = .string H ∧ tv = .string T ∧ iv = .int .i64 ((i : Int) + 1) ∧ Hid (MidS false i H T) ∧ wr = w1) (fun _ _ iv _ => 200 - (intOf iv).toNat)
      case atStart => exact ⟨0, ⟨#[]⟩, ⟨#[]⟩, Nat.zero_le _, rfl, rfl, rfl, MidS.zero _, rfl⟩
      case round =>
        obtain ⟨i, H, T, hi, rfl, rfl, rfl, HS, rfl⟩ := hrel
        have hH : H.size = 2 * i := HS.out.hs
        have hT : T.size ≤ 2 * i := HS.out.ts
        by_cases hj : i < N
        · have hj' : (i : Int) + 1 < (N : Int) + 1 := by omega
          go_wp2_with fail
          go_roundw
          case rel => exact ⟨i + 1, _, _, hj, rfl, rfl, by congr 1, HS.out.no, trivial⟩
          case measure => simp [intOf]; omega
        · have hj' : ¬ (i : Int) + 1 < (N : Int) + 1 := by omega
          obtain rfl : i = N := by omega
          have HC : Hid (∀ w, G w → TN w → Calls Tryz.prog 11 #[.string (H ++ ⟨#[120]⟩)] w fun e w' => ∃ (n0 n1 : Int) (s2 s3 : ByteArray) (o4 o5 o6 o7 o8 : Option Addr) (l4 l5 l6 l7 l8 c4 c5 c6 c7 c8 : Nat), e = .returned (.tuple #[.agg #[.int .i64 n0, .int .i64 n1, .string s2, .string s3, .slice o4 l4 c4, .slice o5 l5 c5, .slice o6 l6 c6, .slice o7 l7 c7, .slice o8 l8 c8], .agg #[.int .i64 (if i < 60 then 0 else 3), .int .i64 0]]) ∧ Mv (fun _ => False) w w') := fun w hG hT => by rw [deepE_text HS.out]; exact deepE_gives hN2 w hG hT
          clear hj hi HS
          go_wp2_with fail
          refine (HC.out _ HG1.out.1 HG1.out.2).mono ?_
          rintro e w2 ⟨n0, n1, s2, s3, o4, o5, o6, o7, o8, l4, l5, l6, l7, l8, c4, c5, c6, c7, c8, rfl, hm2⟩
          have HM2 : Hid (Mv (fun _ => False) w w2) := HM1.out.trans hm2 (fun _ h => h.elim)
          clear hm2 HC HG1 HM1 hH hT
          by_cases h6 : i < 60
          · have h6' : (i : Int) + 1 ≤ 60 := by omega
            rw [if_pos h6]
            go_wp2_with fail
            go_ret
            exact ⟨rfl, (HM2.out.trans (Mv.alloc (fun _ => False) _ _) (fun _ h => h.elim)).trans (Mv.alloc (fun _ => False) _ _) (fun _ h => h.elim)⟩
          · have h6' : ¬ (i : Int) + 1 ≤ 60 := by omega
            rw [if_neg h6]
            go_wp2_with fail
            go_ret
            exact ⟨by rw [show decide ((i : Int) + 1 ≤ 60) = false from decide_eq_false (by omega)]; rfl, (HM2.out.trans (Mv.alloc (fun _ => False) _ _) (fun _ h => h.elim)).trans (Mv.alloc (fun _ => False) _ _) (fun _ h => h.elim)⟩
  · have h3' : a.tmod 120 = (N : Int) := h4.out.1 (by omega)
    have had : decide (a < 0) = false := decide_eq_false (by omega)
    clear h1 h2 h3 h4 hN ha
    go_wp2_with fail
    cases bl with
    | true => 
      go_loopw [6, 7, 8] (fun hv tv iv wr => ∃ (i : Nat) (H T : ByteArray), i ≤ N ∧ hv = .string H ∧ tv = .string T ∧ iv = .int .i64 ((i : Int) + 1) ∧ Hid (MidS true i H T) ∧ wr = w1) (fun _ _ iv _ => 200 - (intOf iv).toNat)
      case atStart => exact ⟨0, ⟨#[]⟩, ⟨#[]⟩, Nat.zero_le _, rfl, rfl, rfl, MidS.zero _, rfl⟩
      case round =>
        obtain ⟨i, H, T, hi, rfl, rfl, rfl, HS, rfl⟩ := hrel
        have hH : H.size = 2 * i := HS.out.hs
        have hT : T.size ≤ 2 * i := HS.out.ts
        by_cases hj : i < N
        · have hj' : (i : Int) + 1 < (N : Int) + 1 := by omega
          go_wp2_with fail
          go_roundw
          case rel => exact ⟨i + 1, _, _, hj, rfl, rfl, by congr 1, HS.out.yes, trivial⟩
          case measure => simp [intOf]; omega
        · have hj' : ¬ (i : Int) + 1 < (N : Int) + 1 := by omega
          obtain rfl : i = N := by omega
          have HC : Hid (∀ w, G w → TN w → Calls Tryz.prog 8 #[.string ((((⟨#[105, 110, 105, 116, 32, 123, 32]⟩ : ByteArray) ++ H ++ ⟨#[115, 107, 105, 112]⟩) ++ T) ++ ⟨#[32, 125]⟩)] w fun e w' => ∃ ao l c, e = .returned (.tuple #[.slice ao l c, .agg #[.int .i64 (if i < 60 then 0 else 3), .int .i64 0]]) ∧ Mv (fun _ => False) w w') := fun w hG hT => by rw [deepB_text HS.out]; exact deepB_gives hN2 w hG hT
          clear hj hi HS
          go_wp2_with fail
          refine (HC.out _ HG1.out.1 HG1.out.2).mono ?_
          rintro e w2 ⟨ao, l, c, rfl, hm2⟩
          have HM2 : Hid (Mv (fun _ => False) w w2) := HM1.out.trans hm2 (fun _ h => h.elim)
          clear hm2 HC HG1 HM1 hH hT
          by_cases h6 : i < 60
          · have h6' : (i : Int) + 1 ≤ 60 := by omega
            rw [if_pos h6]
            go_wp2_with fail
            go_ret
            exact ⟨rfl, HM2.out.trans (Mv.alloc (fun _ => False) _ _) (fun _ h => h.elim)⟩
          · have h6' : ¬ (i : Int) + 1 ≤ 60 := by omega
            rw [if_neg h6]
            go_wp2_with fail
            go_ret
            exact ⟨by rw [show decide ((i : Int) + 1 ≤ 60) = false from decide_eq_false (by omega)]; rfl, HM2.out.trans (Mv.alloc (fun _ => False) _ _) (fun _ h => h.elim)⟩
    | false => 
      go_loopw [6, 7, 8] (fun hv tv iv wr => ∃ (i : Nat) (H T : ByteArray), i ≤ N ∧ hv = .string H ∧ tv = .string T ∧ iv = .int .i64 ((i : Int) + 1) ∧ Hid (MidS false i H T) ∧ wr = w1) (fun _ _ iv _ => 200 - (intOf iv).toNat)
      case atStart => exact ⟨0, ⟨#[]⟩, ⟨#[]⟩, Nat.zero_le _, rfl, rfl, rfl, MidS.zero _, rfl⟩
      case round =>
        obtain ⟨i, H, T, hi, rfl, rfl, rfl, HS, rfl⟩ := hrel
        have hH : H.size = 2 * i := HS.out.hs
        have hT : T.size ≤ 2 * i := HS.out.ts
        by_cases hj : i < N
        · have hj' : (i : Int) + 1 < (N : Int) + 1 := by omega
          go_wp2_with fail
          go_roundw
          case rel => exact ⟨i + 1, _, _, hj, rfl, rfl, by congr 1, HS.out.no, trivial⟩
          case measure => simp [intOf]; omega
        · have hj' : ¬ (i : Int) + 1 < (N : Int) + 1 := by omega
          obtain rfl : i = N := by omega
          have HC : Hid (∀ w, G w → TN w → Calls Tryz.prog 11 #[.string (H ++ ⟨#[120]⟩)] w fun e w' => ∃ (n0 n1 : Int) (s2 s3 : ByteArray) (o4 o5 o6 o7 o8 : Option Addr) (l4 l5 l6 l7 l8 c4 c5 c6 c7 c8 : Nat), e = .returned (.tuple #[.agg #[.int .i64 n0, .int .i64 n1, .string s2, .string s3, .slice o4 l4 c4, .slice o5 l5 c5, .slice o6 l6 c6, .slice o7 l7 c7, .slice o8 l8 c8], .agg #[.int .i64 (if i < 60 then 0 else 3), .int .i64 0]]) ∧ Mv (fun _ => False) w w') := fun w hG hT => by rw [deepE_text HS.out]; exact deepE_gives hN2 w hG hT
          clear hj hi HS
          go_wp2_with fail
          refine (HC.out _ HG1.out.1 HG1.out.2).mono ?_
          rintro e w2 ⟨n0, n1, s2, s3, o4, o5, o6, o7, o8, l4, l5, l6, l7, l8, c4, c5, c6, c7, c8, rfl, hm2⟩
          have HM2 : Hid (Mv (fun _ => False) w w2) := HM1.out.trans hm2 (fun _ h => h.elim)
          clear hm2 HC HG1 HM1 hH hT
          by_cases h6 : i < 60
          · have h6' : (i : Int) + 1 ≤ 60 := by omega
            rw [if_pos h6]
            go_wp2_with fail
            go_ret
            exact ⟨rfl, (HM2.out.trans (Mv.alloc (fun _ => False) _ _) (fun _ h => h.elim)).trans (Mv.alloc (fun _ => False) _ _) (fun _ h => h.elim)⟩
          · have h6' : ¬ (i : Int) + 1 ≤ 60 := by omega
            rw [if_neg h6]
            go_wp2_with fail
            go_ret
            exact ⟨by rw [show decide ((i : Int) + 1 ≤ 60) = false from decide_eq_false (by omega)]; rfl, (HM2.out.trans (Mv.alloc (fun _ => False) _ _) (fun _ h => h.elim)).trans (Mv.alloc (fun _ => False) _ _) (fun _ h => h.elim)⟩

end Go.Proofs.YthmdgbmodgfcmaaGreatDoor
