/-
  SEnv, SReadAst.
-/
import Derived.Test.YthmdgbmodgfcmaaGreatDoorM41
import Derived.Test.YthmdgbmodgfcmaaGreatDoorM42
import Derived.Test.YthmdgbmodgfcmaaGreatDoorM44
/-
  A reader over a text's words: its environment out of what Tokens hands back.
-/
namespace Go.Proofs.YthmdgbmodgfcmaaGreatDoor
open Go.RowKit

/-- No word of these two stands in it. -/
def plain (T : List Tok) : Bool := T.all (fun t => !(t.kind == 4 && (t.text == [117, 110, 108, 101, 115, 115] || t.text == [108, 116, 108])))

theorem plain_key {T : List Tok} (h : plain T = true) (len : Nat) (text : List UInt8) (s : List UInt8) (hs : s = [117, 110, 108, 101, 115, 115] ∨ s = [108, 116, 108]) : ¬ ∃ i, Cx.keyAt ⟨len, text, T⟩ i = s := by
  rintro ⟨i, hi⟩
  unfold Cx.keyAt at hi
  simp only at hi
  cases ht : T[i]? with
  | none => rw [ht] at hi; rcases hs with rfl | rfl <;> simp at hi
  | some t =>
    rw [ht] at hi
    simp only at hi
    have := List.all_eq_true.1 h t (List.mem_of_getElem? ht)
    split at hi
    · rename_i hk
      rw [hk, hi] at this
      rcases hs with rfl | rfl <;> simp at this
    · rcases hs with rfl | rfl <;> simp at hi

/-- The reader's environment. -/
def envOf (s : ByteArray) (T : List Tok) (h : tokens (bytesOf s) = .ok T) (rb wb : Nat) (ao : Option Addr) (cap : Nat) (hne : rb ≠ wb) (h1 : rb ≠ 1) (hao : T ≠ [] → ao = some ⟨wb, 0, none⟩) : Env where
  c := ⟨s.size, bytesOf s, T⟩
  s := s
  rb := rb
  wb := wb
  ao := ao
  cap := cap
  small := by have := tokens_facts h; show T.length ≤ 65536; omega
  size := rfl
  len := by have := (tokens_facts h).1; rw [bytesOf_length] at this; exact this
  ne := hne
  r1 := h1
  ao_eq := fun i t ht => hao (by rintro rfl; simp at ht)
  ats := fun i t ht => by have := ((tokens_facts h).2.1 t (List.mem_of_getElem? ht)).1; rw [bytesOf_length] at this; exact this
  txt := rfl
  mono := fun i j t u hij ht hu => by
    obtain ⟨hi, rfl⟩ := List.getElem?_eq_some_iff.1 ht
    obtain ⟨hj, rfl⟩ := List.getElem?_eq_some_iff.1 hu
    exact List.pairwise_iff_getElem.1 (tokens_facts h).2.2.1 i j hi hj hij
  nums := fun i t ht => ((tokens_facts h).2.1 t (List.mem_of_getElem? ht)).2

theorem TN.mv {S : Nat → Prop} {w w' : World} (h : TN w) (hk : Mv S w w') (hs : ¬ S 1) : TN w' := fun k s hs' => cell_mv hk (h k s hs') hs

/-- Words in a slice, and its block. -/
structure Wds (w : World) (T : List Tok) (ao : Option Addr) (wb cap : Nat) : Prop where
  ao : T ≠ [] → ao = some ⟨wb, 0, none⟩
  words : ∀ (k : Nat) (t : Tok), T[k]? = some t → w.cell? ⟨wb, k * 4, none⟩ = some (.int .i64 (t.kind : Int)) ∧ w.cell? ⟨wb, k * 4 + 1, none⟩ = some (.string (strOfL t.text)) ∧ w.cell? ⟨wb, k * 4 + 2, none⟩ = some (.int .i64 (t.n : Int)) ∧ w.cell? ⟨wb, k * 4 + 3, none⟩ = some (.int .i64 (t.at_ : Int))
  lt : wb < w.heap.size

theorem wds_of {W : World} {base : Nat} {T : List Tok} {v : Value} (h : W.ownsRow base 104 4 v T.length (tokCells T)) (hsz : 0 < W.heap.size) : ∃ ao cap wb, v = .slice ao T.length cap ∧ Wds W T ao wb cap ∧ (wb = 0 ∨ base ≤ wb) := by
  obtain ⟨ao, cap, rfl⟩ := row_form h
  by_cases hn : 0 < T.length
  · obtain ⟨g, cp, hv, hbase, hlt⟩ := World.ownsRow.form h hn
    obtain ⟨rfl, rfl⟩ : ao = some ⟨g, 0, none⟩ ∧ cap = cp := by simpa using hv
    have hc := fun k hk => tok_cells h k hk
    refine ⟨_, _, g, rfl, ⟨fun _ => rfl, fun k t ht => ?_, hlt⟩, .inr hbase⟩
    obtain ⟨hk, rfl⟩ := List.getElem?_eq_some_iff.1 ht
    exact hc k hk
  · have : T = [] := List.eq_nil_of_length_eq_zero (by omega)
    subst this
    exact ⟨ao, cap, 0, rfl, ⟨fun h => absurd rfl h, fun k t ht => by simp at ht, hsz⟩, .inl rfl⟩

theorem Wds.mv {S : Nat → Prop} {w w' : World} {T : List Tok} {ao : Option Addr} {wb cap : Nat} (h : Wds w T ao wb cap) (hk : Mv S w w') (hs : ¬ S wb) : Wds w' T ao wb cap :=
  ⟨h.ao, fun k t ht => by obtain ⟨a, b, c, d⟩ := h.words k t ht; exact ⟨cell_mv hk a hs, cell_mv hk b hs, cell_mv hk c hs, cell_mv hk d hs⟩, Nat.lt_of_lt_of_le h.lt hk.size⟩

/-- A new block of zero cells may be read into. -/
theorem At.new (w : World) (t : TypeId) (T : Ty) : At ty (w.alloc (.cells ((zero T).map zval).toArray t (0, 0))) (fun _ => False) w.heap.size t (zero T).length 0 (zero T) := by
  refine ⟨⟨((zero T).map zval).toArray, fun _ _ => False, heap_alloc_new _ _, by simp, fun i d hd => ⟨zval d, by simp [hd], zval_is _ _ _ T d (List.mem_of_getElem? hd)⟩, fun _ _ h => h, fun _ _ _ h => h.elim⟩, by simp, fun h => h, fun _ h => h.elim⟩

end Go.Proofs.YthmdgbmodgfcmaaGreatDoor
/-
  What reading a text as an expression does.
-/
namespace Go.Proofs.YthmdgbmodgfcmaaGreatDoor
open Go.RowKit

/-- What reading a text gives; none: not told here. -/
def readV (g : Goal) (sh : List D → Bool) (dp : List D → Option Nat) (f : Nat) (l : List UInt8) : Option (Except Mis (List D)) :=
  match tokens l with
  | .error m => some (.error m)
  | .ok T => if plain T then match run ⟨l.length, l, T⟩ f g 0 with
      | .error m => if m = (0, 0) then none else some (.error m)
      | .ok (ds, i) => if i < T.length then some (.error (Cx.refuse ⟨l.length, l, T⟩ i)) else if sh ds then match dp ds with
        | none => none
        | some n => some (if 60 < n then .error (3, 0) else .ok ds) else none
    else none

def shAst : List D → Bool
  | [.num _, .num _, .str _, .str _, .row .str _, .row .ast _, .row .bool _, .row .ast _, .row .arg _] => true
  | _ => false
theorem shAst_some {ds : List D} (h : shAst ds = true) : ∃ n0 n1 s2 s3 r4 r5 r6 r7 r8, ds = [.num n0, .num n1, .str s2, .str s3, .row .str r4, .row .ast r5, .row .bool r6, .row .ast r7, .row .arg r8] := by
  unfold shAst at h
  split at h
  · exact ⟨_, _, _, _, _, _, _, _, _, rfl⟩
  · cases h

abbrev S0 : Value := .slice none 0 0
abbrev zAstV : Value := .agg #[.int .i64 0, .int .i64 0, .string ⟨#[]⟩, .string ⟨#[]⟩, S0, S0, S0, S0, S0]
abbrev misV (m : Mis) : Value := .agg #[.int .i64 (m.1 : Int), .int .i64 (m.2 : Int)]
abbrev A0 : Obj := .cells #[.int .i64 0, .int .i64 0, .string ⟨#[]⟩, .string ⟨#[]⟩, S0, S0, S0, S0, S0] 41 (0, 0)
abbrev M0 : Obj := .cells #[.int .i64 0, .int .i64 0] 26 (0, 0)

/-- An expression's value. -/
structure AstV (w : World) (B : Nat) (v : Value) (ds : List D) : Prop where
  ex : ∃ (n0 n1 : Int) (s2 s3 : ByteArray) (v4 v5 v6 v7 v8 : Value), v = .agg #[.int .i64 n0, .int .i64 n1, .string s2, .string s3, v4, v5, v6, v7, v8] ∧ shAst ds = true ∧
    ∀ (i : Nat) (d : D), ds[i]? = some d → ∃ u, [Value.int .i64 n0, .int .i64 n1, .string s2, .string s3, v4, v5, v6, v7, v8][i]? = some u ∧ DIs ty w (fun x => B ≤ x) u d

def AstOut (w : World) (r : Except Mis (List D)) (e : Ending) (w' : World) : Prop := Mv (fun _ => False) w w' ∧ match r with
  | .error m => e = .returned (.tuple #[zAstV, misV m])
  | .ok ds => ∃ v, e = .returned (.tuple #[v, misV (0, 0)]) ∧ AstV w' w.heap.size v ds

theorem facts9 {w : World} {b : Nat} {t : TypeId} {a0 a1 a2 a3 a4 a5 a6 a7 a8 : Value} (h : w.heap[b]? = some (.cells #[a0, a1, a2, a3, a4, a5, a6, a7, a8] t (0, 0))) :
    (w.cell? ⟨b, 0, none⟩ = some a0 ∧ w.cell? ⟨b, 1, none⟩ = some a1 ∧ w.cell? ⟨b, 2, none⟩ = some a2 ∧ w.cell? ⟨b, 3, none⟩ = some a3 ∧ w.cell? ⟨b, 4, none⟩ = some a4 ∧ w.cell? ⟨b, 5, none⟩ = some a5 ∧ w.cell? ⟨b, 6, none⟩ = some a6 ∧ w.cell? ⟨b, 7, none⟩ = some a7 ∧ w.cell? ⟨b, 8, none⟩ = some a8) ∧
      ∀ i, w.frozen? ⟨b, i, none⟩ = false :=
  ⟨⟨by rw [cell_blk h]; rfl, by rw [cell_blk h]; rfl, by rw [cell_blk h]; rfl, by rw [cell_blk h]; rfl, by rw [cell_blk h]; rfl, by rw [cell_blk h]; rfl, by rw [cell_blk h]; rfl, by rw [cell_blk h]; rfl, by rw [cell_blk h]; rfl⟩, free_blk h⟩
theorem facts2 {w : World} {b : Nat} {t : TypeId} {a0 a1 : Value} (h : w.heap[b]? = some (.cells #[a0, a1] t (0, 0))) :
    w.cell? ⟨b, 0, none⟩ = some a0 ∧ w.cell? ⟨b, 1, none⟩ = some a1 ∧ w.frozen? ⟨b, 0, none⟩ = false ∧ w.frozen? ⟨b, 1, none⟩ = false :=
  ⟨by rw [cell_blk h]; rfl, by rw [cell_blk h]; rfl, free_blk h 0, free_blk h 1⟩

/-- The cells of the answers. -/
structure Tw (w W : World) (cs ms : Array Value) : Prop where
  a : W.heap[w.heap.size]? = some (.cells cs 41 (0, 0))
  m : W.heap[w.heap.size + 1]? = some (.cells ms 26 (0, 0))
  mv : Mv (fun _ => False) w W

theorem Mv.old {w W : World} (h : Mv (fun _ => False) w W) (p : Addr) (u : Value) (hp : w.heap.size ≤ p.block) : Mv (fun _ => False) w (W.setCell p u) :=
  h.trans (Mv.setCell W p u) (fun x hx => .inr (by rw [hx]; exact hp))
theorem Tw.setA {w W : World} {cs ms : Array Value} (h : Tw w W cs ms) (i : Nat) (u : Value) : Tw w (W.setCell ⟨w.heap.size, i, none⟩ u) (cs.setIfInBounds i u) ms :=
  ⟨setCell_blk h.a, (set_other (by omega)).trans h.m, h.mv.old _ _ (Nat.le_refl _)⟩
theorem Tw.setM {w W : World} {cs ms : Array Value} (h : Tw w W cs ms) (i : Nat) (u : Value) : Tw w (W.setCell ⟨w.heap.size + 1, i, none⟩ u) cs (ms.setIfInBounds i u) :=
  ⟨(set_other (by omega)).trans h.a, setCell_blk h.m, h.mv.old _ _ (Nat.le_succ _)⟩
theorem Tw.drew {w W : World} {cs ms : Array Value} (h : Tw w W cs ms) : Tw w W.drew cs ms := ⟨h.a, h.m, h.mv.trans (Mv.drew (fun _ => False) W) (fun _ h => h.elim)⟩
theorem Tw.go {S : Nat → Prop} {w W W' : World} {cs ms : Array Value} (h : Tw w W cs ms) (hm : Mv S W W') (ha : ¬ S w.heap.size) (hb : ¬ S (w.heap.size + 1)) (hs : ∀ x, S x → w.heap.size ≤ x) : Tw w W' cs ms :=
  ⟨hm.heap h.a ha, hm.heap h.m hb, h.mv.trans hm (fun x hx => .inr (hs x hx))⟩

/-- The answers are read. -/
theorem resAst {w W : World} {a0 a1 a2 a3 a4 a5 a6 a7 a8 x y : Value} (h : Tw w W #[a0, a1, a2, a3, a4, a5, a6, a7, a8] #[x, y]) {T : Array Value} (h6 : T[6]?.getD undef = .pointer (some ⟨w.heap.size, 0, none⟩)) (h7 : T[7]?.getD undef = .pointer (some ⟨w.heap.size + 1, 0, none⟩)) :
    (results Tryz.f22 T).run Tryz.prog W = .ok (.tuple #[.agg #[a0, a1, a2, a3, a4, a5, a6, a7, a8], .agg #[x, y]]) W := by
  obtain ⟨⟨c0, c1, c2, c3, c4, c5, c6, c7, c8⟩, _⟩ := facts9 h.a
  obtain ⟨d0, d1, _⟩ := facts2 h.m
  simp only [results, Tryz.results22]
  simp [h6, h7, go_sem, c0, c1, c2, c3, c4, c5, c6, c7, c8, d0, d1]

abbrev zc : Array Value := #[.int .i64 0, .int .i64 0, .string ⟨#[]⟩, .string ⟨#[]⟩, S0, S0, S0, S0, S0]

/-- A refusal goes through the door. -/
theorem leave_panic {w w4 : World} {x y : Value} (h : Tw w w4 zc #[x, y]) (m : Mis) {T : Array Value} (h6 : T[6]?.getD undef = .pointer (some ⟨w.heap.size, 0, none⟩)) (h7 : T[7]?.getD undef = .pointer (some ⟨w.heap.size + 1, 0, none⟩)) :
    bodyPostD Tryz.prog Tryz.f22 (AstOut w (.error m)) (.panic (thrown m)) { tmps := T, defers := [{ target := .fn (.func 43) #[.pointer (some ⟨w.heap.size + 1, 0, none⟩)], args := #[] }] } w4 := by
  refine leaves_cons (f := 43) (args := #[.pointer (some ⟨w.heap.size + 1, 0, none⟩)]) (by simp) (by simp [go_sem]) ?_
  refine (catchAst_panicking (w.heap.size + 1) m w4 _ _ h.m).mono ?_
  rintro e u' w5 ⟨rfl, rfl, hb, hmv⟩
  have h5 : Tw w w5 zc #[.int .i64 (m.1 : Int), .int .i64 (m.2 : Int)] := ⟨hmv.heap h.a (by simp), hb, h.mv.trans hmv (fun x hx => .inr (by subst hx; omega))⟩
  exact ⟨_, resAst h5 h6 h7, h5.mv, rfl⟩

/-- A return goes through the door. -/
theorem leave_ret {w w4 : World} {a0 a1 a2 a3 a4 a5 a6 a7 a8 x y : Value} (h : Tw w w4 #[a0, a1, a2, a3, a4, a5, a6, a7, a8] #[x, y]) {R : Ending → World → Prop} {T : Array Value} (h6 : T[6]?.getD undef = .pointer (some ⟨w.heap.size, 0, none⟩)) (h7 : T[7]?.getD undef = .pointer (some ⟨w.heap.size + 1, 0, none⟩))
    (hR : R (.returned (.tuple #[.agg #[a0, a1, a2, a3, a4, a5, a6, a7, a8], .agg #[x, y]])) w4) :
    bodyPostD Tryz.prog Tryz.f22 R .ret { tmps := T, defers := [{ target := .fn (.func 43) #[.pointer (some ⟨w.heap.size + 1, 0, none⟩)], args := #[] }] } w4 := by
  refine leaves_cons (f := 43) (args := #[.pointer (some ⟨w.heap.size + 1, 0, none⟩)]) (by simp) (by simp [go_sem]) ?_
  refine (catchAst_idle ⟨w.heap.size + 1, 0, none⟩ w4).mono ?_
  rintro e u' w5 ⟨rfl, rfl, rfl⟩
  exact ⟨_, resAst h h6 h7, hR⟩

set_option maxHeartbeats 4000000 in
theorem readAst_bad (s : ByteArray) (m : Mis) (ht : tokens (bytesOf s) = .error m) (w : World) (hG : G w) (g1 g2 : Value) :
    Calls Tryz.prog 22 #[.string s, g1, g2] w (AstOut w (.error m)) := by
  have HT : Hid (∀ w, G w → Calls Tryz.prog 28 #[.string s] w (TokOut 104 w (.error m))) := fun w hG => by rw [← ht]; exact Tokens_any s w hG
  obtain ⟨c, k⟩ := m
  have hc : ((c : Int) == 0) = false := by have := tokens_code ht; simpa using this
  clear ht
  have hG1 : G ((w.alloc A0).alloc M0) := (hG.kept (Kept.alloc [] w A0)).kept (Kept.alloc [] _ M0)
  have HG : Hid (G ((w.alloc A0).alloc M0)) := hG1
  clear hG hG1
  go_enter_defers Tryz.func22, Tryz.ntmps22
  go_wp2_with fail
  refine (HT.out _ HG.out).mono ?_
  intro e w2 ho
  obtain ⟨rfl, hk⟩ := ho
  have ht : Tw w w2 #[.int .i64 0, .int .i64 0, .string ⟨#[]⟩, .string ⟨#[]⟩, S0, S0, S0, S0, S0] #[.int .i64 0, .int .i64 0] :=
    ⟨hk.heap ((Kept.alloc [] (w.alloc A0) M0).heap (heap_alloc_new w A0) (by simp)) (by simp), hk.heap (new_at (w.alloc A0) M0 _ (by simp)) (by simp), ((Mv.alloc (fun _ => False) w A0).trans (Mv.alloc (fun _ => False) _ M0) (fun _ h => h.elim)).trans (Mv.of_kept hk) (by simp)⟩
  obtain ⟨⟨a0, a1, a2, a3, a4, a5, a6, a7, a8⟩, af⟩ := facts9 ht.a
  obtain ⟨m0, m1, f0, f1⟩ := facts2 ht.m
  have f2 := af 0; have f3 := af 1; have f4 := af 2; have f5 := af 3; have f6 := af 4; have f7 := af 5; have f8 := af 6; have f9 := af 7; have f10 := af 8
  have HW : Hid (Tw w w2 #[.int .i64 0, .int .i64 0, .string ⟨#[]⟩, .string ⟨#[]⟩, S0, S0, S0, S0, S0] #[.int .i64 0, .int .i64 0]) := ht
  clear hk ht af
  go_wp2_with fail
  go_region
  all_goals go_wp2_with fail
  have hT := (((((((((((((HW.out.setM 0 (.int .i64 (c : Int))).setM 1 (.int .i64 (k : Int))).setA 0 (.int .i64 0)).setA 1 (.int .i64 0)).setA 2 (.string ⟨#[]⟩)).setA 3 (.string ⟨#[]⟩)).setA 4 S0).setA 5 S0).setA 6 S0).setA 7 S0).setA 8 S0).setM 0 (.int .i64 (c : Int))).setM 1 (.int .i64 (k : Int))).drew
  exact ⟨_, resAst hT rfl rfl, hT.mv, rfl⟩

end Go.Proofs.YthmdgbmodgfcmaaGreatDoor
