/-
  SXActive, SXInline, SDep.
-/
import Derived.Deep.QuietTactic
import Derived.Test.YthmdgbmodgfcmaaGreatDoorM17
/-
  What the reader's active does.
-/
namespace Go.Proofs.YthmdgbmodgfcmaaGreatDoor
open Go.RowKit

set_option maxHeartbeats 4000000 in
theorem active_does (E : Env) (f : Nat) (ih : Sp E f) : ∀ p : Nat, Rds E (f + 1) 80 (splice (unit0 p) 0 [.num 4]) (.active (splice (unit0 p) 0 [.num 4])) := by
  intro p i hne w F b t N o hr ha hb hF
  have hs0 : St E w F b t N o 21 w F i (splice (unit0 p) 0 [.num 4]) := St.start hr ha hb hF
  obtain ⟨R, hI, hR⟩ := Is.start (run E.c (f + 1) (.active (splice (unit0 p) 0 [.num 4])) i)
  show Calls _ _ _ _ (Post E F b t N o 21 w _)
  rw [hR] at hne ⊢
  clear hR hr ha hF
  rw [run_active] at hI
  have hl := strOfL_toList
  have hbr : ¬ b = E.rb := fun e => hb (.inl e)
  have hbr' : ¬ E.rb = b := fun e => hb (.inl e.symm)
  have hmf : ∀ (fn : Fn) (first cap : Array Value) (w : World), (Instr.makeFunc fn first cap).run Tryz.prog w = .ok (.func fn first cap) w := fun _ _ _ _ => rfl
  go_enter Tryz.func80, Tryz.ntmps80
  obtain ⟨v1, c2, _⟩ := hs0.cur.cell 5 _ rfl
  have fz3 := hs0.cur.free (o + 5)
  go_wp2_with fail
  have hs4 := hs0.set 5 (by decide) (.bool true) (.bit true) (fun _ => .bit _ _)
  refine (is_any E (i) _ hs4.rd [91]).mono ?_
  rintro e w6 ⟨rfl, hm7⟩
  have hs8 := hs4.same hm7
  rcases Decidable.em (E.c.keyAt (i) = [91]) with h5 | h5
  · rw [decide_eq_true h5]
    replace hI := hI.pos h5
    go_wp2_with fail
    obtain ⟨Fi16, hat17, hown18, hok19, hbad20⟩ := hs8.call 6 9 (by decide)
    refine (ih.index (i) (hI.fuel hne) _ Fi16 _ _ _ (o + 6) hs8.rd hat17 hs8.nb hown18).mono ?_
    intro e w9 hp10
    rcases hrun11 : run E.c f .index (i) with m | ⟨d15, j12⟩
    · rw [hrun11] at hp10
      obtain rfl := hp10.1
      rw [hI.err hrun11]
      exact ⟨rfl, hbad20 _ _ _ hp10⟩
    rw [hrun11] at hp10
    obtain rfl := hp10.1
    obtain ⟨d15x0, d15x1, d15x2, d15x3, d15x4, d15x5, d15x6, d15x7, d15x8, rfl⟩ := len9 hp10.2.2.1
    obtain ⟨F13, hs14⟩ := hok19 _ _ _ _ hp10
    replace hI := hI.ok hrun11
    clear hrun11
    go_wp2_with fail
    go_returns
    rw [hI.eq]
    exact hs14.done
  · rw [decide_eq_false h5]
    replace hI := hI.neg h5
    obtain ⟨v21, c22, _⟩ := hs8.cur.cell 6 _ rfl
    have fz23 := hs8.cur.free (o + 6)
    obtain ⟨v24, c25, _⟩ := hs8.cur.cell 7 _ rfl
    have fz26 := hs8.cur.free (o + 7)
    obtain ⟨v27, c28, _⟩ := hs8.cur.cell 8 _ rfl
    have fz29 := hs8.cur.free (o + 8)
    obtain ⟨v30, c31, _⟩ := hs8.cur.cell 9 _ rfl
    have fz32 := hs8.cur.free (o + 9)
    obtain ⟨v33, c34, _⟩ := hs8.cur.cell 10 _ rfl
    have fz35 := hs8.cur.free (o + 10)
    obtain ⟨v36, c37, _⟩ := hs8.cur.cell 11 _ rfl
    have fz38 := hs8.cur.free (o + 11)
    obtain ⟨v39, c40, _⟩ := hs8.cur.cell 12 _ rfl
    have fz41 := hs8.cur.free (o + 12)
    obtain ⟨v42, c43, _⟩ := hs8.cur.cell 13 _ rfl
    have fz44 := hs8.cur.free (o + 13)
    obtain ⟨v45, c46, _⟩ := hs8.cur.cell 14 _ rfl
    have fz47 := hs8.cur.free (o + 14)
    go_wp2_with fail
    have hs48 := hs8.set 6 (by decide) (.int .i64 1) (.num 1) (fun _ => .num _ _)
    have hs49 := hs48.set 7 (by decide) (.int .i64 1) (.num 1) (fun _ => .num _ _)
    have hs50 := hs49.set 8 (by decide) (.string ⟨#[]⟩) (.str []) (fun _ => .str _ _)
    have hs51 := hs50.set 9 (by decide) (.string ⟨#[]⟩) (.str []) (fun _ => .str _ _)
    have hs52 := hs51.set 10 (by decide) (.slice none 0 0) (.row .str []) (fun _ => .nil _ _)
    have hs53 := hs52.set 11 (by decide) (.slice none 0 0) (.row .ast []) (fun _ => .nil _ _)
    have hs54 := hs53.set 12 (by decide) (.slice none 0 0) (.row .bool []) (fun _ => .nil _ _)
    have hs55 := hs54.set 13 (by decide) (.slice none 0 0) (.row .ast []) (fun _ => .nil _ _)
    have hs56 := hs55.set 14 (by decide) (.slice none 0 0) (.row .arg []) (fun _ => .nil _ _)
    go_returns
    rw [hI.eq]
    exact hs56.done

end Go.Proofs.YthmdgbmodgfcmaaGreatDoor
/-
  What the reader's inline does.
-/
namespace Go.Proofs.YthmdgbmodgfcmaaGreatDoor
open Go.RowKit

set_option maxHeartbeats 4000000 in
theorem inline_does (E : Env) (f : Nat) (ih : Sp E f) : ∀ p : Nat, Rds E (f + 1) 58 (unit0 p) (.inline (unit0 p)) := by
  intro p i hne w F b t N o hr ha hb hF
  have hs0 : St E w F b t N o 21 w F i (unit0 p) := St.start hr ha hb hF
  obtain ⟨R, hI, hR⟩ := Is.start (run E.c (f + 1) (.inline (unit0 p)) i)
  show Calls _ _ _ _ (Post E F b t N o 21 w _)
  rw [hR] at hne ⊢
  clear hR hr ha hF
  rw [run_inline] at hI
  have hl := strOfL_toList
  have hbr : ¬ b = E.rb := fun e => hb (.inl e)
  have hbr' : ¬ E.rb = b := fun e => hb (.inl e.symm)
  have hmf : ∀ (fn : Fn) (first cap : Array Value) (w : World), (Instr.makeFunc fn first cap).run Tryz.prog w = .ok (.func fn first cap) w := fun _ _ _ _ => rfl
  go_enter Tryz.func58, Tryz.ntmps58
  go_wp2_with fail
  rcases (Decidable.em (E.c.keyAt (i) = [105, 110, 108, 105, 110, 101])).symm with h1 | h1
  · refine (need_no E (i) _ hs0.rd [105, 110, 108, 105, 110, 101] h1).mono ?_
    rintro e w2 ⟨rfl, hm4⟩
    rw [hI.nno h1]
    exact ⟨rfl, hs0.bad hm4 _⟩
  refine (need_yes E (i) _ hs0.rd [105, 110, 108, 105, 110, 101] h1 (by decide)).mono ?_
  rintro e w2 ⟨rfl, hr3, hm4⟩
  have hs5 := hs0.goes hr3 hm4
  replace hI := hI.nyes h1
  obtain ⟨v6, c7, _⟩ := hs5.cur.cell 0 _ rfl
  simp only [Nat.add_zero] at c7
  have fz8 := hs5.cur.free (o)
  go_wp2_with fail
  have hs9 := hs5.set0 (by decide) (.int .i64 7) (.num 7) (fun _ => .num _ _)
  obtain ⟨Fi17, hat18, hown19, hok20, hbad21⟩ := hs9.call 2 1 (by decide)
  refine (ih.name [] (i + 1) (hI.fuel hne) _ Fi17 _ _ _ (o + 2) hs9.rd hat18 hs9.nb hown19).mono ?_
  intro e w10 hp11
  rcases hrun12 : run E.c f .name (i + 1) with m | ⟨d16, j13⟩
  · rw [hrun12] at hp11
    obtain rfl := hp11.1
    rw [hI.err hrun12]
    exact ⟨rfl, hbad21 _ _ _ hp11⟩
  rw [hrun12] at hp11
  obtain rfl := hp11.1
  obtain ⟨d16x0, rfl⟩ := len1 hp11.2.2.1
  obtain ⟨F14, hs15⟩ := hok20 _ _ _ _ hp11
  replace hI := hI.ok hrun12
  clear hrun12
  go_wp2_with fail
  obtain ⟨Fi29, hat30, hown31, hok32, hbad33⟩ := hs15.call 4 1 (by decide)
  refine (ih.inParStr (j13) (hI.fuel hne) _ Fi29 _ _ _ (o + 4) hs15.rd hat30 hs15.nb hown31).mono ?_
  intro e w22 hp23
  rcases hrun24 : run E.c f (.inParens .name .str) (j13) with m | ⟨d28, j25⟩
  · rw [hrun24] at hp23
    obtain rfl := hp23.1
    rw [hI.err hrun24]
    exact ⟨rfl, hbad33 _ _ _ hp23⟩
  rw [hrun24] at hp23
  obtain rfl := hp23.1
  obtain ⟨d28x0, rfl⟩ := len1 hp23.2.2.1
  obtain ⟨F26, hs27⟩ := hok32 _ _ _ _ hp23
  replace hI := hI.ok hrun24
  clear hrun24
  go_wp2_with fail
  obtain ⟨Fi41, hat42, hown43, hok44, hbad45⟩ := hs27.call 20 1 (by decide)
  refine (ih.body (j25) (hI.fuel hne) _ Fi41 _ _ _ (o + 20) hs27.rd hat42 hs27.nb hown43).mono ?_
  intro e w34 hp35
  rcases hrun36 : run E.c f .body (j25) with m | ⟨d40, j37⟩
  · rw [hrun36] at hp35
    obtain rfl := hp35.1
    rw [hI.err hrun36]
    exact ⟨rfl, hbad45 _ _ _ hp35⟩
  rw [hrun36] at hp35
  obtain rfl := hp35.1
  obtain ⟨d40x0, rfl⟩ := len1 hp35.2.2.1
  obtain ⟨F38, hs39⟩ := hok44 _ _ _ _ hp35
  replace hI := hI.ok hrun36
  clear hrun36
  go_wp2_with fail
  go_returns
  rw [hI.eq]
  exact hs39.done

end Go.Proofs.YthmdgbmodgfcmaaGreatDoor
/-
  How deep trees are: a specification on data, by fuel; trees that are only read.
-/
namespace Go.Proofs.YthmdgbmodgfcmaaGreatDoor
open Go.RowKit

def deps (g : List D → Option Nat) : Nat → List (List D) → Option Nat
  | m, [] => some m
  | m, e :: r => match g e with | some n => deps g (max m n) r | none => none

def rows (g : List D → Option Nat) (t : Ty) : Option D → Option Nat
  | some (.row t' els) => if t' = t ∧ els.length ≤ 1000000 then deps g 0 els else none
  | _ => none

def mx : Option Nat → Option Nat → Option Nat
  | some a, some b => some (max a b)
  | _, _ => none

def up : Option Nat → Option Nat
  | some a => some (1 + a)
  | none => none

/-- How deep cells of a type are. -/
def dep : Nat → Ty → List D → Option Nat
  | 0, _, _ => none
  | f + 1, .ast, ds => match (ds[0]? : Option D) with
    | some (D.num k) => if k = 0 then some 0 else up (mx (mx (rows (dep f .ast) .ast ds[5]?) (rows (dep f .ast) .ast ds[7]?)) (rows (dep f .arg) .arg ds[8]?))
    | _ => none
  | f + 1, .arg, ds => dep f .ast (ds.drop 2)
  | f + 1, .var, ds => mx (dep f .ast (ds.drop 2)) (dep f .ast (ds.drop 12))
  | f + 1, .decl, ds => rows (dep f .var) .var ds[2]?
  | f + 1, .stmts, ds => rows (dep f .stmt) .stmt ds[0]?
  | f + 1, .stmt, ds => up (mx (mx (mx (mx (mx (mx (rows (dep f .ast) .ast ds[9]?) (dep f .ast (ds.drop 11))) (rows (dep f .ast) .ast ds[20]?)) (rows (dep f .arg) .arg ds[21]?)) (dep f .decl (ds.drop 22)))
      (rows (dep f .stmts) .stmts ds[26]?)) (dep f .stmts (ds.drop 27)))
  | f + 1, .unit, ds => mx (mx (mx (dep f .ast (ds.drop 6)) (dep f .decl (ds.drop 15))) (rows (dep f .decl) .decl ds[19]?)) (dep f .stmts (ds.drop 20))
  | _ + 1, _, _ => none

def depUnits (f : Nat) (ds : List D) : Option Nat := rows (dep f .unit) .unit ds[0]?

theorem mx_some {a b : Option Nat} {n : Nat} (h : mx a b = some n) : ∃ x y, a = some x ∧ b = some y ∧ n = max x y := by
  cases a <;> cases b <;> simp [mx] at h
  exact ⟨_, _, rfl, rfl, h.symm⟩
theorem up_some {a : Option Nat} {n : Nat} (h : up a = some n) : ∃ x, a = some x ∧ n = 1 + x := by
  cases a <;> simp [up] at h
  exact ⟨_, rfl, h.symm⟩
theorem rows_some {g : List D → Option Nat} {t : Ty} {d : Option D} {n : Nat} (h : rows g t d = some n) : ∃ els, d = some (.row t els) ∧ els.length ≤ 1000000 ∧ deps g 0 els = some n := by
  unfold rows at h
  split at h
  · split at h
    · rename_i els hc
      exact ⟨els, by rw [hc.1], hc.2, h⟩
    · cases h
  · cases h

theorem deps_le {g : List D → Option Nat} {f : Nat} (hg : ∀ e n, g e = some n → n ≤ f) : ∀ (els : List (List D)) (m n : Nat), m ≤ f → deps g m els = some n → n ≤ f
  | [], m, n, hm, h => by simp [deps] at h; omega
  | e :: r, m, n, hm, h => by
    unfold deps at h
    split at h
    · rename_i q hq
      exact deps_le hg r _ n (by have := hg e q hq; omega) h
    · cases h

theorem dep_le : ∀ (f : Nat) (t : Ty) (ds : List D) (n : Nat), dep f t ds = some n → n ≤ f
  | 0, _, _, _, h => by simp [dep] at h
  | f + 1, t, ds, n, h => by
    have hr : ∀ (t t' : Ty) (d : Option D) (n : Nat), rows (dep f t) t' d = some n → n ≤ f := fun t t' d n h => by
      obtain ⟨els, _, _, h3⟩ := rows_some h
      exact deps_le (fun e n he => dep_le f t e n he) els 0 n (by omega) h3
    cases t <;> simp only [dep] at h
    case ast =>
      split at h
      · split at h
        · cases h; omega
        · obtain ⟨x, h0, rfl⟩ := up_some h
          obtain ⟨x1, x2, h1, h2, rfl⟩ := mx_some h0
          obtain ⟨x3, x4, h3, h4, rfl⟩ := mx_some h1
          have := hr _ _ _ _ h2; have := hr _ _ _ _ h3; have := hr _ _ _ _ h4; omega
      · cases h
    case arg => have := dep_le f _ _ _ h; omega
    case var =>
      obtain ⟨x1, x2, h1, h2, rfl⟩ := mx_some h
      have := dep_le f _ _ _ h1; have := dep_le f _ _ _ h2; omega
    case decl => have := hr _ _ _ _ h; omega
    case stmts => have := hr _ _ _ _ h; omega
    case stmt =>
      obtain ⟨x, h0, rfl⟩ := up_some h
      obtain ⟨x1, x2, h1, h2, rfl⟩ := mx_some h0
      obtain ⟨x3, x4, h3, h4, rfl⟩ := mx_some h1
      obtain ⟨x5, x6, h5, h6, rfl⟩ := mx_some h3
      obtain ⟨x7, x8, h7, h8, rfl⟩ := mx_some h5
      obtain ⟨x9, y0, h9, g0, rfl⟩ := mx_some h7
      obtain ⟨y1, y2, g1, g2, rfl⟩ := mx_some h9
      have := dep_le f _ _ _ h2; have := hr _ _ _ _ h4; have := dep_le f _ _ _ h6; have := hr _ _ _ _ h8; have := hr _ _ _ _ g0; have := hr _ _ _ _ g1; have := dep_le f _ _ _ g2; omega
    case unit =>
      obtain ⟨x1, x2, h1, h2, rfl⟩ := mx_some h
      obtain ⟨x3, x4, h3, h4, rfl⟩ := mx_some h1
      obtain ⟨x5, x6, h5, h6, rfl⟩ := mx_some h3
      have := dep_le f _ _ _ h2; have := hr _ _ _ _ h4; have := dep_le f _ _ _ h5; have := dep_le f _ _ _ h6; omega
    all_goals cases h

theorem rows_le {f : Nat} {t t' : Ty} {d : Option D} {n : Nat} (h : rows (dep f t) t' d = some n) : n ≤ f := by
  obtain ⟨els, _, _, h3⟩ := rows_some h
  exact deps_le (fun e n he => dep_le f t e n he) els 0 n (by omega) h3

/-- Cells that are only read. -/
structure Ro (w : World) (b o : Nat) (ds : List D) : Prop where
  c : ∀ (i : Nat) (d : D), ds[i]? = some d → ∃ v, w.cell? ⟨b, o + i, none⟩ = some v ∧ DIs ty w (fun _ => True) v d

theorem DIs.drewN {w : World} {v : Value} {d : D} (n : Nat) (h : DIs ty w (fun _ => True) v d) : DIs ty (w.drewN n) (fun _ => True) v d := h.kept (fun _ _ _ => rfl)
theorem Ro.drewN {w : World} {b o : Nat} {ds : List D} (n : Nat) (h : Ro w b o ds) : Ro (w.drewN n) b o ds := ⟨fun i d hd => by
  obtain ⟨v, h1, h2⟩ := h.c i d hd
  exact ⟨v, h1, h2.drewN n⟩⟩
theorem Ro.drop {w : World} {b o : Nat} {ds : List D} (k : Nat) (h : Ro w b o ds) : Ro w b (o + k) (ds.drop k) := ⟨fun i d hd => by
  rw [List.getElem?_drop] at hd
  obtain ⟨v, h1, h2⟩ := h.c _ d hd
  exact ⟨v, by rw [Nat.add_assoc]; exact h1, h2⟩⟩
theorem At.ro {w : World} {F : Nat → Prop} {b : Nat} {t : TypeId} {N o : Nat} {ds : List D} (h : At ty w F b t N o ds) : Ro w b o ds := ⟨fun i d hd => by
  obtain ⟨v, h1, h2⟩ := h.cell i d hd
  exact ⟨v, h1, h2.mono (fun _ _ => trivial)⟩⟩
/-- A row's slice, and its elements. -/
theorem DIs.els {w : World} {v : Value} {t : Ty} {els : List (List D)} (h : DIs ty w (fun _ => True) v (.row t els)) :
    (els = [] ∧ v = .slice none 0 0) ∨ ∃ g cap, els ≠ [] ∧ v = .slice (some ⟨g, 0, none⟩) els.length cap ∧ ∀ (j : Nat) (e : List D), els[j]? = some e → Ro w g (j * ty.size t) e := by
  cases h with
  | nil => exact .inl ⟨rfl, rfl⟩
  | row _ Fe _ _ g cap cur hg h0 hn hc hs hel hF hFe hcells hd =>
    refine .inr ⟨g, cap, fun e => by rw [e] at h0; simp at h0, rfl, fun j e hj => ⟨fun p d hp => ?_⟩⟩
    have hpl : p < ty.size t := by rw [← hel e (List.mem_of_getElem? hj)]; exact (List.getElem?_eq_some_iff.1 hp).1
    have hfl : els.flatten[j * ty.size t + p]? = some d := by rw [flat_get hel hj hpl]; exact hp
    obtain ⟨u, hu⟩ := hcells _ _ hfl
    exact ⟨u, by rw [cell_blk hg]; exact hu, (hd _ _ _ hfl hu).mono (fun _ _ => trivial)⟩

/-- What a function of one pointer gives, only reading. -/
def Gives (K : FuncId) (w : World) (b o n : Nat) : Prop := Calls Tryz.prog K #[.pointer (some ⟨b, o, none⟩)] w fun e w' => e = .returned (.int .i64 (n : Int)) ∧ ∃ k, w' = w.drewN k
def DepIs (K : FuncId) (g : List D → Option Nat) : Prop := ∀ (ds : List D) (n : Nat), g ds = some n → ∀ (w : World) (b o : Nat), Ro w b o ds → Gives K w b o n
def RowIs (fn K : FuncId) (g : List D → Option Nat) (t : Ty) : Prop := ∀ (d : Option D) (n : Nat), rows g t d = some n → ∀ (w : World) (b p : Nat), (∀ d', d = some d' → ∃ v, w.cell? ⟨b, p, none⟩ = some v ∧ DIs ty w (fun _ => True) v d') →
  ∃ v, w.cell? ⟨b, p, none⟩ = some v ∧ (∃ ao l c, v = .slice ao l c) ∧ ∀ m, Calls Tryz.prog fn #[v, .func (.func K) #[] #[]] (w.drewN m) fun e w' => e = .returned (.int .i64 (n : Int)) ∧ ∃ k, w' = (w.drewN m).drewN k

/-- The greater of two. -/
def mxi (x y : Int) : Int := if y > x then y else x
theorem mxi_nat (a b : Nat) : mxi (a : Int) (b : Int) = ((max a b : Nat) : Int) := by
  unfold mxi
  split <;> omega

@[go_sem high] theorem run_mx2 {P : Program} (w : World) (ts : Array TypeId) (t : TypeId) (x y : Int) :
    (Builtin.max_ ts t #[.int .i64 x, .int .i64 y]).run P w = .ok (.int .i64 (mxi x y)) w := by
  simp [Builtin.max_, Builtin.max2, mxi]
@[go_sem high] theorem run_mx3 {P : Program} (w : World) (ts : Array TypeId) (t : TypeId) (x y z : Int) :
    (Builtin.max_ ts t #[.int .i64 x, .int .i64 y, .int .i64 z]).run P w = .ok (.int .i64 (mxi (mxi x y) z)) w := by
  simp [Builtin.max_, Builtin.max2, mxi]
@[go_sem high] theorem run_mx4 {P : Program} (w : World) (ts : Array TypeId) (t : TypeId) (x y z u : Int) :
    (Builtin.max_ ts t #[.int .i64 x, .int .i64 y, .int .i64 z, .int .i64 u]).run P w = .ok (.int .i64 (mxi (mxi (mxi x y) z) u)) w := by
  simp [Builtin.max_, Builtin.max2, mxi]
@[go_sem high] theorem run_mx5 {P : Program} (w : World) (ts : Array TypeId) (t : TypeId) (x y z u v : Int) :
    (Builtin.max_ ts t #[.int .i64 x, .int .i64 y, .int .i64 z, .int .i64 u, .int .i64 v]).run P w = .ok (.int .i64 (mxi (mxi (mxi (mxi x y) z) u) v)) w := by
  simp [Builtin.max_, Builtin.max2, mxi]

end Go.Proofs.YthmdgbmodgfcmaaGreatDoor
