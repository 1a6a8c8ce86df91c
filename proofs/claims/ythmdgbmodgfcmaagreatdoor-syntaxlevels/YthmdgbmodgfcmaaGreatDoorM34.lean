/-
  SDepths, SDepthStmt.
-/
import Derived.Test.YthmdgbmodgfcmaaGreatDoorM28
/-
  How deep trees are: what the functions give.
-/
namespace Go.Proofs.YthmdgbmodgfcmaaGreatDoor
open Go.RowKit

/-- A part's depth, in whatever world of the class. -/
def GivesN (K : FuncId) (w : World) (b o n : Nat) : Prop := ∀ m, Calls Tryz.prog K #[.pointer (some ⟨b, o, none⟩)] (w.drewN m) fun e w' => e = .returned (.int .i64 (n : Int)) ∧ ∃ k, w' = (w.drewN m).drewN k
def RowGives (fn K : FuncId) (w : World) (ao : Option Addr) (l c n : Nat) : Prop := ∀ m, Calls Tryz.prog fn #[.slice ao l c, .func (.func K) #[] #[]] (w.drewN m) fun e w' => e = .returned (.int .i64 (n : Int)) ∧ ∃ k, w' = (w.drewN m).drewN k

theorem DepIs.n {K : FuncId} {g : List D → Option Nat} (h : DepIs K g) {ds : List D} {n : Nat} (hg : g ds = some n) {w : World} {b o : Nat} (hro : Ro w b o ds) : GivesN K w b o n := fun m => h ds n hg _ b o (hro.drewN m)
theorem RowIs.n {fn K : FuncId} {g : List D → Option Nat} {t : Ty} (h : RowIs fn K g t) {ds : List D} {i n : Nat} (hg : rows g t ds[i]? = some n) {w : World} {b o : Nat} (hro : Ro w b o ds) :
    ∃ ao l c, w.cell? ⟨b, o + i, none⟩ = some (.slice ao l c) ∧ RowGives fn K w ao l c n := by
  obtain ⟨v, hv, ⟨ao, l, c, rfl⟩, hc⟩ := h _ n hg w b (o + i) (fun d hd => hro.c i d hd)
  exact ⟨ao, l, c, hv, hc⟩

set_option maxHeartbeats 1000000 in
theorem refDepth_any (g : List D → Option Nat) (hK : DepIs 24 g) : DepIs 45 (fun ds => rows g .ast ds[1]?) := by
  intro ds n h w b o hro
  obtain ⟨ao, l, c, hv, hc⟩ := (deepestAst_any g hK).n h hro
  have HC : Hid (RowGives 46 24 w ao l c n) := hc
  clear hc hK h hro
  show Calls _ _ _ _ _
  go_enter Tryz.func45, Tryz.ntmps45
  go_wp2_with fail
  refine (HC.out 0).mono ?_
  rintro e w1 ⟨rfl, k, rfl⟩
  go_wp2_with fail
  go_ret
  exact ⟨rfl, k, rfl⟩

set_option maxHeartbeats 1000000 in
theorem declDepth_any (g : List D → Option Nat) (hK : DepIs 87 g) : DepIs 61 (fun ds => rows g .var ds[2]?) := by
  intro ds n h w b o hro
  obtain ⟨ao, l, c, hv, hc⟩ := (deepestDeclVar_any g hK).n h hro
  have HC : Hid (RowGives 86 87 w ao l c n) := hc
  clear hc hK h hro
  show Calls _ _ _ _ _
  go_enter Tryz.func61, Tryz.ntmps61
  go_wp2_with fail
  refine (HC.out 0).mono ?_
  rintro e w1 ⟨rfl, k, rfl⟩
  go_wp2_with fail
  go_ret
  exact ⟨rfl, k, rfl⟩

set_option maxHeartbeats 1000000 in
theorem stepsDepth_any (g : List D → Option Nat) (hK : DepIs 89 g) : DepIs 63 (fun ds => rows g .stmt ds[0]?) := by
  intro ds n h w b o hro
  obtain ⟨ao, l, c, hv, hc⟩ := (deepestStmt_any g hK).n h hro
  rw [Nat.add_zero] at hv
  have HC : Hid (RowGives 88 89 w ao l c n) := hc
  clear hc hK h hro
  show Calls _ _ _ _ _
  go_enter Tryz.func63, Tryz.ntmps63
  go_wp2_with fail
  refine (HC.out 0).mono ?_
  rintro e w1 ⟨rfl, k, rfl⟩
  go_wp2_with fail
  go_ret
  exact ⟨rfl, k, rfl⟩

set_option maxHeartbeats 1000000 in
theorem unitsDepth_any (g : List D → Option Nat) (hK : DepIs 36 g) : DepIs 15 (fun ds => rows g .unit ds[0]?) := by
  intro ds n h w b o hro
  obtain ⟨ao, l, c, hv, hc⟩ := (deepestUnit_any g hK).n h hro
  rw [Nat.add_zero] at hv
  have HC : Hid (RowGives 35 36 w ao l c n) := hc
  clear hc hK h hro
  show Calls _ _ _ _ _
  go_enter Tryz.func15, Tryz.ntmps15
  go_wp2_with fail
  refine (HC.out 0).mono ?_
  rintro e w1 ⟨rfl, k, rfl⟩
  go_wp2_with fail
  go_ret
  exact ⟨rfl, k, rfl⟩

set_option maxHeartbeats 1000000 in
theorem argDepth_any (g : List D → Option Nat) (hK : DepIs 24 g) : DepIs 48 (fun ds => g (ds.drop 2)) := by
  intro ds n h w b o hro
  have hc := hK.n h (hro.drop 2)
  have HC : Hid (GivesN 24 w b (o + 2) n) := hc
  clear hc hK h hro
  show Calls _ _ _ _ _
  go_enter Tryz.func48, Tryz.ntmps48
  go_wp2_with fail
  refine (HC.out 0).mono ?_
  rintro e w1 ⟨rfl, k, rfl⟩
  go_wp2_with fail
  go_ret
  exact ⟨rfl, k, rfl⟩

theorem wrap1 {n : Nat} (h : n ≤ 1000000) : wrap64 (1 + (n : Int)) = ((1 + n : Nat) : Int) := by unfold wrap64; omega

set_option maxHeartbeats 4000000 in
theorem variableDepth_any (g : List D → Option Nat) (hK : DepIs 24 g) : DepIs 87 (fun ds => mx (g (ds.drop 2)) (g (ds.drop 12))) := by
  intro ds n h w b o hro
  obtain ⟨x1, x2, h1, h2, rfl⟩ := mx_some h
  have HA : Hid (GivesN 24 w b (o + 2) x1) := hK.n h1 (hro.drop 2)
  have HB : Hid (GivesN 24 w b (o + 12) x2) := hK.n h2 (hro.drop 12)
  obtain ⟨o1, ho1⟩ : ∃ o1, o + 2 = o1 := ⟨_, rfl⟩
  obtain ⟨o2, ho2⟩ : ∃ o2, o + 12 = o2 := ⟨_, rfl⟩
  rw [ho1] at HA
  rw [ho2] at HB
  clear hK h hro h1 h2
  show Calls _ _ _ _ _
  go_enter Tryz.func87, Tryz.ntmps87
  go_wp2_with fail
  go_quiet (first | (go_at_call_of 24 o1; exact Calls.quiet_of (HA.out _)) | (go_at_call_of 24 o2; exact Calls.quiet_of (HB.out _)))
  go_wp2_with fail
  go_ret
  exact ⟨by rw [mxi_nat]; rfl, nq, rfl⟩

set_option maxHeartbeats 4000000 in
theorem exprDepth_any (g h : List D → Option Nat) (hle : ∀ (ds : List D) (n : Nat), (rows g .ast ds[5]? = some n ∨ rows g .ast ds[7]? = some n ∨ rows h .arg ds[8]? = some n) → n ≤ 1000000) (hK : DepIs 24 g) (hA : DepIs 48 h) :
    DepIs 24 (fun ds => match (ds[0]? : Option D) with
      | some (D.num k) => if k = 0 then some 0 else up (mx (mx (rows g .ast ds[5]?) (rows g .ast ds[7]?)) (rows h .arg ds[8]?))
      | _ => none) := by
  intro ds n hn w b o hro
  simp only at hn
  split at hn
  · rename_i k hk
    obtain ⟨v, hv, hdv⟩ := hro.c 0 _ hk
    rw [Nat.add_zero] at hv
    cases hdv
    split at hn
    · rename_i h0
      subst h0
      cases hn
      clear hro hk
      show Calls _ _ _ _ _
      go_enter Tryz.func24, Tryz.ntmps24
      go_wp2_with fail
      go_ret
      exact ⟨rfl, 0, rfl⟩
    · rename_i h0
      obtain ⟨x, hx, rfl⟩ := up_some hn
      obtain ⟨x1, x2, h1, h2, rfl⟩ := mx_some hx
      obtain ⟨x3, x4, h3, h4, rfl⟩ := mx_some h1
      have l3 := hle ds x3 (.inl h3)
      have l4 := hle ds x4 (.inr (.inl h4))
      have l2 := hle ds x2 (.inr (.inr h2))
      have HR : Hid (GivesN 45 w b (o + 4) x3) := (refDepth_any g hK).n (ds := ds.drop 4) (by rw [List.getElem?_drop]; exact h3) (hro.drop 4)
      obtain ⟨ao, l, c, c7, hc⟩ := (deepestAst_any g hK).n h4 hro
      have HC : Hid (RowGives 46 24 w ao l c x4) := hc
      obtain ⟨ao', l', c', c8, hc'⟩ := (deepestArg_any h hA).n h2 hro
      have HC' : Hid (RowGives 47 48 w ao' l' c' x2) := hc'
      have HM : Hid (max (max x3 x4) x2 ≤ 1000000) := by show _ ≤ _; omega
      have hkb : (k == 0) = false := by simpa using h0
      clear hK hA hn hx h1 h3 h4 h2 hro hc hc' hk l2 l3 l4 h0 hle
      show Calls _ _ _ _ _
      go_enter Tryz.func24, Tryz.ntmps24
      go_wp2_with fail
      go_quiet (first
        | (go_at_call 45; exact Calls.quiet_of (HR.out _))
        | (go_at_call 46; exact Calls.quiet_of (HC.out _))
        | (go_at_call 47; exact Calls.quiet_of (HC'.out _)))
      go_wp2_with fail
      go_ret
      exact ⟨by rw [mxi_nat, mxi_nat, wrap1 HM.out]; rfl, nq, rfl⟩
  · cases hn

set_option maxHeartbeats 8000000 in
theorem unitDepth_any (g k j : List D → Option Nat) (hK : DepIs 24 g) (hD : DepIs 61 k) (hS : DepIs 63 j) :
    DepIs 36 (fun ds => mx (mx (mx (g (ds.drop 6)) (k (ds.drop 15))) (rows k .decl ds[19]?)) (j (ds.drop 20))) := by
  intro ds n hn w b o hro
  obtain ⟨x1, x2, h1, h2, rfl⟩ := mx_some hn
  obtain ⟨x3, x4, h3, h4, rfl⟩ := mx_some h1
  obtain ⟨x5, x6, h5, h6, rfl⟩ := mx_some h3
  have HA : Hid (GivesN 24 w b (o + 6) x5) := hK.n h5 (hro.drop 6)
  have HB : Hid (GivesN 61 w b (o + 15) x6) := hD.n h6 (hro.drop 15)
  have HS : Hid (GivesN 63 w b (o + 20) x2) := hS.n h2 (hro.drop 20)
  obtain ⟨ao, l, c, c19, hc⟩ := (deepestDecl_any k hD).n h4 hro
  have HC : Hid (RowGives 62 61 w ao l c x4) := hc
  clear hK hD hS hn h1 h2 h3 h4 h5 h6 hro hc
  show Calls _ _ _ _ _
  go_enter Tryz.func36, Tryz.ntmps36
  go_wp2_with fail
  go_quiet (first
    | (go_at_call 24; exact Calls.quiet_of (HA.out _))
    | (go_at_call 61; exact Calls.quiet_of (HB.out _))
    | (go_at_call 62; exact Calls.quiet_of (HC.out _))
    | (go_at_call 63; exact Calls.quiet_of (HS.out _)))
  go_wp2_with fail
  go_ret
  exact ⟨by rw [mxi_nat, mxi_nat, mxi_nat]; rfl, nq, rfl⟩

end Go.Proofs.YthmdgbmodgfcmaaGreatDoor
/-
  How deep a statement is; and all depths, whatever the fuel.
-/
namespace Go.Proofs.YthmdgbmodgfcmaaGreatDoor
open Go.RowKit

set_option maxHeartbeats 8000000 in
theorem stmtDepth_any (g h k j : List D → Option Nat) (hle : ∀ (ds : List D) (n : Nat), (mx (mx (mx (mx (mx (mx (rows g .ast ds[9]?) (g (ds.drop 11))) (rows g .ast ds[20]?)) (rows h .arg ds[21]?)) (k (ds.drop 22))) (rows j .stmts ds[26]?)) (j (ds.drop 27)) = some n) → n ≤ 1000000)
    (hK : DepIs 24 g) (hA : DepIs 48 h) (hD : DepIs 61 k) (hS : DepIs 63 j) :
    DepIs 89 (fun ds => up (mx (mx (mx (mx (mx (mx (rows g .ast ds[9]?) (g (ds.drop 11))) (rows g .ast ds[20]?)) (rows h .arg ds[21]?)) (k (ds.drop 22))) (rows j .stmts ds[26]?)) (j (ds.drop 27)))) := by
  intro ds n hn w b o hro
  obtain ⟨x, hx, rfl⟩ := up_some hn
  have HM : Hid (x ≤ 1000000) := hle ds x hx
  obtain ⟨x1, x2, h1, h2, rfl⟩ := mx_some hx
  obtain ⟨x3, x4, h3, h4, rfl⟩ := mx_some h1
  obtain ⟨x5, x6, h5, h6, rfl⟩ := mx_some h3
  obtain ⟨x7, x8, h7, h8, rfl⟩ := mx_some h5
  obtain ⟨x9, y0, h9, g0, rfl⟩ := mx_some h7
  obtain ⟨y1, y2, g1, g2, rfl⟩ := mx_some h9
  have HR : Hid (GivesN 45 w b (o + 8) y1) := (refDepth_any g hK).n (ds := ds.drop 8) (by rw [List.getElem?_drop]; exact g1) (hro.drop 8)
  have HX : Hid (GivesN 24 w b (o + 11) y2) := hK.n g2 (hro.drop 11)
  obtain ⟨ao, l, c, c20, hc⟩ := (deepestAst_any g hK).n g0 hro
  have HC : Hid (RowGives 46 24 w ao l c y0) := hc
  obtain ⟨ao', l', c', c21, hc'⟩ := (deepestArg_any h hA).n h8 hro
  have HC' : Hid (RowGives 47 48 w ao' l' c' x8) := hc'
  have HB : Hid (GivesN 61 w b (o + 22) x6) := hD.n h6 (hro.drop 22)
  obtain ⟨ao2, l2, d2, c26, hc2⟩ := (deepestStmts_any j hS).n h4 hro
  have HC2 : Hid (RowGives 115 63 w ao2 l2 d2 x4) := hc2
  have HS : Hid (GivesN 63 w b (o + 27) x2) := hS.n h2 (hro.drop 27)
  clear hK hA hD hS hn hx h1 h2 h3 h4 h5 h6 h7 h8 h9 g0 g1 g2 hro hc hc' hc2 hle
  show Calls _ _ _ _ _
  go_enter Tryz.func89, Tryz.ntmps89
  go_wp2_with fail
  go_quiet (first
    | (go_at_call 45; exact Calls.quiet_of (HR.out _))
    | (go_at_call 24; exact Calls.quiet_of (HX.out _))
    | (go_at_call 46; exact Calls.quiet_of (HC.out _))
    | (go_at_call 47; exact Calls.quiet_of (HC'.out _))
    | (go_at_call 61; exact Calls.quiet_of (HB.out _)))
  clear HR HX HC HC' HB c20 c21
  have HC3 : Hid (RowGives 115 63 (w.drewN nq) ao2 l2 d2 x4) := fun m => by
    have := HC2.out (nq + m)
    rwa [← World.drewN_drewN] at this
  have HS3 : Hid (GivesN 63 (w.drewN nq) b (o + 27) x2) := fun m => by
    have := HS.out (nq + m)
    rwa [← World.drewN_drewN] at this
  clear HC2 HS
  have hmx : mxi (mxi (mxi (mxi (y1 : Int) (y2 : Int)) (y0 : Int)) (x8 : Int)) (x6 : Int) = ((max (max (max (max y1 y2) y0) x8) x6 : Nat) : Int) := by rw [mxi_nat, mxi_nat, mxi_nat, mxi_nat]
  obtain ⟨Y, hY⟩ : ∃ Y, max (max (max (max y1 y2) y0) x8) x6 = Y := ⟨_, rfl⟩
  rw [hmx, hY]
  clear hmx
  have c26' : (w.drewN nq).cell? ⟨b, o + 26, none⟩ = some (.slice ao2 l2 d2) := c26
  clear c26
  obtain ⟨w2, hw2⟩ : ∃ w2, w.drewN nq = w2 := ⟨_, rfl⟩
  rw [hw2] at HC3 HS3 c26' ⊢
  have HW2 : Hid (∃ n1, w.drewN n1 = w2) := ⟨nq, hw2⟩
  clear hw2
  go_wp2_with fail
  go_quiet (first
    | (go_at_call 115; exact Calls.quiet_of (HC3.out _))
    | (go_at_call 63; exact Calls.quiet_of (HS3.out _)))
  go_wp2_with fail
  go_ret
  subst hY
  obtain ⟨n1, hn1⟩ := HW2.out
  exact ⟨by rw [mxi_nat, mxi_nat, wrap1 HM.out]; rfl, n1 + nq, by rw [← World.drewN_drewN, hn1]⟩

/-- All depths, at a fuel. -/
structure Dp (f : Nat) : Prop where
  ast : DepIs 24 (dep f .ast)
  arg : DepIs 48 (dep f .arg)
  var : DepIs 87 (dep f .var)
  decl : DepIs 61 (dep f .decl)
  stmts : DepIs 63 (dep f .stmts)
  stmt : DepIs 89 (dep f .stmt)
  unit : DepIs 36 (dep f .unit)

theorem DepIs.of {K : FuncId} {g h : List D → Option Nat} (hg : DepIs K g) (e : ∀ ds, h ds = g ds) : DepIs K h := fun ds n hn => hg ds n (by rw [← e]; exact hn)

theorem dp_all : ∀ f, f ≤ 1000000 → Dp f
  | 0, _ => ⟨fun _ _ h => by simp [dep] at h, fun _ _ h => by simp [dep] at h, fun _ _ h => by simp [dep] at h, fun _ _ h => by simp [dep] at h, fun _ _ h => by simp [dep] at h, fun _ _ h => by simp [dep] at h, fun _ _ h => by simp [dep] at h⟩
  | f + 1, hf => by
    have ih := dp_all f (by omega)
    refine ⟨?_, ?_, ?_, ?_, ?_, ?_, ?_⟩
    · refine (exprDepth_any (dep f .ast) (dep f .arg) (fun ds n h => ?_) ih.ast ih.arg).of (fun ds => by simp only [dep]; rcases ds[0]? with _ | (_ | _ | _ | _) <;> rfl)
      rcases h with h | h | h
      · have := rows_le h; omega
      · have := rows_le h; omega
      · have := rows_le h; omega
    · exact (argDepth_any (dep f .ast) ih.ast).of (fun ds => by simp only [dep])
    · exact (variableDepth_any (dep f .ast) ih.ast).of (fun ds => by simp only [dep])
    · exact (declDepth_any (dep f .var) ih.var).of (fun ds => by simp only [dep])
    · exact (stepsDepth_any (dep f .stmt) ih.stmt).of (fun ds => by simp only [dep])
    · refine (stmtDepth_any (dep f .ast) (dep f .arg) (dep f .decl) (dep f .stmts) (fun ds n h => ?_) ih.ast ih.arg ih.decl ih.stmts).of (fun ds => by simp only [dep])
      have h1 : dep (f + 1) .stmt ds = some (1 + n) := by simp only [dep]; rw [h]; rfl
      have := dep_le _ _ _ _ h1
      omega
    · exact (unitDepth_any (dep f .ast) (dep f .decl) (dep f .stmts) ih.ast ih.decl ih.stmts).of (fun ds => by simp only [dep])

theorem units_depth (f : Nat) (hf : f ≤ 1000000) : DepIs 15 (depUnits f) := (unitsDepth_any (dep f .unit) (dp_all f hf).unit).of (fun _ => rfl)

end Go.Proofs.YthmdgbmodgfcmaaGreatDoor
