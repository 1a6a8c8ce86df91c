/-
  QF, QP, QL, QM, QN, QT, QPlaces.
-/
/-
  Formulas, their words and their texts: plain functions; nothing of the program.
-/
namespace Go.Proofs.YtidihaecgmbhpabDoor.Q

def isBl (c : UInt8) : Bool := c == 9 || c == 10 || c == 13 || c == 32
def isLet (c : UInt8) : Bool := (97 ≤ c && c ≤ 122) || (65 ≤ c && c ≤ 90) || c == 95
def isDig (c : UInt8) : Bool := 48 ≤ c && c ≤ 57
def isLD (c : UInt8) : Bool := isLet c || isDig c

/-- Operators of one kid, of two. -/
inductive U where | not | next | always | fin
  deriving DecidableEq
inductive B where | and | or | imp | iff | til | rel | weak
  deriving DecidableEq

abbrev Wd := List UInt8

/-- A formula that may be, its names aside. -/
inductive F where
  | tt | ff
  | pr (s : Wd)
  | u (o : U) (a : F)
  | b (o : B) (a c : F)
  deriving DecidableEq

def noNames : List Wd := [[116, 114, 117, 101], [102, 97, 108, 115, 101], [88], [85], [86], [87], [97, 108, 119, 97, 121, 115], [101, 118, 101, 110, 116, 117, 97, 108, 108, 121], [110, 101, 120, 116], [117, 110, 116, 105, 108], [114, 101, 108, 101, 97, 115, 101], [119, 101, 97, 107, 117, 110, 116, 105, 108]]

/-- Is a text a proposition's name? -/
def letFirst : Wd → Bool
  | c :: _ => isLet c
  | [] => false
def isName (s : Wd) : Bool := decide (1 ≤ s.length) && decide (s.length ≤ 32) && letFirst s && s.all isLD && !decide (s ∈ noNames)

def uw : U → Wd
  | .not => [33] | .next => [88] | .always => [91, 93] | .fin => [60, 62]
def bw : B → Wd
  | .and => [38, 38] | .or => [124, 124] | .imp => [45, 62] | .iff => [60, 45, 62] | .til => [85] | .rel => [86] | .weak => [87]
def lv : B → Nat
  | .iff => 0 | .imp => 1 | .or => 2 | .and => 3 | .til => 4 | .rel => 4 | .weak => 4
/-- The least levels of its kids. -/
def lft : B → Nat
  | .iff => 1 | .imp => 2 | .or => 2 | .and => 3 | .til => 5 | .rel => 5 | .weak => 5
def rgt : B → Nat
  | .iff => 0 | .imp => 1 | .or => 3 | .and => 4 | .til => 4 | .rel => 4 | .weak => 4

def F.level : F → Nat
  | .tt => 6 | .ff => 6 | .pr _ => 6 | .u _ _ => 5 | .b o _ _ => lv o

/-- Names that may be. -/
def F.ok : F → Bool
  | .tt => true | .ff => true | .pr s => isName s | .u _ a => a.ok | .b _ a c => a.ok && c.ok

def F.depth : F → Nat
  | .tt => 1 | .ff => 1 | .pr _ => 1 | .u _ a => a.depth + 1 | .b _ a c => max a.depth c.depth + 1

def F.size : F → Nat
  | .tt => 1 | .ff => 1 | .pr _ => 1 | .u _ a => a.size + 1 | .b _ a c => a.size + c.size + 1

def up : U → Wd
  | .not => [33] | .next => [88, 32] | .always => [91, 93, 32] | .fin => [60, 62, 32]

def par (x : Bool) (s : Wd) : Wd := if x then [40] ++ s ++ [41] else s
def parW (x : Bool) (s : List Wd) : List Wd := if x then [[40]] ++ s ++ [[41]] else s

/-- A formula's text. -/
def F.text : F → Wd
  | .tt => [116, 114, 117, 101] | .ff => [102, 97, 108, 115, 101] | .pr s => s
  | .u o a => up o ++ par (decide (a.level < 5)) a.text
  | .b o a c => par (decide (a.level < lft o)) a.text ++ [32] ++ bw o ++ [32] ++ par (decide (c.level < rgt o)) c.text

/-- A formula's words. -/
def F.wds : F → List Wd
  | .tt => [[116, 114, 117, 101]] | .ff => [[102, 97, 108, 115, 101]] | .pr s => [s]
  | .u o a => uw o :: parW (decide (a.level < 5)) a.wds
  | .b o a c => parW (decide (a.level < lft o)) a.wds ++ [bw o] ++ parW (decide (c.level < rgt o)) c.wds

/-- What a word is. -/
inductive Cl where
  | lp | rp | tt | ff | u (o : U) | b (o : B) | nm | no
  deriving DecidableEq

def cls (w : Wd) : Cl :=
  if w = [40] then .lp else if w = [41] then .rp else if w = [116, 114, 117, 101] then .tt else if w = [102, 97, 108, 115, 101] then .ff
  else if w = [33] then .u .not else if w = [88] then .u .next else if w = [91, 93] then .u .always else if w = [60, 62] then .u .fin
  else if w = [38, 38] then .b .and else if w = [124, 124] then .b .or else if w = [45, 62] then .b .imp else if w = [60, 45, 62] then .b .iff else if w = [85] then .b .til else if w = [86] then .b .rel else if w = [87] then .b .weak
  else if isName w then .nm else .no

theorem cls_uw (o : U) : cls (uw o) = .u o := by cases o <;> rfl
theorem cls_bw (o : B) : cls (bw o) = .b o := by cases o <;> rfl

theorem cls_name {s : Wd} (h : isName s = true) : cls s = .nm := by
  have hx : ∀ x : Wd, isName x = false → s ≠ x := fun x hx e => by rw [e, hx] at h; cases h
  unfold cls
  rw [if_neg (hx _ (by decide)), if_neg (hx _ (by decide)), if_neg (hx _ (by decide)), if_neg (hx _ (by decide)), if_neg (hx _ (by decide)), if_neg (hx _ (by decide)), if_neg (hx _ (by decide)), if_neg (hx _ (by decide)), if_neg (hx _ (by decide)),
    if_neg (hx _ (by decide)), if_neg (hx _ (by decide)), if_neg (hx _ (by decide)), if_neg (hx _ (by decide)), if_neg (hx _ (by decide)), if_neg (hx _ (by decide)), if_pos h]

/-- What is read: a formula and the words behind it; or how many words were left where one can't stand. -/
abbrev R := Except Nat (F × List Wd)

def opAt (n : Nat) : List Wd → Option (B × List Wd)
  | w :: r => match cls w with | .b o => if lv o = n then some (o, r) else none | _ => none
  | [] => none

/-- What goes on behind what has been read. -/
def bind1 (x : Option R) (k : F → List Wd → Option R) : Option R :=
  match x with
  | some (.ok (t, r)) => k t r
  | some (.error e) => some (.error e)
  | none => none

mutual
/-- A formula of a level. -/
def fm : Nat → Nat → List Wd → Option R
  | 0, _, _ => none
  | f + 1, n, ws =>
    if n = 5 then pf f ws else bind1 (fm f (n + 1) ws) fun t r =>
      if n = 2 ∨ n = 3 then lp f n t r else
        match opAt n r with
        | some (o, r') => bind1 (fm f n r') fun u r'' => some (.ok (.b o t u, r''))
        | none => some (.ok (t, r))
/-- What stands behind a first kid, at the levels 2 and 3. -/
def lp : Nat → Nat → F → List Wd → Option R
  | 0, _, _, _ => none
  | f + 1, n, t, r =>
    match opAt n r with
    | some (o, r') => bind1 (fm f (n + 1) r') fun u r'' => lp f n (.b o t u) r''
    | none => some (.ok (t, r))
/-- One of the level 5. -/
def pf : Nat → List Wd → Option R
  | 0, _ => none
  | _ + 1, [] => some (.error 0)
  | f + 1, w :: r =>
    match cls w with
    | .tt => some (.ok (.tt, r))
    | .ff => some (.ok (.ff, r))
    | .nm => some (.ok (.pr w, r))
    | .u o => bind1 (pf f r) fun t r' => some (.ok (.u o t, r'))
    | .lp => bind1 (fm f 0 r) fun t r' => match r' with
      | x :: r'' => if cls x = .rp then some (.ok (t, r'')) else some (.error r'.length)
      | [] => some (.error 0)
    | _ => some (.error (r.length + 1))
end

end Go.Proofs.YtidihaecgmbhpabDoor.Q
/-
  Reading of words: more fuel, more words behind, fuel enough; what is printed is read. Plain laws; nothing of the program.
-/
namespace Go.Proofs.YtidihaecgmbhpabDoor.Q

theorem bind1_ok {x : Option R} {k : F → List Wd → Option R} {y : R} (h : bind1 x k = some y) : (∃ e, x = some (.error e) ∧ y = .error e) ∨ ∃ t r, x = some (.ok (t, r)) ∧ k t r = some y := by
  unfold bind1 at h
  split at h
  · exact .inr ⟨_, _, rfl, h⟩
  · cases h; exact .inl ⟨_, rfl, rfl⟩
  · cases h

theorem more : ∀ f : Nat, (∀ n ws x, fm f n ws = some x → fm (f + 1) n ws = some x) ∧ (∀ n t r x, lp f n t r = some x → lp (f + 1) n t r = some x) ∧ (∀ ws x, pf f ws = some x → pf (f + 1) ws = some x)
  | 0 => ⟨fun _ _ _ h => by simp [fm] at h, fun _ _ _ _ h => by simp [lp] at h, fun _ _ h => by simp [pf] at h⟩
  | f + 1 => by
    obtain ⟨h1, h2, h3⟩ := more f
    refine ⟨fun n ws x h => ?_, fun n t r x h => ?_, fun ws x h => ?_⟩
    · rw [fm] at h ⊢
      split at h
      · rw [if_pos (by assumption)]; exact h3 _ _ h
      · rw [if_neg (by assumption)]
        rcases bind1_ok h with ⟨e, h4, rfl⟩ | ⟨t, r, h4, h5⟩
        · rw [h1 _ _ _ h4]; rfl
        · rw [h1 _ _ _ h4]
          show (if n = 2 ∨ n = 3 then lp (f + 1) n t r else _) = _
          split at h5
          · rw [if_pos (by assumption)]; exact h2 _ _ _ _ h5
          · rw [if_neg (by assumption)]
            split at h5
            · rename_i o r' ho
              try simp only [ho]
              rcases bind1_ok h5 with ⟨e, h6, rfl⟩ | ⟨u, r'', h6, h7⟩
              · rw [h1 _ _ _ h6]; rfl
              · rw [h1 _ _ _ h6]; exact h7
            · rename_i ho
              (try simp only [ho]); exact h5
    · rw [lp] at h ⊢
      split at h
      · rename_i o r' ho
        try simp only [ho]
        rcases bind1_ok h with ⟨e, h6, rfl⟩ | ⟨u, r'', h6, h7⟩
        · rw [h1 _ _ _ h6]; rfl
        · rw [h1 _ _ _ h6]; exact h2 _ _ _ _ h7
      · rename_i ho
        (try simp only [ho]); exact h
    · cases ws with
      | nil => rw [pf] at h ⊢; exact h
      | cons w r =>
        rw [pf] at h ⊢
        split at h
        · rename_i hc; first | exact h | (simp only [hc]; exact h)
        · rename_i hc; first | exact h | (simp only [hc]; exact h)
        · rename_i hc; first | exact h | (simp only [hc]; exact h)
        · rename_i o hc; try simp only [hc]
          rcases bind1_ok h with ⟨e, h6, rfl⟩ | ⟨u, r'', h6, h7⟩
          · rw [h3 _ _ h6]; rfl
          · rw [h3 _ _ h6]; exact h7
        · rename_i hc; try simp only [hc]
          rcases bind1_ok h with ⟨e, h6, rfl⟩ | ⟨u, r'', h6, h7⟩
          · rw [h1 _ _ _ h6]; rfl
          · rw [h1 _ _ _ h6]; exact h7
        · rename_i g1 g2 g3 g4 g5
          exact h

theorem fm_more {f g n : Nat} {ws : List Wd} {x : R} (h : fm f n ws = some x) (hg : f ≤ g) : fm g n ws = some x := by
  induction hg with
  | refl => exact h
  | step _ ih => exact (more _).1 _ _ _ ih
theorem lp_more {f g n : Nat} {t : F} {ws : List Wd} {x : R} (h : lp f n t ws = some x) (hg : f ≤ g) : lp g n t ws = some x := by
  induction hg with
  | refl => exact h
  | step _ ih => exact (more _).2.1 _ _ _ _ ih
theorem pf_more {f g : Nat} {ws : List Wd} {x : R} (h : pf f ws = some x) (hg : f ≤ g) : pf g ws = some x := by
  induction hg with
  | refl => exact h
  | step _ ih => exact (more _).2.2 _ _ ih

theorem fm_one {f g n : Nat} {ws : List Wd} {x y : R} (h : fm f n ws = some x) (k : fm g n ws = some y) : x = y := by
  have a := fm_more h (Nat.le_max_left f g)
  have b := fm_more k (Nat.le_max_right f g)
  rw [a] at b
  exact Option.some.inj b

/-- No operator stands ahead. -/
def stop (x : List Wd) : Prop := ∀ n, opAt n x = none

theorem opAt_append {n : Nat} {r x : List Wd} {y : Option (B × List Wd)} (hx : stop x) (h : opAt n r = y) : opAt n (r ++ x) = y.map fun p => (p.1, p.2 ++ x) := by
  cases r with
  | nil => simp only [opAt] at h; subst h; simp [hx n]
  | cons w r =>
    subst h
    simp only [List.cons_append, opAt]
    split
    · split <;> rfl
    · rfl

/-- Words behind, of which the first is no operator, stay. -/
theorem ext (x : List Wd) (hx : stop x) : ∀ f : Nat, (∀ n ws t r, fm f n ws = some (.ok (t, r)) → fm f n (ws ++ x) = some (.ok (t, r ++ x))) ∧ (∀ n t ws u r, lp f n t ws = some (.ok (u, r)) → lp f n t (ws ++ x) = some (.ok (u, r ++ x))) ∧
    (∀ ws t r, pf f ws = some (.ok (t, r)) → pf f (ws ++ x) = some (.ok (t, r ++ x)))
  | 0 => ⟨fun _ _ _ _ h => by simp [fm] at h, fun _ _ _ _ _ h => by simp [lp] at h, fun _ _ _ h => by simp [pf] at h⟩
  | f + 1 => by
    obtain ⟨h1, h2, h3⟩ := ext x hx f
    refine ⟨fun n ws t r h => ?_, fun n t ws u r h => ?_, fun ws t r h => ?_⟩
    · rw [fm] at h ⊢
      split at h
      · rw [if_pos (by assumption)]; exact h3 _ _ _ h
      · rw [if_neg (by assumption)]
        rcases bind1_ok h with ⟨e, h4, h5⟩ | ⟨t', r', h4, h5⟩
        · cases h5
        · rw [h1 _ _ _ _ h4]
          show (if n = 2 ∨ n = 3 then lp f n t' (r' ++ x) else _) = _
          split at h5
          · rw [if_pos (by assumption)]; exact h2 _ _ _ _ _ h5
          · rw [if_neg (by assumption)]
            split at h5
            · rename_i o r'' ho
              simp only [opAt_append hx ho, Option.map_some]
              rcases bind1_ok h5 with ⟨e, h6, h7⟩ | ⟨u, r3, h6, h7⟩
              · cases h7
              · rw [h1 _ _ _ _ h6]
                simp only [Option.some.injEq, Except.ok.injEq, Prod.mk.injEq] at h7
                obtain ⟨rfl, rfl⟩ := h7
                rfl
            · rename_i ho
              simp only [opAt_append hx ho, Option.map_none]
              simp only [Option.some.injEq, Except.ok.injEq, Prod.mk.injEq] at h5
              obtain ⟨rfl, rfl⟩ := h5
              rfl
    · rw [lp] at h ⊢
      split at h
      · rename_i o r' ho
        simp only [opAt_append hx ho, Option.map_some]
        rcases bind1_ok h with ⟨e, h6, h7⟩ | ⟨u', r'', h6, h7⟩
        · cases h7
        · rw [h1 _ _ _ _ h6]; exact h2 _ _ _ _ _ h7
      · rename_i ho
        simp only [opAt_append hx ho, Option.map_none]
        simp only [Option.some.injEq, Except.ok.injEq, Prod.mk.injEq] at h
        obtain ⟨rfl, rfl⟩ := h
        rfl
    · cases ws with
      | nil => rw [pf] at h; cases h
      | cons w r0 =>
        rw [List.cons_append]
        rw [pf] at h ⊢
        split at h
        · rename_i hc; first | (cases h; rfl) | (simp only [hc]; cases h; rfl)
        · rename_i hc; first | (cases h; rfl) | (simp only [hc]; cases h; rfl)
        · rename_i hc; first | (cases h; rfl) | (simp only [hc]; cases h; rfl)
        · rename_i o hc; try simp only [hc]
          rcases bind1_ok h with ⟨e, h6, h7⟩ | ⟨u, r'', h6, h7⟩
          · cases h7
          · rw [h3 _ _ _ h6]; cases h7; rfl
        · rename_i hc; try simp only [hc]
          rcases bind1_ok h with ⟨e, h6, h7⟩ | ⟨u, r', h6, h7⟩
          · cases h7
          · rw [h1 _ _ _ _ h6]
            show (match r' ++ x with | y :: r'' => _ | [] => _) = _
            cases r' with
            | nil => cases h7
            | cons y r'' =>
              simp only at h7
              split at h7
              · rename_i hy; cases h7; exact if_pos hy
              · cases h7
        · cases h

/-- What is left is a part of what was there. -/
theorem less : ∀ f : Nat, (∀ n ws t r, fm f n ws = some (.ok (t, r)) → r.length < ws.length) ∧ (∀ n t ws u r, lp f n t ws = some (.ok (u, r)) → r.length ≤ ws.length) ∧ (∀ ws t r, pf f ws = some (.ok (t, r)) → r.length < ws.length)
  | 0 => ⟨fun _ _ _ _ h => by simp [fm] at h, fun _ _ _ _ _ h => by simp [lp] at h, fun _ _ _ h => by simp [pf] at h⟩
  | f + 1 => by
    obtain ⟨h1, h2, h3⟩ := less f
    have hop : ∀ n r o r', opAt n r = some (o, r') → r'.length < r.length := fun n r o r' h => by
      cases r with
      | nil => cases h
      | cons w r =>
        simp only [opAt] at h
        split at h
        · split at h
          · cases h; simp
          · cases h
        · cases h
    refine ⟨fun n ws t r h => ?_, fun n t ws u r h => ?_, fun ws t r h => ?_⟩
    · rw [fm] at h
      split at h
      · exact h3 _ _ _ h
      · rcases bind1_ok h with ⟨e, h4, h5⟩ | ⟨t', r', h4, h5⟩
        · cases h5
        · have := h1 _ _ _ _ h4
          split at h5
          · have := h2 _ _ _ _ _ h5; omega
          · split at h5
            · rename_i o r'' ho
              have := hop _ _ _ _ ho
              rcases bind1_ok h5 with ⟨e, h6, h7⟩ | ⟨u, r3, h6, h7⟩
              · cases h7
              · have := h1 _ _ _ _ h6
                cases h7; omega
            · cases h5; omega
    · rw [lp] at h
      split at h
      · rename_i o r' ho
        have := hop _ _ _ _ ho
        rcases bind1_ok h with ⟨e, h6, h7⟩ | ⟨u', r'', h6, h7⟩
        · cases h7
        · have := h1 _ _ _ _ h6
          have := h2 _ _ _ _ _ h7
          omega
      · cases h; omega
    · cases ws with
      | nil => rw [pf] at h; cases h
      | cons w r0 =>
        rw [pf] at h
        split at h
        · cases h; simp
        · cases h; simp
        · cases h; simp
        · rcases bind1_ok h with ⟨e, h6, h7⟩ | ⟨u, r'', h6, h7⟩
          · cases h7
          · have := h3 _ _ _ h6; cases h7; simp; omega
        · rcases bind1_ok h with ⟨e, h6, h7⟩ | ⟨u, r', h6, h7⟩
          · cases h7
          · have := h1 _ _ _ _ h6
            cases r' with
            | nil => cases h7
            | cons y r'' =>
              simp only at h7
              split at h7
              · cases h7; simp at this ⊢; omega
              · cases h7
        · cases h

theorem bind1_some {x : Option R} {k : F → List Wd → Option R} (hx : x ≠ none) (hk : ∀ t r, x = some (.ok (t, r)) → k t r ≠ none) : bind1 x k ≠ none := by
  unfold bind1
  split
  · exact hk _ _ rfl
  · simp
  · exact absurd rfl hx

/-- Fuel enough. -/
theorem fuel : ∀ f : Nat, (∀ n ws, n ≤ 5 → 8 * ws.length + (7 - n) ≤ f → fm f n ws ≠ none) ∧ (∀ n t r, n ≤ 5 → 8 * r.length + 1 ≤ f → lp f n t r ≠ none) ∧ (∀ ws, 8 * ws.length + 1 ≤ f → pf f ws ≠ none)
  | 0 => ⟨fun _ _ _ h => by omega, fun _ _ _ _ h => by omega, fun _ h => by omega⟩
  | f + 1 => by
    obtain ⟨h1, h2, h3⟩ := fuel f
    have hop : ∀ n r o r', opAt n r = some (o, r') → r'.length < r.length ∧ n = lv o := fun n r o r' h => by
      cases r with
      | nil => cases h
      | cons w r =>
        simp only [opAt] at h
        split at h
        · split at h
          · rename_i he; cases h; simp [he]
          · cases h
        · cases h
    have hlv : ∀ o : B, lv o ≤ 4 := fun o => by cases o <;> decide
    refine ⟨fun n ws hn hf => ?_, fun n t r hn hf => ?_, fun ws hf => ?_⟩
    · rw [fm]
      split
      · exact h3 _ (by omega)
      · refine bind1_some (h1 _ _ (by omega) (by omega)) fun t r ht => ?_
        have := (less f).1 _ _ _ _ ht
        split
        · exact h2 _ _ _ hn (by omega)
        · split
          · rename_i o r' ho
            have := hop _ _ _ _ ho
            refine bind1_some (h1 _ _ hn (by omega)) fun u r'' hu => by simp
          · simp
    · rw [lp]
      split
      · rename_i o r' ho
        have := hop _ _ _ _ ho
        have := hlv o
        refine bind1_some (h1 _ _ (by omega) (by omega)) fun u r'' hu => ?_
        have := (less f).1 _ _ _ _ hu
        exact h2 _ _ _ hn (by omega)
      · simp
    · cases ws with
      | nil => rw [pf]; simp
      | cons w r =>
        rw [pf]
        simp only [List.length_cons] at hf
        split
        · simp
        · simp
        · simp
        · exact bind1_some (h3 _ (by omega)) fun t r' ht => by simp
        · refine bind1_some (h1 _ _ (by omega) (by omega)) fun t r' ht => ?_
          split
          · split <;> simp
          · simp
        · simp

/-- The levels at which one reads on to the right. -/
abbrev left (n : Nat) : Prop := n = 2 ∨ n = 3

/-- No operator of this level or a higher one ahead. -/
def calm (n : Nat) (x : List Wd) : Prop := ∀ m, n ≤ m → opAt m x = none

/-- What is read at a level of words that begin with a formula, the rest being what the formula can't take. -/
def Reads (n : Nat) (ws : List Wd) (t : F) (r : List Wd) : Prop := ∃ f, fm f n ws = some (.ok (t, r))

theorem fm5 {f : Nat} {ws : List Wd} : fm (f + 1) 5 ws = pf f ws := by rw [fm, if_pos rfl]

/-- One level down, where no operator of the level stands behind. -/
theorem Reads.down {n : Nat} {ws : List Wd} {t : F} {r : List Wd} (hn : n < 5) (h : Reads (n + 1) ws t r) (hr : opAt n r = none) : Reads n ws t r := by
  obtain ⟨f, h⟩ := h
  refine ⟨f + 2, ?_⟩
  rw [fm, if_neg (by omega), fm_more h (Nat.le_succ f)]
  show (if n = 2 ∨ n = 3 then lp (f + 1) n t r else _) = _
  by_cases hl : n = 2 ∨ n = 3
  · rw [if_pos hl, lp, hr]
  · rw [if_neg hl, hr]

theorem Reads.downs {n k : Nat} {ws : List Wd} {t : F} {r : List Wd} (hk : n + k ≤ 5) (h : Reads (n + k) ws t r) (hr : ∀ m, n ≤ m → m < n + k → opAt m r = none) : Reads n ws t r := by
  induction k with
  | zero => exact h
  | succ k ih => exact ih (by omega) ((show Reads (n + k + 1) ws t r from h).down (by omega) (hr _ (by omega) (by omega))) (fun m h1 h2 => hr m h1 (by omega))

/-- A row of operators of a level that goes on to the right: what has been read so far. -/
def Goes (n : Nat) (t : F) (ws : List Wd) (u : F) (r : List Wd) : Prop := ∃ f, lp f n t ws = some (.ok (u, r))

theorem Reads.of_goes {n : Nat} {ws : List Wd} {t u : F} {r s : List Wd} (hl : left n) (h : Reads (n + 1) ws t r) (hg : Goes n t r u s) : Reads n ws u s := by
  obtain ⟨f, h⟩ := h
  obtain ⟨g, hg⟩ := hg
  refine ⟨max f g + 1, ?_⟩
  rw [fm, if_neg (by unfold left at hl; omega), fm_more h (Nat.le_max_left f g)]
  show (if n = 2 ∨ n = 3 then lp (max f g) n t r else _) = _
  rw [if_pos hl]
  exact lp_more hg (Nat.le_max_right f g)

theorem Goes.stop {n : Nat} {t : F} {r : List Wd} (h : opAt n r = none) : Goes n t r t r := ⟨1, by rw [lp, h]⟩
theorem Goes.next {n : Nat} {t u v : F} {o : B} {ws r s : List Wd} (ho : lv o = n) (h : Reads (n + 1) ws u r) (hg : Goes n (.b o t u) r v s) : Goes n t (bw o :: ws) v s := by
  obtain ⟨f, h⟩ := h
  obtain ⟨g, hg⟩ := hg
  refine ⟨max f g + 1, ?_⟩
  have ho' : opAt n (bw o :: ws) = some (o, ws) := by simp only [opAt, cls_bw]; rw [if_pos ho]
  rw [lp, ho']
  show bind1 (fm (max f g) (n + 1) ws) _ = _
  rw [fm_more h (Nat.le_max_left f g)]
  exact lp_more hg (Nat.le_max_right f g)

/-- An operator of a level that goes on by itself. -/
theorem Reads.bin {n : Nat} {ws xs : List Wd} {t u : F} {o : B} {r : List Wd} (hn : n < 5) (hl : ¬ left n) (ho : lv o = n) (h : Reads (n + 1) ws t (bw o :: xs)) (hu : Reads n xs u r) : Reads n ws (.b o t u) r := by
  obtain ⟨f, h⟩ := h
  obtain ⟨g, hu⟩ := hu
  refine ⟨max f g + 1, ?_⟩
  have ho' : opAt n (bw o :: xs) = some (o, xs) := by simp only [opAt, cls_bw]; rw [if_pos ho]
  rw [fm, if_neg (by omega), fm_more h (Nat.le_max_left f g)]
  show (if n = 2 ∨ n = 3 then _ else _) = _
  rw [if_neg hl, ho']
  show bind1 (fm (max f g) n xs) _ = _
  rw [fm_more hu (Nat.le_max_right f g)]
  rfl

theorem Reads.paren {ws : List Wd} {t : F} {r : List Wd} (h : Reads 0 ws t ([41] :: r)) : Reads 5 ([40] :: ws) t r := by
  obtain ⟨f, h⟩ := h
  refine ⟨f + 2, ?_⟩
  rw [fm5, pf]
  show bind1 (fm f 0 ws) _ = _
  rw [h]
  rfl

theorem Reads.un {ws : List Wd} {t : F} {r : List Wd} (o : U) (h : Reads 5 ws t r) : Reads 5 (uw o :: ws) (.u o t) r := by
  obtain ⟨f, h⟩ := h
  cases f with
  | zero => simp [fm] at h
  | succ f =>
    rw [fm5] at h
    refine ⟨f + 2, ?_⟩
    rw [fm5, pf]
    simp only [cls_uw]
    rw [h]
    rfl

theorem opAt_bw (n : Nat) (o : B) (ws : List Wd) : opAt n (bw o :: ws) = if lv o = n then some (o, ws) else none := by simp only [opAt, cls_bw]
theorem opAt_rp (n : Nat) (ws : List Wd) : opAt n ([41] :: ws) = none := rfl

/-- A formula by its own level. -/
def own (t : F) : Nat := min 5 t.level

/-- At its own level. -/
def Own (t : F) : Prop := (¬ left (own t) → ∀ r, calm (own t) r → Reads (own t) (t.wds ++ r) t r) ∧
  (left (own t) → ∀ r u s, calm (own t + 1) r → Goes (own t) t r u s → Reads (own t) (t.wds ++ r) u s)

theorem calm.le {n m : Nat} {x : List Wd} (h : calm n x) (hm : n ≤ m) : calm m x := fun k hk => h k (by omega)
theorem calm_rp (ws : List Wd) : calm 0 ([41] :: ws) := fun _ _ => rfl
theorem calm_bw {o : B} {n : Nat} (ws : List Wd) (h : lv o < n) : calm n (bw o :: ws) := fun m hm => by rw [opAt_bw, if_neg (by omega)]

theorem Own.at {t : F} (h : Own t) : ∀ n, n ≤ own t → ∀ r, calm n r → Reads n (t.wds ++ r) t r := by
  intro n hn r hr
  have h5 : own t ≤ 5 := Nat.min_le_left _ _
  have h0 : Reads (own t) (t.wds ++ r) t r := by
    by_cases hl : left (own t)
    · exact h.2 hl r t r (hr.le (by omega)) (Goes.stop (hr _ hn))
    · exact h.1 hl r (hr.le hn)
  obtain ⟨d, hd⟩ : ∃ d, own t = n + d := ⟨own t - n, by omega⟩
  rw [hd] at h0
  exact h0.downs (by omega) (fun m h1 _ => hr m h1)

theorem Own.goes {t : F} (h : Own t) {n : Nat} (hl : left n) (hn : n ≤ own t) {r s : List Wd} {u : F} (hr : calm (n + 1) r) (hg : Goes n t r u s) : Reads n (t.wds ++ r) u s := by
  by_cases e : n = own t
  · subst e; exact h.2 hl r u s hr hg
  · exact Reads.of_goes hl (h.at (n + 1) (by omega) r hr) hg

theorem Own.par5 {t : F} (h : Own t) (r : List Wd) : Reads 5 (parW true t.wds ++ r) t r := by
  have := (h.at 0 (Nat.zero_le _) ([41] :: r) (calm_rp r)).paren
  simpa [parW] using this

theorem Own.within {t : F} (h : Own t) {n : Nat} (hn : n ≤ 5) {r : List Wd} (hr : calm n r) : Reads n (parW (decide (t.level < n)) t.wds ++ r) t r := by
  by_cases hl : t.level < n
  · rw [decide_eq_true hl]
    have h0 := h.par5 r
    obtain ⟨d, hd⟩ : ∃ d, 5 = n + d := ⟨5 - n, by omega⟩
    rw [hd] at h0
    exact h0.downs (by omega) (fun m h1 _ => hr m h1)
  · rw [decide_eq_false hl]
    exact h.at n (by unfold own; omega) r hr

theorem Own.withinGoes {t : F} (h : Own t) {n : Nat} (hl : left n) {r s : List Wd} {u : F} (hr : calm (n + 1) r) (hg : Goes n t r u s) : Reads n (parW (decide (t.level < n)) t.wds ++ r) u s := by
  by_cases hlt : t.level < n
  · rw [decide_eq_true hlt]
    have h0 := h.par5 r
    obtain ⟨d, hd⟩ : ∃ d, 5 = n + 1 + d := ⟨5 - (n + 1), by omega⟩
    rw [hd] at h0
    exact Reads.of_goes hl (h0.downs (by omega) (fun m h1 _ => hr m h1)) hg
  · rw [decide_eq_false hlt]
    exact h.goes hl (by unfold own; omega) hr hg

theorem own_all (t : F) : t.ok = true → Own t := by
  induction t with
  | tt => exact fun _ => ⟨fun _ r _ => ⟨2, rfl⟩, fun h => by simp [own, F.level, left] at h⟩
  | ff => exact fun _ => ⟨fun _ r _ => ⟨2, rfl⟩, fun h => by simp [own, F.level, left] at h⟩
  | pr s =>
    intro h
    refine ⟨fun _ r _ => ⟨2, ?_⟩, fun h => by simp [own, F.level, left] at h⟩
    show fm 2 5 (s :: r) = _
    rw [fm5, pf]
    simp only [cls_name h]
  | u o a ih =>
    intro h
    refine ⟨fun _ r hr => ?_, fun h => by simp [own, F.level, left] at h⟩
    exact ((ih h).within (n := 5) (by omega) hr).un o
  | b o a c iha ihc =>
    intro h
    have h' : a.ok = true ∧ c.ok = true := by simpa [F.ok] using h
    have ha := iha h'.1
    have hc := ihc h'.2
    have ho : own (.b o a c) = lv o := by cases o <;> rfl
    have hw : ∀ r, (F.b o a c).wds ++ r = parW (decide (a.level < lft o)) a.wds ++ (bw o :: (parW (decide (c.level < rgt o)) c.wds ++ r)) := fun r => by simp [F.wds]
    refine ⟨fun hl r hr => ?_, fun hl r u s hr hg => ?_⟩
    · rw [ho] at hl hr ⊢
      have h1 : lft o = lv o + 1 ∧ rgt o = lv o ∧ lv o < 5 := by cases o <;> first | exact ⟨rfl, rfl, by decide⟩ | (exfalso; exact hl (by decide))
      rw [hw, h1.1, h1.2.1]
      exact Reads.bin h1.2.2 hl rfl (ha.within (by omega) (calm_bw _ (by omega))) (hc.within (by omega) hr)
    · rw [ho] at hl hr hg ⊢
      have h1 : lft o = lv o ∧ rgt o = lv o + 1 ∧ lv o < 5 := by cases o <;> first | exact ⟨rfl, rfl, by decide⟩ | (exfalso; revert hl; decide)
      rw [hw, h1.1, h1.2.1]
      exact ha.withinGoes hl (calm_bw _ (by omega)) (Goes.next rfl (hc.within (by omega) hr) hg)

/-- What is printed is read. -/
theorem reads_wds (t : F) (h : t.ok = true) : Reads 0 t.wds t [] := by
  have := (own_all t h).at 0 (Nat.zero_le _) [] (fun _ _ => rfl)
  simpa using this

end Go.Proofs.YtidihaecgmbhpabDoor.Q
/-
  Texts cut into words; what is printed has the words that were meant; reading of texts. Plain laws; nothing of the program.
-/
namespace Go.Proofs.YtidihaecgmbhpabDoor.Q

def signs : List Wd := [[60, 45, 62], [91, 93], [60, 62], [45, 62], [38, 38], [47, 92], [124, 124], [92, 47], [33], [40], [41]]

/-- The sign that stands ahead. -/
def sgn (l : Wd) : Option Wd := signs.find? (·.isPrefixOf l)

/-- The word that stands ahead, as it is spelled. -/
def one (l : Wd) : Option Wd :=
  match sgn l with
  | some w => some w
  | none => match l with
    | c :: _ => if isLet c && decide ((l.takeWhile isLD).length ≤ 32) then some (l.takeWhile isLD) else none
    | [] => none

/-- One spelling for each word. -/
def canon (w : Wd) : Wd :=
  if w = [47, 92] then [38, 38] else if w = [92, 47] then [124, 124] else if w = [97, 108, 119, 97, 121, 115] then [91, 93] else if w = [101, 118, 101, 110, 116, 117, 97, 108, 108, 121] then [60, 62] else if w = [110, 101, 120, 116] then [88]
  else if w = [117, 110, 116, 105, 108] then [85] else if w = [114, 101, 108, 101, 97, 115, 101] then [86] else if w = [119, 101, 97, 107, 117, 110, 116, 105, 108] then [87] else w

/-- Words with their places; or where none begins. -/
def tks : Nat → Nat → Wd → Except Nat (List (Wd × Nat))
  | 0, _, _ => .ok []
  | _ + 1, _, [] => .ok []
  | f + 1, p, c :: r =>
    if isBl c then tks f (p + 1) r else
      match one (c :: r) with
      | none => .error p
      | some w => match tks f (p + w.length) ((c :: r).drop w.length) with
        | .ok l => .ok ((canon w, p) :: l)
        | .error e => .error e

def tokens (s : Wd) : Except Nat (List (Wd × Nat)) := tks (s.length + 1) 0 s

/-- Which words a text has. -/
inductive Lx : Wd → List Wd → Prop where
  | nil : Lx [] []
  | bl (c : UInt8) (r : Wd) (ws : List Wd) (hc : isBl c = true) (h : Lx r ws) : Lx (c :: r) ws
  | wd (c : UInt8) (r w : Wd) (ws : List Wd) (hc : isBl c = false) (ho : one (c :: r) = some w) (h : Lx ((c :: r).drop w.length) ws) : Lx (c :: r) (canon w :: ws)

theorem find_mem {α : Type} {p : α → Bool} : ∀ {l : List α} {a : α}, l.find? p = some a → a ∈ l ∧ p a = true := by
  intro l a h
  exact ⟨List.mem_of_find?_eq_some h, List.find?_some h⟩

theorem one_pre {l w : Wd} (h : one l = some w) : w <+: l ∧ 0 < w.length := by
  unfold one at h
  split at h
  · rename_i w' hs
    cases h
    obtain ⟨hm, hp⟩ := find_mem hs
    refine ⟨List.isPrefixOf_iff_prefix.1 hp, ?_⟩
    revert hm
    generalize w = w
    intro hm
    have : ∀ x ∈ signs, 0 < x.length := by decide
    exact this _ hm
  · split at h
    · rename_i c r _
      split at h
      · rename_i hc
        cases h
        refine ⟨List.takeWhile_prefix _, ?_⟩
        have : isLet c = true := by simp at hc; exact hc.1
        have hld : isLD c = true := by unfold isLD; rw [this]; rfl
        simp [hld]
      · cases h
    · cases h

theorem tks_lx : ∀ (f p : Nat) (s : Wd), s.length < f → (∀ l, tks f p s = .ok l → Lx s (l.map (·.1)))
  | 0, _, _, h => by omega
  | f + 1, p, [], _ => fun l h => by simp [tks] at h; subst h; exact .nil
  | f + 1, p, c :: r, hf => fun l h => by
    simp only [List.length_cons] at hf
    rw [tks] at h
    split at h
    · rename_i hc
      exact .bl c r _ hc (tks_lx f _ r (by omega) l h)
    · rename_i hc
      split at h
      · cases h
      · rename_i w hw
        split at h
        · rename_i l' hl'
          cases h
          have := one_pre hw
          exact .wd c r w _ (by simpa using hc) hw (tks_lx f _ _ (by simp; omega) l' hl')
        · cases h

theorem lx_tks {s : Wd} {ws : List Wd} (h : Lx s ws) : ∀ (f p : Nat), s.length < f → ∃ l, tks f p s = .ok l ∧ l.map (·.1) = ws := by
  induction h with
  | nil => intro f p hf; cases f with
    | zero => simp at hf
    | succ f => exact ⟨[], rfl, rfl⟩
  | bl c r ws hc h ih =>
    intro f p hf
    cases f with
    | zero => simp at hf
    | succ f =>
      obtain ⟨l, h1, h2⟩ := ih f (p + 1) (by simp at hf; omega)
      exact ⟨l, by rw [tks, if_pos hc]; exact h1, h2⟩
  | wd c r w ws hc ho h ih =>
    intro f p hf
    cases f with
    | zero => simp at hf
    | succ f =>
      have := one_pre ho
      obtain ⟨l, h1, h2⟩ := ih f (p + w.length) (by simp at hf ⊢; omega)
      exact ⟨(canon w, p) :: l, by rw [tks, if_neg (by simp [hc]), ho]; simp only [h1], by simp [h2]⟩

theorem lx_tokens {s : Wd} {ws : List Wd} (h : Lx s ws) : ∃ l, tokens s = .ok l ∧ l.map (·.1) = ws := lx_tks h _ _ (Nat.lt_succ_self _)
theorem tokens_lx {s : Wd} {l : List (Wd × Nat)} (h : tokens s = .ok l) : Lx s (l.map (·.1)) := tks_lx _ _ _ (Nat.lt_succ_self _) l h

/-- A text that may stand behind a name. -/
def sep : Wd → Bool
  | [] => true
  | c :: _ => !isLD c

theorem takeWhile_sep {p : UInt8 → Bool} {s r : Wd} (hs : s.all p = true) (hr : (∀ c q, r = c :: q → p c = false)) : (s ++ r).takeWhile p = s := by
  induction s with
  | nil =>
    cases r with
    | nil => rfl
    | cons c r => simp [hr c r rfl]
  | cons c s ih =>
    simp only [List.all_cons, Bool.and_eq_true] at hs
    simp only [List.cons_append, List.takeWhile_cons, hs.1, ih hs.2, if_true]

theorem takeWhile_append_sep {p : UInt8 → Bool} {s r : Wd} (hr : (∀ c q, r = c :: q → p c = false)) : (s ++ r).takeWhile p = s.takeWhile p := by
  induction s with
  | nil =>
    cases r with
    | nil => rfl
    | cons c r => simp [hr c r rfl]
  | cons c s ih =>
    simp only [List.cons_append, List.takeWhile_cons]
    split
    · rw [ih]
    · rfl

/-- No sign begins another one. -/
theorem sign_apart : ∀ x ∈ signs, ∀ y ∈ signs, x.isPrefixOf y = true → x = y := by decide

theorem sgn_append {s r w : Wd} (h : sgn s = some w) : sgn (s ++ r) = some w := by
  obtain ⟨hm, hp⟩ := find_mem h
  have hp' : w <+: s ++ r := (List.isPrefixOf_iff_prefix.1 hp).trans (List.prefix_append s r)
  cases h2 : sgn (s ++ r) with
  | none =>
    have := List.find?_eq_none.1 h2 w hm
    exact absurd (List.isPrefixOf_iff_prefix.2 hp') this
  | some v =>
    obtain ⟨hm2, hp2⟩ := find_mem h2
    have hv := List.isPrefixOf_iff_prefix.1 hp2
    rcases List.prefix_or_prefix_of_prefix hv hp' with h3 | h3
    · rw [sign_apart v hm2 w hm (List.isPrefixOf_iff_prefix.2 h3)]
    · rw [sign_apart w hm v hm2 (List.isPrefixOf_iff_prefix.2 h3)]

theorem let_no_sign {c : UInt8} (h : isLet c = true) (r : Wd) : sgn (c :: r) = none := by
  refine List.find?_eq_none.2 fun x hx => ?_
  have : ∀ x ∈ signs, ∃ a b, x = a :: b ∧ isLet a = false := by
    intro x hx
    simp only [signs, List.mem_cons, List.not_mem_nil, or_false] at hx
    rcases hx with rfl | rfl | rfl | rfl | rfl | rfl | rfl | rfl | rfl | rfl | rfl <;> exact ⟨_, _, rfl, by decide⟩
  obtain ⟨a, b, rfl, ha⟩ := this x hx
  simp only [List.isPrefixOf, Bool.and_eq_true, beq_iff_eq, not_and]
  intro e
  rw [e, h] at ha
  cases ha

theorem one_append {c : UInt8} {s r w : Wd} (h : one (c :: s) = some w) (hr : sep r = true) : one (c :: s ++ r) = some w := by
  unfold one at h ⊢
  cases hs : sgn (c :: s) with
  | some v =>
    rw [hs] at h
    rw [sgn_append hs]
    exact h
  | none =>
    rw [hs] at h
    simp only at h
    split at h
    · rename_i hc
      cases h
      have hl : isLet c = true := by simp at hc; exact hc.1
      have ht : (c :: s ++ r).takeWhile isLD = (c :: s).takeWhile isLD := takeWhile_append_sep (fun c q e => by subst e; simpa [sep] using hr)
      have hn := let_no_sign hl (s ++ r)
      rw [← List.cons_append] at hn
      rw [hn]
      show (if isLet c && decide (((c :: s ++ r).takeWhile isLD).length ≤ 32) then some ((c :: s ++ r).takeWhile isLD) else none) = _
      rw [ht, if_pos hc]
    · cases h

/-- Texts one behind the other. -/
theorem Lx.append {s r : Wd} {ws vs : List Wd} (h : Lx s ws) (hr : sep r = true) (k : Lx r vs) : Lx (s ++ r) (ws ++ vs) := by
  induction h with
  | nil => exact k
  | bl c q ws hc h ih => exact .bl c _ _ hc ih
  | wd c q w ws hc ho h ih =>
    have hp := one_pre ho
    refine .wd c (q ++ r) w _ hc (one_append ho hr) ?_
    have : (c :: (q ++ r)).drop w.length = (c :: q).drop w.length ++ r := by
      rw [← List.cons_append, List.drop_append_of_le_length hp.1.length_le]
    rw [this]
    exact ih

/-- A sign ahead. -/
theorem Lx.sign (w : Wd) (hw : w ∈ signs) {r : Wd} {ws : List Wd} (h : Lx r ws) : Lx (w ++ r) (canon w :: ws) := by
  have hs : sgn (w ++ r) = some w := by
    have h0 : sgn w = some w := by revert w; decide
    exact sgn_append h0
  have hb : ∀ x ∈ signs, ∃ a b, x = a :: b ∧ isBl a = false := by
    intro x hx
    simp only [signs, List.mem_cons, List.not_mem_nil, or_false] at hx
    rcases hx with rfl | rfl | rfl | rfl | rfl | rfl | rfl | rfl | rfl | rfl | rfl <;> exact ⟨_, _, rfl, by decide⟩
  obtain ⟨a, b, rfl, ha⟩ := hb w hw
  refine .wd a (b ++ r) (a :: b) ws ha ?_ ?_
  · unfold one; rw [← List.cons_append, hs]
  · rw [← List.cons_append, List.drop_left]; exact h

/-- A word of letters ahead. -/
theorem Lx.word (w : Wd) (hl : w.length ≤ 32) (h1 : letFirst w = true) (ha : w.all isLD = true) {r : Wd} {ws : List Wd} (hr : sep r = true) (h : Lx r ws) : Lx (w ++ r) (canon w :: ws) := by
  cases w with
  | nil => cases h1
  | cons c s =>
    have hb : isBl c = false := by
      have h1' : isLet c = true := h1
      cases hb : isBl c with
      | false => rfl
      | true =>
        simp only [isBl, Bool.or_eq_true, beq_iff_eq] at hb
        rcases hb with ((rfl | rfl) | rfl) | rfl <;> cases h1'
    refine .wd c (s ++ r) (c :: s) ws hb ?_ (by rw [← List.cons_append, List.drop_left]; exact h)
    have ht : (c :: s ++ r).takeWhile isLD = c :: s := takeWhile_sep ha (fun c q e => by subst e; simpa [sep] using hr)
    unfold one
    rw [let_no_sign (show isLet c = true from h1)]
    show (if isLet c && decide (((c :: s ++ r).takeWhile isLD).length ≤ 32) then some ((c :: s ++ r).takeWhile isLD) else none) = _
    rw [ht, if_pos (by rw [show isLet c = true from h1, decide_eq_true hl]; rfl)]

theorem canon_name {s : Wd} (h : isName s = true) : canon s = s := by
  have hx : ∀ x : Wd, isName x = false → s ≠ x := fun x hx e => by rw [e, hx] at h; cases h
  unfold canon
  rw [if_neg (hx _ (by decide)), if_neg (hx _ (by decide)), if_neg (hx _ (by decide)), if_neg (hx _ (by decide)), if_neg (hx _ (by decide)), if_neg (hx _ (by decide)), if_neg (hx _ (by decide)), if_neg (hx _ (by decide))]

theorem isName_parts {s : Wd} (h : isName s = true) : s.length ≤ 32 ∧ letFirst s = true ∧ s.all isLD = true := by
  unfold isName at h
  simp only [Bool.and_eq_true, decide_eq_true_eq] at h
  exact ⟨h.1.1.1.2, h.1.1.2, h.1.2⟩

theorem Lx.name {s : Wd} (hs : isName s = true) {r : Wd} {ws : List Wd} (hr : sep r = true) (h : Lx r ws) : Lx (s ++ r) (s :: ws) := by
  obtain ⟨h1, h2, h3⟩ := isName_parts hs
  have := Lx.word s h1 h2 h3 hr h
  rwa [canon_name hs] at this

theorem Lx.op (o : B) {r : Wd} {ws : List Wd} (h : Lx r ws) : Lx (bw o ++ [32] ++ r) (bw o :: ws) := by
  have hb : Lx ([32] ++ r) ws := .bl _ _ _ (by decide) h
  rw [List.append_assoc]
  cases o
  case and => exact Lx.sign [38, 38] (by decide) hb
  case or => exact Lx.sign [124, 124] (by decide) hb
  case imp => exact Lx.sign [45, 62] (by decide) hb
  case iff => exact Lx.sign [60, 45, 62] (by decide) hb
  case til => exact Lx.word [85] (by decide) (by decide) (by decide) rfl hb
  case rel => exact Lx.word [86] (by decide) (by decide) (by decide) rfl hb
  case weak => exact Lx.word [87] (by decide) (by decide) (by decide) rfl hb

theorem Lx.pre (o : U) {r : Wd} {ws : List Wd} (h : Lx r ws) : Lx (up o ++ r) (uw o :: ws) := by
  cases o
  case not => exact Lx.sign [33] (by decide) h
  case next => exact Lx.word [88] (by decide) (by decide) (by decide) (r := [32] ++ r) rfl (.bl _ _ _ (by decide) h)
  case always => exact Lx.sign [91, 93] (by decide) (r := [32] ++ r) (.bl _ _ _ (by decide) h)
  case fin => exact Lx.sign [60, 62] (by decide) (r := [32] ++ r) (.bl _ _ _ (by decide) h)

theorem Lx.par (x : Bool) {s r : Wd} {vs ws : List Wd} (hs : ∀ r ws, sep r = true → Lx r ws → Lx (s ++ r) (vs ++ ws)) (hr : sep r = true) (h : Lx r ws) : Lx (Q.par x s ++ r) (parW x vs ++ ws) := by
  cases x with
  | false => exact hs r ws hr h
  | true =>
    have h1 := hs ([41] ++ r) ([41] :: ws) rfl (Lx.sign [41] (by decide) h)
    have h2 := Lx.sign [40] (by decide) h1
    simpa [Q.par, parW, canon] using h2

/-- A formula's text has its words. -/
theorem text_lx (t : F) : t.ok = true → ∀ r ws, sep r = true → Lx r ws → Lx (t.text ++ r) (t.wds ++ ws) := by
  induction t with
  | tt => exact fun _ r ws hr h => Lx.word [116, 114, 117, 101] (by decide) (by decide) (by decide) hr h
  | ff => exact fun _ r ws hr h => Lx.word [102, 97, 108, 115, 101] (by decide) (by decide) (by decide) hr h
  | pr s => exact fun hs r ws hr h => Lx.name hs hr h
  | u o a ih =>
    intro ho r ws hr h
    have := Lx.pre o (Lx.par (decide (a.level < 5)) (ih ho) hr h)
    simpa [F.text, F.wds] using this
  | b o a c iha ihc =>
    intro ho r ws hr h
    have h' : a.ok = true ∧ c.ok = true := by simpa [F.ok] using ho
    have h1 := Lx.op o (Lx.par (decide (c.level < rgt o)) (ihc h'.2) hr h)
    have h2 : Lx ([32] ++ (bw o ++ [32] ++ (Q.par (decide (c.level < rgt o)) c.text ++ r))) _ := .bl _ _ _ (by decide) h1
    have h3 := Lx.par (decide (a.level < lft o)) (iha h'.1) (by rfl) h2
    simpa [F.text, F.wds] using h3

end Go.Proofs.YtidihaecgmbhpabDoor.Q
/-
  Texts read as formulas. Plain laws; nothing of the program.
-/
namespace Go.Proofs.YtidihaecgmbhpabDoor.Q

/-- A formula, or its error and the place. -/
def parse (s : Wd) : Except (Nat × Nat) F :=
  if 4096 < s.length then .error (2, 0) else
    match tokens s with
    | .error p => .error (90, p)
    | .ok l => match fm (8 * l.length + 8) 0 (l.map (·.1)) with
      | some (.ok (t, r)) =>
        if r.length = 0 then (if 100 < t.depth then .error (93, 0) else .ok t) else .error (92, (l.map (·.2))[l.length - r.length]?.getD 0)
      | some (.error e) => if e = 0 then .error (91, s.length) else .error (92, (l.map (·.2))[l.length - e]?.getD 0)
      | none => .error (0, 0)

theorem fuel0 (ws : List Wd) : fm (8 * ws.length + 8) 0 ws ≠ none := (fuel _).1 0 ws (by omega) (by omega)

theorem parse_of {s : Wd} {ws : List Wd} {t : F} (hs : s.length ≤ 4096) (h : Lx s ws) (hr : Reads 0 ws t []) : parse s = if 100 < t.depth then .error (93, 0) else .ok t := by
  obtain ⟨l, h1, h2⟩ := lx_tokens h
  obtain ⟨f, hf⟩ := hr
  unfold parse
  rw [if_neg (by omega), h1]
  simp only
  cases hm : fm (8 * l.length + 8) 0 (l.map (·.1)) with
  | none => have := fuel0 (l.map (·.1)); rw [List.length_map] at this; exact absurd hm this
  | some x =>
    have : x = .ok (t, []) := fm_one hm (by rw [h2]; exact hf)
    subst this
    simp

theorem cls_nm {w : Wd} (h : cls w = .nm) : isName w = true := by
  have e : ∀ (p : Prop) [Decidable p] (a b : Cl), a ≠ .nm → (if p then a else b) = .nm → b = .nm := fun p _ a b ha h => by
    by_cases hp : p
    · rw [if_pos hp] at h; exact absurd h ha
    · rwa [if_neg hp] at h
  unfold cls at h
  replace h := e _ _ _ (by simp) h
  replace h := e _ _ _ (by simp) h
  replace h := e _ _ _ (by simp) h
  replace h := e _ _ _ (by simp) h
  replace h := e _ _ _ (by simp) h
  replace h := e _ _ _ (by simp) h
  replace h := e _ _ _ (by simp) h
  replace h := e _ _ _ (by simp) h
  replace h := e _ _ _ (by simp) h
  replace h := e _ _ _ (by simp) h
  replace h := e _ _ _ (by simp) h
  replace h := e _ _ _ (by simp) h
  replace h := e _ _ _ (by simp) h
  replace h := e _ _ _ (by simp) h
  replace h := e _ _ _ (by simp) h
  cases hn : isName w with
  | true => rfl
  | false => rw [hn] at h; exact absurd h (by simp)

/-- What is read has names that may be. -/
theorem read_ok : ∀ f : Nat, (∀ n ws t r, fm f n ws = some (.ok (t, r)) → t.ok = true) ∧ (∀ n t ws u r, t.ok = true → lp f n t ws = some (.ok (u, r)) → u.ok = true) ∧ (∀ ws t r, pf f ws = some (.ok (t, r)) → t.ok = true)
  | 0 => ⟨fun _ _ _ _ h => by simp [fm] at h, fun _ _ _ _ _ _ h => by simp [lp] at h, fun _ _ _ h => by simp [pf] at h⟩
  | f + 1 => by
    obtain ⟨h1, h2, h3⟩ := read_ok f
    refine ⟨fun n ws t r h => ?_, fun n t ws u r ht h => ?_, fun ws t r h => ?_⟩
    · rw [fm] at h
      split at h
      · exact h3 _ _ _ h
      · rcases bind1_ok h with ⟨e, h4, h5⟩ | ⟨t', r', h4, h5⟩
        · cases h5
        · have := h1 _ _ _ _ h4
          split at h5
          · exact h2 _ _ _ _ _ this h5
          · split at h5
            · rcases bind1_ok h5 with ⟨e, h6, h7⟩ | ⟨u, r3, h6, h7⟩
              · cases h7
              · have h8 := h1 _ _ _ _ h6
                cases h7; simp [F.ok, this, h8]
            · cases h5; exact this
    · rw [lp] at h
      split at h
      · rcases bind1_ok h with ⟨e, h6, h7⟩ | ⟨u', r'', h6, h7⟩
        · cases h7
        · have h8 := h1 _ _ _ _ h6
          exact h2 _ _ _ _ _ (by simp [F.ok, ht, h8]) h7
      · cases h; exact ht
    · cases ws with
      | nil => rw [pf] at h; cases h
      | cons w r0 =>
        rw [pf] at h
        split at h
        · cases h; rfl
        · cases h; rfl
        · rename_i hc; cases h; exact cls_nm hc
        · rcases bind1_ok h with ⟨e, h6, h7⟩ | ⟨u, r'', h6, h7⟩
          · cases h7
          · have := h3 _ _ _ h6; cases h7; exact this
        · rcases bind1_ok h with ⟨e, h6, h7⟩ | ⟨u, r', h6, h7⟩
          · cases h7
          · have := h1 _ _ _ _ h6
            cases r' with
            | nil => cases h7
            | cons y r'' =>
              simp only at h7
              split at h7
              · cases h7; exact this
              · cases h7
        · cases h

theorem of_parse {s : Wd} {t : F} (h : parse s = .ok t) : s.length ≤ 4096 ∧ t.depth ≤ 100 ∧ t.ok = true ∧ ∃ ws, Lx s ws ∧ Reads 0 ws t [] := by
  unfold parse at h
  split at h
  · cases h
  · rename_i hs
    split at h
    · cases h
    · rename_i l hl
      split at h
      · rename_i t' r hr
        split at h
        · rename_i h0
          split at h
          · cases h
          · rename_i hd
            cases h
            have : r = [] := List.eq_nil_of_length_eq_zero h0
            subst this
            exact ⟨by omega, by omega, (read_ok _).1 _ _ _ _ hr, _, tokens_lx hl, _, hr⟩
        · cases h
      · split at h <;> cases h
      · cases h

/-- What is printed is read as the same. -/
theorem parse_text {t : F} (ho : t.ok = true) (hl : t.text.length ≤ 4096) (hd : t.depth ≤ 100) : parse t.text = .ok t := by
  have h := text_lx t ho [] [] rfl .nil
  rw [List.append_nil, List.append_nil] at h
  rw [parse_of hl h (reads_wds t ho), if_neg (by omega)]

/-- In parentheses. -/
theorem lx_paren {s : Wd} {ws : List Wd} (h : Lx s ws) (b : Wd) (hb : b.all isBl = true) : Lx ([40] ++ s ++ b ++ [41]) ([40] :: ws ++ [[41]]) := by
  have hp : Lx [41] [[41]] := Lx.sign [41] (by decide) (r := []) .nil
  have hs : ∀ b : Wd, b.all isBl = true → sep (b ++ [41]) = true ∧ Lx (b ++ [41]) [[41]] := by
    intro b hb
    induction b with
    | nil => exact ⟨rfl, hp⟩
    | cons c r ih =>
      simp only [List.all_cons, Bool.and_eq_true] at hb
      refine ⟨?_, .bl c _ _ hb.1 (ih hb.2).2⟩
      have hc := hb.1
      simp only [isBl, Bool.or_eq_true, beq_iff_eq] at hc
      rcases hc with ((rfl | rfl) | rfl) | rfl <;> rfl
  have h1 := h.append (hs b hb).1 (hs b hb).2
  have h2 := Lx.sign [40] (by decide) h1
  simpa [canon] using h2

theorem reads_paren {ws : List Wd} {t : F} (h : Reads 0 ws t []) (r : List Wd) : Reads 5 ([40] :: ws ++ [41] :: r) t r := by
  obtain ⟨f, h⟩ := h
  refine Reads.paren ⟨f, ?_⟩
  have := (ext ([41] :: r) (fun _ => rfl) f).1 _ _ _ _ h
  simpa using this

theorem reads_down0 {ws : List Wd} {t : F} (h : Reads 5 ws t []) : Reads 0 ws t [] := Reads.downs (n := 0) (k := 5) (by omega) h (fun _ _ _ => rfl)

/-- A formula in parentheses is itself. -/
theorem parse_paren {s b : Wd} {t : F} (h : parse s = .ok t) (hb : b.all isBl = true) (hl : ([40] ++ s ++ b ++ [41]).length ≤ 4096) : parse ([40] ++ s ++ b ++ [41]) = .ok t := by
  obtain ⟨_, hd, _, ws, h1, h2⟩ := of_parse h
  rw [parse_of hl (lx_paren h1 b hb) (reads_down0 (reads_paren h2 [])), if_neg (by omega)]

/-- Two in parentheses with an operator between. -/
theorem parse_both {a b : Wd} {t u : F} (o : B) (ha : parse a = .ok t) (hb : parse b = .ok u) (hl : ([40] ++ a ++ [41] ++ bw o ++ [40] ++ b ++ [41]).length ≤ 4096) :
    parse ([40] ++ a ++ [41] ++ bw o ++ [40] ++ b ++ [41]) = if 100 < (F.b o t u).depth then .error (93, 0) else .ok (.b o t u) := by
  obtain ⟨_, _, _, ws, h1, h2⟩ := of_parse ha
  obtain ⟨_, _, _, vs, h3, h4⟩ := of_parse hb
  have k1 := lx_paren h1 [] rfl
  have k2 := lx_paren h3 [] rfl
  have k3 : Lx (bw o ++ ([40] ++ b ++ [] ++ [41])) (bw o :: ([40] :: vs ++ [[41]])) := by
    cases o
    case and => exact Lx.sign [38, 38] (by decide) k2
    case or => exact Lx.sign [124, 124] (by decide) k2
    case imp => exact Lx.sign [45, 62] (by decide) k2
    case iff => exact Lx.sign [60, 45, 62] (by decide) k2
    case til => exact Lx.word [85] (by decide) (by decide) (by decide) rfl k2
    case rel => exact Lx.word [86] (by decide) (by decide) (by decide) rfl k2
    case weak => exact Lx.word [87] (by decide) (by decide) (by decide) rfl k2
  have k4 : sep (bw o ++ ([40] ++ b ++ [] ++ [41])) = true ∨ ∃ q, [40] ++ a ++ [] ++ [41] = q ++ [41] := .inr ⟨[40] ++ a ++ [], rfl⟩
  -- behind a parenthesis any word may stand
  have k5 : Lx ([41] ++ (bw o ++ ([40] ++ b ++ [] ++ [41]))) ([41] :: bw o :: ([40] :: vs ++ [[41]])) := Lx.sign [41] (by decide) k3
  have k6 := h1.append (r := [41] ++ (bw o ++ ([40] ++ b ++ [] ++ [41]))) rfl k5
  have k7 := Lx.sign [40] (by decide) k6
  have k8 : Lx ([40] ++ a ++ [41] ++ bw o ++ [40] ++ b ++ [41]) ([40] :: (ws ++ [41] :: bw o :: ([40] :: vs ++ [[41]]))) := by
    have := k7
    simp only [canon, List.append_assoc, List.append_nil, List.nil_append, List.cons_append] at this ⊢
    exact this
  refine parse_of hl k8 ?_
  have r1 : Reads 5 ([40] :: ws ++ [41] :: bw o :: ([40] :: vs ++ [[41]])) t (bw o :: ([40] :: vs ++ [[41]])) := reads_paren h2 _
  have r2 : Reads 5 ([40] :: vs ++ [[41]]) u [] := reads_paren h4 []
  have hlo : lv o < 5 := by cases o <;> decide
  have d1 : ∀ n, lv o < n → n ≤ 5 → Reads n ([40] :: ws ++ [41] :: bw o :: ([40] :: vs ++ [[41]])) t (bw o :: ([40] :: vs ++ [[41]])) := by
    intro n hn h5
    obtain ⟨k, hk⟩ : ∃ k, 5 = n + k := ⟨5 - n, by omega⟩
    rw [hk] at r1
    exact r1.downs (by omega) (fun m hm _ => by rw [opAt_bw, if_neg (by omega)])
  have d2 : ∀ n, n ≤ 5 → Reads n ([40] :: vs ++ [[41]]) u [] := by
    intro n h5
    obtain ⟨k, hk⟩ : ∃ k, 5 = n + k := ⟨5 - n, by omega⟩
    rw [hk] at r2
    exact r2.downs (by omega) (fun m hm _ => rfl)
  have d3 : Reads (lv o) ([40] :: ws ++ [41] :: bw o :: ([40] :: vs ++ [[41]])) (.b o t u) [] := by
    by_cases hleft : left (lv o)
    · exact Reads.of_goes hleft (d1 _ (by omega) (by omega)) (Goes.next rfl (d2 _ (by omega)) (Goes.stop rfl))
    · exact Reads.bin hlo hleft rfl (d1 _ (by omega) (by omega)) (d2 _ (by omega))
  have := Reads.downs (n := 0) (k := lv o) (by omega) (by rw [Nat.zero_add]; exact d3) (fun _ _ _ => rfl)
  simpa using this

end Go.Proofs.YtidihaecgmbhpabDoor.Q
/-
  Normal forms of formulas, their sizes; a formula, its opposite. Plain laws; nothing of the program.
-/
namespace Go.Proofs.YtidihaecgmbhpabDoor.Q

/-- What a formula says (true), or its opposite, negations at names alone. -/
def col : Bool → F → F
  | true, .tt => .tt | false, .tt => .ff
  | true, .ff => .ff | false, .ff => .tt
  | true, .pr s => .pr s | false, .pr s => .u .not (.pr s)
  | x, .u .not a => col (!x) a
  | x, .u .next a => .u .next (col x a)
  | true, .u .always a => .b .rel .ff (col true a) | false, .u .always a => .b .til .tt (col false a)
  | true, .u .fin a => .b .til .tt (col true a) | false, .u .fin a => .b .rel .ff (col false a)
  | true, .b .and a c => .b .and (col true a) (col true c) | false, .b .and a c => .b .or (col false a) (col false c)
  | true, .b .or a c => .b .or (col true a) (col true c) | false, .b .or a c => .b .and (col false a) (col false c)
  | true, .b .imp a c => .b .or (col false a) (col true c) | false, .b .imp a c => .b .and (col true a) (col false c)
  | true, .b .iff a c => .b .or (.b .and (col true a) (col true c)) (.b .and (col false a) (col false c))
  | false, .b .iff a c => .b .or (.b .and (col true a) (col false c)) (.b .and (col false a) (col true c))
  | true, .b .til a c => .b .til (col true a) (col true c) | false, .b .til a c => .b .rel (col false a) (col false c)
  | true, .b .rel a c => .b .rel (col true a) (col true c) | false, .b .rel a c => .b .til (col false a) (col false c)
  | true, .b .weak a c => .b .rel (col true c) (.b .or (col true a) (col true c)) | false, .b .weak a c => .b .til (col false c) (.b .and (col false a) (col false c))

/-- How many parts that has. -/
def cnt : Bool → F → Nat
  | _, .tt => 1 | _, .ff => 1
  | true, .pr _ => 1 | false, .pr _ => 2
  | x, .u .not a => cnt (!x) a
  | x, .u .next a => cnt x a + 1
  | x, .u .always a => cnt x a + 2
  | x, .u .fin a => cnt x a + 2
  | x, .b .and a c => cnt x a + cnt x c + 1
  | x, .b .or a c => cnt x a + cnt x c + 1
  | x, .b .imp a c => cnt (!x) a + cnt x c + 1
  | _, .b .iff a c => cnt true a + cnt false a + cnt true c + cnt false c + 3
  | x, .b .til a c => cnt x a + cnt x c + 1
  | x, .b .rel a c => cnt x a + cnt x c + 1
  | x, .b .weak a c => cnt x a + 2 * cnt x c + 2

theorem size_col (t : F) : ∀ x, (col x t).size = cnt x t := by
  induction t with
  | tt => intro x; cases x <;> rfl
  | ff => intro x; cases x <;> rfl
  | pr s => intro x; cases x <;> rfl
  | u o a ih =>
    intro x
    cases o <;> cases x <;> simp only [col, cnt, F.size, ih, Bool.not_true, Bool.not_false] <;> omega
  | b o a c iha ihc =>
    intro x
    cases o <;> cases x <;> simp only [col, cnt, F.size, iha, ihc, Bool.not_true, Bool.not_false] <;> omega

/-- Is a formula plain? -/
def plainF : F → Bool
  | .tt => true | .ff => true | .pr _ => true
  | .u .not (.pr _) => true
  | .u .next a => plainF a
  | .b .and a c => plainF a && plainF c
  | .b .or a c => plainF a && plainF c
  | .b .til a c => plainF a && plainF c
  | .b .rel a c => plainF a && plainF c
  | _ => false

theorem plain_col (t : F) : ∀ x, plainF (col x t) = true := by
  induction t with
  | tt => intro x; cases x <;> rfl
  | ff => intro x; cases x <;> rfl
  | pr s => intro x; cases x <;> rfl
  | u o a ih =>
    intro x
    cases o <;> cases x <;> simp [col, plainF, ih]
  | b o a c iha ihc =>
    intro x
    cases o <;> cases x <;> simp [col, plainF, iha, ihc]

theorem col_plain (t : F) : plainF t = true → col true t = t := by
  induction t with
  | tt => exact fun _ => rfl
  | ff => exact fun _ => rfl
  | pr s => exact fun _ => rfl
  | u o a ih =>
    intro h
    cases o
    case not => cases a <;> first | rfl | cases h
    case next => simp only [col, ih (by simpa [plainF] using h)]
    all_goals cases h
  | b o a c iha ihc =>
    intro h
    cases o <;> first | (simp only [plainF, Bool.and_eq_true] at h; simp only [col, iha h.1, ihc h.2]) | cases h

def noIff : F → Bool
  | .tt => true | .ff => true | .pr _ => true
  | .u _ a => noIff a
  | .b .iff _ _ => false
  | .b _ a c => noIff a && noIff c

theorem col_col (t : F) : noIff t = true → ∀ x, col false (col x t) = col (!x) t := by
  induction t with
  | tt => intro _ x; cases x <;> rfl
  | ff => intro _ x; cases x <;> rfl
  | pr s => intro _ x; cases x <;> rfl
  | u o a ih =>
    intro h x
    have ih' := ih (by simpa [noIff] using h)
    cases o <;> cases x <;> simp [col, ih']
  | b o a c iha ihc =>
    intro h x
    cases o
    case iff => cases h
    all_goals
      simp only [noIff, Bool.and_eq_true] at h
      have ha := iha h.1
      have hc := ihc h.2
      cases x <;> simp [col, ha, hc]

theorem ok_col (t : F) : t.ok = true → ∀ x, (col x t).ok = true := by
  induction t with
  | tt => intro _ x; cases x <;> rfl
  | ff => intro _ x; cases x <;> rfl
  | pr s => intro h x; cases x <;> exact h
  | u o a ih =>
    intro h x
    have ih' := ih (by simpa [F.ok] using h)
    cases o <;> cases x <;> simp [col, F.ok, ih']
  | b o a c iha ihc =>
    intro h x
    simp only [F.ok, Bool.and_eq_true] at h
    have ha := iha h.1
    have hc := ihc h.2
    cases o <;> cases x <;> simp [col, F.ok, ha, hc]

end Go.Proofs.YtidihaecgmbhpabDoor.Q
/-
  Trees of kinds, names and kids, of which some are formulas. Plain functions and laws; nothing of the program.
-/
namespace Go.Proofs.YtidihaecgmbhpabDoor.Q

/-- A tree, whatever it holds. -/
inductive T where
  | mk (k : Int) (nm : Wd) (l : List T)

namespace T
def kind : T → Int | .mk k _ _ => k
def name : T → Wd | .mk _ n _ => n
def kids : T → List T | .mk _ _ l => l

theorem ind {P : T → Prop} (h : ∀ k n l, (∀ t ∈ l, P t) → P (.mk k n l)) : ∀ t, P t := by
  intro t
  refine T.rec (motive_1 := P) (motive_2 := fun l => ∀ t ∈ l, P t) ?_ ?_ ?_ t
  · exact fun k n l hl => h k n l hl
  · exact fun t ht => absurd ht List.not_mem_nil
  · intro a l ha hl t ht
    rcases List.mem_cons.1 ht with rfl | ht
    · exact ha
    · exact hl t ht

mutual
def size : T → Nat | .mk _ _ l => 1 + sizes l
def sizes : List T → Nat | [] => 0 | t :: r => size t + sizes r
end
mutual
def depth : T → Nat | .mk _ _ l => depths l + 1
def depths : List T → Nat | [] => 0 | t :: r => max (depth t) (depths r)
end
mutual
def hasNext : T → Bool | .mk k _ l => decide (k = 5) || hasNexts l
def hasNexts : List T → Bool | [] => false | t :: r => hasNext t || hasNexts r
end
mutual
def hasKind (q : Int) : T → Bool | .mk k _ l => decide (k = q) || hasKinds q l
def hasKinds (q : Int) : List T → Bool | [] => false | t :: r => hasKind q t || hasKinds q r
end
mutual
def names : T → List Wd | .mk k n l => (if k = 3 then [n] else []) ++ namess l
def namess : List T → List Wd | [] => [] | t :: r => names t ++ namess r
end
mutual
def same : T → T → Bool | .mk k n l, .mk k' n' l' => decide (k = k') && decide (n = n') && sames l l'
def sames : List T → List T → Bool | [], [] => true | t :: r, t' :: r' => same t t' && sames r r' | [], _ :: _ => false | _ :: _, [] => false
end

/-- How many kids a kind has; below 0: there is no such kind. -/
def kidsN (k : Int) : Int := if 1 ≤ k ∧ k ≤ 3 then 0 else if 4 ≤ k ∧ k ≤ 7 then 1 else if 8 ≤ k ∧ k ≤ 14 then 2 else -1

mutual
def may : T → Bool | .mk k n l => decide (kidsN k = (l.length : Int)) && (if k = 3 then isName n else decide (n = [])) && mays l
def mays : List T → Bool | [] => true | t :: r => may t && mays r
end
end T

def U.kind : U → Int | .not => 4 | .next => 5 | .always => 6 | .fin => 7
def B.kind : B → Int | .and => 8 | .or => 9 | .imp => 10 | .iff => 11 | .til => 12 | .rel => 13 | .weak => 14

/-- A formula as a tree. -/
def F.t : F → T
  | .tt => .mk 1 [] [] | .ff => .mk 2 [] [] | .pr s => .mk 3 s []
  | .u o a => .mk o.kind [] [a.t]
  | .b o a c => .mk o.kind [] [a.t, c.t]

theorem F.may_t (f : F) : f.ok = true → f.t.may = true := by
  induction f with
  | tt => exact fun _ => rfl
  | ff => exact fun _ => rfl
  | pr s => intro h; simpa [F.t, T.may, T.mays, T.kidsN, F.ok] using h
  | u o a ih => intro h; have := ih h; cases o <;> simp [F.t, T.may, T.mays, T.kidsN, U.kind, this]
  | b o a c iha ihc =>
    intro h
    simp only [F.ok, Bool.and_eq_true] at h
    have ha := iha h.1
    have hc := ihc h.2
    cases o <;> simp [F.t, T.may, T.mays, T.kidsN, B.kind, ha, hc]

theorem T.may_f : ∀ t : T, t.may = true → ∃ f : F, f.ok = true ∧ f.t = t := by
  refine T.ind fun k n l ih h => ?_
  simp only [T.may, Bool.and_eq_true, decide_eq_true_eq] at h
  obtain ⟨⟨h1, h2⟩, h3⟩ := h
  have hk : ∀ (r : List T), T.mays r = true → (∀ t ∈ r, t.may = true) := by
    intro r
    induction r with
    | nil => exact fun _ t ht => absurd ht List.not_mem_nil
    | cons a r ih =>
      intro h t ht
      simp only [T.mays, Bool.and_eq_true] at h
      rcases List.mem_cons.1 ht with rfl | ht
      · exact h.1
      · exact ih h.2 t ht
  have hk := hk l h3
  have h14 : 1 ≤ k ∧ k ≤ 14 := by unfold T.kidsN at h1; split at h1; omega; split at h1; omega; split at h1; omega; omega
  have hcases : k = 1 ∨ k = 2 ∨ k = 3 ∨ k = 4 ∨ k = 5 ∨ k = 6 ∨ k = 7 ∨ k = 8 ∨ k = 9 ∨ k = 10 ∨ k = 11 ∨ k = 12 ∨ k = 13 ∨ k = 14 := by omega
  have un : ∀ o : U, k = o.kind → ∃ f : F, f.ok = true ∧ f.t = T.mk k n l := by
    intro o hk'
    have hn : n = [] := by have : k ≠ 3 := by subst hk'; cases o <;> decide
                           rw [if_neg this] at h2; simpa using h2
    have hl : (1 : Int) = l.length := by rw [← h1, hk']; cases o <;> decide
    match l, hl, ih, hk with
    | [a], _, ih, hk =>
      obtain ⟨f, hf, rfl⟩ := ih a (by simp) (hk a (by simp))
      exact ⟨.u o f, hf, by rw [hk', hn]; rfl⟩
    | [], hl, _, _ => simp at hl
    | _ :: _ :: _, hl, _, _ => simp at hl; omega
  have bi : ∀ o : B, k = o.kind → ∃ f : F, f.ok = true ∧ f.t = T.mk k n l := by
    intro o hk'
    have hn : n = [] := by have : k ≠ 3 := by subst hk'; cases o <;> decide
                           rw [if_neg this] at h2; simpa using h2
    have hl : (2 : Int) = l.length := by rw [← h1, hk']; cases o <;> decide
    match l, hl, ih, hk with
    | [a, c], _, ih, hk =>
      obtain ⟨f, hf, rfl⟩ := ih a (by simp) (hk a (by simp))
      obtain ⟨g, hg, rfl⟩ := ih c (by simp) (hk c (by simp))
      exact ⟨.b o f g, by simp [F.ok, hf, hg], by rw [hk', hn]; rfl⟩
    | [], hl, _, _ => simp at hl
    | [_], hl, _, _ => simp at hl
    | _ :: _ :: _ :: _, hl, _, _ => simp at hl; omega
  have leaf : k ≤ 3 → l = [] := by
    intro h
    have : T.kidsN k = 0 := by unfold T.kidsN; rw [if_pos (by omega)]
    rw [this] at h1
    exact List.eq_nil_of_length_eq_zero (by omega)
  rcases hcases with rfl | rfl | rfl | rfl | rfl | rfl | rfl | rfl | rfl | rfl | rfl | rfl | rfl | rfl
  · rw [leaf (by omega)]; exact ⟨.tt, rfl, by have : n = [] := by simpa using h2
                                              rw [this]; rfl⟩
  · rw [leaf (by omega)]; exact ⟨.ff, rfl, by have : n = [] := by simpa using h2
                                              rw [this]; rfl⟩
  · rw [leaf (by omega)]; exact ⟨.pr n, by simpa [F.ok] using h2, rfl⟩
  · exact un .not rfl
  · exact un .next rfl
  · exact un .always rfl
  · exact un .fin rfl
  · exact bi .and rfl
  · exact bi .or rfl
  · exact bi .imp rfl
  · exact bi .iff rfl
  · exact bi .til rfl
  · exact bi .rel rfl
  · exact bi .weak rfl

theorem F.depth_t (f : F) : f.t.depth = f.depth := by
  induction f with
  | tt => rfl
  | ff => rfl
  | pr s => rfl
  | u o a ih => simp [F.t, T.depth, T.depths, F.depth, ih]
  | b o a c iha ihc => simp [F.t, T.depth, T.depths, F.depth, iha, ihc]
theorem F.size_t (f : F) : f.t.size = f.size := by
  induction f with
  | tt => rfl
  | ff => rfl
  | pr s => rfl
  | u o a ih => simp [F.t, T.size, T.sizes, F.size, ih]; omega
  | b o a c iha ihc => simp [F.t, T.size, T.sizes, F.size, iha, ihc]; omega

theorem T.depth_le_size : ∀ t : T, t.depth ≤ t.size := by
  refine T.ind fun k n l ih => ?_
  have : ∀ r : List T, (∀ t ∈ r, t.depth ≤ t.size) → T.depths r ≤ T.sizes r := by
    intro r
    induction r with
    | nil => exact fun _ => Nat.le_refl _
    | cons a r ih =>
      intro h
      have h1 := h a (by simp)
      have h2 := ih (fun t ht => h t (by simp [ht]))
      simp only [T.depths, T.sizes]
      omega
  have := this l ih
  simp only [T.depth, T.size]
  omega

theorem T.same_refl : ∀ t : T, t.same t = true := by
  refine T.ind fun k n l ih => ?_
  have : ∀ r : List T, (∀ t ∈ r, t.same t = true) → T.sames r r = true := by
    intro r
    induction r with
    | nil => exact fun _ => rfl
    | cons a r ih => intro h; simp [T.sames, h a (by simp), ih (fun t ht => h t (by simp [ht]))]
  simp [T.same, this l ih]

theorem T.same_eq : ∀ t u : T, t.same u = true → t = u := by
  refine T.ind fun k n l ih u h => ?_
  cases u with
  | mk k' n' l' =>
    simp only [T.same, Bool.and_eq_true, decide_eq_true_eq] at h
    obtain ⟨⟨rfl, rfl⟩, h⟩ := h
    congr 1
    have : ∀ r s : List T, (∀ t ∈ r, ∀ u, t.same u = true → t = u) → T.sames r s = true → r = s := by
      intro r
      induction r with
      | nil => intro s _ h; cases s with
        | nil => rfl
        | cons => simp [T.sames] at h
      | cons a r ih =>
        intro s h1 h2
        cases s with
        | nil => simp [T.sames] at h2
        | cons b s =>
          simp only [T.sames, Bool.and_eq_true] at h2
          rw [h1 a (by simp) b h2.1, ih s (fun t ht => h1 t (by simp [ht])) h2.2]
    exact this l l' ih h

theorem T.same_iff (t u : T) : t.same u = true ↔ t = u := ⟨T.same_eq t u, fun h => h ▸ T.same_refl t⟩
theorem T.same_symm (t u : T) : t.same u = u.same t := by
  rw [Bool.eq_iff_iff, T.same_iff, T.same_iff]
  exact ⟨Eq.symm, Eq.symm⟩

theorem F.t_inj (f g : F) : f.t = g.t → f = g := by
  induction f generalizing g with
  | tt => intro h; cases g with
    | tt => rfl
    | u o a => cases o <;> simp [F.t, U.kind] at h
    | b o a c => cases o <;> simp [F.t, B.kind] at h
    | _ => simp [F.t] at h
  | ff => intro h; cases g with
    | ff => rfl
    | u o a => cases o <;> simp [F.t, U.kind] at h
    | b o a c => cases o <;> simp [F.t, B.kind] at h
    | _ => simp [F.t] at h
  | pr s => intro h; cases g with
    | pr s' => simp [F.t] at h; rw [h]
    | u o a => cases o <;> simp [F.t, U.kind] at h
    | b o a c => cases o <;> simp [F.t, B.kind] at h
    | _ => simp [F.t] at h
  | u o a ih => intro h; cases g with
    | u o' a' =>
      simp only [F.t, T.mk.injEq, List.cons.injEq, and_true, true_and] at h
      have : o = o' := by revert h; cases o <;> cases o' <;> simp [U.kind]
      rw [this, ih a' h.2]
    | b o' a' c' => simp [F.t] at h
    | _ => cases o <;> simp [F.t, U.kind] at h
  | b o a c iha ihc => intro h; cases g with
    | b o' a' c' =>
      simp only [F.t, T.mk.injEq, List.cons.injEq, and_true, true_and] at h
      have : o = o' := by revert h; cases o <;> cases o' <;> simp [B.kind]
      rw [this, iha a' h.2.1, ihc c' h.2.2]
    | u o' a' => simp [F.t] at h
    | _ => cases o <;> simp [F.t, B.kind] at h

theorem F.hasIff_t (f : F) : f.t.hasKind 11 = !noIff f := by
  induction f with
  | tt => rfl
  | ff => rfl
  | pr s => rfl
  | u o a ih => cases o <;> simp [F.t, T.hasKind, T.hasKinds, noIff, U.kind, ih]
  | b o a c iha ihc => cases o <;> simp [F.t, T.hasKind, T.hasKinds, noIff, B.kind, iha, ihc]

end Go.Proofs.YtidihaecgmbhpabDoor.Q
/-
  How many words a text has, how long they are; where a formula fails. Plain laws.
-/
namespace Go.Proofs.YtidihaecgmbhpabDoor.Q

theorem canon_len (w : Wd) : (canon w).length ≤ w.length + 2 := by
  unfold canon
  repeat' split
  all_goals (first | (subst w; decide) | (rename_i h; subst h; decide) | omega)

theorem tks_len : ∀ (f p : Nat) (s : Wd) (l : List (Wd × Nat)), tks f p s = .ok l → l.length ≤ s.length ∧ (∀ x ∈ l, x.1.length ≤ s.length + 2 ∧ x.2 ≤ p + s.length)
  | 0, _, _, l, h => by simp [tks] at h; subst h; simp
  | _ + 1, _, [], l, h => by simp [tks] at h; subst h; simp
  | f + 1, p, c :: r, l, h => by
    rw [tks] at h
    split at h
    · have ⟨h1, h2⟩ := tks_len f _ r l h
      refine ⟨by simp; omega, fun x hx => ?_⟩
      have := h2 x hx
      simp only [List.length_cons]
      omega
    · split at h
      · cases h
      · rename_i w hw
        split at h
        · rename_i l' hl'
          cases h
          have hp := one_pre hw
          have hle := hp.1.length_le
          have ⟨h1, h2⟩ := tks_len f _ _ l' hl'
          rw [List.length_drop] at h1 h2
          simp only [List.length_cons] at hle h1 h2 ⊢
          refine ⟨by omega, fun x hx => ?_⟩
          rcases List.mem_cons.1 hx with rfl | hx
          · have := canon_len w
            exact ⟨by simp only; omega, by simp only; omega⟩
          · have := h2 x hx
            omega
        · cases h

theorem tokens_len {s : Wd} {l : List (Wd × Nat)} (h : tokens s = .ok l) : l.length ≤ s.length ∧ ∀ x ∈ l, x.1.length ≤ s.length + 2 ∧ x.2 ≤ s.length := by
  have ⟨h1, h2⟩ := tks_len _ _ _ _ h
  exact ⟨h1, fun x hx => by have := h2 x hx; omega⟩

/-- Where it fails words are left, at most as many as there were. -/
theorem err_le : ∀ f : Nat, (∀ n ws q, fm f n ws = some (.error q) → q ≤ ws.length) ∧ (∀ n t ws q, lp f n t ws = some (.error q) → q ≤ ws.length) ∧ (∀ ws q, pf f ws = some (.error q) → q ≤ ws.length)
  | 0 => ⟨fun _ _ _ h => by simp [fm] at h, fun _ _ _ _ h => by simp [lp] at h, fun _ _ h => by simp [pf] at h⟩
  | f + 1 => by
    obtain ⟨h1, h2, h3⟩ := err_le f
    obtain ⟨l1, l2, l3⟩ := less f
    have hop : ∀ n r o r', opAt n r = some (o, r') → r'.length < r.length := fun n r o r' h => by
      cases r with
      | nil => cases h
      | cons w r =>
        simp only [opAt] at h
        split at h
        · split at h
          · cases h; simp
          · cases h
        · cases h
    refine ⟨fun n ws q h => ?_, fun n t ws q h => ?_, fun ws q h => ?_⟩
    · rw [fm] at h
      split at h
      · exact h3 _ _ h
      · rcases bind1_ok h with ⟨e, h4, h5⟩ | ⟨t', r', h4, h5⟩
        · cases h5; exact h1 _ _ _ h4
        · have := l1 _ _ _ _ h4
          split at h5
          · have := h2 _ _ _ _ h5; omega
          · split at h5
            · rename_i o r'' ho
              have := hop _ _ _ _ ho
              rcases bind1_ok h5 with ⟨e, h6, h7⟩ | ⟨u, r3, h6, h7⟩
              · cases h7; have := h1 _ _ _ h6; omega
              · cases h7
            · cases h5
    · rw [lp] at h
      split at h
      · rename_i o r' ho
        have := hop _ _ _ _ ho
        rcases bind1_ok h with ⟨e, h6, h7⟩ | ⟨u', r'', h6, h7⟩
        · cases h7; have := h1 _ _ _ h6; omega
        · have := l1 _ _ _ _ h6
          have := h2 _ _ _ _ h7
          omega
      · cases h
    · cases ws with
      | nil => rw [pf] at h; cases h; simp
      | cons w r0 =>
        rw [pf] at h
        simp only [List.length_cons]
        split at h
        · cases h
        · cases h
        · cases h
        · rcases bind1_ok h with ⟨e, h6, h7⟩ | ⟨u, r'', h6, h7⟩
          · cases h7; have := h3 _ _ h6; omega
          · cases h7
        · rcases bind1_ok h with ⟨e, h6, h7⟩ | ⟨u, r', h6, h7⟩
          · cases h7; have := h1 _ _ _ h6; omega
          · have := l1 _ _ _ _ h6
            cases r' with
            | nil => cases h7; omega
            | cons y r'' =>
              simp only at h7
              split at h7
              · cases h7
              · cases h7; simp at this ⊢; omega
        · cases h; omega

/-- A formula is no greater than its words. -/
theorem size_le : ∀ f : Nat, (∀ n ws t r, fm f n ws = some (.ok (t, r)) → t.size + r.length ≤ ws.length) ∧ (∀ n t ws u r, lp f n t ws = some (.ok (u, r)) → u.size + r.length ≤ t.size + ws.length) ∧ (∀ ws t r, pf f ws = some (.ok (t, r)) → t.size + r.length ≤ ws.length)
  | 0 => ⟨fun _ _ _ _ h => by simp [fm] at h, fun _ _ _ _ _ h => by simp [lp] at h, fun _ _ _ h => by simp [pf] at h⟩
  | f + 1 => by
    obtain ⟨h1, h2, h3⟩ := size_le f
    have hop : ∀ n r o r', opAt n r = some (o, r') → r'.length + 1 = r.length := fun n r o r' h => by
      cases r with
      | nil => cases h
      | cons w r =>
        simp only [opAt] at h
        split at h
        · split at h
          · cases h; simp
          · cases h
        · cases h
    refine ⟨fun n ws t r h => ?_, fun n t ws u r h => ?_, fun ws t r h => ?_⟩
    · rw [fm] at h
      split at h
      · exact h3 _ _ _ h
      · rcases bind1_ok h with ⟨e, h4, h5⟩ | ⟨t', r', h4, h5⟩
        · cases h5
        · have := h1 _ _ _ _ h4
          split at h5
          · have := h2 _ _ _ _ _ h5; omega
          · split at h5
            · rename_i o r'' ho
              have := hop _ _ _ _ ho
              rcases bind1_ok h5 with ⟨e, h6, h7⟩ | ⟨u, r3, h6, h7⟩
              · cases h7
              · have := h1 _ _ _ _ h6
                cases h7; simp only [F.size]; omega
            · cases h5; omega
    · rw [lp] at h
      split at h
      · rename_i o r' ho
        have := hop _ _ _ _ ho
        rcases bind1_ok h with ⟨e, h6, h7⟩ | ⟨u', r'', h6, h7⟩
        · cases h7
        · have := h1 _ _ _ _ h6
          have := h2 _ _ _ _ _ h7
          simp only [F.size] at this
          omega
      · cases h; omega
    · cases ws with
      | nil => rw [pf] at h; cases h
      | cons w r0 =>
        rw [pf] at h
        simp only [List.length_cons]
        split at h
        · cases h; simp only [F.size]; omega
        · cases h; simp only [F.size]; omega
        · cases h; simp only [F.size]; omega
        · rcases bind1_ok h with ⟨e, h6, h7⟩ | ⟨u, r'', h6, h7⟩
          · cases h7
          · have := h3 _ _ _ h6; cases h7; simp only [F.size]; omega
        · rcases bind1_ok h with ⟨e, h6, h7⟩ | ⟨u, r', h6, h7⟩
          · cases h7
          · have := h1 _ _ _ _ h6
            cases r' with
            | nil => cases h7
            | cons y r'' =>
              simp only at h7
              split at h7
              · cases h7; simp at this; omega
              · cases h7
        · cases h

end Go.Proofs.YtidihaecgmbhpabDoor.Q
