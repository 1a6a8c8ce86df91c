/-
  QS.
-/
import Derived.Test.YtidihaecgmbhpabDoorM1
/-
  Signs ahead of a name, parentheses around it; other spellings. Plain laws; nothing of the program.
-/
namespace Go.Proofs.YtidihaecgmbhpabDoor.Q

/-- A sign ahead, as LtlDepths has them. -/
def sg : U → Wd
  | .not => [33] | .next => [88, 32] | .always => [91, 93] | .fin => [60, 62]

theorem Lx.sg (o : U) {r : Wd} {ws : List Wd} (h : Lx r ws) : Lx (sg o ++ r) (uw o :: ws) := by
  cases o
  case not => exact Lx.sign [33] (by decide) h
  case next => exact Lx.word [88] (by decide) (by decide) (by decide) (r := [32] ++ r) rfl (.bl _ _ _ (by decide) h)
  case always => exact Lx.sign [91, 93] (by decide) h
  case fin => exact Lx.sign [60, 62] (by decide) h

def signsT (us : List U) : Wd := us.flatMap sg
def parens (k : Nat) (s : Wd) : Wd := List.replicate k 40 ++ s ++ List.replicate k 41
def uns (us : List U) (t : F) : F := us.foldr F.u t

theorem uns_depth (us : List U) (t : F) : (uns us t).depth = us.length + t.depth := by
  induction us with
  | nil => simp [uns]
  | cons o us ih => simp only [uns, List.foldr_cons, F.depth, List.length_cons] at ih ⊢; omega

theorem reads_uns (us : List U) {ws : List Wd} {t : F} {r : List Wd} (h : Reads 5 ws t r) : Reads 5 (us.map uw ++ ws) (uns us t) r := by
  induction us with
  | nil => exact h
  | cons o us ih => exact ih.un o

theorem lx_signs (us : List U) {r : Wd} {ws : List Wd} (h : Lx r ws) : Lx (signsT us ++ r) (us.map uw ++ ws) := by
  induction us with
  | nil => exact h
  | cons o us ih =>
    have := Lx.sg o ih
    simpa [signsT] using this

theorem lx_parens (k : Nat) : Lx (parens k [112]) (List.replicate k [40] ++ [[112]] ++ List.replicate k [41]) := by
  have h1 : ∀ k, Lx (List.replicate k 41) (List.replicate k [41]) := by
    intro k
    induction k with
    | zero => exact .nil
    | succ k ih => rw [List.replicate_succ, List.replicate_succ]; exact Lx.sign [41] (by decide) ih
  have h2 : Lx ([112] ++ List.replicate k 41) ([112] :: List.replicate k [41]) := Lx.name (by decide) (by cases k <;> rfl) (h1 k)
  have h3 : ∀ j, Lx (List.replicate j 40 ++ ([112] ++ List.replicate k 41)) (List.replicate j [40] ++ ([112] :: List.replicate k [41])) := by
    intro j
    induction j with
    | zero => exact h2
    | succ j ih => rw [List.replicate_succ, List.replicate_succ]; exact Lx.sign [40] (by decide) ih
  have := h3 k
  simpa [parens] using this

theorem reads_parens (k : Nat) : ∀ r, (∀ n, opAt n r = none) → Reads 5 (List.replicate k [40] ++ [[112]] ++ List.replicate k [41] ++ r) (.pr [112]) r := by
  induction k with
  | zero => exact fun r _ => ⟨2, rfl⟩
  | succ k ih =>
    intro r _
    have h := ih ([41] :: r) (fun _ => rfl)
    have h0 := Reads.downs (n := 0) (k := 5) (by omega) h (fun _ _ _ => rfl)
    have h1 := h0.paren
    have e : ([40] :: (List.replicate k [40] ++ [[112]] ++ List.replicate k [41] ++ [41] :: r)) = List.replicate (k + 1) [40] ++ [[112]] ++ List.replicate (k + 1) [41] ++ r := by
      rw [List.replicate_succ, List.replicate_succ']
      simp
    rwa [e] at h1

/-- Signs ahead of a name in parentheses. -/
theorem parse_signs (us : List U) (k : Nat) (hl : (signsT us ++ parens k [112]).length ≤ 4096) : parse (signsT us ++ parens k [112]) = if 100 ≤ us.length then .error (93, 0) else .ok (uns us (.pr [112])) := by
  have h1 := lx_signs us (lx_parens k)
  have h2 := reads_parens k [] (fun _ => rfl)
  rw [List.append_nil] at h2
  have h3 := reads_down0 (reads_uns us h2)
  have hd : (uns us (.pr [112])).depth = us.length + 1 := uns_depth us _
  rw [parse_of hl h1 h3]
  by_cases h : 100 ≤ us.length
  · rw [if_pos h, if_pos (by omega)]
  · rw [if_neg h, if_neg (by omega)]

/-- Another spelling of two bytes. -/
def two (p : Nat → Bool) (n : Nat) (a b : UInt8) : Option Wd :=
  if a = 91 ∧ b = 93 then some (if p n then [32, 97, 108, 119, 97, 121, 115, 32] else [91, 93]) else if a = 60 ∧ b = 62 then some (if p n then [32, 101, 118, 101, 110, 116, 117, 97, 108, 108, 121, 32] else [60, 62])
  else if a = 38 ∧ b = 38 then some (if p n then [47, 92] else [38, 38]) else if a = 124 ∧ b = 124 then some (if p n then [92, 47] else [124, 124]) else none

/-- A blank may be more of them. -/
def blk (q : Nat → Bool) (n : Nat) (a : UInt8) : Wd := if a = 32 ∧ q n = true then [9, 32, 10] else [a]

/-- A text spelled otherwise. -/
def spell (p q : Nat → Bool) : Nat → Wd → Wd
  | _, [] => []
  | n, [a] => blk q n a
  | n, a :: b :: r => match two p n a b with
    | some w => w ++ spell p q (n + 1) r
    | none => blk q n a ++ spell p q n (b :: r)

def plainB (a : UInt8) : Bool := !(a == 91 || a == 60 || a == 38 || a == 124)

theorem two_plain {p : Nat → Bool} {n : Nat} {a b : UInt8} (h : plainB a = true) : two p n a b = none := by
  simp only [plainB, Bool.not_eq_true', Bool.or_eq_false_iff, beq_eq_false_iff_ne] at h
  unfold two
  rw [if_neg (fun e => h.1.1.1 e.1), if_neg (fun e => h.1.1.2 e.1), if_neg (fun e => h.1.2 e.1), if_neg (fun e => h.2 e.1)]

theorem spell_one (p q : Nat → Bool) (n : Nat) {a : UInt8} (h : plainB a = true) (r : Wd) : spell p q n (a :: r) = blk q n a ++ spell p q n r := by
  cases r with
  | nil => simp [spell]
  | cons b r => rw [spell, two_plain h]

theorem spell_all (p q : Nat → Bool) (n : Nat) : ∀ (s r : Wd), s.all (fun c => plainB c && !(c == 32)) = true → spell p q n (s ++ r) = s ++ spell p q n r
  | [], _, _ => rfl
  | c :: s, r, h => by
    simp only [List.all_cons, Bool.and_eq_true, Bool.not_eq_true', beq_eq_false_iff_ne] at h
    rw [List.cons_append, spell_one p q n h.1.1, spell_all p q n s r (by simpa using h.2)]
    unfold blk
    rw [if_neg (fun e => h.1.2 e.1)]
    rfl

/-- What a piece of text becomes: it still has its words. -/
def Spells (p q : Nat → Bool) (s : Wd) (vs : List Wd) : Prop := ∀ n, ∃ s' n', (∀ r, spell p q n (s ++ r) = s' ++ spell p q n' r) ∧ ∀ r' ws, sep r' = true → Lx r' ws → Lx (s' ++ r') (vs ++ ws)

theorem lx_blk (q : Nat → Bool) (n : Nat) {r : Wd} {ws : List Wd} (h : Lx r ws) : Lx (blk q n 32 ++ r) ws := by
  unfold blk
  split
  · exact .bl _ _ _ (by decide) (.bl _ _ _ (by decide) (.bl _ _ _ (by decide) h))
  · exact .bl _ _ _ (by decide) h
theorem sep_blk (q : Nat → Bool) (n : Nat) (r : Wd) : sep (blk q n 32 ++ r) = true := by
  unfold blk
  split <;> rfl

theorem blk_ne (q : Nat → Bool) (n : Nat) {a : UInt8} (h : a ≠ 32) : blk q n a = [a] := if_neg (fun e => h e.1)

theorem spell_two (p q : Nat → Bool) (n : Nat) {a b : UInt8} {w : Wd} (h : two p n a b = some w) (r : Wd) : spell p q n (a :: b :: r) = w ++ spell p q (n + 1) r := by rw [spell, h]
theorem spell_no (p q : Nat → Bool) (n : Nat) {a b : UInt8} (h : two p n a b = none) (r : Wd) : spell p q n (a :: b :: r) = blk q n a ++ spell p q n (b :: r) := by rw [spell, h]

/-- A sign ahead of a kid. -/
theorem spells_pre (p q : Nat → Bool) (o : U) (n : Nat) : ∃ s' n', (∀ r, spell p q n (up o ++ r) = s' ++ spell p q n' r) ∧ ∀ r' ws, Lx r' ws → Lx (s' ++ r') (uw o :: ws) := by
  cases o
  case not => exact ⟨[33], n, fun r => by rw [show up .not ++ r = 33 :: r from rfl, spell_one p q n (by decide), blk_ne q n (by decide)], fun r' ws h => Lx.sign [33] (by decide) h⟩
  case next =>
    refine ⟨[88] ++ blk q n 32, n, fun r => ?_, fun r' ws h => ?_⟩
    · rw [show up .next ++ r = 88 :: 32 :: r from rfl, spell_one p q n (by decide), blk_ne q n (by decide), spell_one p q n (by decide), List.append_assoc]
    · rw [List.append_assoc]
      exact Lx.word [88] (by decide) (by decide) (by decide) (sep_blk q n r') (lx_blk q n h)
  case always =>
    refine ⟨(if p n then [32, 97, 108, 119, 97, 121, 115, 32] else [91, 93]) ++ blk q (n + 1) 32, n + 1, fun r => ?_, fun r' ws h => ?_⟩
    · rw [show up .always ++ r = 91 :: 93 :: 32 :: r from rfl, spell_two p q n (w := if p n then [32, 97, 108, 119, 97, 121, 115, 32] else [91, 93]) rfl, spell_one p q _ (by decide), List.append_assoc]
    · rw [List.append_assoc]
      have h' := lx_blk q (n + 1) h
      split
      · exact .bl _ _ _ (by decide) (Lx.word [97, 108, 119, 97, 121, 115] (by decide) (by decide) (by decide) (r := [32] ++ (blk q (n + 1) 32 ++ r')) rfl (.bl _ _ _ (by decide) h'))
      · exact Lx.sign [91, 93] (by decide) h'
  case fin =>
    refine ⟨(if p n then [32, 101, 118, 101, 110, 116, 117, 97, 108, 108, 121, 32] else [60, 62]) ++ blk q (n + 1) 32, n + 1, fun r => ?_, fun r' ws h => ?_⟩
    · rw [show up .fin ++ r = 60 :: 62 :: 32 :: r from rfl, spell_two p q n (w := if p n then [32, 101, 118, 101, 110, 116, 117, 97, 108, 108, 121, 32] else [60, 62]) rfl, spell_one p q _ (by decide), List.append_assoc]
    · rw [List.append_assoc]
      have h' := lx_blk q (n + 1) h
      split
      · exact .bl _ _ _ (by decide) (Lx.word [101, 118, 101, 110, 116, 117, 97, 108, 108, 121] (by decide) (by decide) (by decide) (r := [32] ++ (blk q (n + 1) 32 ++ r')) rfl (.bl _ _ _ (by decide) h'))
      · exact Lx.sign [60, 62] (by decide) h'

/-- An operator between two kids, and its blanks. -/
theorem spells_op (p q : Nat → Bool) (o : B) (n : Nat) : ∃ s' n', (∀ r, spell p q n ([32] ++ bw o ++ [32] ++ r) = s' ++ spell p q n' r) ∧ (∀ r', sep (s' ++ r') = true) ∧ ∀ r' ws, Lx r' ws → Lx (s' ++ r') (bw o :: ws) := by
  have word : ∀ c : UInt8, bw o = [c] → plainB c = true → c ≠ 32 → isLet c = true → isLD c = true → canon [c] = [c] → ∃ s' n', (∀ r, spell p q n ([32] ++ bw o ++ [32] ++ r) = s' ++ spell p q n' r) ∧ (∀ r', sep (s' ++ r') = true) ∧ ∀ r' ws, Lx r' ws → Lx (s' ++ r') (bw o :: ws) := by
    intro c hb h1 h2 h3 h4 h5
    refine ⟨blk q n 32 ++ ([c] ++ blk q n 32), n, fun r => ?_, fun r' => ?_, fun r' ws h => ?_⟩
    · rw [hb, show [32] ++ [c] ++ [32] ++ r = 32 :: c :: 32 :: r from rfl, spell_one p q n (by decide), spell_one p q n h1, blk_ne q n h2, spell_one p q n (by decide)]
      simp only [List.append_assoc]
    · rw [List.append_assoc]; exact sep_blk q n _
    · rw [hb, List.append_assoc, List.append_assoc]
      have := Lx.word [c] (by simp) (by simpa [letFirst] using h3) (by simpa using h4) (sep_blk q n r') (lx_blk q n h)
      rw [h5] at this
      exact lx_blk q n this
  have sign : ∀ (a b : UInt8) (x y : Wd), bw o = [a, b] → two p n a b = some (if p n then x else y) → x ∈ signs → y ∈ signs → canon x = [a, b] → canon y = [a, b] →
      ∃ s' n', (∀ r, spell p q n ([32] ++ bw o ++ [32] ++ r) = s' ++ spell p q n' r) ∧ (∀ r', sep (s' ++ r') = true) ∧ ∀ r' ws, Lx r' ws → Lx (s' ++ r') (bw o :: ws) := by
    intro a b x y hb h1 hx hy cx cy
    refine ⟨blk q n 32 ++ ((if p n then x else y) ++ blk q (n + 1) 32), n + 1, fun r => ?_, fun r' => ?_, fun r' ws h => ?_⟩
    · rw [hb, show [32] ++ [a, b] ++ [32] ++ r = 32 :: a :: b :: 32 :: r from rfl, spell_one p q n (by decide), spell_two p q n h1, spell_one p q _ (by decide)]
      simp only [List.append_assoc]
    · rw [List.append_assoc]; exact sep_blk q n _
    · rw [hb, List.append_assoc, List.append_assoc]
      refine lx_blk q n ?_
      have h' := lx_blk q (n + 1) h
      split
      · have := Lx.sign x hx h'; rwa [cx] at this
      · have := Lx.sign y hy h'; rwa [cy] at this
  cases o
  case and => exact sign 38 38 [47, 92] [38, 38] rfl rfl (by decide) (by decide) rfl rfl
  case or => exact sign 124 124 [92, 47] [124, 124] rfl rfl (by decide) (by decide) rfl rfl
  case imp =>
    refine ⟨blk q n 32 ++ ([45, 62] ++ blk q n 32), n, fun r => ?_, fun r' => ?_, fun r' ws h => ?_⟩
    · rw [show [32] ++ bw .imp ++ [32] ++ r = 32 :: 45 :: 62 :: 32 :: r from rfl, spell_one p q n (by decide), spell_one p q n (by decide), blk_ne q n (a := 45) (by decide), spell_one p q n (by decide), blk_ne q n (a := 62) (by decide), spell_one p q n (by decide)]
      simp
    · rw [List.append_assoc]; exact sep_blk q n _
    · rw [List.append_assoc, List.append_assoc]
      exact lx_blk q n (Lx.sign [45, 62] (by decide) (lx_blk q n h))
  case iff =>
    refine ⟨blk q n 32 ++ ([60, 45, 62] ++ blk q n 32), n, fun r => ?_, fun r' => ?_, fun r' ws h => ?_⟩
    · rw [show [32] ++ bw .iff ++ [32] ++ r = 32 :: 60 :: 45 :: 62 :: 32 :: r from rfl, spell_one p q n (by decide), spell_no p q n (a := 60) (b := 45) rfl, blk_ne q n (a := 60) (by decide), spell_one p q n (by decide), blk_ne q n (a := 45) (by decide), spell_one p q n (by decide), blk_ne q n (a := 62) (by decide), spell_one p q n (by decide)]
      simp
    · rw [List.append_assoc]; exact sep_blk q n _
    · rw [List.append_assoc, List.append_assoc]
      exact lx_blk q n (Lx.sign [60, 45, 62] (by decide) (lx_blk q n h))
  case til => exact word 85 rfl (by decide) (by decide) (by decide) (by decide) rfl
  case rel => exact word 86 rfl (by decide) (by decide) (by decide) (by decide) rfl
  case weak => exact word 87 rfl (by decide) (by decide) (by decide) (by decide) rfl

theorem Spells.par {p q : Nat → Bool} {s : Wd} {vs : List Wd} (h : Spells p q s vs) (x : Bool) : Spells p q (Q.par x s) (parW x vs) := by
  cases x with
  | false => exact h
  | true =>
    intro n
    obtain ⟨s', n', h1, h2⟩ := h n
    refine ⟨[40] ++ (s' ++ [41]), n', fun r => ?_, fun r' ws hr hl => ?_⟩
    · rw [show Q.par true s ++ r = 40 :: (s ++ (41 :: r)) by simp [Q.par], spell_one p q n (by decide), blk_ne q n (by decide), h1, spell_one p q n' (by decide), blk_ne q n' (by decide)]
      simp
    · have h3 := h2 ([41] ++ r') ([41] :: ws) rfl (Lx.sign [41] (by decide) hl)
      have h4 := Lx.sign [40] (by decide) h3
      simpa [parW, canon] using h4

theorem name_plain {s : Wd} (h : s.all isLD = true) : s.all (fun c => plainB c && !(c == 32)) = true := by
  rw [List.all_eq_true] at h ⊢
  intro c hc
  have h1 := h c hc
  cases h2 : (plainB c && !(c == 32)) with
  | true => rfl
  | false =>
    simp only [plainB, Bool.and_eq_false_iff, Bool.not_eq_false', Bool.or_eq_true, beq_iff_eq] at h2
    rcases h2 with (((rfl | rfl) | rfl) | rfl) | rfl <;> cases h1

/-- A formula spelled otherwise has its words. -/
theorem spells_text (p q : Nat → Bool) (t : F) : t.ok = true → Spells p q t.text t.wds := by
  have atom : ∀ s : Wd, s.all isLD = true → (∀ r' ws, sep r' = true → Lx r' ws → Lx (s ++ r') (s :: ws)) → Spells p q s [s] := fun s hs h n =>
    ⟨s, n, fun r => spell_all p q n s r (name_plain hs), fun r' ws hr hl => h r' ws hr hl⟩
  induction t with
  | tt => exact fun _ => atom [116, 114, 117, 101] (by decide) (fun r' ws hr h => Lx.word [116, 114, 117, 101] (by decide) (by decide) (by decide) hr h)
  | ff => exact fun _ => atom [102, 97, 108, 115, 101] (by decide) (fun r' ws hr h => Lx.word [102, 97, 108, 115, 101] (by decide) (by decide) (by decide) hr h)
  | pr s => exact fun hs => atom s (isName_parts hs).2.2 (fun r' ws hr h => Lx.name hs hr h)
  | u o a ih =>
    intro ho n
    obtain ⟨s1, n1, h1, h2⟩ := spells_pre p q o n
    obtain ⟨s2, n2, h3, h4⟩ := (ih ho).par (decide (a.level < 5)) n1
    refine ⟨s1 ++ s2, n2, fun r => ?_, fun r' ws hr hl => ?_⟩
    · rw [show (F.u o a).text ++ r = up o ++ (Q.par (decide (a.level < 5)) a.text ++ r) by simp [F.text], h1, h3, List.append_assoc]
    · have := h2 _ _ (h4 r' ws hr hl)
      simpa [F.wds] using this
  | b o a c iha ihc =>
    intro ho n
    have h' : a.ok = true ∧ c.ok = true := by simpa [F.ok] using ho
    obtain ⟨s1, n1, h1, h2⟩ := (iha h'.1).par (decide (a.level < lft o)) n
    obtain ⟨s2, n2, h3, h4, h5⟩ := spells_op p q o n1
    obtain ⟨s3, n3, h6, h7⟩ := (ihc h'.2).par (decide (c.level < rgt o)) n2
    refine ⟨s1 ++ (s2 ++ s3), n3, fun r => ?_, fun r' ws hr hl => ?_⟩
    · rw [show (F.b o a c).text ++ r = Q.par (decide (a.level < lft o)) a.text ++ ([32] ++ bw o ++ [32] ++ (Q.par (decide (c.level < rgt o)) c.text ++ r)) by simp [F.text], h1, h3, h6]
      simp only [List.append_assoc]
    · have k1 := h5 _ _ (h7 r' ws hr hl)
      have k2 := h2 _ _ (h4 _) k1
      simpa [F.wds] using k2

/-- However it is spelled, it is read as the same. -/
theorem parse_spell (p q : Nat → Bool) {t : F} (ho : t.ok = true) (hd : t.depth ≤ 100) (hl : (spell p q 0 t.text).length ≤ 4096) : parse (spell p q 0 t.text) = .ok t := by
  obtain ⟨s', n', h1, h2⟩ := spells_text p q t ho 0
  have h3 := h1 []
  have h4 := h2 [] [] rfl .nil
  rw [show spell p q n' [] = [] from rfl, List.append_nil, List.append_nil] at h3
  rw [List.append_nil, List.append_nil] at h4
  rw [h3] at hl ⊢
  rw [parse_of hl h4 (reads_wds t ho), if_neg (by omega)]

end Go.Proofs.YtidihaecgmbhpabDoor.Q
