/-
  SReader.
-/
import Derived.Test.YthmdgbmodgfcmaaGreatDoorM6
/-
  The reader in memory; what reading a part leaves: laws on worlds; nothing of the program's text but the types' numbers.
-/
namespace Go.Proofs.YthmdgbmodgfcmaaGreatDoor
open Go.RowKit

/-- The types' numbers, and how many cells they take. -/
def ty : Tys where
  id := fun | .str => 9 | .ast => 41 | .bool => 4 | .arg => 102 | .stmt => 58 | .stmts => 53 | .decl => 51 | .var => 93 | .int => 3 | .unit => 55
  size := fun | .str => 1 | .ast => 9 | .bool => 1 | .arg => 11 | .stmt => 28 | .stmts => 1 | .decl => 4 | .var => 23 | .int => 1 | .unit => 21

/-- A reader: its text and words, its block, the words' block. -/
structure Env where
  c : Cx
  s : ByteArray
  rb : Nat
  wb : Nat
  ao : Option Addr
  cap : Nat
  small : c.T.length ≤ 65536
  size : s.size = c.len
  len : c.len ≤ 65536
  ne : rb ≠ wb
  r1 : rb ≠ 1
  ao_eq : ∀ (i : Nat) (t : Tok), c.T[i]? = some t → ao = some ⟨wb, 0, none⟩
  ats : ∀ (i : Nat) (t : Tok), c.T[i]? = some t → t.at_ < c.len
  txt : c.text = s.data.toList
  mono : ∀ (i j : Nat) (t u : Tok), i < j → c.T[i]? = some t → c.T[j]? = some u → t.at_ < u.at_
  nums : ∀ (i : Nat) (t : Tok), c.T[i]? = some t → t.n ≤ 2147483647

/-- The names of the types. -/
def typeNames : List (List UInt8) := [[], [98, 105, 116], [98, 111, 111, 108], [98, 121, 116, 101], [115, 104, 111, 114, 116], [105, 110, 116], [109, 116, 121, 112, 101], [112, 105, 100], [99, 104, 97, 110]]

/-- The program's table of them lies in its package-level variable. -/
def TN (w : World) : Prop := ∀ (k : Nat) (s : List UInt8), typeNames[k]? = some s → w.cell? ⟨1, k, none⟩ = some (.string (strOfL s))

/-- The reader, at a word. -/
structure Rd (E : Env) (w : World) (i : Nat) : Prop where
  blk : w.heap[E.rb]? = some (.cells #[.string E.s, .slice E.ao E.c.T.length E.cap, .int .i64 (i : Int)] 86 (0, 0))
  words : ∀ (k : Nat) (t : Tok), E.c.T[k]? = some t → w.cell? ⟨E.wb, k * 4, none⟩ = some (.int .i64 (t.kind : Int)) ∧ w.cell? ⟨E.wb, k * 4 + 1, none⟩ = some (.string (strOfL t.text)) ∧ w.cell? ⟨E.wb, k * 4 + 2, none⟩ = some (.int .i64 (t.n : Int)) ∧ w.cell? ⟨E.wb, k * 4 + 3, none⟩ = some (.int .i64 (t.at_ : Int))
  le : i ≤ E.c.T.length
  wlt : E.wb < w.heap.size
  tn : TN w

/-- The reader's own blocks. -/
def Env.own (E : Env) (x : Nat) : Prop := x = E.rb ∨ x = E.wb ∨ x = 1

theorem cell_mv {S : Nat → Prop} {w w' : World} (h : Mv S w w') {b o : Nat} {v : Value} (hc : w.cell? ⟨b, o, none⟩ = some v) (hb : ¬ S b) : w'.cell? ⟨b, o, none⟩ = some v := by
  have hlt := block_lt_of_cell hc
  have := h.block b hlt hb
  unfold World.cell? at hc ⊢
  simp only at hc ⊢
  rw [this]
  exact hc

theorem TN.kept {S : Nat → Prop} {w w' : World} (h : TN w) (hk : Mv S w w') (h1 : ¬ S 1) : TN w' := fun k s hs => cell_mv hk (h k s hs) h1
theorem TN.lt {w : World} (h : TN w) : 1 < w.heap.size := block_lt_of_cell (h 0 [] rfl)

theorem Rd.kept {E : Env} {S : Nat → Prop} {w w' : World} {i : Nat} (h : Rd E w i) (hk : Mv S w w') (hr : ¬ S E.rb) (hw : ¬ S E.wb) (h1 : ¬ S 1) : Rd E w' i :=
  ⟨hk.heap h.blk hr, fun k t ht => ⟨cell_mv hk (h.words k t ht).1 hw, cell_mv hk (h.words k t ht).2.1 hw, cell_mv hk (h.words k t ht).2.2.1 hw, cell_mv hk (h.words k t ht).2.2.2 hw⟩, h.le, Nat.lt_of_lt_of_le h.wlt hk.size, h.tn.kept hk h1⟩

theorem Rd.same {E : Env} {w w' : World} {i : Nat} (h : Rd E w i) (hk : Mv (fun _ => False) w w') : Rd E w' i := h.kept hk id id id

theorem Rd.c0 {E : Env} {w : World} {i : Nat} (h : Rd E w i) : w.cell? ⟨E.rb, 0, none⟩ = some (.string E.s) := by rw [cell_blk h.blk]; rfl
theorem Rd.c1 {E : Env} {w : World} {i : Nat} (h : Rd E w i) : w.cell? ⟨E.rb, 1, none⟩ = some (.slice E.ao E.c.T.length E.cap) := by rw [cell_blk h.blk]; rfl
theorem Rd.c2 {E : Env} {w : World} {i : Nat} (h : Rd E w i) : w.cell? ⟨E.rb, 2, none⟩ = some (.int .i64 (i : Int)) := by rw [cell_blk h.blk]; rfl
theorem Rd.f2 {E : Env} {w : World} {i : Nat} (h : Rd E w i) : w.frozen? ⟨E.rb, 2, none⟩ = false := free_blk h.blk 2
theorem Rd.rlt {E : Env} {w : World} {i : Nat} (h : Rd E w i) : E.rb < w.heap.size := lt_of_block h.blk

/-- The reader goes on. -/
theorem Rd.step {E : Env} {w : World} {i : Nat} (h : Rd E w i) (j : Nat) (hj : j ≤ E.c.T.length) : Rd E (w.setCell ⟨E.rb, 2, none⟩ (.int .i64 (j : Int))) j :=
  ⟨by rw [setCell_blk h.blk]; rfl, fun k t ht =>
    have hk := Mv.setCell w ⟨E.rb, 2, none⟩ (.int .i64 (j : Int))
    have hw : ¬ E.wb = E.rb := fun e => E.ne e.symm
    ⟨cell_mv hk (h.words k t ht).1 hw, cell_mv hk (h.words k t ht).2.1 hw, cell_mv hk (h.words k t ht).2.2.1 hw, cell_mv hk (h.words k t ht).2.2.2 hw⟩, hj, by simpa [World.setCell] using h.wlt, h.tn.kept (Mv.setCell w ⟨E.rb, 2, none⟩ (.int .i64 (j : Int))) (fun e => E.r1 e.symm)⟩

/-- What a refusal is thrown as. -/
def thrown (m : Mis) : List PanicEntry := [{ v := .iface 84 (.agg #[.int .i64 (m.1 : Int), .int .i64 (m.2 : Int)]), recovered := false }]

/-- What reading a part leaves: the cells hold what was read, and the reader has gone on; or a refusal is thrown. -/
def Post (E : Env) (F : Nat → Prop) (b : Nat) (t : TypeId) (N o k : Nat) (w : World) (r : Res) (e : Ending) (w' : World) : Prop := match r with
  | .ok (ds, i) => e = .returned (.tuple #[]) ∧ Rd E w' i ∧ ds.length = k ∧ (∃ F', At ty w' F' b t N o ds ∧ ∀ x, F' x → F x ∨ w.heap.size ≤ x) ∧ Mv (fun x => x = E.rb ∨ x = b ∨ F x) w w' ∧ Out b o k w w'
  | .error m => e = .panicked (thrown m) ∧ Mv (fun x => x = E.rb ∨ x = b ∨ F x) w w'

/-- Under way: the world now, the one at the beginning. -/
structure St (E : Env) (w0 : World) (F0 : Nat → Prop) (b : Nat) (t : TypeId) (N o k : Nat) (w : World) (F : Nat → Prop) (i : Nat) (ds : List D) : Prop where
  rd : Rd E w i
  cur : At ty w F b t N o ds
  len : ds.length = k
  mv : Mv (fun x => x = E.rb ∨ x = b ∨ F0 x) w0 w
  out : Out b o k w0 w
  fr : ∀ x, F x → F0 x ∨ w0.heap.size ≤ x
  nb : ¬ E.own b
  nF : ∀ x, F x → ¬ E.own x
  nF0 : ∀ x, F0 x → x < w0.heap.size

section
variable {E : Env} {w0 w : World} {F0 F : Nat → Prop} {b : Nat} {t : TypeId} {N o k i : Nat} {ds : List D}

theorem St.start (hr : Rd E w i) (ha : At ty w F b t N o ds) (hb : ¬ E.own b) (hF : ∀ x, F x → ¬ E.own x) : St E w F b t N o ds.length w F i ds :=
  ⟨hr, ha, rfl, Mv.refl _ _, fun _ _ => rfl, fun _ h => .inl h, hb, hF, ha.lt⟩

theorem out_of_mv {S : Nat → Prop} {w w' : World} {b o k : Nat} (h : Mv S w w') (hb : ¬ S b) (hlt : b < w.heap.size) : Out b o k w w' := fun j _ => World.cell?_of_block (a := ⟨b, j, none⟩) (h.block b hlt hb)

/-- Nothing turned. -/
theorem St.same (h : St E w0 F0 b t N o k w F i ds) {w1 : World} (hm : Mv (fun _ => False) w w1) : St E w0 F0 b t N o k w1 F i ds :=
  ⟨h.rd.same hm, h.cur.kept hm id (fun _ _ => id), h.len, h.mv.trans hm (fun _ hx => hx.elim), fun j hj => (out_of_mv (o := o) (k := k) hm id h.cur.blt j hj).trans (h.out j hj), h.fr, h.nb, h.nF, h.nF0⟩

/-- The reader alone turned. -/
theorem St.goes (h : St E w0 F0 b t N o k w F i ds) {w1 : World} {j : Nat} (hr : Rd E w1 j) (hm : Mv (fun x => x = E.rb) w w1) : St E w0 F0 b t N o k w1 F j ds :=
  have hb : ¬ b = E.rb := fun e => h.nb (.inl e)
  ⟨hr, h.cur.kept hm hb (fun x hx e => h.nF x hx (.inl e)), h.len, h.mv.trans hm (fun _ hx => .inl (.inl hx)), fun q hq => (out_of_mv (o := o) (k := k) hm hb h.cur.blt q hq).trans (h.out q hq), h.fr, h.nb, h.nF, h.nF0⟩

theorem St.step (h : St E w0 F0 b t N o k w F i ds) (j : Nat) (hj : j ≤ E.c.T.length) : St E w0 F0 b t N o k (w.setCell ⟨E.rb, 2, none⟩ (.int .i64 (j : Int))) F j ds :=
  h.goes (h.rd.step j hj) (Mv.setCell w ⟨E.rb, 2, none⟩ (.int .i64 (j : Int)))

/-- One word further on. -/
theorem St.inc (h : St E w0 F0 b t N o k w F i ds) (hj : i < E.c.T.length) : St E w0 F0 b t N o k (w.setCell ⟨E.rb, 2, none⟩ (.int .i64 ((i : Int) + 1))) F (i + 1) ds := by
  have := h.step (i + 1) hj
  rwa [show ((i + 1 : Nat) : Int) = (i : Int) + 1 from by omega] at this

/-- The reader goes back. -/
theorem St.back (h : St E w0 F0 b t N o k w F i ds) (x : Value) (j : Nat) (hj : j ≤ E.c.T.length) : St E w0 F0 b t N o k ((w.setCell ⟨E.rb, 2, none⟩ x).setCell ⟨E.rb, 2, none⟩ (.int .i64 (j : Int))) F j ds := by
  have hm := (Mv.setCell w ⟨E.rb, 2, none⟩ x).trans (Mv.setCell _ ⟨E.rb, 2, none⟩ (.int .i64 (j : Int))) (fun _ h => .inl h)
  have hw : ¬ E.wb = E.rb := fun e => E.ne e.symm
  refine h.goes ⟨by rw [setCell_blk (setCell_blk h.rd.blk)]; rfl, fun q t ht => ⟨cell_mv hm (h.rd.words q t ht).1 hw, cell_mv hm (h.rd.words q t ht).2.1 hw, cell_mv hm (h.rd.words q t ht).2.2.1 hw, cell_mv hm (h.rd.words q t ht).2.2.2 hw⟩, hj, by simpa [World.setCell] using h.rd.wlt, h.rd.tn.kept hm (fun e => E.r1 e.symm)⟩ hm
theorem St.back1 (h : St E w0 F0 b t N o k w F i ds) (j : Nat) (hj : j ≤ E.c.T.length) : St E w0 F0 b t N o k (w.setCell ⟨E.rb, 2, none⟩ (.int .i64 (j : Int))) F j ds := h.step j hj

/-- A cell is written. -/
theorem St.set (h : St E w0 F0 b t N o k w F i ds) (q : Nat) (hq : q < k) (v : Value) (d : D) (hv : ∀ w' : World, DIs ty w' (fun _ => False) v d) : St E w0 F0 b t N o k (w.setCell ⟨b, o + q, none⟩ v) F i (ds.set q d) := by
  have hm := Mv.setCell w ⟨b, o + q, none⟩ v
  have hl := h.len
  refine ⟨h.rd.kept hm (fun e => h.nb (.inl e.symm)) (fun e => h.nb (.inr (.inl e.symm))) (fun e => h.nb (.inr (.inr e.symm))), h.cur.set q (by omega) v d hv, by simpa using hl, h.mv.trans hm (fun x hx => .inl (.inr (.inl hx))), fun j hj => ?_, h.fr, h.nb, h.nF, h.nF0⟩
  have he : (w.setCell ⟨b, o + q, none⟩ v).cell? ⟨b, j, none⟩ = w.cell? ⟨b, j, none⟩ := World.cell?_setCell_other _ _ _ _ (by intro e; injection e; omega)
  exact he.trans (h.out j hj)

/-- A part is read into a stretch of the cells. -/
theorem St.call (h : St E w0 F0 b t N o k w F i ds) (q m : Nat) (hq : q + m ≤ k) : ∃ Fi : Nat → Prop, At ty w Fi b t N (o + q) ((ds.drop q).take m) ∧ (∀ x, Fi x → ¬ E.own x) ∧
    (∀ (ds' : List D) (j : Nat) (e : Ending) (w1 : World), Post E Fi b t N (o + q) m w (.ok (ds', j)) e w1 → ∃ F', St E w0 F0 b t N o k w1 F' j (ds.take q ++ ds' ++ ds.drop (q + m))) ∧
    (∀ (mi : Mis) (e : Ending) (w1 : World), Post E Fi b t N (o + q) m w (.error mi) e w1 → Post E F0 b t N o k w0 (.error mi) e w1) := by
  obtain ⟨Fi, ha, hsub, hplug⟩ := h.cur.part q m (by rw [h.len]; exact hq)
  have hfi : ∀ x, Fi x → (x = E.rb ∨ x = b ∨ F0 x) ∨ w0.heap.size ≤ x := fun x hx => (h.fr x (hsub x hx)).elim (fun h => .inl (.inr (.inr h))) .inr
  refine ⟨Fi, ha, fun x hx => h.nF x (hsub x hx), fun ds' j e w1 hp => ?_, fun mi e w1 hp => ⟨hp.1, ?_⟩⟩
  · obtain ⟨_, hr, hl, ⟨F', ha', hF'⟩, hm, ho⟩ := hp
    have hnb : ¬ b = E.rb := fun e => h.nb (.inl e)
    have hown : ∀ x, F' x → ¬ E.own x := fun x hx hown => by
      rcases hF' x hx with h1 | h1
      · exact h.nF x (hsub x h1) hown
      · rcases hown with rfl | rfl | rfl
        · have := h.rd.rlt; omega
        · have := h.rd.wlt; omega
        · have := h.rd.tn.lt; omega
    refine ⟨_, hr, hplug _ w1 F' ds' ha' hl hF' hm (fun x hx => ?_) ho, ?_, ?_, fun y hy => ?_, ?_, h.nb, ?_, h.nF0⟩
    · rcases hx with rfl | rfl | hx
      · exact .inr (.inr fun hx => h.nF _ hx (.inl rfl))
      · exact .inl rfl
      · exact .inr (.inl hx)
    · have := h.len
      simp
      omega
    · exact h.mv.trans hm (fun x hx => by
        rcases hx with hx | hx | hx
        · exact .inl (.inl hx)
        · exact .inl (.inr (.inl hx))
        · exact hfi x hx)
    · exact (ho y (by omega)).trans (h.out y hy)
    · rintro x (hx | hx)
      · exact h.fr x hx
      · rcases hF' x hx with h1 | h1
        · exact h.fr x (hsub x h1)
        · exact .inr (Nat.le_trans h.mv.size h1)
    · rintro x (hx | hx)
      · exact h.nF x hx
      · exact hown x hx
  · exact h.mv.trans hp.2 (fun x hx => by
      rcases hx with hx | hx | hx
      · exact .inl (.inl hx)
      · exact .inl (.inr (.inl hx))
      · exact hfi x hx)

/-- A part is read into all of the cells. -/
theorem St.whole (h : St E w0 F0 b t N o k w F i ds) {ds' : List D} {j : Nat} {e : Ending} {w1 : World} (hp : Post E F b t N o k w (.ok (ds', j)) e w1) : ∃ F', St E w0 F0 b t N o k w1 F' j ds' := by
  obtain ⟨_, hr, hl, ⟨F', ha', hF'⟩, hm, ho⟩ := hp
  have hfi : ∀ x, F x → (x = E.rb ∨ x = b ∨ F0 x) ∨ w0.heap.size ≤ x := fun x hx => (h.fr x hx).elim (fun h => .inl (.inr (.inr h))) .inr
  refine ⟨F', hr, ha', hl, h.mv.trans hm (fun x hx => ?_), fun y hy => (ho y hy).trans (h.out y hy), fun x hx => ?_, h.nb, fun x hx hown => ?_, h.nF0⟩
  · rcases hx with hx | hx | hx
    · exact .inl (.inl hx)
    · exact .inl (.inr (.inl hx))
    · exact hfi x hx
  · rcases hF' x hx with h1 | h1
    · exact h.fr x h1
    · exact .inr (Nat.le_trans h.mv.size h1)
  · rcases hF' x hx with h1 | h1
    · exact h.nF x h1 hown
    · rcases hown with rfl | rfl | rfl
      · have := h.rd.rlt; omega
      · have := h.rd.wlt; omega
      · have := h.rd.tn.lt; omega

theorem St.wholeBad (h : St E w0 F0 b t N o k w F i ds) {mi : Mis} {e : Ending} {w1 : World} (hp : Post E F b t N o k w (.error mi) e w1) : Post E F0 b t N o k w0 (.error mi) e w1 :=
  ⟨hp.1, h.mv.trans hp.2 (fun x hx => by
    rcases hx with hx | hx | hx
    · exact .inl (.inl hx)
    · exact .inl (.inr (.inl hx))
    · exact (h.fr x hx).elim (fun h => .inl (.inr (.inr h))) .inr)⟩

theorem St.set0 (h : St E w0 F0 b t N o k w F i ds) (hq : 0 < k) (v : Value) (d : D) (hv : ∀ w' : World, DIs ty w' (fun _ => False) v d) : St E w0 F0 b t N o k (w.setCell ⟨b, o, none⟩ v) F i (ds.set 0 d) := by
  have := h.set 0 hq v d hv
  rwa [Nat.add_zero] at this

/-- All is read. -/
theorem St.done (h : St E w0 F0 b t N o k w F i ds) : Post E F0 b t N o k w0 (.ok (ds, i)) (.returned (.tuple #[])) w :=
  ⟨rfl, h.rd, h.len, ⟨F, h.cur, h.fr⟩, h.mv, h.out⟩

/-- A refusal is thrown. -/
theorem St.bad (h : St E w0 F0 b t N o k w F i ds) {w1 : World} (hm : Mv (fun _ => False) w w1) (m : Mis) : Post E F0 b t N o k w0 (.error m) (.panicked (thrown m)) w1 :=
  ⟨rfl, h.mv.trans hm (fun _ hx => hx.elim)⟩

/-- A refusal is thrown, the reader having turned. -/
theorem St.badr (h : St E w0 F0 b t N o k w F i ds) {w1 : World} (hm : Mv (fun x => x = E.rb) w w1) (m : Mis) : Post E F0 b t N o k w0 (.error m) (.panicked (thrown m)) w1 :=
  ⟨rfl, h.mv.trans hm (fun _ hx => .inl (.inl hx))⟩
end

end Go.Proofs.YthmdgbmodgfcmaaGreatDoor
