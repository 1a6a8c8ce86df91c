/-
  JSeq, JNext, JOf0.
-/
import Derived.Test.YtiinmaedmkgfoaaDoorM30
import Derived.Test.YtiinmaedmkgfoaaDoorM35
import Derived.Test.YtiinmaedmkgfoaaDoorM48
/-
  The moves of raw processes, one by one: what the program's Next hands back.
-/
set_option linter.unusedVariables false
set_option linter.unusedSimpArgs false
namespace Go.Proofs.YtiinmaedmkgfoaaDoor
open Go.RowKit

section
variable {o : Oper} {a : Act} {w : World} {K : Act → World → Prop} {Q : Exit → Act → World → Prop} {d : Nat}
theorem lk_loadX {s b f : Nat} {v : Value} (hd : o.dst = some d) (ho : o.op = .load 66 (.tmp s)) (hs : a.tmps[s]? = some (.pointer (some ⟨b, f, none⟩))) (h0 : w.cell? ⟨b, f, none⟩ = some v) (hK : ∀ w', Nu w w' → K ⟨a.tmps.setIfInBounds d v, a.defers⟩ w') : Oper.wp Tryd.prog o a w K Q := by
  have he : a.eval (.tmp s) = .pointer (some ⟨b, f, none⟩) := by simp [Act.eval, hs]
  unfold Oper.wp execOp
  simp only [ho, he, hd]
  go_simp
  exact hK w (Mv.refl _ _)
theorem lk_fieldX0 {s b f : Nat} (hd : o.dst = some d) (ho : o.op = .fieldAddr 111 (.tmp s) 0) (hs : a.tmps[s]? = some (.pointer (some ⟨b, f, none⟩))) (hK : ∀ w', Nu w w' → K ⟨a.tmps.setIfInBounds d (.pointer (some ⟨b, f, none⟩)), a.defers⟩ w') : Oper.wp Tryd.prog o a w K Q := by
  have he : a.eval (.tmp s) = .pointer (some ⟨b, f, none⟩) := by simp [Act.eval, hs]
  unfold Oper.wp execOp
  simp only [ho, he, hd]
  go_simp
  exact hK w (Mv.refl _ _)
theorem lk_fieldN0 {s b f : Nat} (hd : o.dst = some d) (ho : o.op = .fieldAddr 74 (.tmp s) 0) (hs : a.tmps[s]? = some (.pointer (some ⟨b, f, none⟩))) (hK : ∀ w', Nu w w' → K ⟨a.tmps.setIfInBounds d (.pointer (some ⟨b, f, none⟩)), a.defers⟩ w') : Oper.wp Tryd.prog o a w K Q := by
  have he : a.eval (.tmp s) = .pointer (some ⟨b, f, none⟩) := by simp [Act.eval, hs]
  unfold Oper.wp execOp
  simp only [ho, he, hd]
  go_simp
  exact hK w (Mv.refl _ _)
theorem lk_loadArcs {s b f : Nat} {v : Value} (hd : o.dst = some d) (ho : o.op = .load 72 (.tmp s)) (hs : a.tmps[s]? = some (.pointer (some ⟨b, f, none⟩))) (h0 : w.cell? ⟨b, f, none⟩ = some v) (hK : ∀ w', Nu w w' → K ⟨a.tmps.setIfInBounds d v, a.defers⟩ w') : Oper.wp Tryd.prog o a w K Q := by
  have he : a.eval (.tmp s) = .pointer (some ⟨b, f, none⟩) := by simp [Act.eval, hs]
  unfold Oper.wp execOp
  simp only [ho, he, hd]
  go_simp
  exact hK w (Mv.refl _ _)
theorem lk_tmove {s r q u : Nat} {v1 v2 v3 v4 : Value} {m : Mov} (hd : o.dst = some d) (ho : o.op = .call { callee := .value (.func 99), args := #[.tmp s, .tmp r, .tmp q, .tmp u], argTypes := #[66, 22, 3, 3] }) (h1 : a.tmps[s]? = some v1) (h2 : a.tmps[r]? = some v2) (h3 : a.tmps[q]? = some v3) (h4 : a.tmps[u]? = some v4)
    (hc : Calls Tryd.prog 99 #[v1, v2, v3, v4] w (TMOut w m)) (hK : ∀ w' (y : X), Nu w w' → y.m = m → XOwn w' w.heap.size y → K ⟨a.tmps.setIfInBounds d y.val, a.defers⟩ w') : Oper.wp Tryd.prog o a w K Q := by
  have e1 : a.eval (.tmp s) = v1 := by simp [Act.eval, h1]
  have e2 : a.eval (.tmp r) = v2 := by simp [Act.eval, h2]
  have e3 : a.eval (.tmp q) = v3 := by simp [Act.eval, h3]
  have e4 : a.eval (.tmp u) = v4 := by simp [Act.eval, h4]
  unfold Oper.wp execOp
  simp only [ho, hd]
  go_simp
  refine hc.mono ?_
  rintro e w' ⟨hn, y, rfl, hm, ho⟩
  exact hK w' y hn hm ho
theorem lk_not {s : Nat} {b : Bool} (hd : o.dst = some d) (ho : o.op = .unOp .not 4 (.tmp s)) (hs : a.tmps[s]? = some (.bool b)) (hK : ∀ w', Nu w w' → K ⟨a.tmps.setIfInBounds d (.bool (!b)), a.defers⟩ w') : Oper.wp Tryd.prog o a w K Q := by
  have he : a.eval (.tmp s) = .bool b := by simp [Act.eval, hs]
  unfold Oper.wp execOp
  simp only [ho, he, hd]
  go_simp
  exact hK w (Mv.refl _ _)
theorem ops_step {F : Fence} {n : Nat} {P : Program} {ops : Array Oper} {i : Nat} {rest : List Nat} (ho : ops[i]? = some o) (hg : o.guard = none) (h : o.wpIn F n P a w (wpOpsIn F n P ops Q rest) Q) : wpOpsIn F n P ops Q (i :: rest) a w := by
  have hw : Region.wanted o (yielded ops a.tmps) = true := by simp [Region.wanted, hg]
  simp only [wpOpsIn, ho]
  rw [if_pos hw]
  exact h
end

theorem movesTo_pre {t : Thr} {L : List Nat} {p k k' : Nat} (h : k ≤ k') : movesTo t L p k <+: movesTo t L p k' := by
  induction k' with
  | zero => obtain rfl : k = 0 := by omega
            exact List.prefix_refl _
  | succ n ih =>
    rcases Nat.lt_or_ge n k with hk | hk
    · obtain rfl : k = n + 1 := by omega
      exact List.prefix_refl _
    · exact (ih hk).trans (List.prefix_append _ _)
theorem procsTo_pre {t : Thr} {L : List Nat} {p p' : Nat} (h : p ≤ p') : procsTo t L p <+: procsTo t L p' := by
  induction p' with
  | zero => obtain rfl : p = 0 := by omega
            exact List.prefix_refl _
  | succ n ih =>
    rcases Nat.lt_or_ge n p with hk | hk
    · obtain rfl : p = n + 1 := by omega
      exact List.prefix_refl _
    · exact (ih hk).trans (List.prefix_append _ _)
theorem at_next {t : Thr} {L : List Nat} {p k : Nat} (hp : p < t.procs.length) (hk : k < (nodeT t L p).arcs.length) (ho : openT L (arcT t L p k) = true) : (procsTo t L t.procs.length)[(procsTo t L p ++ movesTo t L p k).length]? = some (mvT t L p k) := by
  have h1 : procsTo t L p ++ movesTo t L p k ++ [mvT t L p k] <+: procsTo t L t.procs.length := by
    have h2 : procsTo t L p ++ movesTo t L p k ++ [mvT t L p k] = procsTo t L p ++ movesTo t L p (k + 1) := by
      rw [movesTo, ho, if_pos rfl, List.append_assoc]
    rw [h2]
    refine List.IsPrefix.trans ?_ (procsTo_pre (p := p + 1) hp)
    rw [procsTo]
    exact (List.prefix_append_right_inj _).2 (movesTo_pre hk)
  obtain ⟨r, hr⟩ := h1
  rw [← hr, List.append_assoc, List.getElem?_append_right (Nat.le_refl _), Nat.sub_self]
  rfl

/-- The numbers of a state, in a row that nobody else holds. -/
def AtI (H : Nat) (W : World) (O : Nat → Prop) (ao : Option Addr) (L : List Nat) : Prop := L.length = 0 ∨ ∃ lb, ao = some ⟨lb, 0, none⟩ ∧ H ≤ lb ∧ lb < W.heap.size ∧ ¬ O lb ∧ ∀ i (h : i < L.length), W.cell? ⟨lb, i, none⟩ = some (.int .i64 (L[i] : Int))
theorem AtI.nu {H : Nat} {W W' : World} {O : Nat → Prop} {ao : Option Addr} {L : List Nat} (h : AtI H W O ao L) (hn : Nu W W') : AtI H W' O ao L := h.imp id fun ⟨lb, h1, h2, h3, h4, h5⟩ => ⟨lb, h1, h2, Nat.lt_of_lt_of_le h3 hn.size, h4, fun i hi => cell_mv hn (h5 i hi) id⟩
theorem AtI.goes {H : Nat} {W1 W' : World} {O O' S : Nat → Prop} {ao : Option Addr} {L : List Nat} (h : AtI H W1 O ao L) (hS : ∀ b, S b → W1.heap.size ≤ b) (hO : ∀ b, O' b → O b ∨ S b ∨ W1.heap.size ≤ b) {W2 : World} (hn : Nu W1 W2) (hm : Mv (fun b => O b ∨ S b) W2 W') : AtI H W' O' ao L := by
  rcases h with h | ⟨lb, h1, h2, h3, h4, h5⟩
  · exact .inl h
  · refine .inr ⟨lb, h1, h2, Nat.lt_of_lt_of_le h3 (Nat.le_trans hn.size hm.size), fun ho => ?_, fun i hi => cell_mv hm (cell_mv hn (h5 i hi) id) (fun ho => ?_)⟩
    · rcases hO lb ho with h | h | h
      · exact h4 h
      · have := hS lb h; omega
      · omega
    · rcases ho with h | h
      · exact h4 h
      · have := hS lb h; omega

def R5T (tb : Nat) (qo : Option Addr) (np qc : Nat) (qg g pl nc : Nat) (ao : Option Addr) (lb ll ac n p nd : Nat) (av : Value) : Nat → World → Value → Prop
  | 0, _, v => v = .pointer (some ⟨tb, 0, none⟩)
  | 1, _, v => v = .pointer (some ⟨tb, 0, none⟩)
  | 2, _, v => v = .pointer (some ⟨tb, 0 + 3, none⟩)
  | 3, _, v => v = .slice (some ⟨qg, 0, none⟩) np qc
  | 4, _, v => v = .int .i64 (p : Int)
  | 5, _, v => v = .pointer (some ⟨qg, p * 4, none⟩)
  | 6, _, v => v = .pointer (some ⟨qg, p * 4, none⟩)
  | 7, _, v => v = .slice (some ⟨g, 0, none⟩) pl nc
  | 8, _, v => v = .slice (some ⟨lb, 0, none⟩) ll ac
  | 9, _, v => v = .pointer (some ⟨tb, 0, none⟩)
  | 10, _, v => v = .int .i64 (p : Int)
  | 11, _, v => v = .int .i64 ((n + p : Nat) : Int)
  | 12, _, v => v = .pointer (some ⟨lb, 0 + (n + p), none⟩)
  | 13, _, v => v = .int .i64 (nd : Int)
  | 14, _, v => v = .pointer (some ⟨g, nd * 4, none⟩)
  | 15, _, v => v = .pointer (some ⟨g, nd * 4, none⟩)
  | 16, _, v => v = av
  | 17, _, v => v = av
  | _, _, v => v = undef
theorem R5T.nu {tb : Nat} {qo : Option Addr} {np qc : Nat} {qg g pl nc : Nat} {ao : Option Addr} {lb ll ac n p nd : Nat} {av : Value} : ∀ (i : Nat) (w w' : World) (v : Value), Nu w w' → R5T tb qo np qc qg g pl nc ao lb ll ac n p nd av i w v → R5T tb qo np qc qg g pl nc ao lb ll ac n p nd av i w' v := by
  intro i w w' v hn h
  unfold R5T at h ⊢
  split <;> simp only at h <;> exact h

/-- What is found of a state: its numbers. -/
def NosIs (k : Option (List Nat)) (H : Nat) (w : World) (v : Value) : Prop := (k = none ∧ v = .slice none 0 0) ∨ ∃ l ao cap, k = some l ∧ v = .slice ao (List.length (α := Nat) l) cap ∧ OwnI w H ao cap (ints l)
theorem NosIs.nu {k : Option (List Nat)} {H : Nat} {w w' : World} {v : Value} (h : NosIs k H w v) (hn : Nu w w') : NosIs k H w' v := by
  rcases h with h | ⟨j, ao, cap, h1, h2, h3⟩
  · exact .inl h
  · exact .inr ⟨j, ao, cap, h1, h2, h3.mv hn (fun _ _ _ => id) (Nat.le_refl _)⟩

def R0T (tb : Nat) (ro : Option Addr) (n rc : Nat) (st : ByteArray) (k : Option (List Nat)) (H : Nat) : Nat → World → Value → Prop
  | 0, _, v => v = .pointer (some ⟨tb, 0, none⟩)
  | 1, _, v => v = .pointer (some ⟨tb, 0, none⟩)
  | 2, _, v => v = .pointer (some ⟨tb, 0, none⟩)
  | 3, _, v => v = .slice ro n rc
  | 4, _, v => v = .string st
  | 5, w, v => ∃ u, v = .tuple #[u, .bool k.isSome] ∧ NosIs k H w u
  | 6, w, v => ∃ u, v = .tuple #[u, .bool k.isSome] ∧ NosIs k H w u
  | 7, w, v => NosIs k H w v
  | 8, _, v => v = .bool k.isSome
  | 9, w, v => NosIs k H w v
  | 10, _, v => v = .bool k.isSome
  | _, _, v => v = undef
theorem R0T.nu {tb : Nat} {ro : Option Addr} {n rc : Nat} {st : ByteArray} {k : Option (List Nat)} {H : Nat} : ∀ (i : Nat) (w w' : World) (v : Value), Nu w w' → R0T tb ro n rc st k H i w v → R0T tb ro n rc st k H i w' v := by
  intro i w w' v hn h
  unfold R0T at h ⊢
  split <;> simp only at h <;> first
    | exact h
    | exact NosIs.nu h hn
    | (obtain ⟨u, h1, h2⟩ := h; exact ⟨u, h1, h2.nu hn⟩)

theorem tnext_none {t : Thr} {st : ByteArray} (hn : nums st 0 (boundsN t) = none) : (threadSem t).next st = [] := by simp [threadSem, hn]
theorem tnext_some {t : Thr} {st : ByteArray} {L : List Nat} (hn : nums st 0 (boundsN t) = some L) : (threadSem t).next st = procsTo t L t.procs.length := by simp [threadSem, hn]

set_option maxHeartbeats 8000000 in
set_option maxRecDepth 40000 in
theorem tseq_any (n : Nat) (hn : 1 ≤ n) (F : Nat → Prop) (tb b1 b2 : Nat) (t : Thr) {ro : Option Addr} {rc : Nat} {fo : Option Addr} {fc : Nat} {po : Option Addr} {pc : Nat} {qo : Option Addr} {qc : Nat} {pxs : List PX} (st : ByteArray) (w : World) (h : TIs w F tb t ro rc fo fc po pc qo qc pxs) (hsm : TSm t pxs) (hT : TabAt 0 Lib.deBruijn64tab w) (hF0 : F 0) (hb1 : w.heap[b1]? = some (.cells #[.pointer (some ⟨tb, 0, none⟩)] 66 (0, 0))) (hb2 : w.heap[b2]? = some (.cells #[.string st] 9 (0, 0))) (hm : mayT t = true) (hst : Short st) (hFlt : ∀ b, F b → b < w.heap.size) :
    SeqN n 98 #[.pointer (some ⟨b1, 0, none⟩), .pointer (some ⟨b2, 0, none⟩)] (fun b => F b ∨ b = b1 ∨ b = b2) ((threadSem t).next st) w := fun l J Jx W O₀ hK hJ hJx hOF hY h0 => by
  have hkF : KeepF F w W := ⟨hK.1, fun x hx => hK.2 x (.inl hx)⟩
  have HG : Hid (TIs W F tb t ro rc fo fc po pc qo qc pxs) := h.keep hkF
  have HT : Hid (TabAt 0 Lib.deBruijn64tab W) := hid (fun j hj => cell_keep hkF hF0 (hT j hj))
  have HB1 : Hid (W.heap[b1]? = some (.cells #[.pointer (some ⟨tb, 0, none⟩)] 66 (0, 0))) := (hK.2 b1 (.inr (.inl rfl))).trans hb1
  have HB2 : Hid (W.heap[b2]? = some (.cells #[.string st] 9 (0, 0))) := (hK.2 b2 (.inr (.inr rfl))).trans hb2
  have HST := hid hst
  have HMY := hid hm
  have HSM := hid hsm
  have HJ := hid hJ
  have HJX := hid hJx
  have HOF := hid hOF
  have HY := hid hY
  have H0 := hid h0
  have HNN := hid hn
  have HF0 := hid hF0
  have HLT0 : Hid (∀ b, (F b ∨ b = b1 ∨ b = b2) → b < W.heap.size) := fun b hb => by
    rcases hb with hb | rfl | rfl
    · exact Nat.lt_of_lt_of_le (hFlt b hb) hK.1
    · exact lt_of_block HB1.out
    · exact lt_of_block HB2.out
  clear hkF h hsm hT hF0 hb1 hb2 hst hm hJ hJx hOF hY h0 hK hn hFlt
  refine callsIn_wide.2 ?_
  show Calls _ _ _ _ (SeqPost J Jx ((threadSem t).next st))
  simp only [List.append_toArray, List.cons_append, List.nil_append]
  go_enter Tryd.func98, Tryd.ntmps98
  obtain ⟨kk, hkk⟩ : ∃ kk, nums st 0 (boundsN t) = kk := ⟨_, rfl⟩
  have HKK := hid hkk
  clear hkk
  go_upto_region 0 with fail
  rename_i KC hKC
  refine wp_lookR (R0T tb ro (boundsN t).length rc st kk W.heap.size) R0T.nu (by kernel_rfl) (by kernel_rfl) ?step ?last
  case step =>
    intro i o d a w' ho hd hn hfr had K hK
    have hi : i < 11 := (Array.getElem?_eq_some_iff.1 ho).1
    have f1 := hfr 1 (by kernel_rfl)
    have f2 := hfr 2 (by kernel_rfl)
    have c1 := cell_blk (hn.heap HB1.out id) 0
    have c2 := cell_blk (hn.heap HB2.out id) 0
    have c3 := cell_blk (hn.heap HG.out.blk id) 0
    simp only [List.size_toArray, List.length_cons, List.length_nil, Nat.reduceAdd, Nat.lt_add_one, Nat.reduceLT, getElem?_pos, List.getElem_toArray, List.getElem_cons_zero, List.getElem_cons_succ, Nat.zero_lt_succ, ← boundsN_len] at c1 c2 c3
    have : i = 0 ∨ i = 1 ∨ i = 2 ∨ i = 3 ∨ i = 4 ∨ i = 5 ∨ i = 6 ∨ i = 7 ∨ i = 8 ∨ i = 9 ∨ i = 10 := by omega
    rcases this with rfl | rfl | rfl | rfl | rfl | rfl | rfl | rfl | rfl | rfl | rfl <;> cases ho <;> cases hd
    · exact ite_yes (want_none rfl) (lk_loadX rfl rfl f1 c1 (fun w' hm => hK w' _ hm rfl))
    · obtain ⟨⟨_, h0, rfl⟩, _⟩ := had; exact ite_yes (want_none rfl) (lk_nilP rfl rfl h0 (fun w' hm => hK w' _ hm rfl))
    · obtain ⟨⟨_, h0, rfl⟩, _⟩ := had; exact ite_yes (want_none rfl) (lk_fieldX0 rfl rfl h0 (fun w' hm => hK w' _ hm rfl))
    · obtain ⟨⟨_, h0, rfl⟩, _⟩ := had; exact ite_yes (want_none rfl) (lk_loadR rfl rfl h0 c3 (fun w' hm => hK w' _ hm rfl))
    · exact ite_yes (want_none rfl) (lk_loadS rfl rfl f2 c2 (fun w' hm => hK w' _ hm rfl))
    · obtain ⟨⟨_, h0, rfl⟩, ⟨_, h1, rfl⟩, _⟩ := had
      refine ite_yes (want_none rfl) (lk_nums (bs := boundsN t) rfl rfl h0 h1 ((HG.out.row.keep (hn.keep (fun b hb => ⟨HLT0.out b (.inl hb), id⟩))).at (fun b hb => Nat.lt_of_lt_of_le (HLT0.out b (.inl hb)) hn.size)) (fun m hm => Nat.le_trans (bounds_le HMY.out m hm) (by decide)) (by rw [boundsN_len]; have := mayT_parts HMY.out; omega) HST.out (fun w' v ho => hK w' _ ho.1 ?_))
      obtain ⟨hnw, hc⟩ := ho
      rw [HKK.out] at hc
      rcases hc with ⟨hno, he⟩ | ⟨lst, ao', cap', hno, he, hown⟩
      · cases he
        exact ⟨_, by rw [hno]; rfl, .inl ⟨hno, rfl⟩⟩
      · cases he
        exact ⟨_, by rw [hno]; rfl, .inr ⟨lst, ao', cap', hno, rfl, hown.mv (Mv.refl (fun _ => False) _) (fun _ _ _ => id) hn.size⟩⟩
    · obtain ⟨⟨_, h0, u, rfl, hu⟩, _⟩ := had; exact ite_yes (want_none rfl) (lk_move rfl rfl h0 (fun w' hm => hK w' _ hm ⟨u, rfl, hu.nu hm⟩))
    · obtain ⟨⟨_, h0, u, rfl, hu⟩, _⟩ := had; exact ite_yes (want_none rfl) (lk_ext0 rfl rfl h0 (fun w' hm => hK w' _ hm (hu.nu hm)))
    · obtain ⟨⟨_, h0, u, rfl, hu⟩, _⟩ := had; exact ite_yes (want_none rfl) (lk_ext1 rfl rfl h0 (fun w' hm => hK w' _ hm rfl))
    · obtain ⟨⟨_, h0, hu⟩, _⟩ := had; exact ite_yes (want_none rfl) (lk_assign rfl rfl h0 (fun w' hm => hK w' _ hm (NosIs.nu hu hm)))
    · obtain ⟨⟨_, h0, rfl⟩, _⟩ := had; exact ite_yes (want_none rfl) (lk_assign rfl rfl h0 (fun w' hm => hK w' _ hm rfl))
  case last =>
    intro a w1 hn1 hdf hsz hfr htv
    obtain ⟨v5, t5, _⟩ := htv 5 _ 15 rfl rfl
    obtain ⟨v6, t6, _⟩ := htv 6 _ 9 rfl rfl
    obtain ⟨v7, t7, _⟩ := htv 7 _ 16 rfl rfl
    obtain ⟨v9, t9, hv9⟩ := htv 9 _ 4 rfl rfl
    have htm := fill_eqN (vals := fun i => ([.pointer (some ⟨tb, 0, none⟩), .pointer (some ⟨tb, 0, none⟩), .pointer (some ⟨tb, 0, none⟩), .slice ro (boundsN t).length rc, .string st, v5, v6, v7, .bool kk.isSome, v9, .bool kk.isSome] : List Value).getD i undef) (by kernel_rfl) hfr (fun i o d hi hd => by
      have hi' : i < 11 := (Array.getElem?_eq_some_iff.1 hi).1
      obtain ⟨v, h, hv⟩ := htv i o d hi hd
      have : i = 0 ∨ i = 1 ∨ i = 2 ∨ i = 3 ∨ i = 4 ∨ i = 5 ∨ i = 6 ∨ i = 7 ∨ i = 8 ∨ i = 9 ∨ i = 10 := by omega
      rcases this with rfl | rfl | rfl | rfl | rfl | rfl | rfl | rfl | rfl | rfl | rfl <;> cases hi <;> cases hd <;> first | exact t5 | exact t6 | exact t7 | exact t9 | exact h.trans (congrArg some hv))
    refine hKC _ _ ?_
    have HN1 := hid hn1
    have HV9 : Hid (NosIs kk W.heap.size w1 v9) := hv9
    rw [act_eq' htm hdf]
    clear htm hdf hsz hfr htv t5 t6 t7 t9 hn1 hKC hv9
    simp only [fill, List.getD_cons_succ, List.getD_cons_zero, List.setIfInBounds_toArray, List.set_cons_succ, List.set_cons_zero]
    cases kk with
    | none =>
      have HE := hid (tnext_none HKK.out)
      simp only [Option.isSome_none]
      go_wp2
      refine bodyPost_ret (results_none rfl _ _ _) rfl ?_
      exact ⟨⟨_, rfl⟩, .inl ⟨[], O₀, by rw [HE.out]; rfl, HJ.out _ _ _ _ H0.out HN1.out⟩⟩
    | some L =>
      have HE := hid (tnext_some HKK.out)
      obtain ⟨ao, cap, rfl, hown⟩ : ∃ ao cap, v9 = .slice ao (List.length (α := Nat) L) cap ∧ OwnI w1 W.heap.size ao cap (ints L) := by
        rcases HV9.out with ⟨h, _⟩ | ⟨j, ao, cap, hj, h1, h2⟩
        · cases h
        · cases hj
          exact ⟨ao, cap, h1, h2⟩
      have HOW := hid hown
      clear hown HV9
      simp only [Option.isSome_some]
      have HAI : Hid (AtI W.heap.size w1 O₀ ao L) := by
        rcases HOW.out.row with h0 | ⟨g, cs, h1, h2, h3, h4, h5⟩
        · have := HOW.out.len; rw [ints_length] at this; exact .inl (by omega)
        · refine .inr ⟨g, h1, h2, lt_of_block h3, fun ho => ?_, fun i hi => ?_⟩
          · have := (HOF.out _ _ _ H0.out g ho).1; omega
          · rw [cell_blk h3, h5 i (by rwa [ints_length])]; simp [ints]
      have HLS := hid (nums_small HMY.out HKK.out)
      have c1 := cell_blk (HN1.out.heap HB1.out id) 0
      have c3 := cell_blk (HN1.out.heap HG.out.blk id) 3
      simp only [List.size_toArray, List.length_cons, List.length_nil, Nat.reduceAdd, Nat.lt_add_one, Nat.reduceLT, getElem?_pos, List.getElem_toArray, List.getElem_cons_zero, List.getElem_cons_succ, Nat.zero_lt_succ] at c1 c3
      clear HOW
      go_upto_region 3 with fail
      clear c1 c3
      go_wp2
      go_loopw [25] (fun iv wr => ∃ (p : Nat) (pre : List X) (O : Nat → Prop), p ≤ t.procs.length ∧ iv = .int .i64 (p : Int) ∧ Hid (pre.map X.m = procsTo t L p) ∧ Hid (J pre O wr) ∧ Hid (KeepF (fun b => F b ∨ b = b1 ∨ b = b2) W wr) ∧ Hid (AtI W.heap.size wr O ao L)) (fun iv _ => t.procs.length - (intOf iv).toNat)
      case atStart => exact ⟨0, [], O₀, Nat.zero_le _, rfl, (rfl : [] = _), HJ.out _ _ _ _ H0.out HN1.out, HN1.out.keep (fun b hb => ⟨HLT0.out b hb, id⟩), HAI.out⟩
      case round =>
        obtain ⟨p, pre, O, hp, rfl, HPM, HJP, HKP, HAP⟩ := hrel
        rcases Nat.lt_or_ge p t.procs.length with hplt | hpge
        case inr =>
          obtain rfl : p = t.procs.length := by omega
          have he' : ¬ (t.procs.length : Int) < (t.procs.length : Int) := by omega
          clear hpge hp
          go_wp2
          go_end0
          exact ⟨⟨_, rfl⟩, .inl ⟨pre, O, by rw [HE.out]; exact HPM.out, HJP.out⟩⟩
        have hplt' : (p : Int) < (t.procs.length : Int) := by omega
        have hkF : KeepF F W wr := ⟨HKP.out.1, fun b hb => HKP.out.2 b (.inl hb)⟩
        rcases HG.out.procs with h0 | ⟨qg, rfl, hFq, hpx⟩
        · omega
        have HTR : Hid (TIs wr F tb t ro rc fo fc po pc (some ⟨qg, 0, none⟩) qc pxs) := hid (HG.out.keep hkF)
        have hpl : pxs.length = t.procs.length := by rw [← HG.out.eq, List.length_map]
        have hpp : p < pxs.length := by omega
        have hx := (hpx p hpp).keep hkF hFq
        have hxi := HG.out.pis _ (List.getElem_mem hpp)
        have hxl : t.procs[p]? = some pxs[p].l := by rw [← HG.out.eq, List.getElem?_map, List.getElem?_eq_getElem hpp]; rfl
        obtain ⟨nd, hnd, hndl⟩ := nums_lt HKK.out (t.init.length + p) pxs[p].l.length (by
          rw [boundsN, List.getElem?_append_right (by simp), List.length_replicate, Nat.add_sub_cancel_left, List.getElem?_map, hxl]
          rfl)
        have HPX : Hid (pxs[p]? = some pxs[p]) := hid (List.getElem?_eq_getElem hpp)
        generalize pxs[p] = px at *
        have htl : px.txs.length = px.l.length := by rw [← hxi.eq, List.length_map]
        have hnt : nd < px.txs.length := by omega
        have hnat := (hxi.nat nd hnt).keep hkF hxi.ng
        have hnar := hxi.arcs _ (List.getElem_mem hnt)
        have HND : Hid (nodeT t L p = (px.txs[nd]).n) := by
          show _ = _
          have h1 : px.l[nd]? = some (px.txs[nd]).n := by rw [← hxi.eq, List.getElem?_map, List.getElem?_eq_getElem hnt]; rfl
          simp only [nodeT, List.getD_eq_getElem?_getD, hxl, hnd, Option.getD_some, h1]
        have HTX : Hid (px.txs[nd]? = some px.txs[nd]) := hid (List.getElem?_eq_getElem hnt)
        generalize px.txs[nd] = tx at *
        have hql : t.init.length + p < L.length := by have := HLS.out.1; omega
        rcases id HAP.out with h0 | ⟨lb, rfl, hlb1, hlb2, hlb3, hat⟩
        · omega
        have cl := hat _ hql
        have hnd' : L[t.init.length + p] = nd := by rw [List.getElem?_eq_getElem hql] at hnd; exact Option.some.inj hnd
        rw [hnd'] at cl
        have HNDG := hid hnd
        have q0 := hx.c0
        have x0 := hnat.c0
        have c1 := cell_blk ((HKP.out.2 b1 (.inr (.inl rfl))).trans HB1.out) 0
        have c3 := cell_blk HTR.out.blk 3
        simp only [List.size_toArray, List.length_cons, List.length_nil, Nat.reduceAdd, Nat.lt_add_one, Nat.reduceLT, getElem?_pos, List.getElem_toArray, List.getElem_cons_zero, List.getElem_cons_succ, Nat.zero_lt_succ] at c1 c3
        have hp8 : p < 8 := by have := mayT_parts HMY.out; omega
        have HPL := hid hplt
        have HQL := hid hql
        have HNDL := hid hndl
        have HXI := hid hxi
        have HAR := hid hnar
        have HTK : Hid (∀ W', Nu wr W' → TIs W' F tb t ro rc fo fc po pc (some ⟨qg, 0, none⟩) qc pxs) := fun W' hW => HTR.out.keep (hW.keep (fun b hb => ⟨Nat.lt_of_lt_of_le (HLT0.out b (.inl hb)) HKP.out.1, id⟩))
        clear hpx hxl hxi hx hnd hnd' hat hnat hnar hndl hnt htl hpp hpl hplt hlb1 hlb2 hlb3 hFq hql hp hkF
        go_upto_region 5 with fail
        rename_i KC hKC
        refine wp_lookR (R5T tb (some ⟨qg, 0, none⟩) t.procs.length qc qg px.g px.l.length px.nc none lb L.length cap t.init.length p nd (.slice tx.vo tx.n.arcs.length tx.vc)) R5T.nu (by kernel_rfl) (by kernel_rfl) ?step ?post
        case step =>
          intro i o d a' w' ho hd hn hfr had K hK
          have hi : i < 18 := (Array.getElem?_eq_some_iff.1 ho).1
          have f1 := hfr 1 (by kernel_rfl)
          have f4 := hfr 4 (by kernel_rfl)
          have f6 := hfr 6 (by kernel_rfl)
          have : i = 0 ∨ i = 1 ∨ i = 2 ∨ i = 3 ∨ i = 4 ∨ i = 5 ∨ i = 6 ∨ i = 7 ∨ i = 8 ∨ i = 9 ∨ i = 10 ∨ i = 11 ∨ i = 12 ∨ i = 13 ∨ i = 14 ∨ i = 15 ∨ i = 16 ∨ i = 17 := by omega
          rcases this with rfl | rfl | rfl | rfl | rfl | rfl | rfl | rfl | rfl | rfl | rfl | rfl | rfl | rfl | rfl | rfl | rfl | rfl <;> cases ho <;> cases hd
          · exact ite_yes (want_none rfl) (lk_loadX rfl rfl f1 (cell_mv hn c1 id) (fun w' hm => hK w' _ hm rfl))
          · obtain ⟨⟨_, h0, rfl⟩, _⟩ := had; exact ite_yes (want_none rfl) (lk_nilP rfl rfl h0 (fun w' hm => hK w' _ hm rfl))
          · obtain ⟨⟨_, h0, rfl⟩, _⟩ := had; exact ite_yes (want_none rfl) (lk_fieldX3 rfl rfl h0 (fun w' hm => hK w' _ hm rfl))
          · obtain ⟨⟨_, h0, rfl⟩, _⟩ := had; exact ite_yes (want_none rfl) (lk_loadPr rfl rfl h0 (cell_mv hn c3 id) (fun w' hm => hK w' _ hm rfl))
          · exact ite_yes (want_none rfl) (lk_move rfl rfl f6 (fun w' hm => hK w' _ hm rfl))
          · obtain ⟨⟨_, h0, rfl⟩, ⟨_, h1, rfl⟩, _⟩ := had; exact ite_yes (want_none rfl) (lk_idxPr HPL.out rfl rfl h0 h1 (fun w' hm => hK w' _ hm rfl))
          · obtain ⟨⟨_, h0, rfl⟩, _⟩ := had; exact ite_yes (want_none rfl) (lk_fieldPr0 rfl rfl h0 (fun w' hm => hK w' _ hm rfl))
          · obtain ⟨⟨_, h0, rfl⟩, _⟩ := had; exact ite_yes (want_none rfl) (lk_loadTNs rfl rfl h0 (cell_mv hn q0 id) (fun w' hm => hK w' _ hm rfl))
          · exact ite_yes (want_none rfl) (lk_move rfl rfl f4 (fun w' hm => hK w' _ hm rfl))
          · exact ite_yes (want_none rfl) (lk_loadX rfl rfl f1 (cell_mv hn c1 id) (fun w' hm => hK w' _ hm rfl))
          · exact ite_yes (want_none rfl) (lk_move rfl rfl f6 (fun w' hm => hK w' _ hm rfl))
          · obtain ⟨⟨_, h1, rfl⟩, ⟨_, h2, rfl⟩, _⟩ := had
            exact ite_yes (want_none rfl) (lk_place rfl rfl h1 h2 (place_any w' F tb t (HTK.out w' hn) HMY.out p HPL.out) (fun w' hm => hK w' _ hm rfl))
          · obtain ⟨⟨_, h0, rfl⟩, ⟨_, h1, rfl⟩, _⟩ := had; exact ite_yes (want_none rfl) (lk_idxAtL HQL.out rfl rfl h0 h1 (fun w' hm => hK w' _ hm rfl))
          · obtain ⟨⟨_, h0, rfl⟩, _⟩ := had; exact ite_yes (want_none rfl) (lk_loadN rfl rfl h0 (by rw [Nat.zero_add]; exact cell_mv hn cl id) (fun w' hm => hK w' _ hm rfl))
          · obtain ⟨⟨_, h0, rfl⟩, ⟨_, h1, rfl⟩, _⟩ := had; exact ite_yes (want_none rfl) (lk_idxTN HNDL.out rfl rfl h0 h1 (fun w' hm => hK w' _ hm rfl))
          · obtain ⟨⟨_, h0, rfl⟩, _⟩ := had; exact ite_yes (want_none rfl) (lk_fieldN0 rfl rfl h0 (fun w' hm => hK w' _ hm rfl))
          · obtain ⟨⟨_, h0, rfl⟩, _⟩ := had; exact ite_yes (want_none rfl) (lk_loadArcs rfl rfl h0 (cell_mv hn x0 id) (fun w' hm => hK w' _ hm rfl))
          · obtain ⟨⟨_, h0, rfl⟩, _⟩ := had; exact ite_yes (want_none rfl) (lk_assign rfl rfl h0 (fun w' hm => hK w' _ hm rfl))
        case post =>
          intro a' w7 hn7 hdf hsz hfr htv
          have htm := fill_eqN (vals := fun i => ([.pointer (some ⟨tb, 0, none⟩), .pointer (some ⟨tb, 0, none⟩), .pointer (some ⟨tb, 0 + 3, none⟩), .slice (some ⟨qg, 0, none⟩) t.procs.length qc, .int .i64 (p : Int), .pointer (some ⟨qg, p * 4, none⟩), .pointer (some ⟨qg, p * 4, none⟩), .slice (some ⟨px.g, 0, none⟩) px.l.length px.nc, .slice (some ⟨lb, 0, none⟩) L.length cap, .pointer (some ⟨tb, 0, none⟩), .int .i64 (p : Int), .int .i64 ((t.init.length + p : Nat) : Int), .pointer (some ⟨lb, 0 + (t.init.length + p), none⟩), .int .i64 (nd : Int), .pointer (some ⟨px.g, nd * 4, none⟩), .pointer (some ⟨px.g, nd * 4, none⟩), .slice tx.vo tx.n.arcs.length tx.vc, .slice tx.vo tx.n.arcs.length tx.vc] : List Value).getD i undef) (by kernel_rfl) hfr (fun i o d hi hd => by
            have hi' : i < 18 := (Array.getElem?_eq_some_iff.1 hi).1
            obtain ⟨v, h, hv⟩ := htv i o d hi hd
            have : i = 0 ∨ i = 1 ∨ i = 2 ∨ i = 3 ∨ i = 4 ∨ i = 5 ∨ i = 6 ∨ i = 7 ∨ i = 8 ∨ i = 9 ∨ i = 10 ∨ i = 11 ∨ i = 12 ∨ i = 13 ∨ i = 14 ∨ i = 15 ∨ i = 16 ∨ i = 17 := by omega
            rcases this with rfl | rfl | rfl | rfl | rfl | rfl | rfl | rfl | rfl | rfl | rfl | rfl | rfl | rfl | rfl | rfl | rfl | rfl <;> cases hi <;> cases hd <;> exact h.trans (congrArg some hv))
          refine hKC _ _ ?_
          have HN7 := hid hn7
          rw [act_eq' htm hdf]
          clear htm hdf hsz hfr htv hKC c1 c3 q0 x0 cl hn7
          simp only [fill, List.getD_cons_succ, List.getD_cons_zero, List.setIfInBounds_toArray, List.set_cons_succ, List.set_cons_zero]
          have HK7 : Hid (KeepF (fun b => F b ∨ b = b1 ∨ b = b2) W w7) := HKP.out.trans (HN7.out.keep (fun b hb => ⟨Nat.lt_of_lt_of_le (HLT0.out b hb) HKP.out.1, id⟩))
          have HA7 := hid (HAP.out.nu HN7.out)
          have HJ7 := hid (HJ.out _ _ _ _ HJP.out HN7.out)
          have HFK : Hid (∀ W', KeepF (fun b => F b ∨ b = b1 ∨ b = b2) W W' → TIs W' F tb t ro rc fo fc po pc (some ⟨qg, 0, none⟩) qc pxs) := fun W' hW => HG.out.keep ⟨hW.1, fun b hb => hW.2 b (.inl hb)⟩
          have hal : tx.n.arcs.length ≤ 1000 := by
            have h1 := List.mem_of_getElem? HTX.out
            have h2 : tx.n ∈ px.l := by rw [← HXI.out.eq]; exact List.mem_map.2 ⟨_, h1, rfl⟩
            have h3 : px.l ∈ t.procs := by rw [← HG.out.eq]; exact List.mem_map.2 ⟨_, List.mem_of_getElem? HPX.out, rfl⟩
            obtain ⟨_, _, _, _, hpr, _⟩ := mayT_parts HMY.out
            exact ((procB_parts (hpr _ h3)).2.2 _ h2).1
          have hal' : (tx.n.arcs.length : Int) ≤ 1000 := by omega
          have HTB : Hid (∀ a ∈ tx.n.arcs, taB px.l.length t.init.length a = true) := by
            have h1 := List.mem_of_getElem? HTX.out
            have h2 : tx.n ∈ px.l := by rw [← HXI.out.eq]; exact List.mem_map.2 ⟨_, h1, rfl⟩
            have h3 : px.l ∈ t.procs := by rw [← HG.out.eq]; exact List.mem_map.2 ⟨_, List.mem_of_getElem? HPX.out, rfl⟩
            obtain ⟨_, _, _, _, hpr, _⟩ := mayT_parts HMY.out
            exact ((procB_parts (hpr _ h3)).2.2 _ h2).2
          have HPXL : Hid (t.procs[p]? = some px.l) := by
            have h1 := HPX.out
            show _ = _
            rw [← HG.out.eq, List.getElem?_map, h1]
            rfl
          clear HAP HJP HKP HAI
          generalize tx.vo = vo at *
          generalize tx.vc = vc at *
          go_wp2
          go_loopw [47] (fun iv wk => ∃ (k : Nat) (pre2 : List X) (O2 : Nat → Prop), k ≤ tx.n.arcs.length ∧ iv = .int .i64 (k : Int) ∧ Hid (pre2.map X.m = procsTo t L p ++ movesTo t L p k) ∧ Hid (J pre2 O2 wk) ∧ Hid (KeepF (fun b => F b ∨ b = b1 ∨ b = b2) W wk) ∧ Hid (AtI W.heap.size wk O2 (some ⟨lb, 0, none⟩) L)) (fun iv _ => tx.n.arcs.length - (intOf iv).toNat)
          case atStart => exact ⟨0, pre, O, Nat.zero_le _, rfl, (by show _ = _; rw [movesTo, List.append_nil]; exact HPM.out), HJ7.out, HK7.out, HA7.out⟩
          case round =>
            rename World => wk
            obtain ⟨k, pre2, O2, hk, rfl, HPM2, HJ2, HK2, HA2⟩ := hrel
            rcases Nat.lt_or_ge k tx.n.arcs.length with hklt | hkge
            case inr =>
              obtain rfl : k = tx.n.arcs.length := by omega
              have he' : ¬ (tx.n.arcs.length : Int) < (tx.n.arcs.length : Int) := by omega
              have HP2 : Hid (pre2.map X.m = procsTo t L (p + 1)) := by show _ = _; rw [procsTo, HND.out]; exact HPM2.out
              clear hkge hk
              go_wp2
              go_roundw
              case rel => exact ⟨p + 1, pre2, O2, HPL.out, by go_num, HP2.out, HJ2.out, HK2.out, HA2.out⟩
              case measure => have := HPL.out; simp [intOf]; omega
            have hklt' : (k : Int) < (tx.n.arcs.length : Int) := by omega
            rcases id HAR.out with h0 | ⟨vg, rfl, hFv, hta⟩
            · omega
            have HTA : Hid (∀ W', KeepF (fun b => F b ∨ b = b1 ∨ b = b2) W W' → TAAt W' vg (k * 8) tx.n.arcs[k]) := fun W' hW => (hta k hklt).keep ⟨hW.1, fun b hb => hW.2 b hb⟩ (.inl hFv)
            have HTAB : Hid (taB px.l.length t.init.length tx.n.arcs[k] = true) := hid (HTB.out _ (List.getElem_mem hklt))
            have HAT : Hid (arcT t L p k = tx.n.arcs[k]) := by
              show _ = _
              rw [arcT, HND.out, List.getD_eq_getElem?_getD, List.getElem?_eq_getElem hklt]
              rfl
            have HKL := hid hklt
            clear hta hFv
            have HMV : Hid (∀ w', KeepF (fun b => F b ∨ b = b1 ∨ b = b2) W w' → AtI W.heap.size w' O2 (some ⟨lb, 0, none⟩) L → Calls Tryd.prog 99 #[.pointer (some ⟨tb, 0, none⟩), .slice (some ⟨lb, 0, none⟩) L.length cap, .int .i64 (p : Int), .int .i64 (k : Int)] w' (TMOut w' (mvT t L p k))) := by
              intro w' hw' ha'
              have hpp := (List.getElem?_eq_some_iff.1 HPX.out).1
              have hpe := (List.getElem?_eq_some_iff.1 HPX.out).2
              have hnn := (List.getElem?_eq_some_iff.1 HTX.out).1
              have hne := (List.getElem?_eq_some_iff.1 HTX.out).2
              have hLS := HLS.out
              have key := tmove_any w' F tb t (HFK.out w' hw') HMY.out (fun b hb => Nat.lt_of_lt_of_le (HLT0.out b (.inl hb)) hw'.1) (fun j hj => cell_keep hw' (.inl HF0.out) (HT.out j hj)) HSM.out (some ⟨lb, 0, none⟩) cap L hLS.1 ⟨by rw [ints_length]; have := mayT_parts HMY.out; omega, by
                rcases ha' with h0 | ⟨lb', h1, h2, h3, h4, h5⟩
                · exact .inl (by rw [ints_length]; exact h0)
                · cases h1
                  exact .inr ⟨lb, 0, rfl, h3, fun i hi => by
                    have := h5 i (by rwa [ints_length] at hi)
                    rw [Nat.zero_add, this]
                    simp [ints]⟩⟩ hLS.2 p k nd hpp HNDG.out (by rw [hpe]; exact hnn) (by simp only [hpe, hne]; exact HKL.out)
              simp only [hpe, hne] at key
              have : mvT t L p k = tmovOf t.init.length L p k tx.n.arcs[k] (footN t.props tx.n (px.l.getD (tx.n.arcs[k]).to.toNat default) tx.n.arcs[k]) := by
                have hgp : t.procs.getD p [] = px.l := by rw [List.getD_eq_getElem?_getD, HPXL.out]; rfl
                rw [mvT, HAT.out, HND.out, hgp]
                rfl
              rw [this]
              exact key
            have hxa := HTA.out wk HK2.out
            have x1 := hxa.c1
            have x2 := hxa.c2
            have x3 := hxa.c3
            clear hxa
            generalize tx.n.arcs[k] = a at *
            cases hte : a.test with
            | false =>
              have HOP : Hid (openT L (arcT t L p k) = true) := by show _ = _; rw [HAT.out, openT, hte]; rfl
              rw [hte] at x1
              clear hte
              go_upto_region 9 with fail
              go_quiet (fail)
              go_upto_region 10 with fail
              rename_i KC2 hKC2
              have HN9 := hid (nu_drewN' wk nq)
              generalize wk.drewN nq = w9 at *
              have HLN : Hid (pre2.length = (procsTo t L p ++ movesTo t L p k).length) := by show _ = _; rw [← HPM2.out, List.length_map]
              have HGT : Hid (((threadSem t).next st)[pre2.length]? = some (mvT t L p k)) := by
                show _ = _
                rw [HE.out, HLN.out]
                exact at_next HPL.out (by rw [HND.out]; exact HKL.out) HOP.out
              have HKN : Hid (∀ w', Nu wk w' → KeepF (fun b => F b ∨ b = b1 ∨ b = b2) W w') := fun w' hn => HK2.out.trans (hn.keep (fun b hb => ⟨Nat.lt_of_lt_of_le (HLT0.out b hb) HK2.out.1, id⟩))
              have c1 := cell_blk ((HKN.out _ HN9.out).2 b1 (.inr (.inl rfl)) |>.trans HB1.out) 0
              simp only [List.size_toArray, List.length_cons, List.length_nil, Nat.reduceAdd, Nat.lt_add_one, Nat.reduceLT, getElem?_pos, List.getElem_toArray, List.getElem_cons_zero, List.getElem_cons_succ, Nat.zero_lt_succ] at c1
              clear x1 x2 x3
              refine (wpIn_wide (n := n)).1 ?_
              refine wpIn_region ?_
              show wpOpsIn _ _ _ _ _ [0, 1, 2, 3, 4, 5, 6, 7] _ _
              refine ops_step rfl rfl (wpIn_of_op (lk_move rfl rfl rfl (fun u0 hu0 => ?_)))
              replace c1 := cell_mv hu0 c1 id
              replace hu0 := mv0 HN9.out hu0
              simp only [List.setIfInBounds_toArray, List.set_cons_succ, List.set_cons_zero]
              refine ops_step rfl rfl (wpIn_of_op (lk_loadX rfl rfl rfl c1 (fun u1 hu1 => ?_)))
              replace hu1 := mv0 hu0 hu1
              simp only [List.setIfInBounds_toArray, List.set_cons_succ, List.set_cons_zero]
              refine ops_step rfl rfl (wpIn_of_op (lk_move rfl rfl rfl (fun u2 hu2 => ?_)))
              replace hu2 := mv0 hu1 hu2
              simp only [List.setIfInBounds_toArray, List.set_cons_succ, List.set_cons_zero]
              refine ops_step rfl rfl (wpIn_of_op (lk_move rfl rfl rfl (fun u3 hu3 => ?_)))
              replace hu3 := mv0 hu2 hu3
              simp only [List.setIfInBounds_toArray, List.set_cons_succ, List.set_cons_zero]
              refine ops_step rfl rfl (wpIn_of_op (lk_move rfl rfl rfl (fun u4 hu4 => ?_)))
              replace hu4 := mv0 hu3 hu4
              simp only [List.setIfInBounds_toArray, List.set_cons_succ, List.set_cons_zero]
              clear hu0 hu1 hu2 hu3 c1
              refine ops_step rfl rfl (wpIn_of_op (lk_tmove rfl rfl rfl rfl rfl rfl (HMV.out u4 (HKN.out _ hu4) (HA2.out.nu hu4)) (fun u5 z hz hzm hzo => ?_)))
              simp only [List.setIfInBounds_toArray, List.set_cons_succ, List.set_cons_zero]
              have HU5 := hid (mv0 hu4 hz)
              have HZM := hid hzm
              have HWZ : Hid (W.heap.size ≤ u4.heap.size) := (HKN.out _ hu4).1
              have hzb : ∀ b, z.blk b → wk.heap.size ≤ b := fun b hb => Nat.le_trans hu4.size (hzo.ge hb).1
              have hOw : ∀ b, O2 b → b < wk.heap.size ∧ ¬ (F b ∨ b = b1 ∨ b = b2) := HOF.out _ _ _ HJ2.out
              have HZB := hid hzb
              have HOW := hid hOw
              refine ops_step rfl rfl (lk_yield (z := z) rfl rfl rfl rfl (HY.out pre2 z u5 O2 (HJ.out _ _ _ _ HJ2.out HU5.out) (HKN.out _ HU5.out).1 (by rw [hzm]; exact HGT.out) (hzo.mv (Mv.refl (fun _ => False) _) (fun _ _ => id) HWZ.out) (fun b hb ho => by have := hzb b hb; have := (hOw b ho).1; omega)) ?_)
              clear hu4 hz hzo hzb hOw hzm
              intro e W3 hE
              rcases hE with ⟨rfl, O', hJ3, hO', hmv⟩ | ⟨rfl, hJx3⟩
              · have HJ3 := hid hJ3
                have HK3 : Hid (KeepF (fun b => F b ∨ b = b1 ∨ b = b2) W W3) := (HKN.out _ HU5.out).trans (hmv.keep (fun b hb => ⟨Nat.lt_of_lt_of_le (HLT0.out b hb) (HKN.out _ HU5.out).1, fun ho => by
                  rcases ho with ho | ho
                  · exact (HOW.out b ho).2 hb
                  · have h1 := HZB.out b ho
                    have h2 := HLT0.out b hb
                    have h3 := HK2.out.1
                    omega⟩))
                have HA3 : Hid (AtI W.heap.size W3 O' (some ⟨lb, 0, none⟩) L) := (HA2.out).goes (S := fun b => z.blk b) (fun b hb => HZB.out b hb) (fun b hb => by
                  rcases hO' b hb with h | h | h
                  · exact .inl h
                  · exact .inr (.inl h)
                  · exact .inr (.inr (Nat.le_trans HU5.out.size h))) HU5.out hmv
                have HP3 : Hid ((pre2 ++ [z]).map X.m = procsTo t L p ++ movesTo t L p (k + 1)) := by
                  show _ = _
                  rw [List.map_append, HPM2.out, movesTo, HOP.out, if_pos rfl, List.append_assoc]
                  simp [HZM.out]
                clear hJ3 hmv hO'
                refine ⟨true, rfl, ?_⟩
                simp only [List.setIfInBounds_toArray, List.set_cons_succ, List.set_cons_zero]
                refine ops_step rfl rfl (wpIn_of_op (lk_not rfl rfl rfl (fun W4 h4 => ?_)))
                simp only [List.setIfInBounds_toArray, List.set_cons_succ, List.set_cons_zero]
                have HN4 := hid h4
                refine hKC2 _ _ ?_
                clear h4 hKC2
                go_wp2
                go_roundw
                case rel => exact ⟨k + 1, pre2 ++ [z], O', HKL.out, by go_num, HP3.out, HJ.out _ _ _ _ HJ3.out HN4.out, HK3.out.trans (HN4.out.keep (fun b hb => ⟨Nat.lt_of_lt_of_le (HLT0.out b hb) HK3.out.1, id⟩)), HA3.out.nu HN4.out⟩
                case measure => have := HKL.out; simp [intOf]; omega
              · have HJ3 := hid hJx3
                clear hJx3
                refine ⟨false, rfl, ?_⟩
                simp only [List.setIfInBounds_toArray, List.set_cons_succ, List.set_cons_zero]
                refine ops_step rfl rfl (wpIn_of_op (lk_not rfl rfl rfl (fun W4 h4 => ?_)))
                simp only [List.setIfInBounds_toArray, List.set_cons_succ, List.set_cons_zero]
                have HN4 := hid h4
                refine hKC2 _ _ ?_
                clear h4 hKC2
                go_wp2
                refine bodyPost_ret (results_none rfl _ _ _) rfl ?_
                exact ⟨⟨_, rfl⟩, .inr ⟨_, HJX.out _ _ _ HJ3.out HN4.out⟩⟩
            | true =>
              obtain ⟨hob1, -⟩ := taB_parts HTAB.out
              obtain ⟨ho1, ho2⟩ := hob1 hte
              obtain ⟨on, hon⟩ : ∃ on : Nat, a.object = (on : Int) := ⟨a.object.toNat, by omega⟩
              have honl : on < L.length := by have := HLS.out.1; omega
              have cl : wk.cell? ⟨lb, on, none⟩ = some (.int .i64 (L[on] : Int)) := by
                rcases HA2.out with h0 | ⟨lb', h1, h2, h3, h4, h5⟩
                · omega
                · cases h1
                  exact h5 on honl
              have hgd : L.getD a.object.toNat 0 = L[on] := by rw [hon, List.getD_eq_getElem?_getD, Int.toNat_natCast, List.getElem?_eq_getElem honl]; rfl
              rw [hte] at x1
              rw [hon] at x2
              have honl' : (on : Int) < (L.length : Int) := by omega
              generalize L[on] = lv at *
              by_cases hlv : (lv : Int) = a.value
              · have HOP : Hid (openT L (arcT t L p k) = true) := by show _ = _; rw [HAT.out, openT, hgd, decide_eq_true hlv, Bool.or_true]
                rw [← hlv] at x3
                clear hte hob1 ho1 ho2 hon hgd hlv honl
                go_upto_region 9 with fail
                go_quiet (fail)
                go_upto_region 10 with fail
                rename_i KC2 hKC2
                have HN9 := hid (nu_drewN' wk nq)
                generalize wk.drewN nq = w9 at *
                have HLN : Hid (pre2.length = (procsTo t L p ++ movesTo t L p k).length) := by show _ = _; rw [← HPM2.out, List.length_map]
                have HGT : Hid (((threadSem t).next st)[pre2.length]? = some (mvT t L p k)) := by
                  show _ = _
                  rw [HE.out, HLN.out]
                  exact at_next HPL.out (by rw [HND.out]; exact HKL.out) HOP.out
                have HKN : Hid (∀ w', Nu wk w' → KeepF (fun b => F b ∨ b = b1 ∨ b = b2) W w') := fun w' hn => HK2.out.trans (hn.keep (fun b hb => ⟨Nat.lt_of_lt_of_le (HLT0.out b hb) HK2.out.1, id⟩))
                have c1 := cell_blk ((HKN.out _ HN9.out).2 b1 (.inr (.inl rfl)) |>.trans HB1.out) 0
                simp only [List.size_toArray, List.length_cons, List.length_nil, Nat.reduceAdd, Nat.lt_add_one, Nat.reduceLT, getElem?_pos, List.getElem_toArray, List.getElem_cons_zero, List.getElem_cons_succ, Nat.zero_lt_succ] at c1
                clear x1 x2 x3
                refine (wpIn_wide (n := n)).1 ?_
                refine wpIn_region ?_
                show wpOpsIn _ _ _ _ _ [0, 1, 2, 3, 4, 5, 6, 7] _ _
                refine ops_step rfl rfl (wpIn_of_op (lk_move rfl rfl rfl (fun u0 hu0 => ?_)))
                replace c1 := cell_mv hu0 c1 id
                replace hu0 := mv0 HN9.out hu0
                simp only [List.setIfInBounds_toArray, List.set_cons_succ, List.set_cons_zero]
                refine ops_step rfl rfl (wpIn_of_op (lk_loadX rfl rfl rfl c1 (fun u1 hu1 => ?_)))
                replace hu1 := mv0 hu0 hu1
                simp only [List.setIfInBounds_toArray, List.set_cons_succ, List.set_cons_zero]
                refine ops_step rfl rfl (wpIn_of_op (lk_move rfl rfl rfl (fun u2 hu2 => ?_)))
                replace hu2 := mv0 hu1 hu2
                simp only [List.setIfInBounds_toArray, List.set_cons_succ, List.set_cons_zero]
                refine ops_step rfl rfl (wpIn_of_op (lk_move rfl rfl rfl (fun u3 hu3 => ?_)))
                replace hu3 := mv0 hu2 hu3
                simp only [List.setIfInBounds_toArray, List.set_cons_succ, List.set_cons_zero]
                refine ops_step rfl rfl (wpIn_of_op (lk_move rfl rfl rfl (fun u4 hu4 => ?_)))
                replace hu4 := mv0 hu3 hu4
                simp only [List.setIfInBounds_toArray, List.set_cons_succ, List.set_cons_zero]
                clear hu0 hu1 hu2 hu3 c1
                refine ops_step rfl rfl (wpIn_of_op (lk_tmove rfl rfl rfl rfl rfl rfl (HMV.out u4 (HKN.out _ hu4) (HA2.out.nu hu4)) (fun u5 z hz hzm hzo => ?_)))
                simp only [List.setIfInBounds_toArray, List.set_cons_succ, List.set_cons_zero]
                have HU5 := hid (mv0 hu4 hz)
                have HZM := hid hzm
                have HWZ : Hid (W.heap.size ≤ u4.heap.size) := (HKN.out _ hu4).1
                have hzb : ∀ b, z.blk b → wk.heap.size ≤ b := fun b hb => Nat.le_trans hu4.size (hzo.ge hb).1
                have hOw : ∀ b, O2 b → b < wk.heap.size ∧ ¬ (F b ∨ b = b1 ∨ b = b2) := HOF.out _ _ _ HJ2.out
                have HZB := hid hzb
                have HOW := hid hOw
                refine ops_step rfl rfl (lk_yield (z := z) rfl rfl rfl rfl (HY.out pre2 z u5 O2 (HJ.out _ _ _ _ HJ2.out HU5.out) (HKN.out _ HU5.out).1 (by rw [hzm]; exact HGT.out) (hzo.mv (Mv.refl (fun _ => False) _) (fun _ _ => id) HWZ.out) (fun b hb ho => by have := hzb b hb; have := (hOw b ho).1; omega)) ?_)
                clear hu4 hz hzo hzb hOw hzm
                intro e W3 hE
                rcases hE with ⟨rfl, O', hJ3, hO', hmv⟩ | ⟨rfl, hJx3⟩
                · have HJ3 := hid hJ3
                  have HK3 : Hid (KeepF (fun b => F b ∨ b = b1 ∨ b = b2) W W3) := (HKN.out _ HU5.out).trans (hmv.keep (fun b hb => ⟨Nat.lt_of_lt_of_le (HLT0.out b hb) (HKN.out _ HU5.out).1, fun ho => by
                    rcases ho with ho | ho
                    · exact (HOW.out b ho).2 hb
                    · have h1 := HZB.out b ho
                      have h2 := HLT0.out b hb
                      have h3 := HK2.out.1
                      omega⟩))
                  have HA3 : Hid (AtI W.heap.size W3 O' (some ⟨lb, 0, none⟩) L) := (HA2.out).goes (S := fun b => z.blk b) (fun b hb => HZB.out b hb) (fun b hb => by
                    rcases hO' b hb with h | h | h
                    · exact .inl h
                    · exact .inr (.inl h)
                    · exact .inr (.inr (Nat.le_trans HU5.out.size h))) HU5.out hmv
                  have HP3 : Hid ((pre2 ++ [z]).map X.m = procsTo t L p ++ movesTo t L p (k + 1)) := by
                    show _ = _
                    rw [List.map_append, HPM2.out, movesTo, HOP.out, if_pos rfl, List.append_assoc]
                    simp [HZM.out]
                  clear hJ3 hmv hO'
                  refine ⟨true, rfl, ?_⟩
                  simp only [List.setIfInBounds_toArray, List.set_cons_succ, List.set_cons_zero]
                  refine ops_step rfl rfl (wpIn_of_op (lk_not rfl rfl rfl (fun W4 h4 => ?_)))
                  simp only [List.setIfInBounds_toArray, List.set_cons_succ, List.set_cons_zero]
                  have HN4 := hid h4
                  refine hKC2 _ _ ?_
                  clear h4 hKC2
                  go_wp2
                  go_roundw
                  case rel => exact ⟨k + 1, pre2 ++ [z], O', HKL.out, by go_num, HP3.out, HJ.out _ _ _ _ HJ3.out HN4.out, HK3.out.trans (HN4.out.keep (fun b hb => ⟨Nat.lt_of_lt_of_le (HLT0.out b hb) HK3.out.1, id⟩)), HA3.out.nu HN4.out⟩
                  case measure => have := HKL.out; simp [intOf]; omega
                · have HJ3 := hid hJx3
                  clear hJx3
                  refine ⟨false, rfl, ?_⟩
                  simp only [List.setIfInBounds_toArray, List.set_cons_succ, List.set_cons_zero]
                  refine ops_step rfl rfl (wpIn_of_op (lk_not rfl rfl rfl (fun W4 h4 => ?_)))
                  simp only [List.setIfInBounds_toArray, List.set_cons_succ, List.set_cons_zero]
                  have HN4 := hid h4
                  refine hKC2 _ _ ?_
                  clear h4 hKC2
                  go_wp2
                  refine bodyPost_ret (results_none rfl _ _ _) rfl ?_
                  exact ⟨⟨_, rfl⟩, .inr ⟨_, HJX.out _ _ _ HJ3.out HN4.out⟩⟩
              · have HNO : Hid (openT L (arcT t L p k) = false) := by show _ = _; rw [HAT.out, openT, hte, hgd, decide_eq_false hlv]; rfl
                generalize a.value = av at *
                clear hte hob1 ho1 ho2 hon hgd honl
                go_upto_region 9 with fail
                go_quiet (fail)
                have HN9 := hid (nu_drewN' wk 21)
                go_wp2
                go_roundw
                case rel => exact ⟨k + 1, pre2, O2, HKL.out, by go_num, (by show _ = _; rw [movesTo, HNO.out]; simpa using HPM2.out), HJ.out _ _ _ _ HJ2.out (nu_drewN' _ _), HK2.out.trans ((nu_drewN' _ _).keep (fun b hb => ⟨Nat.lt_of_lt_of_le (HLT0.out b hb) HK2.out.1, id⟩)), HA2.out.nu (nu_drewN' _ _)⟩
                case measure => have := HKL.out; simp [intOf]; omega

end Go.Proofs.YtiinmaedmkgfoaaDoor
/-
  Raw processes as a system: the program's Next, and that what threadsOf makes is a system.
-/
set_option linter.unusedVariables false
set_option linter.unusedSimpArgs false
namespace Go.Proofs.YtiinmaedmkgfoaaDoor
open Go.RowKit

theorem enters_tBegin : Enters 87 := fun args w => by
  unfold callFunc
  simp [go_sem, Tryd.func87]
  rfl
theorem enters_tNext : Enters 92 := fun args w => by
  unfold callFunc
  simp [go_sem, Tryd.func92]
  rfl
theorem enters_tLook : Enters 91 := fun args w => by
  unfold callFunc
  simp [go_sem, Tryd.func91]
  rfl
theorem enters_tNext1 : Enters 98 := fun args w => by
  unfold callFunc
  simp [go_sem, Tryd.func98]
  rfl
theorem leads_tBegin (tb : Nat) : Leads 66 (.pointer (some ⟨tb, 0, none⟩)) "Begin" 87 (.pointer (some ⟨tb, 0, none⟩)) :=
  ⟨fun w => by kernel_rfl, enters_tBegin, fun w => by kernel_rfl⟩
theorem leads_tNext (tb : Nat) : Leads 66 (.pointer (some ⟨tb, 0, none⟩)) "Next" 92 (.pointer (some ⟨tb, 0, none⟩)) :=
  ⟨fun w => by kernel_rfl, enters_tNext, fun w => by kernel_rfl⟩
theorem leads_tLook (tb : Nat) : Leads 66 (.pointer (some ⟨tb, 0, none⟩)) "Look" 91 (.pointer (some ⟨tb, 0, none⟩)) :=
  ⟨fun w => by kernel_rfl, enters_tLook, fun w => by kernel_rfl⟩

set_option maxHeartbeats 1000000 in
theorem tNext_any (w : World) (F : Nat → Prop) (tb : Nat) (t : Thr) {ro : Option Addr} {rc : Nat} {fo : Option Addr} {fc : Nat} {po : Option Addr} {pc : Nat} {qo : Option Addr} {qc : Nat} {pxs : List PX} (h : TIs w F tb t ro rc fo fc po pc qo qc pxs) (hsm : TSm t pxs) (hT : TabAt 0 Lib.deBruijn64tab w) (hF0 : F 0) (hm : mayT t = true) (hF : ∀ b, F b → b < w.heap.size) (st : ByteArray) (hst : Short st) :
    Calls Tryd.prog 92 #[.pointer (some ⟨tb, 0, none⟩), .string st] w fun e w' => ∃ gf lb G, e = .returned (.func (.func gf) #[] lb) ∧ Nu w w' ∧ Enters gf ∧ (∀ b, G b → b < w'.heap.size ∧ (F b ∨ w.heap.size ≤ b)) ∧ ∀ n, 1 ≤ n → SeqN n gf lb G ((threadSem t).next st) w' := by
  have HG := hid h
  have HM := hid hm
  have HF := hid hF
  have HF0 := hid hF0
  have HT := hid hT
  have HSM := hid hsm
  have HST := hid hst
  clear h hm hF hst hF0 hT hsm
  go_enter Tryd.func92, Tryd.ntmps92
  go_wp2
  go_ret
  have hn1 : Nu w (w.alloc (.cells #[.pointer (some ⟨tb, 0, none⟩)] 66)) := Mv.alloc _ _ _
  have hb1 := heap_alloc_new w (.cells #[.pointer (some ⟨tb, 0, none⟩)] 66)
  have hz1 : (w.alloc (.cells #[.pointer (some ⟨tb, 0, none⟩)] 66)).heap.size = w.heap.size + 1 := World.size_alloc _ _
  generalize w.alloc (.cells #[.pointer (some ⟨tb, 0, none⟩)] 66) = w1 at *
  have hn2 : Nu w1 (w1.alloc (.cells #[.string st] 9)) := Mv.alloc _ _ _
  have hb2 := heap_alloc_new w1 (.cells #[.string st] 9)
  have hz2 : (w1.alloc (.cells #[.string st] 9)).heap.size = w1.heap.size + 1 := World.size_alloc _ _
  rw [hz1] at hb2
  generalize w1.alloc (.cells #[.string st] 9) = w2 at *
  have hk : KeepF F w w2 := (mv0 hn1 hn2).keep (fun b hb => ⟨HF.out b hb, id⟩)
  refine ⟨98, _, fun b => F b ∨ b = w.heap.size ∨ b = w.heap.size + 1, rfl, mv0 hn1 hn2, enters_tNext1, fun b hb => ?_, fun n hn => tseq_any n hn F tb w.heap.size (w.heap.size + 1) t st w2 (HG.out.keep hk) HSM.out (fun j hj => cell_keep hk HF0.out (HT.out j hj)) HF0.out (hn2.heap hb1 id) hb2 HM.out HST.out (fun b hb => Nat.lt_of_lt_of_le (HF.out b hb) hk.1)⟩
  rcases hb with hb | rfl | rfl
  · exact ⟨Nat.lt_of_lt_of_le (HF.out b hb) hk.1, .inl hb⟩
  · exact ⟨by omega, .inr (Nat.le_refl _)⟩
  · exact ⟨by omega, .inr (by omega)⟩

/-- Raw processes of the program's are a system. -/
theorem TIs.sys {w : World} {F : Nat → Prop} {tb : Nat} {t : Thr} {ro : Option Addr} {rc : Nat} {fo : Option Addr} {fc : Nat} {po : Option Addr} {pc : Nat} {qo : Option Addr} {qc : Nat} {pxs : List PX} (h : TIs w F tb t ro rc fo fc po pc qo qc pxs) (hsm : TSm t pxs) (hT : TabAt 0 Lib.deBruijn64tab w) (hF0 : F 0) (hm : mayT t = true) (hF : ∀ b, F b → b < w.heap.size) : SysAt F w 66 (.pointer (some ⟨tb, 0, none⟩)) (threadSem t) where
  lt := hF
  does := fun w' hk => {
    bg := ⟨_, _, leads_tBegin tb, tBegin_any w' F tb t (h.keep hk) hm (fun b hb => Nat.lt_of_lt_of_le (hF b hb) hk.1)⟩
    nx := ⟨_, _, leads_tNext tb, fun st hst => tNext_any w' F tb t (h.keep hk) hsm (fun j hj => cell_keep hk hF0 (hT j hj)) hF0 hm (fun b hb => Nat.lt_of_lt_of_le (hF b hb) hk.1) st hst⟩
    lk := ⟨_, _, leads_tLook tb, fun st hst => tLook_any w' F tb t (h.keep hk) hm (fun b hb => Nat.lt_of_lt_of_le (hF b hb) hk.1) st hst⟩ }

end Go.Proofs.YtiinmaedmkgfoaaDoor
/-
  Raw processes of the program's while they are made: rows of processes as cells, Clone of numbers, what is known on the way.
-/
set_option linter.unusedVariables false
set_option linter.unusedSimpArgs false
namespace Go.Proofs.YtiinmaedmkgfoaaDoor
open Go.RowKit

set_option maxHeartbeats 2000000 in
set_option maxRecDepth 100000 in
/-- A copy of numbers: a row of one's own. -/
theorem CloneR_any (w : World) (B : Nat) (ao : Option Addr) (cap : Nat) (xs : List Int) (h : IntsAt w B ao xs) : Calls Tryd.prog 42 #[.slice ao xs.length cap] w fun e w' => Nu w w' ∧ ∃ ao' cap', e = .returned (.slice ao' xs.length cap') ∧ w'.ownsRow w.heap.size 3 1 (.slice ao' xs.length cap') xs.length (xs.map (Value.int .i64)) := by
  have hlim := h.lim
  have HR : Hid _ := h.row
  clear h
  have q22 : ∀ (w : World) (a : Option Addr) (n c n' c' : Nat), (binOp .eql 22 (.slice a n c) (.slice none n' c')).run Tryd.prog w = .ok (.bool a.isNone) w := fun w a n c n' c' => Lib.run_eql_slice_nil w _ _ a n c n' c' Tryd.underlying22
  cases ao with
  | none =>
    have hl : xs = [] := by
      rcases HR.out with h0 | ⟨b, off, h0, _⟩
      · exact List.length_eq_zero_iff.1 h0
      · cases h0
    subst hl
    go_enter Tryd.func42, Tryd.ntmps42
    go_wp2
    go_ret
    exact ⟨Mv.refl _ _, none, 0, rfl, rfl, .inl ⟨rfl, rfl⟩⟩
  | some a =>
    obtain ⟨i0, hi, hz0, hz1, hz2⟩ := info_parts c_infoInt
    go_enter Tryd.func42, Tryd.ntmps42
    go_wp2_with (at_builtin; refine wpList_append_own _ rfl _ _ 22 rfl w.heap.size 3 i0 (.int .i64 0) 1 8 Tryd.underlying22 hi hz0 hz1 hz2 rfl (by decide) _ _ _ rfl (World.ownsRow_made w #[] 0 (Nat.le_refl _) (Nat.zero_le _) rfl) a xs.length cap (xs.map (Value.int .i64)) rfl ?qc1 ?qc2 ?qc3 ?qc4 ?qc5 ?qc6 ?_)
    case qc1 => simp
    case qc2 =>
      intro j u hj
      rw [List.getElem?_map] at hj
      obtain ⟨x, hx, rfl⟩ := Option.map_eq_some_iff.1 hj
      obtain ⟨hlt, rfl⟩ := List.getElem?_eq_some_iff.1 hx
      rcases HR.out with h0 | ⟨b, off, h0, _, hit⟩
      · omega
      · cases h0
        rw [Addr.add_lit]
        exact Lib.cell?_alloc_some _ (hit j hlt)
    case qc3 => intro u hu; obtain ⟨x, _, rfl⟩ := List.mem_map.1 hu; rfl
    case qc4 => unfold maxLen; omega
    case qc5 => omega
    case qc6 => simp
    intro v' w1 hown hgrow hnil
    go_wp2
    go_ret
    have hb : Below w.heap.size w w1 := ((Below.refl _ w).alloc (Nat.le_refl _) _).grown hgrow (by simp) (by intro k hk; simp [Value.ownBlock] at hk; omega)
    refine ⟨Nu.of_below hb, ?_⟩
    rcases hown.2 with ⟨hv, hn⟩ | ⟨g, cap', cur, hv, hg, hblk, hle, hmax, hsz, hcur⟩
    · exact absurd hv hnil
    · subst hv
      exact ⟨_, _, rfl, hown⟩

def pxflat : List PX → List Value
  | [] => []
  | s :: r => s.cells ++ pxflat r
theorem pxflat_append (a b : List PX) : pxflat (a ++ b) = pxflat a ++ pxflat b := by
  induction a with
  | nil => rfl
  | cons s r ih => rw [List.cons_append, pxflat, pxflat, ih, List.append_assoc]
theorem pxflat_length (l : List PX) : (pxflat l).length = l.length * 4 := by
  induction l with
  | nil => rfl
  | cons s r ih => rw [pxflat, List.length_append, ih, List.length_cons]; simp [PX.cells]; omega
theorem pxflat_get : ∀ (l : List PX) (i : Nat) (h : i < l.length) (k : Nat), k < 4 → (pxflat l)[i * 4 + k]? = (l[i].cells)[k]?
  | s :: r, 0, h, k, hk => by
    rw [pxflat, Nat.zero_mul, Nat.zero_add, List.getElem?_append_left (by simpa [PX.cells] using hk)]
    rfl
  | s :: r, i + 1, h, k, hk => by
    have h' : i < r.length := by simpa using h
    rw [pxflat, List.getElem?_append_right (by simp [PX.cells]; omega), show (i + 1) * 4 + k - s.cells.length = i * 4 + k by simp [PX.cells]; omega, pxflat_get r i h' k hk]
    rfl
theorem pxrow_at {w : World} {B g : Nat} {v : Value} {l : List PX} (h : w.ownsRow B 120 4 v l.length (pxflat l)) (hv : v.ownBlock = some g) (i : Nat) (hi : i < l.length) : PXAt w g (i * 4) l[i] := by
  have hc : ∀ k v', k < 4 → (l[i].cells)[k]? = some v' → w.cell? ⟨g, i * 4 + k, none⟩ = some v' := fun k v' hk hv' => by
    have := h.cells hv (i * 4 + k) v' (by rw [pxflat_get l i hi k hk]; exact hv')
    rwa [add_block] at this
  exact ⟨hc 0 _ (by omega) rfl, hc 1 _ (by omega) rfl, hc 2 _ (by omega) rfl, hc 3 _ (by omega) rfl⟩
theorem c_info_px : (Tryd.prog.info? 120).map (fun i => (i.zero, i.size, i.bytes)) = some (some (.agg #[.slice none 0 0, .slice none 0 0, .slice none 0 0, .slice none 0 0]), 4, 96) := by kernel_rfl

theorem FRZ.more {A : World} {Z Z' : Nat → Prop} {x : FR} (h : FRZ A Z x) (hZ : ∀ b, Z b → Z' b) : FRZ A Z' x := h.mv (Mv.refl (fun _ => False) A) (fun _ _ => id) hZ
theorem PIs.more {W : World} {F F' : Nat → Prop} {p : PX} (h : PIs W F p) (hF : ∀ b, F b → F' b) : PIs W F' p :=
  ⟨h.eq, hF _ h.ng, h.nat, fun x hx => (h.arcs x hx).imp id fun ⟨g, h1, h2, h3⟩ => ⟨g, h1, hF _ h2, h3⟩, hF _ h.fa, hF _ h.fh, hF _ h.fe, h.av, h.hs, h.es, h.al, h.hl, h.el, h.rl, fun j hj => ⟨(h.st j hj).1, (h.st j hj).2.more hF⟩⟩

/-- What is known while raw processes are copied. -/
structure XI (H : Nat) (W : World) (xb : Nat) (rv fv pv qv : Value) (rs fs : List Int) (ps : List (Int × Int)) (pxs : List PX) (Z : Nat → Prop) : Prop where
  blk : W.heap[xb]? = some (.cells #[rv, fv, pv, qv] 111 (0, 0))
  hx : H ≤ xb
  row : W.ownsRow H 3 1 rv rs.length (rs.map (Value.int .i64))
  first : W.ownsRow H 3 1 fv fs.length (fs.map (Value.int .i64))
  props : W.ownsRow H 70 2 pv ps.length (tpflat ps)
  procs : W.ownsRow H 120 4 qv pxs.length (pxflat pxs)
  rf : ∀ b, rv.ownBlock = some b → ¬ fv.ownBlock = some b
  zr : ∀ b, Z b → H ≤ b ∧ b < W.heap.size ∧ b ≠ xb ∧ ¬ rv.ownBlock = some b ∧ ¬ fv.ownBlock = some b ∧ ¬ qv.ownBlock = some b
  pis : ∀ x ∈ pxs, PIs W Z x

theorem blk_ty {W : World} {b : Nat} {c c' : Array Value} {t t' : TypeId} (h : W.heap[b]? = some (.cells c t (0, 0))) (h' : W.heap[b]? = some (.cells c' t' (0, 0))) (ht : t ≠ t') : False := by
  rw [h] at h'
  simp only [Option.some.injEq, Obj.cells.injEq] at h'
  exact ht h'.2.1
theorem row_far {W : World} {B B' size size' n n' : Nat} {e e' : TypeId} {v v' : Value} {xs xs' : List Value} (h : W.ownsRow B e size v n xs) (h' : W.ownsRow B' e' size' v' n' xs') (ht : e ≠ e') : ∀ b, v.ownBlock = some b → ¬ v'.ownBlock = some b := fun b hb hb' => by
  obtain ⟨_, _, c, hc⟩ := row_blk h hb
  obtain ⟨_, _, c', hc'⟩ := row_blk h' hb'
  exact blk_ty hc hc' ht
theorem row_off {W : World} {B size n x : Nat} {e t : TypeId} {v : Value} {xs : List Value} {c : Array Value} (h : W.ownsRow B e size v n xs) (hx : W.heap[x]? = some (.cells c t (0, 0))) (ht : e ≠ t) : ∀ b, v.ownBlock = some b → b ≠ x := fun b hb he => by
  obtain ⟨_, _, c', hc⟩ := row_blk h hb
  rw [he] at hc
  exact blk_ty hc hx ht

section
variable {H : Nat} {W : World} {xb : Nat} {rv fv pv qv : Value} {rs fs : List Int} {ps : List (Int × Int)} {pxs : List PX} {Z : Nat → Prop}

theorem XI.nu (h : XI H W xb rv fv pv qv rs fs ps pxs Z) {W' : World} (hn : Nu W W') : XI H W' xb rv fv pv qv rs fs ps pxs Z :=
  ⟨hn.heap h.blk id, h.hx, row_mv hn h.row (fun _ _ => id), row_mv hn h.first (fun _ _ => id), row_mv hn h.props (fun _ _ => id), row_mv hn h.procs (fun _ _ => id), h.rf, fun b hb => ⟨(h.zr b hb).1, Nat.lt_of_lt_of_le (h.zr b hb).2.1 hn.size, (h.zr b hb).2.2⟩, fun x hx => (h.pis x hx).keep (hn.keep (fun b hb => ⟨(h.zr b hb).2.1, id⟩))⟩

theorem XI.pushR {ro : Option Addr} {rc : Nat} (h : XI H W xb (.slice ro rs.length rc) fv pv qv rs fs ps pxs Z) {w5 : World} (hm : Mv (fun y => (Value.slice ro rs.length rc).ownBlock = some y) W w5) {g5 cap5 : Nat} {v : Int}
    (hr : w5.ownsRow H 3 1 (.slice (some ⟨g5, 0, none⟩) (rs.length + 1) cap5) (rs.length + 1) (rs.map (Value.int .i64) ++ [.int .i64 v])) (hg : (Value.slice ro rs.length rc).ownBlock = some g5 ∨ W.heap.size ≤ g5) :
    XI H (w5.setCell ⟨xb, 0, none⟩ (.slice (some ⟨g5, 0, none⟩) (rs.length + 1) cap5)) xb (.slice (some ⟨g5, 0, none⟩) (rs ++ [v]).length cap5) fv pv qv (rs ++ [v]) fs ps pxs Z ∧ Mv (fun y => H ≤ y) W (w5.setCell ⟨xb, 0, none⟩ (.slice (some ⟨g5, 0, none⟩) (rs.length + 1) cap5)) := by
  have hl : (rs ++ [v]).length = rs.length + 1 := by simp
  have hxn : ¬ (Value.slice ro rs.length rc).ownBlock = some xb := fun e => row_off h.row h.blk (by decide) _ e rfl
  have hb5 := hm.heap h.blk hxn
  have hm7 : Mv (fun y => (Value.slice ro rs.length rc).ownBlock = some y ∨ y = xb) W (w5.setCell ⟨xb, 0, none⟩ (.slice (some ⟨g5, 0, none⟩) (rs.length + 1) cap5)) := (hm.mono (fun y hy => .inl (.inl hy))).trans (Mv.setCell w5 ⟨xb, 0, none⟩ _) (fun y hy => .inl (.inr hy))
  refine ⟨⟨by rw [hl]; exact setCell_blk hb5, h.hx, ?_, row_mv hm7 h.first (fun k hk e => ?_), row_mv hm7 h.props (fun k hk e => ?_), row_mv hm7 h.procs (fun k hk e => ?_), fun b hb => ?_, fun b hb => ?_, fun x hx => ?_⟩, hm7.mono (fun y hy => .inl ?_)⟩
  · rw [hl, List.map_append]
    exact row_mv (Mv.setCell w5 ⟨xb, 0, none⟩ _) hr (fun k hk e => row_off hr hb5 (by decide) k hk e)
  · rcases e with e | e
    · exact h.rf _ e hk
    · exact row_off h.first h.blk (by decide) _ hk e
  · rcases e with e | e
    · exact row_far h.row h.props (by decide) _ e hk
    · exact row_off h.props h.blk (by decide) _ hk e
  · rcases e with e | e
    · exact row_far h.row h.procs (by decide) _ e hk
    · exact row_off h.procs h.blk (by decide) _ hk e
  · simp only [Value.ownBlock, Option.some.injEq] at hb
    subst hb
    rcases hg with hg | hg
    · exact h.rf _ hg
    · intro e
      have := (row_blk h.first e).2.1
      omega
  · obtain ⟨h1, h2, h3, h4, h5, h6⟩ := h.zr b hb
    refine ⟨h1, Nat.lt_of_lt_of_le h2 hm7.size, h3, fun e => ?_, h5, h6⟩
    simp only [Value.ownBlock, Option.some.injEq] at e
    subst e
    rcases hg with hg | hg
    · exact h4 hg
    · omega
  · exact (h.pis x hx).keep (hm7.keep (fun b hb => ⟨(h.zr b hb).2.1, fun e => e.elim (h.zr b hb).2.2.2.1 (h.zr b hb).2.2.1⟩))
  · rcases hy with hy | rfl
    · exact (row_blk h.row hy).1
    · exact h.hx

theorem XI.pushF {fo : Option Addr} {fc : Nat} (h : XI H W xb rv (.slice fo fs.length fc) pv qv rs fs ps pxs Z) {w5 : World} (hm : Mv (fun y => (Value.slice fo fs.length fc).ownBlock = some y) W w5) {g5 cap5 : Nat} {v : Int}
    (hr : w5.ownsRow H 3 1 (.slice (some ⟨g5, 0, none⟩) (fs.length + 1) cap5) (fs.length + 1) (fs.map (Value.int .i64) ++ [.int .i64 v])) (hg : (Value.slice fo fs.length fc).ownBlock = some g5 ∨ W.heap.size ≤ g5) :
    XI H (w5.setCell ⟨xb, 1, none⟩ (.slice (some ⟨g5, 0, none⟩) (fs.length + 1) cap5)) xb rv (.slice (some ⟨g5, 0, none⟩) (fs ++ [v]).length cap5) pv qv rs (fs ++ [v]) ps pxs Z ∧ Mv (fun y => H ≤ y) W (w5.setCell ⟨xb, 1, none⟩ (.slice (some ⟨g5, 0, none⟩) (fs.length + 1) cap5)) := by
  have hl : (fs ++ [v]).length = fs.length + 1 := by simp
  have hxn : ¬ (Value.slice fo fs.length fc).ownBlock = some xb := fun e => row_off h.first h.blk (by decide) _ e rfl
  have hb5 := hm.heap h.blk hxn
  have hm7 : Mv (fun y => (Value.slice fo fs.length fc).ownBlock = some y ∨ y = xb) W (w5.setCell ⟨xb, 1, none⟩ (.slice (some ⟨g5, 0, none⟩) (fs.length + 1) cap5)) := (hm.mono (fun y hy => .inl (.inl hy))).trans (Mv.setCell w5 ⟨xb, 1, none⟩ _) (fun y hy => .inl (.inr hy))
  refine ⟨⟨by rw [hl]; exact setCell_blk hb5, h.hx, row_mv hm7 h.row (fun k hk e => ?_), ?_, row_mv hm7 h.props (fun k hk e => ?_), row_mv hm7 h.procs (fun k hk e => ?_), fun b hb => ?_, fun b hb => ?_, fun x hx => ?_⟩, hm7.mono (fun y hy => .inl ?_)⟩
  · rcases e with e | e
    · exact h.rf _ hk e
    · exact row_off h.row h.blk (by decide) _ hk e
  · rw [hl, List.map_append]
    exact row_mv (Mv.setCell w5 ⟨xb, 1, none⟩ _) hr (fun k hk e => row_off hr hb5 (by decide) k hk e)
  · rcases e with e | e
    · exact row_far h.first h.props (by decide) _ e hk
    · exact row_off h.props h.blk (by decide) _ hk e
  · rcases e with e | e
    · exact row_far h.first h.procs (by decide) _ e hk
    · exact row_off h.procs h.blk (by decide) _ hk e
  · intro e
    simp only [Value.ownBlock, Option.some.injEq] at e
    subst e
    rcases hg with hg | hg
    · exact h.rf _ hb hg
    · have := (row_blk h.row hb).2.1
      omega
  · obtain ⟨h1, h2, h3, h4, h5, h6⟩ := h.zr b hb
    refine ⟨h1, Nat.lt_of_lt_of_le h2 hm7.size, h3, h4, fun e => ?_, h6⟩
    simp only [Value.ownBlock, Option.some.injEq] at e
    subst e
    rcases hg with hg | hg
    · exact h5 hg
    · omega
  · exact (h.pis x hx).keep (hm7.keep (fun b hb => ⟨(h.zr b hb).2.1, fun e => e.elim (h.zr b hb).2.2.2.2.1 (h.zr b hb).2.2.1⟩))
  · rcases hy with hy | rfl
    · exact (row_blk h.first hy).1
    · exact h.hx

theorem XI.pushQ {qo : Option Addr} {qc : Nat} {V : World} (hV : XI H V xb rv fv pv (.slice qo pxs.length qc) rs fs ps pxs Z) (hn : Nu V W) {w5 : World} (hm : Mv (fun y => (Value.slice qo pxs.length qc).ownBlock = some y) W w5) {g5 cap5 : Nat} {x : PX}
    (hr : w5.ownsRow H 120 4 (.slice (some ⟨g5, 0, none⟩) (pxs.length + 1) cap5) (pxs.length + 1) (pxflat pxs ++ x.cells)) (hg : (Value.slice qo pxs.length qc).ownBlock = some g5 ∨ W.heap.size ≤ g5) (hp : PIs W (fun b => V.heap.size ≤ b ∧ b < W.heap.size) x) (hH : H ≤ V.heap.size) :
    XI H (w5.setCell ⟨xb, 3, none⟩ (.slice (some ⟨g5, 0, none⟩) (pxs.length + 1) cap5)) xb rv fv pv (.slice (some ⟨g5, 0, none⟩) (pxs ++ [x]).length cap5) rs fs ps (pxs ++ [x]) (fun b => Z b ∨ (V.heap.size ≤ b ∧ b < W.heap.size)) ∧ Mv (fun y => H ≤ y) W (w5.setCell ⟨xb, 3, none⟩ (.slice (some ⟨g5, 0, none⟩) (pxs.length + 1) cap5)) := by
  have h := hV.nu hn
  have hl : (pxs ++ [x]).length = pxs.length + 1 := by simp
  have hxn : ¬ (Value.slice qo pxs.length qc).ownBlock = some xb := fun e => row_off h.procs h.blk (by decide) _ e rfl
  have hb5 := hm.heap h.blk hxn
  have hm7 : Mv (fun y => (Value.slice qo pxs.length qc).ownBlock = some y ∨ y = xb) W (w5.setCell ⟨xb, 3, none⟩ (.slice (some ⟨g5, 0, none⟩) (pxs.length + 1) cap5)) := (hm.mono (fun y hy => .inl (.inl hy))).trans (Mv.setCell w5 ⟨xb, 3, none⟩ _) (fun y hy => .inl (.inr hy))
  have hzz : ∀ b, (Z b ∨ (V.heap.size ≤ b ∧ b < W.heap.size)) → H ≤ b ∧ b < W.heap.size ∧ b ≠ xb ∧ ¬ rv.ownBlock = some b ∧ ¬ fv.ownBlock = some b ∧ ¬ (Value.slice qo pxs.length qc).ownBlock = some b := fun b hb => by
    rcases hb with hb | ⟨h1, h2⟩
    · exact h.zr b hb
    · refine ⟨by omega, h2, fun e => ?_, fun e => ?_, fun e => ?_, fun e => ?_⟩
      · have := lt_of_block hV.blk; omega
      · have := (row_blk hV.row e).2.1; omega
      · have := (row_blk hV.first e).2.1; omega
      · have := (row_blk hV.procs e).2.1; omega
  refine ⟨⟨by rw [hl]; exact setCell_blk hb5, h.hx, row_mv hm7 h.row (fun k hk e => ?_), row_mv hm7 h.first (fun k hk e => ?_), row_mv hm7 h.props (fun k hk e => ?_), ?_, h.rf, fun b hb => ?_, fun y hy => ?_⟩, hm7.mono (fun y hy => .inl ?_)⟩
  · rcases e with e | e
    · exact row_far h.procs h.row (by decide) _ e hk
    · exact row_off h.row h.blk (by decide) _ hk e
  · rcases e with e | e
    · exact row_far h.procs h.first (by decide) _ e hk
    · exact row_off h.first h.blk (by decide) _ hk e
  · rcases e with e | e
    · exact row_far h.procs h.props (by decide) _ e hk
    · exact row_off h.props h.blk (by decide) _ hk e
  · rw [hl, pxflat_append]
    simp only [pxflat, List.append_nil]
    exact row_mv (Mv.setCell w5 ⟨xb, 3, none⟩ _) hr (fun k hk e => row_off hr hb5 (by decide) k hk e)
  · obtain ⟨h1, h2, h3, h4, h5, h6⟩ := hzz b hb
    refine ⟨h1, Nat.lt_of_lt_of_le h2 hm7.size, h3, h4, h5, fun e => ?_⟩
    simp only [Value.ownBlock, Option.some.injEq] at e
    subst e
    rcases hg with hg | hg
    · exact h6 hg
    · omega
  · have hkk : KeepF (fun b => Z b ∨ (V.heap.size ≤ b ∧ b < W.heap.size)) W (w5.setCell ⟨xb, 3, none⟩ (.slice (some ⟨g5, 0, none⟩) (pxs.length + 1) cap5)) := hm7.keep (fun b hb => ⟨(hzz b hb).2.1, fun e => e.elim (hzz b hb).2.2.2.2.2 (hzz b hb).2.2.1⟩)
    rcases List.mem_append.1 hy with hy | hy
    · exact ((h.pis y hy).more (fun b hb => .inl hb)).keep hkk
    · rw [List.mem_singleton] at hy
      subst hy
      exact (hp.more (fun b hb => .inr hb)).keep hkk
  · rcases hy with hy | rfl
    · exact (row_blk h.procs hy).1
    · exact h.hx
end

theorem ints_of_row {W : World} {H : Nat} {F : Nat → Prop} {ao : Option Addr} {cap : Nat} {xs : List Int} (h : W.ownsRow H 3 1 (.slice ao xs.length cap) xs.length (xs.map (Value.int .i64))) (hl : (xs.length : Int) ≤ 17592186044416) (hF : ∀ b, H ≤ b → b < W.heap.size → F b) : IntsZ W F ao xs := by
  refine ⟨hl, ?_⟩
  rcases h.2 with ⟨hv, hn⟩ | ⟨g, cap', cur, hv, hg, hblk, _⟩
  · exact .inl hn
  · have hv' := hv
    simp only [Value.slice.injEq] at hv'
    obtain ⟨rfl, _, _⟩ := hv'
    refine .inr ⟨g, 0, rfl, hF g hg (lt_of_block hblk), fun i hi => ?_⟩
    have := h.cells (g := g) rfl i (.int .i64 xs[i]) (by rw [List.getElem?_map, List.getElem?_eq_getElem hi]; rfl)
    rw [add_block] at this
    rw [Nat.zero_add]
    exact this

/-- Raw processes behind their making. -/
theorem XI.tis {H : Nat} {W : World} {xb : Nat} {t : Thr} {ro fo po qo : Option Addr} {rc fc pc qc : Nat} {pxs : List PX} {Z : Nat → Prop} {F : Nat → Prop} (h : XI H W xb (.slice ro (ints (boundsN t)).length rc) (.slice fo (ints (firstN t)).length fc) (.slice po t.props.length pc) (.slice qo pxs.length qc) (ints (boundsN t)) (ints (firstN t)) t.props pxs Z) (he : pxs.map PX.l = t.procs) (hm : mayT t = true) (hF : ∀ b, H ≤ b → b < W.heap.size → F b) : TIs W F xb t ro rc fo fc po pc qo qc pxs := by
  obtain ⟨h16, h8, _⟩ := mayT_parts hm
  have hpl : pxs.length = t.procs.length := by rw [← he, List.length_map]
  have hr : (ints (boundsN t)).length = t.init.length + t.procs.length := by rw [ints_length, boundsN_len]
  have hf : (ints (firstN t)).length = t.init.length + t.procs.length := by rw [ints_length, firstN_len]
  refine ⟨hF _ h.hx (lt_of_block h.blk), ?_, ints_of_row h.row (by omega) hF, ints_of_row h.first (by omega) hF, ?_, he, ?_, fun p hp => (h.pis p hp).more (fun b hb => hF b (h.zr b hb).1 (h.zr b hb).2.1)⟩
  · rw [h.blk, hr, hf, hpl]
  · rcases h.props.2 with ⟨_, hn⟩ | ⟨g, cap', cur, hv, hg, hblk, _⟩
    · exact .inl hn
    · have hv' := hv
      simp only [Value.slice.injEq] at hv'
      obtain ⟨rfl, _, _⟩ := hv'
      exact .inr ⟨g, rfl, hF g hg (lt_of_block hblk), fun i hi => tprow_at h.props rfl i hi⟩
  · rcases h.procs.2 with ⟨_, hn⟩ | ⟨g, cap', cur, hv, hg, hblk, _⟩
    · exact .inl (by omega)
    · have hv' := hv
      simp only [Value.slice.injEq] at hv'
      obtain ⟨rfl, _, _⟩ := hv'
      exact .inr ⟨g, rfl, hF g hg (lt_of_block hblk), fun p hp => pxrow_at h.procs rfl p hp⟩

end Go.Proofs.YtiinmaedmkgfoaaDoor
