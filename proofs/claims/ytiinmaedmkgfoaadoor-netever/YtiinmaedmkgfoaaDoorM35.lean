/-
  NSeq, NOf.
-/
import Derived.Test.YtiinmaedmkgfoaaDoorM19
import Derived.Test.YtiinmaedmkgfoaaDoorM34
/-
  A graph's moves, one by one: the program's Next and what it hands back.
-/
set_option linter.unusedVariables false
set_option linter.unusedSimpArgs false
namespace Go.Proofs.YtiinmaedmkgfoaaDoor
open Go.RowKit

section
variable {o : Oper} {a : Act} {w : World} {K : Act → World → Prop} {Q : Exit → Act → World → Prop} {d : Nat}

theorem lk_idxAo {s r g f n i c : Nat} (hi : i < n) (hd : o.dst = some d) (ho : o.op = .indexAddr 123 (.tmp s) (.tmp r)) (hs : a.tmps[s]? = some (.slice (some ⟨g, f, none⟩) n c)) (hr : a.tmps[r]? = some (.int .i64 (i : Int))) (hK : ∀ w', Nu w w' → K ⟨a.tmps.setIfInBounds d (.pointer (some ⟨g, f + i * 6, none⟩)), a.defers⟩ w') : Oper.wp Tryd.prog o a w K Q := by
  have hes : a.eval (.tmp s) = .slice (some ⟨g, f, none⟩) n c := by simp [Act.eval, hs]
  have her : a.eval (.tmp r) = .int .i64 (i : Int) := by simp [Act.eval, hr]
  have hi' : (i : Int) < (n : Int) := by omega
  unfold Oper.wp execOp
  simp only [ho, hd]
  go_simp
  exact hK w (Mv.refl _ _)
theorem lk_loadG {s b f : Nat} {v : Value} (hd : o.dst = some d) (ho : o.op = .load 97 (.tmp s)) (hs : a.tmps[s]? = some (.pointer (some ⟨b, f, none⟩))) (h0 : w.cell? ⟨b, f, none⟩ = some v) (hK : ∀ w', Nu w w' → K ⟨a.tmps.setIfInBounds d v, a.defers⟩ w') : Oper.wp Tryd.prog o a w K Q := by
  have he : a.eval (.tmp s) = .pointer (some ⟨b, f, none⟩) := by simp [Act.eval, hs]
  unfold Oper.wp execOp
  simp only [ho, he, hd]
  go_simp
  exact hK w (Mv.refl _ _)
theorem lk_loadR {s b f : Nat} {v : Value} (hd : o.dst = some d) (ho : o.op = .load 108 (.tmp s)) (hs : a.tmps[s]? = some (.pointer (some ⟨b, f, none⟩))) (h0 : w.cell? ⟨b, f, none⟩ = some v) (hK : ∀ w', Nu w w' → K ⟨a.tmps.setIfInBounds d v, a.defers⟩ w') : Oper.wp Tryd.prog o a w K Q := by
  have he : a.eval (.tmp s) = .pointer (some ⟨b, f, none⟩) := by simp [Act.eval, hs]
  unfold Oper.wp execOp
  simp only [ho, he, hd]
  go_simp
  exact hK w (Mv.refl _ _)
theorem lk_loadS {s b f : Nat} {v : Value} (hd : o.dst = some d) (ho : o.op = .load 9 (.tmp s)) (hs : a.tmps[s]? = some (.pointer (some ⟨b, f, none⟩))) (h0 : w.cell? ⟨b, f, none⟩ = some v) (hK : ∀ w', Nu w w' → K ⟨a.tmps.setIfInBounds d v, a.defers⟩ w') : Oper.wp Tryd.prog o a w K Q := by
  have he : a.eval (.tmp s) = .pointer (some ⟨b, f, none⟩) := by simp [Act.eval, hs]
  unfold Oper.wp execOp
  simp only [ho, he, hd]
  go_simp
  exact hK w (Mv.refl _ _)
theorem lk_fieldG0 {s b : Nat} (hd : o.dst = some d) (ho : o.op = .fieldAddr 141 (.tmp s) 0) (hs : a.tmps[s]? = some (.pointer (some ⟨b, 0, none⟩))) (hK : ∀ w', Nu w w' → K ⟨a.tmps.setIfInBounds d (.pointer (some ⟨b, 0, none⟩)), a.defers⟩ w') : Oper.wp Tryd.prog o a w K Q := by
  have he : a.eval (.tmp s) = .pointer (some ⟨b, 0, none⟩) := by simp [Act.eval, hs]
  unfold Oper.wp execOp
  simp only [ho, he, hd]
  go_simp
  exact hK w (Mv.refl _ _)
theorem lk_ext0 {s : Nat} {v u : Value} (hd : o.dst = some d) (ho : o.op = .extract (.tmp s) 0) (hs : a.tmps[s]? = some (.tuple #[v, u])) (hK : ∀ w', Nu w w' → K ⟨a.tmps.setIfInBounds d v, a.defers⟩ w') : Oper.wp Tryd.prog o a w K Q := by
  have he : a.eval (.tmp s) = .tuple #[v, u] := by simp [Act.eval, hs]
  unfold Oper.wp execOp
  simp only [ho, he, hd]
  go_simp
  exact hK w (Mv.refl _ _)
theorem lk_ext1 {s : Nat} {v u : Value} (hd : o.dst = some d) (ho : o.op = .extract (.tmp s) 1) (hs : a.tmps[s]? = some (.tuple #[v, u])) (hK : ∀ w', Nu w w' → K ⟨a.tmps.setIfInBounds d u, a.defers⟩ w') : Oper.wp Tryd.prog o a w K Q := by
  have he : a.eval (.tmp s) = .tuple #[v, u] := by simp [Act.eval, hs]
  unfold Oper.wp execOp
  simp only [ho, he, hd]
  go_simp
  exact hK w (Mv.refl _ _)
theorem lk_nums {s r B cap : Nat} {ao : Option Addr} {bs : List Nat} {st : ByteArray} (hd : o.dst = some d) (ho : o.op = .call { callee := .value (.func 96), args := #[.tmp s, .tmp r], argTypes := #[108, 9] }) (hs : a.tmps[s]? = some (.slice ao bs.length cap)) (hr : a.tmps[r]? = some (.string st)) (hx : IntsAt w B ao (ints bs)) (hb : ∀ n ∈ bs, n ≤ 20000) (hl : bs.length ≤ 1000) (hst : Short st)
    (hK : ∀ w' v, NumOut w st bs (.returned v) w' → K ⟨a.tmps.setIfInBounds d v, a.defers⟩ w') : Oper.wp Tryd.prog o a w K Q := by
  have he : a.eval (.tmp s) = .slice ao bs.length cap := by simp [Act.eval, hs]
  have he' : a.eval (.tmp r) = .string st := by simp [Act.eval, hr]
  unfold Oper.wp execOp
  simp only [ho, hd]
  go_simp
  refine Calls.mono (numbers_any w B ao cap bs hx hb hl st hst) ?_
  rintro e w' ⟨hn, hc⟩
  rcases hc with ⟨h1, rfl⟩ | ⟨l, ao', cap', h1, rfl, h2⟩
  · exact hK w' _ ⟨hn, .inl ⟨h1, rfl⟩⟩
  · exact hK w' _ ⟨hn, .inr ⟨l, ao', cap', h1, rfl, h2⟩⟩
theorem lk_gmove {s r q k b f : Nat} {gv : Value} {x : AX} (hd : o.dst = some d) (ho : o.op = .call { callee := .value (.func 116), args := #[.tmp s, .tmp r, .tmp q], argTypes := #[97, 3, 137] }) (hs : a.tmps[s]? = some gv) (hr : a.tmps[r]? = some (.int .i64 (k : Int))) (hq : a.tmps[q]? = some (.pointer (some ⟨b, f, none⟩)))
    (hat : AXAt w b f x) (h1 : IntsAt w w.heap.size x.ra x.a.reads) (h2 : IntsAt w w.heap.size x.wa x.a.writes) (ht : x.a.bad = 0 → 0 ≤ x.a.to ∧ x.a.to < 20000)
    (hK : ∀ w' (y : X), Nu w w' → y.m = movOf k x.a → XOwn w' w.heap.size y → K ⟨a.tmps.setIfInBounds d y.val, a.defers⟩ w') : Oper.wp Tryd.prog o a w K Q := by
  have he : a.eval (.tmp s) = gv := by simp [Act.eval, hs]
  have he' : a.eval (.tmp r) = .int .i64 (k : Int) := by simp [Act.eval, hr]
  have he2 : a.eval (.tmp q) = .pointer (some ⟨b, f, none⟩) := by simp [Act.eval, hq]
  unfold Oper.wp execOp
  simp only [ho, hd]
  go_simp
  refine Calls.mono (move_any w gv k b f x hat h1 h2 ht) ?_
  rintro e w' ⟨hn, y, rfl, hm, ho⟩
  exact hK w' y hn hm ho

theorem lk_yield {n l s r : Nat} {z : X} {R : Ending → World → Prop} (hd : o.dst = some d) (ho : o.op = .call { callee := .value (.tmp s), args := #[.tmp r], argTypes := #[41] }) (hs : a.tmps[s]? = some (.func (.yield l) #[] #[])) (hr : a.tmps[r]? = some z.val) (hY : YieldAt Fence.wide (n - 1) Tryd.prog l z.enc w R)
    (hR : ∀ e W3, R e W3 → ∃ b, e = .returned (.bool b) ∧ K ⟨a.tmps.setIfInBounds d (.bool b), a.defers⟩ W3) : Oper.wpIn Fence.wide n Tryd.prog o a w K Q := by
  obtain ⟨fn, tmps, assign, body, hy, hRo⟩ := hY
  have he : a.tmps[s]?.getD undef = .func (.yield l) #[] #[] := by rw [hs]; rfl
  have he' : a.tmps[r]?.getD undef = z.val := by rw [hr]; rfl
  refine ⟨fun _ _ => trivial, ?_⟩
  show o.uponIn Fence.wide n Tryd.prog a K Q ((execOp a.eval o).run Tryd.prog w)
  have hrun : (execOp a.eval o).run Tryd.prog w = .ok (.round l fn tmps assign body) w := by
    unfold execOp
    simp [ho, go_sem, Act.eval, he, he']
    exact hy
  rw [hrun, Oper.uponIn_round]
  refine ⟨fun h => by simp [Fence.wide] at h, hRo.mono ?_⟩
  intro e W3 h
  obtain ⟨b, rfl, hk⟩ := hR e W3 h
  show K (a.put o.dst (.bool b)) W3
  rw [hd]
  exact hk

end

/-- What is found of a state: its node's number. -/
def NoIs (k : Option Nat) (H : Nat) (w : World) (v : Value) : Prop := (k = none ∧ v = .slice none 0 0) ∨ ∃ j ao cap, k = some j ∧ v = .slice ao 1 cap ∧ OwnI w H ao cap (ints [j])
theorem NoIs.nu {k : Option Nat} {H : Nat} {w w' : World} {v : Value} (h : NoIs k H w v) (hn : Nu w w') : NoIs k H w' v := by
  rcases h with h | ⟨j, ao, cap, h1, h2, h3⟩
  · exact .inl h
  · exact .inr ⟨j, ao, cap, h1, h2, h3.mv hn (fun _ _ _ => id) (Nat.le_refl _)⟩

def R0N (gb rb : Nat) (st : ByteArray) (k : Option Nat) (H : Nat) : Nat → World → Value → Prop
  | 0, _, v => v = .pointer (some ⟨gb, 0, none⟩)
  | 1, _, v => v = .pointer (some ⟨gb, 0, none⟩)
  | 2, _, v => v = .pointer (some ⟨gb, 0, none⟩)
  | 3, _, v => v = .slice (some ⟨rb, 0, none⟩) 1 1
  | 4, _, v => v = .string st
  | 5, w, v => ∃ u, v = .tuple #[u, .bool k.isSome] ∧ NoIs k H w u
  | 6, w, v => ∃ u, v = .tuple #[u, .bool k.isSome] ∧ NoIs k H w u
  | 7, w, v => NoIs k H w v
  | 8, _, v => v = .bool k.isSome
  | 9, w, v => NoIs k H w v
  | 10, _, v => v = .bool k.isSome
  | _, _, v => v = undef
theorem R0N.nu {gb rb : Nat} {st : ByteArray} {k : Option Nat} {H : Nat} : ∀ (i : Nat) (w w' : World) (v : Value), Nu w w' → R0N gb rb st k H i w v → R0N gb rb st k H i w' v := by
  intro i w w' v hn h
  unfold R0N at h ⊢
  split <;> simp only at h <;> first
    | exact h
    | exact NoIs.nu h hn
    | (obtain ⟨u, h1, h2⟩ := h; exact ⟨u, h1, h2.nu hn⟩)

theorem next_none {ns : List Node} {st : ByteArray} (hn : nodeNo ns.length st = none) : (graphSem ns).next st = [] := by simp [graphSem, hn]
theorem next_some {ns : List Node} {nxs : List NX} {st : ByteArray} {k : Nat} (he : nxs.map NX.nd = ns) (hn : nodeNo ns.length st = some k) (hk : k < nxs.length) : (graphSem ns).next st = movsOf nxs[k].nd.arcs := by
  have : ns[k]? = some nxs[k].nd := by rw [← he, List.getElem?_map, List.getElem?_eq_getElem hk]; rfl
  simp [graphSem, hn, this]
theorem movs_get {l : List Arc} {i : Nat} (h : i < l.length) : (movsOf l)[i]? = some (movOf i l[i]) := by
  unfold movsOf
  rw [List.getElem?_zipWith]
  simp [h]
theorem map_get {xs : List AX} {arcs : List Arc} (h : xs.map AX.a = arcs) {i : Nat} (hi : i < xs.length) (hi' : i < arcs.length) : arcs[i] = xs[i].a := by subst h; simp
theorem movs_len (l : List Arc) : (movsOf l).length = l.length := by simp [movsOf]

def R6N (l gb ab off n c i H : Nat) (x : Arc) : Nat → World → Value → Prop
  | 0, _, v => v = .func (.yield l) #[] #[]
  | 1, _, v => v = .pointer (some ⟨gb, 0, none⟩)
  | 2, _, v => v = .int .i64 (i : Int)
  | 3, _, v => v = .slice (some ⟨ab, off, none⟩) n c
  | 4, _, v => v = .int .i64 (i : Int)
  | 5, _, v => v = .pointer (some ⟨ab, off + i * 6, none⟩)
  | 6, w, v => ∃ y : X, v = y.val ∧ y.m = movOf i x ∧ XOwn w H y
  | _, _, v => v = undef
theorem R6N.nu {l gb ab off n c i' H : Nat} {x : Arc} : ∀ (i : Nat) (w w' : World) (v : Value), Nu w w' → R6N l gb ab off n c i' H x i w v → R6N l gb ab off n c i' H x i w' v := by
  intro i w w' v hn h
  unfold R6N at h ⊢
  split <;> simp only at h <;> first
    | exact h
    | (obtain ⟨y, h1, h2, h3⟩ := h; exact ⟨y, h1, h2, h3.mv hn (fun _ _ => id) (Nat.le_refl _)⟩)

theorem frame2 {ops : Array Oper} {a A0 : Act} {p q ip iq : Nat} {v u : Value} {op oq : Oper} (h : ∀ j : Nat, (ops.toList.all fun o => o.dst != some j) = true → a.tmps[j]? = A0.tmps[j]?) (hp : ops[ip]? = some op) (hq : ops[iq]? = some oq) (hdp : op.dst = some p) (hdq : oq.dst = some q) :
    ∀ j : Nat, (∀ (i : Nat) (o : Oper), ops[i]? = some o → o.dst ≠ some j) → (⟨(a.tmps.setIfInBounds p v).setIfInBounds q u, a.defers⟩ : Act).tmps[j]? = A0.tmps[j]? := by
  intro j hj
  show ((a.tmps.setIfInBounds p v).setIfInBounds q u)[j]? = _
  rw [Array.getElem?_setIfInBounds_ne (fun e => hj iq oq hq (by rw [hdq, e])), Array.getElem?_setIfInBounds_ne (fun e => hj ip op hp (by rw [hdp, e]))]
  refine h j ?_
  rw [List.all_eq_true]
  intro o ho
  obtain ⟨i, hi, rfl⟩ := List.mem_iff_getElem.1 ho
  rw [bne_iff_ne]
  exact fun e => hj i _ (by rw [← Array.getElem?_toList, List.getElem?_eq_getElem hi]) e

/-- What ranging over moves leaves. -/
def SeqPost (J : List X → (Nat → Prop) → World → Prop) (Jx : List X → World → Prop) (ms : List Mov) (e : Ending) (W' : World) : Prop := (∃ v, e = .returned v) ∧ ((∃ xs O, xs.map X.m = ms ∧ J xs O W') ∨ (∃ pre, Jx pre W'))

set_option maxHeartbeats 8000000 in
set_option maxRecDepth 40000 in
theorem seq_any (n : Nat) (hn : 1 ≤ n) (F : Nat → Prop) (gb g nc rb b1 b2 : Nat) (ns : List Node) (nxs : List NX) (st : ByteArray) (w : World) (h : GraphIs w F gb ns g nc rb nxs) (hb1 : w.heap[b1]? = some (.cells #[.pointer (some ⟨gb, 0, none⟩)] 97 (0, 0))) (hb2 : w.heap[b2]? = some (.cells #[.string st] 9 (0, 0))) (hm : mayN ns = true) (hst : Short st) (hFlt : ∀ b, F b → b < w.heap.size) :
    SeqN n 115 #[.pointer (some ⟨b1, 0, none⟩), .pointer (some ⟨b2, 0, none⟩)] (fun b => F b ∨ b = b1 ∨ b = b2) ((graphSem ns).next st) w := fun l J Jx W O₀ hK hJ hJx hOF hY h0 => by
  have hkF : KeepF F w W := ⟨hK.1, fun x hx => hK.2 x (.inl hx)⟩
  have HG : Hid (GraphIs W F gb ns g nc rb nxs) := h.keep hkF
  have HB1 : Hid (W.heap[b1]? = some (.cells #[.pointer (some ⟨gb, 0, none⟩)] 97 (0, 0))) := (hK.2 b1 (.inr (.inl rfl))).trans hb1
  have HB2 : Hid (W.heap[b2]? = some (.cells #[.string st] 9 (0, 0))) := (hK.2 b2 (.inr (.inr rfl))).trans hb2
  have HST := hid hst
  have HMY := hid hm
  have HJ := hid hJ
  have HJX := hid hJx
  have HOF := hid hOF
  have HY := hid hY
  have H0 := hid h0
  have HNN := hid hn
  have HLT0 : Hid (∀ b, (F b ∨ b = b1 ∨ b = b2) → b < W.heap.size) := fun b hb => by
    rcases hb with hb | rfl | rfl
    · exact Nat.lt_of_lt_of_le (hFlt b hb) hK.1
    · exact lt_of_block HB1.out
    · exact lt_of_block HB2.out
  have hl1 : (ns.length : Int) ≤ 20000 := by have := HG.out.len; omega
  clear hkF h hb1 hb2 hst hm hJ hJx hOF hY h0 hK hn hFlt
  refine callsIn_wide.2 ?_
  show Calls _ _ _ _ (SeqPost J Jx ((graphSem ns).next st))
  simp only [List.append_toArray, List.cons_append, List.nil_append]
  go_enter Tryd.func115, Tryd.ntmps115
  obtain ⟨kk, hkk⟩ : ∃ kk, nodeNo ns.length st = kk := ⟨_, rfl⟩
  have HKK := hid hkk
  clear hkk
  go_upto_region 0 with fail
  rename_i KC hKC
  refine wp_lookR (R0N gb rb st kk W.heap.size) R0N.nu (by kernel_rfl) (by kernel_rfl) ?step ?last
  case step =>
    intro i o d a w' ho hd hn hfr had K hK
    have hi : i < 11 := (Array.getElem?_eq_some_iff.1 ho).1
    have f1 := hfr 1 (by kernel_rfl)
    have f2 := hfr 2 (by kernel_rfl)
    have c1 := cell_blk (hn.heap HB1.out id) 0
    have c2 := cell_blk (hn.heap HB2.out id) 0
    have c3 := cell_blk (hn.heap HG.out.blk id) 0
    have : i = 0 ∨ i = 1 ∨ i = 2 ∨ i = 3 ∨ i = 4 ∨ i = 5 ∨ i = 6 ∨ i = 7 ∨ i = 8 ∨ i = 9 ∨ i = 10 := by omega
    rcases this with rfl | rfl | rfl | rfl | rfl | rfl | rfl | rfl | rfl | rfl | rfl <;> cases ho <;> cases hd
    · exact ite_yes (want_none rfl) (lk_loadG rfl rfl f1 c1 (fun w' hm => hK w' _ hm rfl))
    · obtain ⟨⟨_, h0, rfl⟩, _⟩ := had; exact ite_yes (want_none rfl) (lk_nilP rfl rfl h0 (fun w' hm => hK w' _ hm rfl))
    · obtain ⟨⟨_, h0, rfl⟩, _⟩ := had; exact ite_yes (want_none rfl) (lk_fieldG0 rfl rfl h0 (fun w' hm => hK w' _ hm rfl))
    · obtain ⟨⟨_, h0, rfl⟩, _⟩ := had; exact ite_yes (want_none rfl) (lk_loadR rfl rfl h0 c3 (fun w' hm => hK w' _ hm rfl))
    · exact ite_yes (want_none rfl) (lk_loadS rfl rfl f2 c2 (fun w' hm => hK w' _ hm rfl))
    · obtain ⟨⟨_, h0, rfl⟩, ⟨_, h1, rfl⟩, _⟩ := had
      refine ite_yes (want_none rfl) (lk_nums (bs := [ns.length]) rfl rfl h0 h1 (ints_one (hn.heap HG.out.rblk id)) (by intro m hm; rw [List.mem_singleton.1 hm]; exact HG.out.len.2) (show 1 ≤ 1000 by decide) HST.out (fun w' v ho => hK w' _ ho.1 ?_))
      obtain ⟨hnw, hc⟩ := ho
      rw [nums_one _ HG.out.len.2, HKK.out] at hc
      rcases hc with ⟨hno, he⟩ | ⟨lst, ao', cap', hno, he, hown⟩
      · have hk0 : kk = none := by simpa using hno
        cases he
        exact ⟨_, by rw [hk0]; rfl, .inl ⟨hk0, rfl⟩⟩
      · obtain ⟨j, hj, rfl⟩ := Option.map_eq_some_iff.1 hno
        cases he
        exact ⟨_, by rw [hj]; rfl, .inr ⟨j, ao', cap', hj, rfl, hown.mv (Mv.refl (fun _ => False) _) (fun _ _ _ => id) hn.size⟩⟩
    · obtain ⟨⟨_, h0, u, rfl, hu⟩, _⟩ := had; exact ite_yes (want_none rfl) (lk_move rfl rfl h0 (fun w' hm => hK w' _ hm ⟨u, rfl, hu.nu hm⟩))
    · obtain ⟨⟨_, h0, u, rfl, hu⟩, _⟩ := had; exact ite_yes (want_none rfl) (lk_ext0 rfl rfl h0 (fun w' hm => hK w' _ hm (hu.nu hm)))
    · obtain ⟨⟨_, h0, u, rfl, hu⟩, _⟩ := had; exact ite_yes (want_none rfl) (lk_ext1 rfl rfl h0 (fun w' hm => hK w' _ hm rfl))
    · obtain ⟨⟨_, h0, hu⟩, _⟩ := had; exact ite_yes (want_none rfl) (lk_assign rfl rfl h0 (fun w' hm => hK w' _ hm (NoIs.nu hu hm)))
    · obtain ⟨⟨_, h0, rfl⟩, _⟩ := had; exact ite_yes (want_none rfl) (lk_assign rfl rfl h0 (fun w' hm => hK w' _ hm rfl))
  case last =>
    intro a w1 hn1 hdf hsz hfr htv
    obtain ⟨v5, t5, _⟩ := htv 5 _ 14 rfl rfl
    obtain ⟨v6, t6, _⟩ := htv 6 _ 8 rfl rfl
    obtain ⟨v7, t7, _⟩ := htv 7 _ 15 rfl rfl
    obtain ⟨v9, t9, hv9⟩ := htv 9 _ 4 rfl rfl
    have htm := fill_eqN (vals := fun i => ([.pointer (some ⟨gb, 0, none⟩), .pointer (some ⟨gb, 0, none⟩), .pointer (some ⟨gb, 0, none⟩), .slice (some ⟨rb, 0, none⟩) 1 1, .string st, v5, v6, v7, .bool kk.isSome, v9, .bool kk.isSome] : List Value).getD i undef) (by kernel_rfl) hfr (fun i o d hi hd => by
      have hi' : i < 11 := (Array.getElem?_eq_some_iff.1 hi).1
      obtain ⟨v, h, hv⟩ := htv i o d hi hd
      have : i = 0 ∨ i = 1 ∨ i = 2 ∨ i = 3 ∨ i = 4 ∨ i = 5 ∨ i = 6 ∨ i = 7 ∨ i = 8 ∨ i = 9 ∨ i = 10 := by omega
      rcases this with rfl | rfl | rfl | rfl | rfl | rfl | rfl | rfl | rfl | rfl | rfl <;> cases hi <;> cases hd <;> first | exact t5 | exact t6 | exact t7 | exact t9 | exact h.trans (congrArg some hv))
    refine hKC _ _ ?_
    have HN1 := hid hn1
    have HV9 : Hid (NoIs kk W.heap.size w1 v9) := hv9
    rw [act_eq' htm hdf]
    clear htm hdf hsz hfr htv t5 t6 t7 t9 hn1 hKC hv9
    simp only [fill, List.getD_cons_succ, List.getD_cons_zero, List.setIfInBounds_toArray, List.set_cons_succ, List.set_cons_zero]
    cases kk with
    | none =>
      have HE := hid (next_none HKK.out)
      simp only [Option.isSome_none]
      go_wp2
      refine bodyPost_ret (results_none rfl _ _ _) rfl ?_
      exact ⟨⟨_, rfl⟩, .inl ⟨[], O₀, by rw [HE.out]; rfl, HJ.out _ _ _ _ H0.out HN1.out⟩⟩
    | some k =>
      obtain ⟨ao, cap, rfl, hown⟩ : ∃ ao cap, v9 = .slice ao 1 cap ∧ OwnI w1 W.heap.size ao cap (ints [k]) := by
        rcases HV9.out with ⟨h, _⟩ | ⟨j, ao, cap, hj, h1, h2⟩
        · cases h
        · cases hj
          exact ⟨ao, cap, h1, h2⟩
      obtain ⟨b3, off3, rfl, c3⟩ : ∃ b3 off3, ao = some ⟨b3, off3, none⟩ ∧ w1.cell? ⟨b3, off3, none⟩ = some (.int .i64 (k : Int)) := by
        rcases hown.at.row with h0 | ⟨b3, off3, h1, _, hit⟩
        · simp [ints] at h0
        · exact ⟨b3, off3, h1, hit 0 (by simp [ints])⟩
      have hnl : nxs.length = ns.length := by rw [← HG.out.eq, List.length_map]
      have hkl : k < nxs.length := by rw [hnl]; exact (nodeNo_some HKK.out).1
      have hkn : (k : Int) < (ns.length : Int) := by have := (nodeNo_some HKK.out).1; omega
      have HE := hid (next_some HG.out.eq HKK.out hkl)
      have hat := cell_mv HN1.out (HG.out.nat k hkl).c0 id
      have HXZ := hid (HG.out.nz _ (List.getElem_mem hkl))
      have c1 := cell_blk (HN1.out.heap HB1.out id) 0
      have c2 := cell_blk (HN1.out.heap HG.out.blk id) 1
      simp only [List.size_toArray, List.length_cons, List.length_nil, Nat.reduceAdd, Nat.lt_add_one, Nat.reduceLT, getElem?_pos, List.getElem_toArray, List.getElem_cons_zero, List.getElem_cons_succ, Nat.zero_lt_succ] at c1 c2
      have HTO : Hid (∀ y ∈ nxs[k].xs, y.a.bad = 0 → 0 ≤ y.a.to ∧ y.a.to < 20000) := by
        intro y hy hb
        have h1 := HMY.out
        simp only [mayN, Bool.and_eq_true, List.all_eq_true, decide_eq_true_eq] at h1
        have h2 := h1.2 nxs[k].nd (by rw [← HG.out.eq]; exact List.mem_map.2 ⟨_, List.getElem_mem hkl, rfl⟩) y.a (by rw [← HXZ.out.eq]; exact List.mem_map.2 ⟨y, hy, rfl⟩)
        simp only [arcB, Bool.and_eq_true, decide_eq_true_eq] at h2
        obtain ⟨⟨⟨_, h3⟩, h4⟩, _⟩ := h2
        exact ⟨h3, by omega⟩
      have HLN : Hid (nxs[k].xs.length = nxs[k].nd.arcs.length) := by
        have := congrArg List.length HXZ.out.eq
        rwa [List.length_map] at this
      generalize nxs[k] = x at *
      have HAR := hid HXZ.out.ar
      have HAE := hid HXZ.out.eq
      have hxl := HXZ.out.ar.lim
      clear hown hnl hkl HV9 HXZ
      generalize x.vo = vo at *
      generalize x.vc = vc at *
      generalize x.xs = xs at *
      generalize x.nd.arcs = arcs at *
      simp only [Option.isSome_some]
      go_upto_region 2 with fail
      go_quiet (fail)
      go_upto_region 3 with fail
      clear c1 c2 c3 hat hkn
      go_wp2
      go_loopw [31] (fun iv wr => ∃ (pre : List X) (O : Nat → Prop), pre.length ≤ xs.length ∧ iv = .int .i64 (pre.length : Int) ∧ Hid (pre.map X.m = (movsOf arcs).take pre.length) ∧ Hid (J pre O wr) ∧ Hid (KeepF (fun b => F b ∨ b = b1 ∨ b = b2) W wr)) (fun iv _ => xs.length - (intOf iv).toNat)
      case atStart => exact ⟨[], O₀, Nat.zero_le _, rfl, (rfl : [] = _), HJ.out _ _ _ _ H0.out (mv0 HN1.out (nu_drewN' _ _)), (mv0 HN1.out (nu_drewN' _ _)).keep (fun b hb => ⟨HLT0.out b hb, id⟩)⟩
      case round =>
        obtain ⟨pre, O, hpl, rfl, HPM, HJP, HKP⟩ := hrel
        rcases Nat.lt_or_ge pre.length xs.length with hlt | hge
        · have hlt' : (pre.length : Int) < (xs.length : Int) := by omega
          have hkF : KeepF F W wr := ⟨HKP.out.1, fun b hb => HKP.out.2 b (.inl hb)⟩
          have har := HAR.out.keep hkF
          rcases har.row with h0 | ⟨ab, off, rfl, hab, hit⟩
          · omega
          have HAT := hid (hit pre.length hlt)
          have hax := har.ax _ (List.getElem_mem hlt)
          have HRW : Hid (IntsAt wr wr.heap.size xs[pre.length].ra xs[pre.length].a.reads ∧ IntsAt wr wr.heap.size xs[pre.length].wa xs[pre.length].a.writes) := by
            have hZ : ∀ b, F b → b < wr.heap.size := fun b hb => Nat.lt_of_lt_of_le (HLT0.out b (.inl hb)) HKP.out.1
            exact ⟨hax.r.at hZ, hax.w.at hZ⟩
          have HT2 := hid (HTO.out _ (List.getElem_mem hlt))
          have HMS : Hid ((movsOf arcs)[pre.length]? = some (movOf pre.length xs[pre.length].a)) := by
            have hl : pre.length < arcs.length := by rw [← HLN.out]; exact hlt
            rw [← map_get HAE.out hlt hl]
            exact movs_get hl
          have c1 := cell_blk ((HKP.out.2 b1 (.inr (.inl rfl))).trans HB1.out) 0
          simp only [List.size_toArray, List.length_cons, List.length_nil, Nat.reduceAdd, Nat.lt_add_one, Nat.reduceLT, getElem?_pos, List.getElem_toArray, List.getElem_cons_zero, List.getElem_cons_succ, Nat.zero_lt_succ] at c1
          generalize xs[pre.length] = y at *
          have HLT := hid hlt
          clear har hit hab hax hlt hkF
          go_upto_region 6 with fail
          rename_i KC2 hKC2
          refine (wpIn_wide (n := n)).1 ?_
          refine wpIn_yield 7 41 42 _ _ (R6N l gb ab off xs.length vc pre.length wr.heap.size y.a) (fun b a w' => KC2 ⟨(a.tmps.setIfInBounds 41 (.bool b)).setIfInBounds 42 (.bool (!b)), a.defers⟩ w') R6N.nu (by kernel_rfl) (by kernel_rfl) rfl ?hcl rfl rfl rfl ?hnot ?step ?yield ?last
          case hnot =>
            intro a b w' he
            have he' : a.tmps[41]?.getD undef = .bool b := by simpa [Act.eval] using he
            unfold execOp
            simp [go_sem, he']
          case hcl =>
            intro l' hcl hy i hi
            have h0 := hy ⟨0, .data⟩ (by simp) rfl
            have h6 := hy ⟨6, .data⟩ (by simp) rfl
            have h1 := hcl 6 _ rfl h6 ⟨1, .data⟩ (by simp) rfl
            have h2 := hcl 6 _ rfl h6 ⟨2, .data⟩ (by simp) rfl
            have h5 := hcl 6 _ rfl h6 ⟨5, .data⟩ (by simp) rfl
            have h3 := hcl 5 _ rfl h5 ⟨3, .data⟩ (by simp) rfl
            have h4 := hcl 5 _ rfl h5 ⟨4, .data⟩ (by simp) rfl
            have : i = 0 ∨ i = 1 ∨ i = 2 ∨ i = 3 ∨ i = 4 ∨ i = 5 ∨ i = 6 := by omega
            rcases this with rfl | rfl | rfl | rfl | rfl | rfl | rfl <;> assumption
          case last => exact fun b a w' _ h => h
          case step =>
            intro i o d a w' hi7 ho hd hnw hfr had K hK
            have f0 := hfr 0 (by kernel_rfl)
            have f1 := hfr 1 (by kernel_rfl)
            have f6 := hfr 6 (by kernel_rfl)
            have f7 := hfr 7 (by kernel_rfl)
            have c1' := cell_mv hnw c1 id
            have : i = 0 ∨ i = 1 ∨ i = 2 ∨ i = 3 ∨ i = 4 ∨ i = 5 ∨ i = 6 := by omega
            rcases this with rfl | rfl | rfl | rfl | rfl | rfl | rfl <;> cases ho <;> cases hd
            · exact wpIn_of_op (lk_move rfl rfl f0 (fun w' hm => hK w' _ hm rfl))
            · exact wpIn_of_op (lk_loadG rfl rfl f1 c1' (fun w' hm => hK w' _ hm rfl))
            · exact wpIn_of_op (lk_move rfl rfl f7 (fun w' hm => hK w' _ hm rfl))
            · exact wpIn_of_op (lk_move rfl rfl f6 (fun w' hm => hK w' _ hm rfl))
            · exact wpIn_of_op (lk_move rfl rfl f7 (fun w' hm => hK w' _ hm rfl))
            · obtain ⟨⟨_, h0, rfl⟩, ⟨_, h1, rfl⟩, _⟩ := had; exact wpIn_of_op (lk_idxAo HLT.out rfl rfl h0 h1 (fun w' hm => hK w' _ hm rfl))
            · obtain ⟨⟨_, h0, rfl⟩, ⟨_, h1, rfl⟩, ⟨_, h2, rfl⟩, _⟩ := had
              exact wpIn_of_op (lk_gmove rfl rfl h0 h1 h2 (HAT.out.mv hnw id) (HRW.out.1.below hnw.nu_below hnw.size) (HRW.out.2.below hnw.nu_below hnw.size) HT2.out (fun w' z hm hz ho => hK w' _ hm ⟨z, rfl, hz, ho.mv (Mv.refl (fun _ => False) _) (fun _ _ => id) hnw.size⟩))
          case yield =>
            intro a w' hnw hdf hsz hfr htv
            obtain ⟨_, t0, rfl⟩ := htv 0 _ 34 (by decide) rfl rfl
            obtain ⟨_, t1, rfl⟩ := htv 1 _ 35 (by decide) rfl rfl
            obtain ⟨_, t2, rfl⟩ := htv 2 _ 36 (by decide) rfl rfl
            obtain ⟨_, t3, rfl⟩ := htv 3 _ 37 (by decide) rfl rfl
            obtain ⟨_, t4, rfl⟩ := htv 4 _ 38 (by decide) rfl rfl
            obtain ⟨_, t5, rfl⟩ := htv 5 _ 39 (by decide) rfl rfl
            obtain ⟨_, t6, z, rfl, hzm, hzo⟩ := htv 6 _ 40 (by decide) rfl rfl
            have HZM := hid hzm
            have hzb : ∀ b, z.blk b → wr.heap.size ≤ b := fun b hb => (hzo.ge hb).1
            have hOw : ∀ b, O b → b < wr.heap.size ∧ ¬ (F b ∨ b = b1 ∨ b = b2) := HOF.out _ _ _ HJP.out
            refine lk_yield (z := z) rfl rfl t0 t6 (HY.out pre z w' O (HJ.out _ _ _ _ HJP.out hnw) (Nat.le_trans HKP.out.1 hnw.size) (by rw [HE.out, hzm]; exact HMS.out) (hzo.mv (Mv.refl (fun _ => False) _) (fun _ _ => id) HKP.out.1) (fun b hb ho => by have := hzb b hb; have := (hOw b ho).1; omega)) ?_
            intro e W3 hE
            have htm : ∀ bb : Bool, (⟨(a.tmps.setIfInBounds 41 (.bool bb)).setIfInBounds 42 (.bool (!bb)), a.defers⟩ : Act).tmps = _ := fun bb => fill_eqN (vals := fun i => ([.func (.yield l) #[] #[], .pointer (some ⟨gb, 0, none⟩), .int .i64 (pre.length : Int), .slice (some ⟨ab, off, none⟩) xs.length vc, .int .i64 (pre.length : Int), .pointer (some ⟨ab, off + pre.length * 6, none⟩), z.val, .bool bb, .bool (!bb)] : List Value).getD i undef) (by kernel_rfl) (frame2 (ip := 7) (iq := 8) hfr rfl rfl rfl rfl) (fun i o d hi hd => by
              have hi' : i < 9 := (Array.getElem?_eq_some_iff.1 hi).1
              have : i = 0 ∨ i = 1 ∨ i = 2 ∨ i = 3 ∨ i = 4 ∨ i = 5 ∨ i = 6 ∨ i = 7 ∨ i = 8 := by omega
              rcases this with rfl | rfl | rfl | rfl | rfl | rfl | rfl | rfl | rfl <;> cases hi <;> cases hd
              · rw [Array.getElem?_setIfInBounds_ne (by decide), Array.getElem?_setIfInBounds_ne (by decide)]; exact t0
              · rw [Array.getElem?_setIfInBounds_ne (by decide), Array.getElem?_setIfInBounds_ne (by decide)]; exact t1
              · rw [Array.getElem?_setIfInBounds_ne (by decide), Array.getElem?_setIfInBounds_ne (by decide)]; exact t2
              · rw [Array.getElem?_setIfInBounds_ne (by decide), Array.getElem?_setIfInBounds_ne (by decide)]; exact t3
              · rw [Array.getElem?_setIfInBounds_ne (by decide), Array.getElem?_setIfInBounds_ne (by decide)]; exact t4
              · rw [Array.getElem?_setIfInBounds_ne (by decide), Array.getElem?_setIfInBounds_ne (by decide)]; exact t5
              · rw [Array.getElem?_setIfInBounds_ne (by decide), Array.getElem?_setIfInBounds_ne (by decide)]; exact t6
              · rw [Array.getElem?_setIfInBounds_ne (by decide), Array.getElem?_setIfInBounds_self]; simp [hsz]
              · rw [Array.getElem?_setIfInBounds_self]; simp [hsz])
            have HW3 : Hid (KeepF (fun b => F b ∨ b = b1 ∨ b = b2) W w') := HKP.out.trans (hnw.keep (fun b hb => ⟨Nat.lt_of_lt_of_le (HLT0.out b hb) HKP.out.1, id⟩))
            have HZB := hid hzb
            have HOW := hid hOw
            rcases hE with ⟨rfl, O', hJ3, hO', hmv⟩ | ⟨rfl, hJx3⟩
            · have HJ3 := hid hJ3
              have HK3 : Hid (KeepF (fun b => F b ∨ b = b1 ∨ b = b2) W W3) := HW3.out.trans (hmv.keep (fun b hb => ⟨Nat.lt_of_lt_of_le (HLT0.out b hb) HW3.out.1, fun ho => by
                rcases ho with ho | ho
                · exact (hOw b ho).2 hb
                · have h1 := hzb b ho
                  have h2 := HLT0.out b hb
                  have h3 := HKP.out.1
                  omega⟩))
              refine ⟨true, rfl, true, rfl, hKC2 _ _ ?_⟩
              rw [act_eq' (htm true) hdf]
              clear htm htv hfr t0 t1 t2 t3 t4 t5 t6 hdf hsz hKC2 hJ3 hmv hO' hnw hzo hzm hzb hOw HKP
              simp only [fill, List.getD_cons_succ, List.getD_cons_zero, List.setIfInBounds_toArray, List.set_cons_succ, List.set_cons_zero]
              have hlen : (pre ++ [z]).length = pre.length + 1 := by simp
              have HP2 : Hid ((pre ++ [z]).map X.m = (movsOf arcs).take (pre ++ [z]).length) := by
                show _ = _
                rw [List.map_append, HPM.out, hlen, List.take_add_one, HMS.out]
                simp [HZM.out]
              go_wp2
              go_roundw
              case rel => exact ⟨pre ++ [z], O', by rw [hlen]; exact HLT.out, by rw [hlen]; go_num, HP2.out, HJ3.out, HK3.out⟩
              case measure => have := HLT.out; simp [intOf]; omega
            · have HJ3 := hid hJx3
              refine ⟨false, rfl, false, rfl, hKC2 _ _ ?_⟩
              rw [act_eq' (htm false) hdf]
              clear htm htv hfr t0 t1 t2 t3 t4 t5 t6 hdf hsz hKC2 hJx3 hnw hzo hzm hzb hOw HKP
              simp only [fill, List.getD_cons_succ, List.getD_cons_zero, List.setIfInBounds_toArray, List.set_cons_succ, List.set_cons_zero]
              go_wp2
              refine bodyPost_ret (results_none rfl _ _ _) rfl ?_
              exact ⟨⟨_, rfl⟩, .inr ⟨_, HJ3.out⟩⟩
        · have he : pre.length = xs.length := by omega
          have he' : ¬ (pre.length : Int) < (xs.length : Int) := by omega
          have HPE : Hid (pre.map X.m = (graphSem ns).next st) := by
            have := HPM.out
            rw [List.take_of_length_le (by rw [movs_len, he, HLN.out]; exact Nat.le_refl _)] at this
            show _ = _
            rw [this, HE.out]
          clear he hge
          go_wp2
          go_end0
          exact ⟨⟨_, rfl⟩, .inl ⟨pre, O, HPE.out, HJP.out⟩⟩

end Go.Proofs.YtiinmaedmkgfoaaDoor
/-
  A graph as a system: the program's Next and Of.
-/
set_option linter.unusedVariables false
set_option linter.unusedSimpArgs false
namespace Go.Proofs.YtiinmaedmkgfoaaDoor
open Go.RowKit

theorem enters_Begin : Enters 112 := fun args w => by
  unfold callFunc
  simp [go_sem, Tryd.func112]
  rfl

theorem leads_Begin (gb : Nat) : Leads 97 (.pointer (some ⟨gb, 0, none⟩)) "Begin" 112 (.pointer (some ⟨gb, 0, none⟩)) :=
  ⟨fun w => by kernel_rfl, enters_Begin, fun w => by kernel_rfl⟩

theorem enters_Next : Enters 114 := fun args w => by
  unfold callFunc
  simp [go_sem, Tryd.func114]
  rfl
theorem enters_Look : Enters 113 := fun args w => by
  unfold callFunc
  simp [go_sem, Tryd.func113]
  rfl
theorem enters_Next1 : Enters 115 := fun args w => by
  unfold callFunc
  simp [go_sem, Tryd.func115]
  rfl
theorem leads_Next (gb : Nat) : Leads 97 (.pointer (some ⟨gb, 0, none⟩)) "Next" 114 (.pointer (some ⟨gb, 0, none⟩)) :=
  ⟨fun w => by kernel_rfl, enters_Next, fun w => by kernel_rfl⟩
theorem leads_Look (gb : Nat) : Leads 97 (.pointer (some ⟨gb, 0, none⟩)) "Look" 113 (.pointer (some ⟨gb, 0, none⟩)) :=
  ⟨fun w => by kernel_rfl, enters_Look, fun w => by kernel_rfl⟩

set_option maxHeartbeats 1000000 in
theorem Next_any (w : World) (F : Nat → Prop) (gb g nc rb : Nat) (ns : List Node) (nxs : List NX) (h : GraphIs w F gb ns g nc rb nxs) (hm : mayN ns = true) (hF : ∀ b, F b → b < w.heap.size) (st : ByteArray) (hst : Short st) :
    Calls Tryd.prog 114 #[.pointer (some ⟨gb, 0, none⟩), .string st] w fun e w' => ∃ gf lb G, e = .returned (.func (.func gf) #[] lb) ∧ Nu w w' ∧ Enters gf ∧ (∀ b, G b → b < w'.heap.size ∧ (F b ∨ w.heap.size ≤ b)) ∧ ∀ n, 1 ≤ n → SeqN n gf lb G ((graphSem ns).next st) w' := by
  have HG := hid h
  have HM := hid hm
  have HF := hid hF
  have HST := hid hst
  clear h hm hF hst
  go_enter Tryd.func114, Tryd.ntmps114
  go_wp2
  go_ret
  have hn1 : Nu w (w.alloc (.cells #[.pointer (some ⟨gb, 0, none⟩)] 97)) := Mv.alloc _ _ _
  have hb1 := heap_alloc_new w (.cells #[.pointer (some ⟨gb, 0, none⟩)] 97)
  have hz1 : (w.alloc (.cells #[.pointer (some ⟨gb, 0, none⟩)] 97)).heap.size = w.heap.size + 1 := World.size_alloc _ _
  generalize w.alloc (.cells #[.pointer (some ⟨gb, 0, none⟩)] 97) = w1 at *
  have hn2 : Nu w1 (w1.alloc (.cells #[.string st] 9)) := Mv.alloc _ _ _
  have hb2 := heap_alloc_new w1 (.cells #[.string st] 9)
  have hz2 : (w1.alloc (.cells #[.string st] 9)).heap.size = w1.heap.size + 1 := World.size_alloc _ _
  rw [hz1] at hb2
  generalize w1.alloc (.cells #[.string st] 9) = w2 at *
  have hk : KeepF F w w2 := (mv0 hn1 hn2).keep (fun b hb => ⟨HF.out b hb, id⟩)
  refine ⟨115, _, fun b => F b ∨ b = w.heap.size ∨ b = w.heap.size + 1, rfl, mv0 hn1 hn2, enters_Next1, fun b hb => ?_, fun n hn => seq_any n hn F gb g nc rb w.heap.size (w.heap.size + 1) ns nxs st w2 (HG.out.keep hk) (hn2.heap hb1 id) hb2 HM.out HST.out (fun b hb => Nat.lt_of_lt_of_le (HF.out b hb) hk.1)⟩
  rcases hb with hb | rfl | rfl
  · exact ⟨Nat.lt_of_lt_of_le (HF.out b hb) hk.1, .inl hb⟩
  · exact ⟨by omega, .inr (Nat.le_refl _)⟩
  · exact ⟨by omega, .inr (by omega)⟩

/-- A graph of the program's is a system. -/
theorem GraphIs.sys {w : World} {F : Nat → Prop} {gb g nc rb : Nat} {ns : List Node} {nxs : List NX} (h : GraphIs w F gb ns g nc rb nxs) (hm : mayN ns = true) (hF : ∀ b, F b → b < w.heap.size) : SysAt F w 97 (.pointer (some ⟨gb, 0, none⟩)) (graphSem ns) where
  lt := hF
  does := fun w' hk => {
    bg := ⟨_, _, leads_Begin gb, Begin_any w' _ ns⟩
    nx := ⟨_, _, leads_Next gb, fun st hst => Next_any w' F gb g nc rb ns nxs (h.keep hk) hm (fun b hb => Nat.lt_of_lt_of_le (hF b hb) hk.1) st hst⟩
    lk := ⟨_, _, leads_Look gb, fun st hst => Look_any w' F gb g nc rb ns nxs (h.keep hk) st hst⟩ }

set_option maxHeartbeats 1000000 in
theorem Of_any (w : World) (ao : Option Addr) (cap : Nat) (ns : List Node) (h : NodesAt w w.heap.size ao ns) : Calls Tryd.prog 15 #[.agg #[.slice ao ns.length cap]] w fun e w' => Nu w w' ∧
    ((mayN ns = false ∧ e = .returned (.tuple #[.nilIface, .int .i64 150])) ∨ (mayN ns = true ∧ ∃ F T r0, e = .returned (.tuple #[.iface T r0, .int .i64 0]) ∧ SysAt F w' T r0 (graphSem ns) ∧ ∀ b, F b → w.heap.size ≤ b)) := by
  have HNS := hid h
  clear h
  go_enter Tryd.func15, Tryd.ntmps15
  go_upto_region 1 with fail
  have HN1 : Hid (Nu w (w.alloc (.cells #[.slice ao ns.length cap] 46))) := Mv.alloc _ _ _
  have HB1 : Hid ((w.alloc (.cells #[.slice ao ns.length cap] 46)).cell? ⟨w.heap.size, 0, none⟩ = some (.slice ao ns.length cap)) := cell_blk (heap_alloc_new w _) 0
  generalize w.alloc (.cells #[.slice ao ns.length cap] 46) = w1 at *
  have c1 := HB1.out
  go_wp2_with fail
  refine (graphMayBe_any w1 ao cap ns (HNS.out.below HN1.out.nu_below HN1.out.size)).mono ?_
  rintro e w2 ⟨rfl, hn2⟩
  have HN2 := hid hn2
  have HNW : Hid (Nu w w2) := mv0 HN1.out hn2
  replace c1 := cell_mv hn2 c1 id
  clear hn2
  cases hm : mayN ns with
  | false =>
    have HM := hid hm
    clear hm
    go_wp2
    go_ret2
    exact ⟨HNW.out, .inl ⟨HM.out, rfl⟩⟩
  | true =>
    have HM := hid hm
    clear hm
    go_upto_region 3 with fail
    go_wp2_with (go_at_call 36; refine (graphOf_any w2 ao cap ns (HNS.out.below HNW.out.nu_below HNW.out.size) HM.out).mono ?_; rintro e w3 ⟨hn3, gb, g, nc, rb, nxs, rfl, hg⟩; have HN3 := hid hn3; have HG := hid hg; clear hn3 hg)
    go_ret2
    refine ⟨mv0 HNW.out HN3.out, .inr ⟨HM.out, _, _, _, rfl, HG.out.sys HM.out (fun b hb => hb.2), fun b hb => Nat.le_trans HNW.out.size hb.1⟩⟩

set_option maxHeartbeats 1000000 in
theorem checkT0_any (w : World) : Calls Tryd.prog 8 #[.agg #[.slice none 0 0, .slice none 0 0, .slice none 0 0]] w fun e w' => e = .returned (.int .i64 0) ∧ Nu w w' := by
  have key : ∀ W : World, Calls Tryd.prog 19 #[.agg #[.slice none 0 0, .slice none 0 0, .slice none 0 0]] W fun e w' => e = .returned (.bool true) ∧ Nu W w' := fun W => by
    go_enter Tryd.func19, Tryd.ntmps19
    have HN : Hid (Nu W (W.alloc (.cells #[.slice none 0 0, .slice none 0 0, .slice none 0 0] 26))) := Mv.alloc _ _ _
    have HC : Hid ((W.alloc (.cells #[.slice none 0 0, .slice none 0 0, .slice none 0 0] 26)).cell? ⟨W.heap.size, 0, none⟩ = some (.slice none 0 0) ∧ (W.alloc (.cells #[.slice none 0 0, .slice none 0 0, .slice none 0 0] 26)).cell? ⟨W.heap.size, 1, none⟩ = some (.slice none 0 0) ∧ (W.alloc (.cells #[.slice none 0 0, .slice none 0 0, .slice none 0 0] 26)).cell? ⟨W.heap.size, 2, none⟩ = some (.slice none 0 0)) := ⟨cell_blk (heap_alloc_new W _) 0, cell_blk (heap_alloc_new W _) 1, cell_blk (heap_alloc_new W _) 2⟩
    go_wp2
    go_loopw [32] (fun iv wr => iv = .int .i64 0 ∧ Hid (Nu W wr ∧ wr.cell? ⟨W.heap.size, 0, none⟩ = some (.slice none 0 0) ∧ wr.cell? ⟨W.heap.size, 1, none⟩ = some (.slice none 0 0) ∧ wr.cell? ⟨W.heap.size, 2, none⟩ = some (.slice none 0 0))) (fun _ _ => 0)
    case atStart => exact ⟨rfl, HN.out, HC.out.1, HC.out.2.1, HC.out.2.2⟩
    case round =>
      obtain ⟨rfl, HR⟩ := hrel
      obtain ⟨hn, c0, c1, c2⟩ := HR.out
      have HNR := hid hn
      clear hn
      go_wp2
      go_loopw [43] (fun iv wr' => iv = .int .i64 0 ∧ Hid (wr' = wr)) (fun _ _ => 0)
      case atStart => exact ⟨rfl, (rfl : wr = wr)⟩
      case round =>
        obtain ⟨rfl, HR2⟩ := hrel
        obtain rfl := HR2.out
        go_wp2
        go_loopw [55] (fun iv wr' => iv = .int .i64 0 ∧ Hid (wr' = wr)) (fun _ _ => 0)
        case atStart => exact ⟨rfl, (rfl : wr = wr)⟩
        case round =>
          obtain ⟨rfl, HR3⟩ := hrel
          obtain rfl := HR3.out
          go_wp2
          go_ret
          exact ⟨rfl, HNR.out⟩
  go_enter Tryd.func8, Tryd.ntmps8
  go_upto_region 1 with fail
  have HN : Hid (Nu w (w.alloc (.cells #[.slice none 0 0, .slice none 0 0, .slice none 0 0] 26))) := Mv.alloc _ _ _
  have c0 := cell_blk (heap_alloc_new w (.cells #[.slice none 0 0, .slice none 0 0, .slice none 0 0] 26)) 0
  have c1 := cell_blk (heap_alloc_new w (.cells #[.slice none 0 0, .slice none 0 0, .slice none 0 0] 26)) 1
  have c2 := cell_blk (heap_alloc_new w (.cells #[.slice none 0 0, .slice none 0 0, .slice none 0 0] 26)) 2
  simp only [List.size_toArray, List.length_cons, List.length_nil, Nat.reduceAdd, Nat.lt_add_one, Nat.reduceLT, getElem?_pos, List.getElem_toArray, List.getElem_cons_zero, List.getElem_cons_succ, Nat.zero_lt_succ] at c0 c1 c2
  generalize w.alloc (.cells #[.slice none 0 0, .slice none 0 0, .slice none 0 0] 26) = w1 at *
  go_wp2_with (go_at_call 19; refine (key _).mono ?_; rintro e w2 ⟨rfl, hn2⟩)
  go_ret
  exact ⟨rfl, mv0 HN.out hn2⟩

end Go.Proofs.YtiinmaedmkgfoaaDoor
