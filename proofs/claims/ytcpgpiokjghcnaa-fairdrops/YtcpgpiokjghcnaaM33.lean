/-
  FaBegun0, FaBegun, FaHand, FaWait0.
-/
import Derived.OwnWalkIn
import Derived.Sort.CutIn
import Derived.TacticsInMore
import Derived.Test.YtcpgpiokjghcnaaM21
import Derived.Test.YtcpgpiokjghcnaaM23
import Derived.Test.YtcpgpiokjghcnaaM30
import Derived.Test.YtcpgpiokjghcnaaM31
/-
  A system in copies: what the loops over a system's moves share.
-/
set_option linter.unusedVariables false
set_option linter.unusedSimpArgs false
namespace Go.Proofs.Ytcpgpiokjghcnaa
open Go.RowKit

/-- What is asked of one who takes the moves ms, from B on. -/
structure Taker (n l B : Nat) (ms : List Mov) (J : List X → (Nat → Prop) → World → Prop) (Jx : List X → World → Prop) : Prop where
  nu : ∀ pre O A A', J pre O A → Nu A A' → J pre O A'
  lt : ∀ pre O A, J pre O A → ∀ b, O b → b < A.heap.size
  yld : ∀ pre x W1 O, J pre O W1 → B ≤ W1.heap.size → ms[pre.length]? = some x.m → XOwn W1 B x → (∀ b, x.blk b → ¬ O b) → YieldAt Fence.wide (n - 1) Try.prog l x.enc W1 fun e W' =>
      (e = .returned (.bool true) ∧ ∃ O', J (pre ++ [x]) O' W' ∧ (∀ b, O' b → O b ∨ x.blk b ∨ W1.heap.size ≤ b) ∧ Mv (fun b => O b ∨ x.blk b) W1 W') ∨ (e = .returned (.bool false) ∧ Jx (pre ++ [x]) W' ∧ Mv (fun b => O b ∨ x.blk b ∨ b = l) W1 W')

theorem range_net3 {n : Nat} {g : Operand} {ps : Array Tmp} {assign body : Code} {Q : Exit → Act → World → Prop} {a : Act} {w : World} {gf : Nat} {lb : Array Value}
    (hg : a.eval g = .func (.func gf) #[] lb) (eg : ∀ args w, (callFunc gf args).run Try.prog w = .ok (.enter gf args) w)
    {F : Nat → Prop} {ms : List Mov} (hseq : SeqN (n - 1) gf lb F ms w) (hF : ∀ b, F b → b < w.heap.size) (hps : 1 = ps.size)
    (I : List X × (Nat → Prop) → World → Prop) (Ix : Code → List X → World → Prop) (hI : AbidesO w.heap.size I) (hIx : ∀ c, Abides w.heap.size (Ix c)) (O₀ : Nat → Prop) (h0 : I ([], O₀) w)
    (hO : ∀ s A, I s A → ∀ b, s.2 b → b < A.heap.size ∧ ¬ F b ∧ (b < w.heap.size ∨ w.heap.size + 2 ≤ b)) (As : Array Value → X × Act → World → Prop) (hAs : Abides w.heap.size (As a.tmps))
    (hassign : ∀ (l : Nat) (x : X) (W : World) (K : Act → World → Prop), w.heap.size + 2 ≤ W.heap.size → (∀ a₁ W₁, Nu W W₁ → As a.tmps (x, a₁) W₁ → K a₁ W₁) →
      assign.wpIn (Fence.wide.inRound l) (n - 1 - 1) Try.prog (Exit.then K (fun _ _ _ => False)) { tmps := (ps.zip x.enc).foldl (fun t (p, v) => t.setIfInBounds p v) a.tmps, defers := [] } W)
    (hbody : ∀ (l : Nat) (pre : List X) (x : X) (O : Nat → Prop) (a₁ : Act) (W : World), I (pre, O) W → As a.tmps (x, a₁) W → ms[pre.length]? = some x.m → w.heap.size + 2 ≤ W.heap.size → XOwn W (w.heap.size + 2) x → (∀ b, x.blk b → ¬ O b) →
      body.wpIn (Fence.wide.inRound l) (n - 1 - 1) Try.prog (leftN (fun p o => I (p, o)) Ix pre x O W) a₁ W)
    (hdone : ∀ (D : Nat) (xs : List X) (O : Nat → Prop) (W : World), D = w.heap.size → xs.map X.m = ms → I (xs, O) W → W.heap[D]? = some (.deferred (some [])) → Q .normal { a with defers := { target := .collected D, args := #[] } :: a.defers } W)
    (hstop : ∀ (D : Nat) (c : Code) (pre : List X) (W : World), D = w.heap.size → Ix c pre W → W.heap[D]? = some (.deferred (some [])) → c.wpIn Fence.wide n Try.prog Q { a with defers := { target := .collected D, args := #[] } :: a.defers } W) :
    (Code.rangeFunc g ps assign body).wpIn Fence.wide n Try.prog Q a w :=
  range_netD hg eg hseq hF hps I Ix hI hIx O₀ h0 hO (As a.tmps) hAs hassign hbody hdone hstop

/-- How deep the loops stand does not matter. -/
theorem roundK {m m' : Nat} {P : Program} {l : Nat} {fn : FuncId} {tmps : Array Value} {assign body : Code} {w : World} {R : Ending → World → Prop} (h : RoundIn Fence.wide m P l fn tmps assign body w R) : RoundIn Fence.wide m' P l fn tmps assign body w R := ⟨trivial, fun c cs _ => h.2 c cs (fun d hd => by cases hd)⟩
theorem roundIn2 {m m' l2 : Nat} {P : Program} {l : Nat} {fn : FuncId} {tmps : Array Value} {assign body : Code} {w : World} {R : Ending → World → Prop} (h : RoundIn Fence.wide m P l fn tmps assign body w R) : RoundIn (Fence.wide.inRound l2) m' P l fn tmps assign body w R := ⟨trivial, fun c cs _ => h.2 c cs (fun d hd => by cases hd)⟩

/-- What a round begins with: the move in a box (y the slot of what comes, s that of the box). -/
def FAs (y s B : Nat) (T : Array Value) (p : X × Act) (A : World) : Prop := ∃ xb, p.2 = ⟨(T.setIfInBounds y p.1.val).setIfInBounds s (.pointer (some ⟨xb, 0, none⟩)), []⟩ ∧ A.heap[xb]? = some (.cells (mvCells p.1.m p.1.m.to (.slice p.1.ra p.1.m.reads.length p.1.rc) (.slice p.1.wa p.1.m.writes.length p.1.wc)) 44 (0, 0)) ∧ B + 2 ≤ xb
theorem FAs.abides (y s B : Nat) (T : Array Value) : Abides B (FAs y s B T) := by
  intro p A A' h hm
  obtain ⟨xb, h1, h2, h3⟩ := h
  refine ⟨xb, h1, hm.heap h2 (fun hx => ?_), h3⟩
  obtain ⟨_, o, ho, hb⟩ := hx
  rw [h2] at ho
  cases ho
  cases hb

section
variable {o : Oper} {a : Act} {w : World} {K : Act → World → Prop} {Q : Exit → Act → World → Prop} {d : Nat}
theorem lk_ldMove {s b : Nat} {x : X} (hd : o.dst = some d) (ho : o.op = .load 44 (.tmp s)) (hs : a.tmps[s]? = some (.pointer (some ⟨b, 0, none⟩))) (h0 : w.heap[b]? = some (.cells (mvCells x.m x.m.to (.slice x.ra x.m.reads.length x.rc) (.slice x.wa x.m.writes.length x.wc)) 44 (0, 0))) (hK : ∀ w', Nu w w' → K ⟨a.tmps.setIfInBounds d x.val, a.defers⟩ w') : Oper.wp Try.prog o a w K Q := by
  have he : a.eval (.tmp s) = .pointer (some ⟨b, 0, none⟩) := by simp [Act.eval, hs]
  have HK := hid hK
  obtain ⟨p0, p1, p2, p3, p4, p5, p6, p7, p8⟩ := cells9 h0
  clear hK h0
  unfold X.val at HK
  unfold Oper.wp execOp
  simp only [ho, he, hd]
  go_simp
  exact HK.out w (Mv.refl _ _)
theorem lk_numMove {s r : Nat} {x : X} {t : ByteArray} (hd : o.dst = some d) (ho : o.op = .call { callee := .value (.func 72), args := #[.tmp s, .tmp r], argTypes := #[44, 9] }) (hs : a.tmps[s]? = some x.val) (hr : a.tmps[r]? = some (.string t))
    (hn : SmallB t) (ht : SmallB x.m.to) (h1 : IntsAt w w.heap.size x.ra x.m.reads) (h2 : IntsAt w w.heap.size x.wa x.m.writes)
    (hK : ∀ w' (y : X), Nu w w' → y.m = numMv t x.m → XOwn w' w.heap.size y → K ⟨a.tmps.setIfInBounds d y.val, a.defers⟩ w') : Oper.wp Try.prog o a w K Q := by
  have he : a.eval (.tmp s) = x.val := by simp [Act.eval, hs]
  have he' : a.eval (.tmp r) = .string t := by simp [Act.eval, hr]
  unfold Oper.wp execOp
  simp only [ho, hd]
  go_simp
  refine Calls.mono (numMove_any w x t hn ht h1 h2) ?_
  rintro e w' ⟨hn, y, rfl, hm, ho⟩
  exact hK w' y hn hm ho
theorem lk_yieldR {n lr l s r : Nat} {z : X} {R : Ending → World → Prop} (hd : o.dst = some d) (ho : o.op = .call { callee := .value (.tmp s), args := #[.tmp r], argTypes := #[44] }) (hs : a.tmps[s]? = some (.func (.yield l) #[] #[])) (hr : a.tmps[r]? = some z.val) {m : Nat} (hY : YieldAt Fence.wide m Try.prog l z.enc w R)
    (hR : ∀ e W3, R e W3 → ∃ b, e = .returned (.bool b) ∧ K ⟨a.tmps.setIfInBounds d (.bool b), a.defers⟩ W3) : Oper.wpIn (Fence.wide.inRound lr) n Try.prog o a w K Q := by
  obtain ⟨fn, tmps, assign, body, hy, hRo⟩ := hY
  have he : a.tmps[s]?.getD undef = .func (.yield l) #[] #[] := by rw [hs]; rfl
  have he' : a.tmps[r]?.getD undef = z.val := by rw [hr]; rfl
  refine ⟨fun _ _ => trivial, ?_⟩
  rw [Oper.semAt_plain (Fence.wide.inRound lr) _ _ (by rw [ho]; intro c hc; cases hc)]
  have hrun : (execOp a.eval o).run Try.prog w = .ok (.round l fn tmps assign body) w := by
    unfold execOp
    simp [ho, go_sem, Act.eval, he, he']
    exact hy
  rw [hrun, Oper.uponIn_round]
  refine ⟨fun h => by simp [Fence.wide] at h, (roundIn2 hRo).mono ?_⟩
  intro e W3 h
  obtain ⟨b, rfl, hk⟩ := hR e W3 h
  show K (a.put o.dst (.bool b)) W3
  rw [hd]
  exact hk
end

/-- The range in copy 0 under way: the moves that came (ys), what may be turned (Oi). -/
structure FN (W w8 : World) (tb : Nat) (to : ByteArray) (l : Nat) (nx : List Mov) (F Fi : Nat → Prop) (J : List X → (Nat → Prop) → World → Prop) (O₀ : Nat → Prop) (ys : List X) (Oi : Nat → Prop) (A : World) : Prop where
  ex : ∃ xs O, xs.map X.m = (ys.map X.m).map (numMv to) ∧ J xs O A ∧ (∀ b, Oi b ↔ O b ∨ b = l) ∧ (∀ b, O b → O₀ b ∨ w8.heap.size + 2 ≤ b)
  eq : ys.map X.m = nx.take ys.length
  tb : A.heap[tb]? = some (.cells #[.string to] 9 (0, 0))
  yb : A.heap[W.heap.size]? = some (.cells #[.func (.yield l) #[] #[]] 128 (0, 0))
  kp : KeepF (fun b => F b ∨ Fi b) W A
  sz : w8.heap.size ≤ A.heap.size

theorem FN.abides {W w8 : World} {tb : Nat} {to : ByteArray} {l B : Nat} {nx : List Mov} {F Fi : Nat → Prop} {J : List X → (Nat → Prop) → World → Prop} {O₀ : Nat → Prop} (hB : ∀ pre O A A', J pre O A → Mv (turnB B O A) A A' → J pre O A') (hBW : B ≤ w8.heap.size) (hF : ∀ b, (F b ∨ Fi b) → b < W.heap.size) (hW : W.heap.size < w8.heap.size) (hn : tb < w8.heap.size) :
    AbidesO w8.heap.size (fun (s : List X × (Nat → Prop)) A => FN W w8 tb to l nx F Fi J O₀ s.1 s.2 A) := by
  intro s A A' h hm
  obtain ⟨xs, O, h1, h2, h3, h4⟩ := h.ex
  have hno : ∀ b, b < w8.heap.size → ¬ turnB w8.heap.size s.2 A b := fun b hb hx => by have := hx.1; omega
  refine ⟨⟨xs, O, h1, hB _ _ _ _ h2 (hm.mono (fun x hx => .inl ⟨Nat.le_trans hBW hx.1, hx.2.imp fun _ ho => ⟨ho.1, ho.2.imp id fun hh => ⟨hh.1, fun hO => hh.2 ((h3 x).2 (.inl hO))⟩⟩⟩)), h3, h4⟩, h.eq, hm.heap h.tb (hno _ hn), hm.heap h.yb (hno _ hW), ?_, Nat.le_trans h.sz hm.size⟩
  exact h.kp.trans (hm.keep (fun b hb => ⟨Nat.lt_of_lt_of_le (hF b hb) h.kp.1, hno b (by have := hF b hb; omega)⟩))

/-- What region 6 of begun knows of. -/
def RBg (l : Nat) (x : X) (to : ByteArray) (H : Nat) : Nat → World → Value → Prop
  | 0, _, v => v = .func (.yield l) #[] #[]
  | 1, _, v => v = x.val
  | 2, _, v => v = .string to
  | 3, w, v => ∃ y : X, v = y.val ∧ y.m = numMv to x.m ∧ XOwn w H y
  | _, _, v => v = undef
theorem RBg.nu {l : Nat} {x : X} {to : ByteArray} {H : Nat} : ∀ (i : Nat) (w w' : World) (v : Value), Nu w w' → RBg l x to H i w v → RBg l x to H i w' v := by
  intro i w w' v hn h
  unfold RBg at h ⊢
  split <;> simp only at h <;> first
    | exact h
    | (obtain ⟨y, h1, h2, h3⟩ := h; exact ⟨y, h1, h2, h3.mv hn (fun _ _ => id) (Nat.le_refl _)⟩)

/-- What the iterator's own function promises. -/
def FOut (ms : List Mov) (J : List X → (Nat → Prop) → World → Prop) (Jx : List X → World → Prop) (e : Ending) (W' : World) : Prop := (∃ v, e = .returned v) ∧ ((∃ xs O, xs.map X.m = ms ∧ J xs O W') ∨ (∃ pre, Jx pre W'))

end Go.Proofs.Ytcpgpiokjghcnaa
/-
  A system in copies: the moves of a state in copy 0. (mkfabegun.py writes this out of FaBegun.head.)
-/
set_option linter.unusedVariables false
set_option linter.unusedSimpArgs false
namespace Go.Proofs.Ytcpgpiokjghcnaa
open Go.RowKit
attribute [local go_sem] Oper.semAt_some

theorem field_ac (x0 : Int) (x1 x2 x3 : Bool) (w : World) : (Instr.field 41 (.agg #[.int .u64 x0, .bool x1, .bool x2, .bool x3]) 3).run Try.prog w = .ok (.bool x3) w := by kernel_rfl
attribute [local go_sem ↓] field_ac
theorem fb_end {n : Nat} {W : World} {D : Nat} {R : Ending → World → Prop} (hD : W.heap[D]? = some (.deferred (some []))) (hR : R (.returned (.tuple #[])) (W.putObj D (.deferred none))) (T : Array Value) (x : Exit) (hx : x = .ret ∨ x = .normal) :
    bodyPostM Fence.wide n Try.prog Try.f69 R x { tmps := T, defers := [{ target := .collected D, args := #[] }] } W := by
  have key : LeavesInM Fence.wide n Try.prog Try.f69 T R [{ target := .collected D, args := #[] }] .returning W :=
    ⟨by simp, .inl ⟨D, _, rfl, run_takeDeferred hD, ⟨.tuple #[], results_none rfl _ _ _, hR⟩⟩⟩
  rcases hx with rfl | rfl
  · exact key
  · exact key

set_option maxHeartbeats 8000000 in
set_option maxRecDepth 100000 in
theorem begun_any (n : Nat) (hn : 2 ≤ n) (F Fi : Nat → Prop) (pb : Nat) (T : TypeId) (r0 : Value) (K no nc : Nat) (M : Sem) (r : ByteArray) (W : World) (h : CopIs W F pb (.iface T r0) K no nc) (hs : SysAt Fi W T r0 M) (hr : Short r) (hsm : ∀ s m, m ∈ M.next s → SmallB m.to) (hFl : ∀ b, F b → b < W.heap.size)
    (l B : Nat) (hL : l < W.heap.size ∧ ¬ (F l ∨ Fi l)) (hB : B ≤ W.heap.size) (J : List X → (Nat → Prop) → World → Prop) (Jx : List X → World → Prop) (O₀ : Nat → Prop) (hT : Taker n l B (fairMoves K 0 (M.look r).ac (M.next r)) J Jx)
    (hBk : (∀ pre O A A', J pre O A → Mv (turnB B O A) A A' → J pre O A') ∧ ∀ pre A A', Jx pre A → Mv (booksB B A) A A' → Jx pre A') (hOF : ∀ pre O A, J pre O A → ∀ b, O b → b < A.heap.size ∧ ¬ (F b ∨ Fi b)) (h0 : J [] O₀ W) :
    CallsIn Fence.wide n Try.prog 69 #[.pointer (some ⟨pb, 0, none⟩), .string r, .func (.yield l) #[] #[]] W (FOut (fairMoves K 0 (M.look r).ac (M.next r)) J Jx) := by
  have HP := hid h
  have HSY := hid hs
  have HR := hid hr
  have HSM := hid hsm
  have HF := hid hFl
  have HL := hid hL
  have HT := hid hT
  have HBK := hid hBk
  have HOF := hid hOF
  have H0 := hid h0
  have HB := hid hB
  have hn1 : 1 ≤ n := by omega
  have HN0 : Hid (∀ W', Nu W W' → Calls Try.prog 71 #[.pointer (some ⟨pb, 0, none⟩), .int .i64 0] W' fun e w' => e = .returned (.string (nst (nextK K 0))) ∧ Nu W' w') := fun W' hW => by
    have h1 := fnext_any W' F pb _ K no nc (HP.out.nu HF.out hW) 0 (by have := HP.out.len; omega)
    simpa using h1
  have HNK : Hid (nextK K 0 < 17) := by
    have h1 := HP.out.len
    have : nextK K 0 < K := Nat.mod_lt _ (by omega)
    show _ < _
    omega
  clear h hs hr hsm hFl hL hT hBk hOF h0 hB
  obtain ⟨ms, hms⟩ : ∃ ms, fairMoves K 0 (M.look r).ac (M.next r) = ms := ⟨_, rfl⟩
  rw [hms] at HT ⊢
  have HMS := hid hms
  clear hms
  refine callsIn_of_wp_marks Try.func69 rfl trivial ?_ rfl
  simp only [Try.ntmps69, List.size_toArray, List.length_cons, List.length_nil, Nat.reduceAdd, Nat.reduceSub, Array.replicate_succ, Array.replicate_zero, List.push_toArray, List.append_toArray, List.nil_append, List.cons_append]
  have HN1 : Hid (Nu W (W.alloc (.cells #[.func (.yield l) #[] #[]] 128))) := Mv.alloc _ _ _
  have HYB : Hid ((W.alloc (.cells #[.func (.yield l) #[] #[]] 128)).heap[W.heap.size]? = some (.cells #[.func (.yield l) #[] #[]] 128 (0, 0))) := heap_alloc_new W _
  have HL2 : Hid (1 ≤ K ∧ K ≤ 17) := HP.out.len
  have hl1 : (1 : Int) ≤ (K : Int) := by have := HP.out.len; omega
  have hl2 : (K : Int) ≤ 17 := by have := HP.out.len; omega
  have hl3 : (0 : Int) < (K : Int) := by omega
  have c1 : (W.alloc (.cells #[.func (.yield l) #[] #[]] 128)).cell? ⟨pb, 1, none⟩ = some (.slice (some ⟨no, 0, none⟩) K nc) := cell_blk (HN1.out.heap HP.out.blk id) 1
  have c2 : (W.alloc (.cells #[.func (.yield l) #[] #[]] 128)).cell? ⟨no, 0, none⟩ = some (.string (nst 0)) := (HP.out.nu HF.out HN1.out).nums 0 (by have := HP.out.len; omega)
  gi_upto_region 2 with fail
  have HN2 : Hid (Nu W ((W.alloc (.cells #[.func (.yield l) #[] #[]] 128)).alloc (.cells #[.string (nst 0)] 9))) := mv0 HN1.out (Mv.alloc _ _ _)
  have HY2 : Hid (((W.alloc (.cells #[.func (.yield l) #[] #[]] 128)).alloc (.cells #[.string (nst 0)] 9)).heap[W.heap.size]? = some (.cells #[.func (.yield l) #[] #[]] 128 (0, 0))) := (Mv.alloc (fun _ => False) _ _).heap HYB.out id
  have HT2 : Hid (((W.alloc (.cells #[.func (.yield l) #[] #[]] 128)).alloc (.cells #[.string (nst 0)] 9)).heap[W.heap.size + 1]? = some (.cells #[.string (nst 0)] 9 (0, 0))) := by
    have := heap_alloc_new (W.alloc (.cells #[.func (.yield l) #[] #[]] 128)) (.cells #[.string (nst 0)] 9)
    rw [World.size_alloc] at this
    exact this
  generalize (W.alloc (.cells #[.func (.yield l) #[] #[]] 128)).alloc (.cells #[.string (nst 0)] 9) = w2 at *
  clear c1 c2 HN1 HYB
  have c0 : w2.cell? ⟨pb, 0, none⟩ = some (.iface T r0) := cell_blk (HN2.out.heap HP.out.blk id) 0
  obtain ⟨fl, rl, hll, hcl⟩ := (HSY.out.doNu HN2.out).lk
  have hmt := hll.1
  have hen := hll.2.1
  unfold Enters at hen
  have HCL := hid (hcl r HR.out)
  clear hll hcl
  generalize M.look r = s at *
  unfold sval at HCL
  cases hac : s.ac with
  | false =>
    rw [hac] at HCL HMS
    gi_wp2_with fail
    refine ⟨trivial, (callsIn_wide.2 HCL.out).mono ?_⟩
    rintro e w3 ⟨rfl, hn3⟩
    have HN3 : Hid (Nu W w3) := mv0 HN2.out hn3
    have HY3 := hid (hn3.heap HY2.out id)
    have HT3 := hid (hn3.heap HT2.out id)
    have HFM : Hid (ms = (M.next r).map (numMv (nst 0))) := HMS.out.symm
    have HTO : Hid (SmallB (nst 0)) := nst_smallB (by omega)
    clear hn3 hmt hen HCL c0 HN2 HY2 HT2
    have c0 : w3.cell? ⟨pb, 0, none⟩ = some (.iface T r0) := cell_blk (HN3.out.heap HP.out.blk id) 0
    obtain ⟨fnx, rnx, hlx, hcx⟩ := (HSY.out.doNu HN3.out).nx
    have hmt := hlx.1
    have hen := hlx.2.1
    unfold Enters at hen
    have HCX := hid (hcx r HR.out)
    have HWK : Hid (W.heap.size ≤ w3.heap.size) := HN3.out.size
    clear hlx hcx
    gi_wp2_with fail
    refine ⟨trivial, (callsIn_wide.2 HCX.out).mono ?_⟩
    rintro e w8 ⟨gf, lb, G, rfl, hn8, heg, hG, hseq⟩
    clear c0 hmt hen HCX
    gi_wp2_with fail
    have HG8 := hid hG
    have HSEQ := hid hseq
    have HN8 : Hid (Nu W w8) := mv0 HN3.out hn8
    have HY8 := hid (hn8.heap HY3.out id)
    have HT8 := hid (hn8.heap HT3.out id)
    have HFF : Hid (∀ b, (F b ∨ Fi b) → b < W.heap.size) := fun b hb => hb.elim (HF.out b) (HSY.out.lt b)
    have HSZ : Hid (W.heap.size + 1 < w8.heap.size) := lt_of_block HT8.out
    clear hn8 hG hseq HN3 HY3 HT3
    refine range_net3 (F := G) (gf := gf) (lb := lb) (ms := M.next r) rfl heg (HSEQ.out (n - 1) (by omega)) (fun b hb => (HG8.out b hb).1) rfl
      (fun s A => FN W w8 (W.heap.size + 1) (nst 0) l (M.next r) F Fi J O₀ s.1 s.2 A) (fun c ys A => c = .ret ∧ ∃ pre, Jx pre A) ?habI ?habX (fun b => O₀ b ∨ b = l) ?start ?hO (FAs 29 7 w8.heap.size) (FAs.abides _ _ _ _) ?assign ?body ?done ?stop
    case habI => exact FN.abides HBK.out.1 (by have := HB.out; have := HN8.out.size; omega) HFF.out (by have := HSZ.out; omega) HSZ.out
    case habX => exact fun c ys A A' h hm => ⟨h.1, by
      obtain ⟨pre, hp⟩ := h.2
      exact ⟨pre, HBK.out.2 _ _ _ hp (hm.mono (fun x hx => .inl ⟨by have := hx.1; have := HN8.out.size; have := HB.out; omega, hx.2⟩))⟩⟩
    case start => exact ⟨⟨[], O₀, rfl, HT.out.nu _ _ _ _ H0.out HN8.out, fun b => Iff.rfl, fun b h => .inl h⟩, by simp, HT8.out, HY8.out, HN8.out.keep (fun b hb => ⟨HFF.out b hb, id⟩), Nat.le_refl _⟩
    case hO =>
      intro s A h b hb
      obtain ⟨xs, O, _, hj, hi, ho⟩ := h.ex
      have h0 : ∀ b, O₀ b → b < W.heap.size := fun b hb => (HOF.out _ _ _ H0.out b hb).1
      have hw8 := HN8.out.size
      have hwk := HWK.out
      rcases (hi b).1 hb with hb | rfl
      · obtain ⟨h1, h2⟩ := HOF.out _ _ _ hj b hb
        refine ⟨h1, fun hg => ?_, ?_⟩
        · obtain ⟨g1, g2⟩ := HG8.out b hg
          rcases g2 with g2 | g2
          · exact h2 (.inr g2)
          · rcases ho b hb with h3 | h3
            · have := h0 b h3; omega
            · omega
        · rcases ho b hb with h3 | h3
          · have := h0 b h3; omega
          · exact .inr h3
      · refine ⟨Nat.lt_of_lt_of_le HL.out.1 (Nat.le_trans hw8 h.sz), fun hg => ?_, .inl (by have := HL.out.1; omega)⟩
        obtain ⟨g1, g2⟩ := HG8.out _ hg
        rcases g2 with g2 | g2
        · exact HL.out.2 (.inr g2)
        · have := HL.out.1; omega
    case assign =>
      intro l2 x A Kx hA hK
      have hc : x.enc = #[.agg x.cells.toArray] := rfl
      simp only [hc, X.cells]
      gi_wp2
      exact hK _ _ (Mv.alloc _ _ _) ⟨A.heap.size, rfl, heap_alloc_new A _, hA⟩
    case body =>
      rintro l2 ys x Oi a₁ V hI ⟨xb, ha, hxb, hxl⟩ hx hA hown hno
      simp only at ha hxb
      obtain ⟨xs, O, h1, h2, h3, h4⟩ := hI.ex
      have HI : Hid (FN W w8 (W.heap.size + 1) (nst 0) l (M.next r) F Fi J O₀ ys Oi V) := hI
      have HXO := hid hown
      have HX := hid hx
      have H1 : Hid (xs.map X.m = (ys.map X.m).map (numMv (nst 0))) := h1
      have H3 : Hid (∀ b, Oi b ↔ O b ∨ b = l) := h3
      have H4 := hid h4
      have HA8 := hid hA
      have HJ2 := hid h2
      have HXB := hid hxb
      subst ha
      simp only [List.setIfInBounds_toArray, List.set_cons_succ, List.set_cons_zero]
      clear hI hown hx h1 h2 h3 h4 hno hxl hxb hA
      gi_upto_region 6 with fail
      have HTB : Hid (V.heap[W.heap.size + 1]? = some (.cells #[.string (nst 0)] 9 (0, 0))) := HI.out.tb
      have c1 := cell_blk HI.out.yb 0
      have c2 := cell_blk HTB.out 0
      have HOB : Hid (∀ b, O b → b < V.heap.size ∧ ¬ (F b ∨ Fi b)) := HOF.out _ _ _ HJ2.out
      have HXS : Hid (SmallB x.m.to) := HSM.out r x.m (List.mem_of_getElem? HX.out)
      have HBV : Hid (B ≤ V.heap.size ∧ W.heap.size ≤ V.heap.size) := by
        have h1 := HB.out
        have h2 := HN8.out.size
        have h3 := HI.out.sz
        exact ⟨by omega, by omega⟩
      have HMX : Hid (ms[xs.length]? = some (numMv (nst 0) x.m)) := by
        have hl : xs.length = ys.length := by
          have := congrArg List.length H1.out
          simpa using this
        show _ = _
        rw [HFM.out, hl, List.getElem?_map, HX.out]
        rfl
      have HON : Hid (∀ b, W.heap.size ≤ b → b < w8.heap.size + 2 → ¬ O b) := fun b h1 h2 ho => by
        rcases H4.out b ho with h | h
        · have := (HOF.out _ _ _ H0.out b h).1; omega
        · omega
      rename_i KC hKC
      refine wpIn_yieldR 4 34 35 _ _ (RBg l x (nst 0) V.heap.size) (fun b a w' => KC ⟨(a.tmps.setIfInBounds 34 (.bool b)).setIfInBounds 35 (.bool (!b)), a.defers⟩ w') RBg.nu (by kernel_rfl) (by kernel_rfl) rfl ?hcl rfl rfl rfl (by intro c hc; cases hc) ?hnot ?step ?yield ?last
      case hnot =>
        intro a b w' he
        have he' : a.tmps[34]?.getD undef = .bool b := by simpa [Act.eval] using he
        unfold execOp
        simp [go_sem, he']
      case hcl =>
        intro l' hcl hy i hi
        have h0 := hy ⟨0, .data⟩ (by simp) rfl
        have h3 := hy ⟨3, .data⟩ (by simp) rfl
        have h1 := hcl 3 _ rfl h3 ⟨1, .data⟩ (by simp) rfl
        have h2 := hcl 3 _ rfl h3 ⟨2, .data⟩ (by simp) rfl
        have : i = 0 ∨ i = 1 ∨ i = 2 ∨ i = 3 := by omega
        rcases this with rfl | rfl | rfl | rfl <;> assumption
      case last => exact fun b a w' _ h => h
      case step =>
        intro i o d a w' hi7 ho hd hnw hfr had Kx hK
        have f5 := hfr 5 (by kernel_rfl)
        have f6 := hfr 6 (by kernel_rfl)
        have f7 := hfr 7 (by kernel_rfl)
        have c1' := cell_mv hnw c1 id
        have c2' := cell_mv hnw c2 id
        have : i = 0 ∨ i = 1 ∨ i = 2 ∨ i = 3 := by omega
        rcases this with rfl | rfl | rfl | rfl <;> cases ho <;> cases hd
        · exact wpIn_of_opR (by intro c hc; cases hc) (lk_ldYld rfl rfl f5 c1' (fun w' hm => hK w' _ hm rfl))
        · exact wpIn_of_opR (by intro c hc; cases hc) (lk_ldMove rfl rfl f7 (hnw.heap HXB.out id) (fun w' hm => hK w' _ hm rfl))
        · exact wpIn_of_opR (by intro c hc; cases hc) (lk_ldStr rfl rfl f6 c2' (fun w' hm => hK w' _ hm rfl))
        · obtain ⟨⟨_, h0, rfl⟩, ⟨_, h1, rfl⟩, _⟩ := had
          exact wpIn_of_opR (by intro c hc; cases hc) (lk_numMove rfl rfl h0 h1 HTO.out HXS.out (HXO.out.r.at.below hnw.nu_below hnw.size) (HXO.out.w.at.below hnw.nu_below hnw.size) (fun w' y hm hy ho => hK w' _ hm ⟨y, rfl, hy, ho.mv (Mv.refl (fun _ => False) _) (fun _ _ => id) hnw.size⟩))
      case yield =>
        intro a w' hnw hdf hsz hfr htv
        obtain ⟨_, t0, rfl⟩ := htv 0 _ 30 (by decide) rfl rfl
        obtain ⟨_, t1, rfl⟩ := htv 1 _ 31 (by decide) rfl rfl
        obtain ⟨_, t2, rfl⟩ := htv 2 _ 32 (by decide) rfl rfl
        obtain ⟨_, t3, y, rfl, hym, hyo⟩ := htv 3 _ 33 (by decide) rfl rfl
        have hyb : ∀ b, y.blk b → V.heap.size ≤ b := fun b hb => (hyo.ge hb).1
        refine lk_yieldR (z := y) rfl rfl t0 t3 (HT.out.yld xs y w' O (HT.out.nu _ _ _ _ HJ2.out hnw) (Nat.le_trans HBV.out.1 hnw.size) (by rw [hym]; exact HMX.out) (hyo.mv (Mv.refl (fun _ => False) _) (fun _ _ => id) HBV.out.1) (fun b hb ho => by have h1 := hyb b hb; have h2 := (HOB.out b ho).1; omega)) ?_
        intro e W3 hE
        have htm : ∀ bb : Bool, (⟨(a.tmps.setIfInBounds 34 (.bool bb)).setIfInBounds 35 (.bool (!bb)), a.defers⟩ : Act).tmps = _ := fun bb => fill_eqN (vals := fun i => ([.func (.yield l) #[] #[], x.val, .string (nst 0), y.val, .bool bb, .bool (!bb)] : List Value).getD i undef) (by kernel_rfl) (frame2 (ip := 4) (iq := 5) hfr rfl rfl rfl rfl) (fun i o d hi hd => by
          have hi' : i < 6 := (Array.getElem?_eq_some_iff.1 hi).1
          have : i = 0 ∨ i = 1 ∨ i = 2 ∨ i = 3 ∨ i = 4 ∨ i = 5 := by omega
          rcases this with rfl | rfl | rfl | rfl | rfl | rfl <;> cases hi <;> cases hd
          · rw [Array.getElem?_setIfInBounds_ne (by decide), Array.getElem?_setIfInBounds_ne (by decide)]; exact t0
          · rw [Array.getElem?_setIfInBounds_ne (by decide), Array.getElem?_setIfInBounds_ne (by decide)]; exact t1
          · rw [Array.getElem?_setIfInBounds_ne (by decide), Array.getElem?_setIfInBounds_ne (by decide)]; exact t2
          · rw [Array.getElem?_setIfInBounds_ne (by decide), Array.getElem?_setIfInBounds_ne (by decide)]; exact t3
          · rw [Array.getElem?_setIfInBounds_ne (by decide), Array.getElem?_setIfInBounds_self]; simp [hsz]
          · rw [Array.getElem?_setIfInBounds_self]; simp [hsz])
        have HVW : Hid (Mv (fun b => Oi b ∨ x.blk b) V w') := hnw.mono (fun _ h => h.elim)
        have HYB := hid hyb
        have HYM := hid hym
        have hlen : (ys ++ [x]).length = ys.length + 1 := by simp
        rcases hE with ⟨rfl, O', hJ3, hO', hmv⟩ | ⟨rfl, hJx3, hmx⟩
        · have HRB : Hid (∃ O', FN W w8 (W.heap.size + 1) (nst 0) l (M.next r) F Fi J O₀ (ys ++ [x]) O' W3 ∧ (∀ b, O' b → Oi b ∨ x.blk b ∨ V.heap.size ≤ b) ∧ Mv (fun b => Oi b ∨ x.blk b) V W3) := by
            have hv := HI.out.sz
            have ha8 := HA8.out
            have hbw := HBV.out.2
            have hn8 := HN8.out.size
            have hs8 := HSZ.out
            have hns := hnw.size
            refine ⟨fun b => O' b ∨ b = l, ⟨⟨xs ++ [y], O', ?_, hJ3, fun b => Iff.rfl, fun b hb => ?_⟩, ?_, ?_, ?_, ?_, by have := hmv.size; omega⟩, fun b hb => ?_, HVW.out.trans hmv (fun b hb => ?_)⟩
            · rw [List.map_append, H1.out, List.map_append, List.map_append]
              simp [HYM.out]
            · rcases hO' b hb with h | h | h
              · exact H4.out b h
              · have := HYB.out b h; exact .inr (by omega)
              · exact .inr (by omega)
            · have h := HX.out
              rw [List.map_append, HI.out.eq, hlen, List.take_add_one, h]
              rfl
            · exact hmv.heap (hnw.heap HTB.out id) (fun h => h.elim (HON.out _ (by omega) (by omega)) (fun h => by have := HYB.out _ h; omega))
            · exact hmv.heap (hnw.heap HI.out.yb id) (fun h => h.elim (HON.out _ (by omega) (by omega)) (fun h => by have := HYB.out _ h; omega))
            · refine HI.out.kp.trans ((hnw.keep (fun b hb => ⟨Nat.lt_of_lt_of_le (HFF.out b hb) hbw, id⟩)).trans (hmv.keep (fun b hb => ⟨by have := HFF.out b hb; omega, fun h => ?_⟩)))
              rcases h with h | h
              · exact (HOB.out b h).2 hb
              · have h1 := HYB.out b h
                have h2 := HFF.out b hb
                omega
            · rcases hb with hb | hb
              · rcases hO' b hb with h | h | h
                · exact .inl ((H3.out b).2 (.inl h))
                · exact .inr (.inr (HYB.out b h))
                · exact .inr (.inr (by omega))
              · exact .inl ((H3.out b).2 (.inr hb))
            · rcases hb with h | h
              · exact .inl (.inl ((H3.out b).2 (.inl h)))
              · exact .inr (HYB.out b h)
          refine ⟨true, rfl, true, rfl, hKC _ _ ?_⟩
          rw [act_eq' (htm true) hdf]
          clear htm htv hfr t0 t1 t2 t3 hdf hsz hKC hJ3 hmv hO' hnw hyo hym hyb c1 c2
          simp only [fill, List.getD_cons_succ, List.getD_cons_zero, List.setIfInBounds_toArray, List.set_cons_succ, List.set_cons_zero]
          gi_wp2_with fail
          exact HRB.out
        · have HRB : Hid (Mv (fun b => Oi b ∨ x.blk b) V W3 ∧ ∃ pre, Jx pre W3) := ⟨HVW.out.trans hmx (fun b hb => by
            rcases hb with h | h | h
            · exact .inl (.inl ((H3.out b).2 (.inl h)))
            · exact .inr (HYB.out b h)
            · exact .inl (.inl ((H3.out b).2 (.inr h)))), _, hJx3⟩
          refine ⟨false, rfl, false, rfl, hKC _ _ ?_⟩
          rw [act_eq' (htm false) hdf]
          clear htm htv hfr t0 t1 t2 t3 hdf hsz hKC hJx3 hmx hnw hyo hym hyb c1 c2
          simp only [fill, List.getD_cons_succ, List.getD_cons_zero, List.setIfInBounds_toArray, List.set_cons_succ, List.set_cons_zero]
          gi_wp2_with fail
          exact ⟨HRB.out.1, rfl, HRB.out.2⟩
    case stop =>
      rintro D c pre V hD ⟨rfl, q', hq'⟩ hdd
      have HQ' := hid hq'
      have HDD := hid hdd
      have HD := hid hD
      clear hq' hdd hD
      gi_wp2_with fail
      refine fb_end HDD.out ?_ _ _ (.inl rfl)
      exact ⟨⟨_, rfl⟩, .inr ⟨q', HBK.out.2 _ _ _ HQ'.out ((mv_putObj V D _).mono (fun b hb => .inl ⟨by have := HN8.out.size; have := HD.out; have := HB.out; omega, .deferred (some []), by rw [hb]; exact HDD.out, rfl⟩))⟩⟩
    case done =>
      rintro D ys Oi V hD hms hI hdd
      obtain ⟨xs, O, h1, h2, h3, h4⟩ := hI.ex
      have HDD := hid hdd
      have HD := hid hD
      have HRE : Hid (FOut ms J Jx (.returned (.tuple #[])) (V.putObj D (.deferred none))) := ⟨⟨_, rfl⟩, .inl ⟨xs, O, by rw [h1, hms, HFM.out], HBK.out.1 _ _ _ _ h2 ((mv_putObj V D _).mono (fun b hb => .inl ⟨by have := HN8.out.size; have := HD.out; have := HB.out; omega, .deferred (some []), by rw [hb]; exact HDD.out, .inl rfl⟩))⟩⟩
      clear h1 h2 h3 h4 hI hms hdd hD
      refine fb_end HDD.out HRE.out _ _ (.inr rfl)
  | true =>
    rw [hac] at HCL HMS
    gi_wp2_with fail
    refine ⟨trivial, (callsIn_wide.2 HCL.out).mono ?_⟩
    rintro e w3 ⟨rfl, hn3⟩
    have HN3 : Hid (Nu W w3) := mv0 HN2.out hn3
    have HY3 := hid (hn3.heap HY2.out id)
    have HT3 := hid (hn3.heap HT2.out id)
    have HFM : Hid (ms = (M.next r).map (numMv (nst (nextK K 0)))) := HMS.out.symm
    have HTO : Hid (SmallB (nst (nextK K 0))) := nst_smallB (by have := HNK.out; omega)
    clear hn3 hmt hen HCL c0 HN2 HY2 HT2
    gi_wp2_with fail
    refine ⟨trivial, (callsIn_wide.2 (HN0.out _ HN3.out)).mono ?_⟩
    rintro e w4 ⟨rfl, hn4⟩
    have HN4 : Hid (Nu W w4) := mv0 HN3.out hn4
    have HY4 := hid (hn4.heap HY3.out id)
    have HT4 := hid (hn4.heap HT3.out id)
    clear hn4 HN3 HY3 HT3
    have e0 := cell_blk HT4.out 0
    have e1 := free_blk HT4.out 0
    gi_upto_region 4 with fail
    have hm5 : Mv (· = W.heap.size + 1) w4 (w4.setCell ⟨W.heap.size + 1, 0, none⟩ (.string (nst (nextK K 0)))) := Mv.setCell w4 ⟨W.heap.size + 1, 0, none⟩ _
    have HN5 : Hid (Nu W (w4.setCell ⟨W.heap.size + 1, 0, none⟩ (.string (nst (nextK K 0))))) := HN4.out.trans hm5 (fun x hx => .inr (by omega))
    have HY5 := hid (hm5.heap HY4.out (by omega))
    have HT5 : Hid ((w4.setCell ⟨W.heap.size + 1, 0, none⟩ (.string (nst (nextK K 0)))).heap[W.heap.size + 1]? = some (.cells #[.string (nst (nextK K 0))] 9 (0, 0))) := setCell_blk HT4.out
    generalize w4.setCell ⟨W.heap.size + 1, 0, none⟩ (.string (nst (nextK K 0))) = w5 at *
    clear hm5 e0 e1 HN4 HY4 HT4
    have c0 : w5.cell? ⟨pb, 0, none⟩ = some (.iface T r0) := cell_blk (HN5.out.heap HP.out.blk id) 0
    obtain ⟨fnx, rnx, hlx, hcx⟩ := (HSY.out.doNu HN5.out).nx
    have hmt := hlx.1
    have hen := hlx.2.1
    unfold Enters at hen
    have HCX := hid (hcx r HR.out)
    have HWK : Hid (W.heap.size ≤ w5.heap.size) := HN5.out.size
    clear hlx hcx
    gi_wp2_with fail
    refine ⟨trivial, (callsIn_wide.2 HCX.out).mono ?_⟩
    rintro e w8 ⟨gf, lb, G, rfl, hn8, heg, hG, hseq⟩
    clear c0 hmt hen HCX
    gi_wp2_with fail
    have HG8 := hid hG
    have HSEQ := hid hseq
    have HN8 : Hid (Nu W w8) := mv0 HN5.out hn8
    have HY8 := hid (hn8.heap HY5.out id)
    have HT8 := hid (hn8.heap HT5.out id)
    have HFF : Hid (∀ b, (F b ∨ Fi b) → b < W.heap.size) := fun b hb => hb.elim (HF.out b) (HSY.out.lt b)
    have HSZ : Hid (W.heap.size + 1 < w8.heap.size) := lt_of_block HT8.out
    clear hn8 hG hseq HN5 HY5 HT5
    refine range_net3 (F := G) (gf := gf) (lb := lb) (ms := M.next r) rfl heg (HSEQ.out (n - 1) (by omega)) (fun b hb => (HG8.out b hb).1) rfl
      (fun s A => FN W w8 (W.heap.size + 1) (nst (nextK K 0)) l (M.next r) F Fi J O₀ s.1 s.2 A) (fun c ys A => c = .ret ∧ ∃ pre, Jx pre A) ?habI ?habX (fun b => O₀ b ∨ b = l) ?start ?hO (FAs 29 7 w8.heap.size) (FAs.abides _ _ _ _) ?assign ?body ?done ?stop
    case habI => exact FN.abides HBK.out.1 (by have := HB.out; have := HN8.out.size; omega) HFF.out (by have := HSZ.out; omega) HSZ.out
    case habX => exact fun c ys A A' h hm => ⟨h.1, by
      obtain ⟨pre, hp⟩ := h.2
      exact ⟨pre, HBK.out.2 _ _ _ hp (hm.mono (fun x hx => .inl ⟨by have := hx.1; have := HN8.out.size; have := HB.out; omega, hx.2⟩))⟩⟩
    case start => exact ⟨⟨[], O₀, rfl, HT.out.nu _ _ _ _ H0.out HN8.out, fun b => Iff.rfl, fun b h => .inl h⟩, by simp, HT8.out, HY8.out, HN8.out.keep (fun b hb => ⟨HFF.out b hb, id⟩), Nat.le_refl _⟩
    case hO =>
      intro s A h b hb
      obtain ⟨xs, O, _, hj, hi, ho⟩ := h.ex
      have h0 : ∀ b, O₀ b → b < W.heap.size := fun b hb => (HOF.out _ _ _ H0.out b hb).1
      have hw8 := HN8.out.size
      have hwk := HWK.out
      rcases (hi b).1 hb with hb | rfl
      · obtain ⟨h1, h2⟩ := HOF.out _ _ _ hj b hb
        refine ⟨h1, fun hg => ?_, ?_⟩
        · obtain ⟨g1, g2⟩ := HG8.out b hg
          rcases g2 with g2 | g2
          · exact h2 (.inr g2)
          · rcases ho b hb with h3 | h3
            · have := h0 b h3; omega
            · omega
        · rcases ho b hb with h3 | h3
          · have := h0 b h3; omega
          · exact .inr h3
      · refine ⟨Nat.lt_of_lt_of_le HL.out.1 (Nat.le_trans hw8 h.sz), fun hg => ?_, .inl (by have := HL.out.1; omega)⟩
        obtain ⟨g1, g2⟩ := HG8.out _ hg
        rcases g2 with g2 | g2
        · exact HL.out.2 (.inr g2)
        · have := HL.out.1; omega
    case assign =>
      intro l2 x A Kx hA hK
      have hc : x.enc = #[.agg x.cells.toArray] := rfl
      simp only [hc, X.cells]
      gi_wp2
      exact hK _ _ (Mv.alloc _ _ _) ⟨A.heap.size, rfl, heap_alloc_new A _, hA⟩
    case body =>
      rintro l2 ys x Oi a₁ V hI ⟨xb, ha, hxb, hxl⟩ hx hA hown hno
      simp only at ha hxb
      obtain ⟨xs, O, h1, h2, h3, h4⟩ := hI.ex
      have HI : Hid (FN W w8 (W.heap.size + 1) (nst (nextK K 0)) l (M.next r) F Fi J O₀ ys Oi V) := hI
      have HXO := hid hown
      have HX := hid hx
      have H1 : Hid (xs.map X.m = (ys.map X.m).map (numMv (nst (nextK K 0)))) := h1
      have H3 : Hid (∀ b, Oi b ↔ O b ∨ b = l) := h3
      have H4 := hid h4
      have HA8 := hid hA
      have HJ2 := hid h2
      have HXB := hid hxb
      subst ha
      simp only [List.setIfInBounds_toArray, List.set_cons_succ, List.set_cons_zero]
      clear hI hown hx h1 h2 h3 h4 hno hxl hxb hA
      gi_upto_region 6 with fail
      have HTB : Hid (V.heap[W.heap.size + 1]? = some (.cells #[.string (nst (nextK K 0))] 9 (0, 0))) := HI.out.tb
      have c1 := cell_blk HI.out.yb 0
      have c2 := cell_blk HTB.out 0
      have HOB : Hid (∀ b, O b → b < V.heap.size ∧ ¬ (F b ∨ Fi b)) := HOF.out _ _ _ HJ2.out
      have HXS : Hid (SmallB x.m.to) := HSM.out r x.m (List.mem_of_getElem? HX.out)
      have HBV : Hid (B ≤ V.heap.size ∧ W.heap.size ≤ V.heap.size) := by
        have h1 := HB.out
        have h2 := HN8.out.size
        have h3 := HI.out.sz
        exact ⟨by omega, by omega⟩
      have HMX : Hid (ms[xs.length]? = some (numMv (nst (nextK K 0)) x.m)) := by
        have hl : xs.length = ys.length := by
          have := congrArg List.length H1.out
          simpa using this
        show _ = _
        rw [HFM.out, hl, List.getElem?_map, HX.out]
        rfl
      have HON : Hid (∀ b, W.heap.size ≤ b → b < w8.heap.size + 2 → ¬ O b) := fun b h1 h2 ho => by
        rcases H4.out b ho with h | h
        · have := (HOF.out _ _ _ H0.out b h).1; omega
        · omega
      rename_i KC hKC
      refine wpIn_yieldR 4 34 35 _ _ (RBg l x (nst (nextK K 0)) V.heap.size) (fun b a w' => KC ⟨(a.tmps.setIfInBounds 34 (.bool b)).setIfInBounds 35 (.bool (!b)), a.defers⟩ w') RBg.nu (by kernel_rfl) (by kernel_rfl) rfl ?hcl rfl rfl rfl (by intro c hc; cases hc) ?hnot ?step ?yield ?last
      case hnot =>
        intro a b w' he
        have he' : a.tmps[34]?.getD undef = .bool b := by simpa [Act.eval] using he
        unfold execOp
        simp [go_sem, he']
      case hcl =>
        intro l' hcl hy i hi
        have h0 := hy ⟨0, .data⟩ (by simp) rfl
        have h3 := hy ⟨3, .data⟩ (by simp) rfl
        have h1 := hcl 3 _ rfl h3 ⟨1, .data⟩ (by simp) rfl
        have h2 := hcl 3 _ rfl h3 ⟨2, .data⟩ (by simp) rfl
        have : i = 0 ∨ i = 1 ∨ i = 2 ∨ i = 3 := by omega
        rcases this with rfl | rfl | rfl | rfl <;> assumption
      case last => exact fun b a w' _ h => h
      case step =>
        intro i o d a w' hi7 ho hd hnw hfr had Kx hK
        have f5 := hfr 5 (by kernel_rfl)
        have f6 := hfr 6 (by kernel_rfl)
        have f7 := hfr 7 (by kernel_rfl)
        have c1' := cell_mv hnw c1 id
        have c2' := cell_mv hnw c2 id
        have : i = 0 ∨ i = 1 ∨ i = 2 ∨ i = 3 := by omega
        rcases this with rfl | rfl | rfl | rfl <;> cases ho <;> cases hd
        · exact wpIn_of_opR (by intro c hc; cases hc) (lk_ldYld rfl rfl f5 c1' (fun w' hm => hK w' _ hm rfl))
        · exact wpIn_of_opR (by intro c hc; cases hc) (lk_ldMove rfl rfl f7 (hnw.heap HXB.out id) (fun w' hm => hK w' _ hm rfl))
        · exact wpIn_of_opR (by intro c hc; cases hc) (lk_ldStr rfl rfl f6 c2' (fun w' hm => hK w' _ hm rfl))
        · obtain ⟨⟨_, h0, rfl⟩, ⟨_, h1, rfl⟩, _⟩ := had
          exact wpIn_of_opR (by intro c hc; cases hc) (lk_numMove rfl rfl h0 h1 HTO.out HXS.out (HXO.out.r.at.below hnw.nu_below hnw.size) (HXO.out.w.at.below hnw.nu_below hnw.size) (fun w' y hm hy ho => hK w' _ hm ⟨y, rfl, hy, ho.mv (Mv.refl (fun _ => False) _) (fun _ _ => id) hnw.size⟩))
      case yield =>
        intro a w' hnw hdf hsz hfr htv
        obtain ⟨_, t0, rfl⟩ := htv 0 _ 30 (by decide) rfl rfl
        obtain ⟨_, t1, rfl⟩ := htv 1 _ 31 (by decide) rfl rfl
        obtain ⟨_, t2, rfl⟩ := htv 2 _ 32 (by decide) rfl rfl
        obtain ⟨_, t3, y, rfl, hym, hyo⟩ := htv 3 _ 33 (by decide) rfl rfl
        have hyb : ∀ b, y.blk b → V.heap.size ≤ b := fun b hb => (hyo.ge hb).1
        refine lk_yieldR (z := y) rfl rfl t0 t3 (HT.out.yld xs y w' O (HT.out.nu _ _ _ _ HJ2.out hnw) (Nat.le_trans HBV.out.1 hnw.size) (by rw [hym]; exact HMX.out) (hyo.mv (Mv.refl (fun _ => False) _) (fun _ _ => id) HBV.out.1) (fun b hb ho => by have h1 := hyb b hb; have h2 := (HOB.out b ho).1; omega)) ?_
        intro e W3 hE
        have htm : ∀ bb : Bool, (⟨(a.tmps.setIfInBounds 34 (.bool bb)).setIfInBounds 35 (.bool (!bb)), a.defers⟩ : Act).tmps = _ := fun bb => fill_eqN (vals := fun i => ([.func (.yield l) #[] #[], x.val, .string (nst (nextK K 0)), y.val, .bool bb, .bool (!bb)] : List Value).getD i undef) (by kernel_rfl) (frame2 (ip := 4) (iq := 5) hfr rfl rfl rfl rfl) (fun i o d hi hd => by
          have hi' : i < 6 := (Array.getElem?_eq_some_iff.1 hi).1
          have : i = 0 ∨ i = 1 ∨ i = 2 ∨ i = 3 ∨ i = 4 ∨ i = 5 := by omega
          rcases this with rfl | rfl | rfl | rfl | rfl | rfl <;> cases hi <;> cases hd
          · rw [Array.getElem?_setIfInBounds_ne (by decide), Array.getElem?_setIfInBounds_ne (by decide)]; exact t0
          · rw [Array.getElem?_setIfInBounds_ne (by decide), Array.getElem?_setIfInBounds_ne (by decide)]; exact t1
          · rw [Array.getElem?_setIfInBounds_ne (by decide), Array.getElem?_setIfInBounds_ne (by decide)]; exact t2
          · rw [Array.getElem?_setIfInBounds_ne (by decide), Array.getElem?_setIfInBounds_ne (by decide)]; exact t3
          · rw [Array.getElem?_setIfInBounds_ne (by decide), Array.getElem?_setIfInBounds_self]; simp [hsz]
          · rw [Array.getElem?_setIfInBounds_self]; simp [hsz])
        have HVW : Hid (Mv (fun b => Oi b ∨ x.blk b) V w') := hnw.mono (fun _ h => h.elim)
        have HYB := hid hyb
        have HYM := hid hym
        have hlen : (ys ++ [x]).length = ys.length + 1 := by simp
        rcases hE with ⟨rfl, O', hJ3, hO', hmv⟩ | ⟨rfl, hJx3, hmx⟩
        · have HRB : Hid (∃ O', FN W w8 (W.heap.size + 1) (nst (nextK K 0)) l (M.next r) F Fi J O₀ (ys ++ [x]) O' W3 ∧ (∀ b, O' b → Oi b ∨ x.blk b ∨ V.heap.size ≤ b) ∧ Mv (fun b => Oi b ∨ x.blk b) V W3) := by
            have hv := HI.out.sz
            have ha8 := HA8.out
            have hbw := HBV.out.2
            have hn8 := HN8.out.size
            have hs8 := HSZ.out
            have hns := hnw.size
            refine ⟨fun b => O' b ∨ b = l, ⟨⟨xs ++ [y], O', ?_, hJ3, fun b => Iff.rfl, fun b hb => ?_⟩, ?_, ?_, ?_, ?_, by have := hmv.size; omega⟩, fun b hb => ?_, HVW.out.trans hmv (fun b hb => ?_)⟩
            · rw [List.map_append, H1.out, List.map_append, List.map_append]
              simp [HYM.out]
            · rcases hO' b hb with h | h | h
              · exact H4.out b h
              · have := HYB.out b h; exact .inr (by omega)
              · exact .inr (by omega)
            · have h := HX.out
              rw [List.map_append, HI.out.eq, hlen, List.take_add_one, h]
              rfl
            · exact hmv.heap (hnw.heap HTB.out id) (fun h => h.elim (HON.out _ (by omega) (by omega)) (fun h => by have := HYB.out _ h; omega))
            · exact hmv.heap (hnw.heap HI.out.yb id) (fun h => h.elim (HON.out _ (by omega) (by omega)) (fun h => by have := HYB.out _ h; omega))
            · refine HI.out.kp.trans ((hnw.keep (fun b hb => ⟨Nat.lt_of_lt_of_le (HFF.out b hb) hbw, id⟩)).trans (hmv.keep (fun b hb => ⟨by have := HFF.out b hb; omega, fun h => ?_⟩)))
              rcases h with h | h
              · exact (HOB.out b h).2 hb
              · have h1 := HYB.out b h
                have h2 := HFF.out b hb
                omega
            · rcases hb with hb | hb
              · rcases hO' b hb with h | h | h
                · exact .inl ((H3.out b).2 (.inl h))
                · exact .inr (.inr (HYB.out b h))
                · exact .inr (.inr (by omega))
              · exact .inl ((H3.out b).2 (.inr hb))
            · rcases hb with h | h
              · exact .inl (.inl ((H3.out b).2 (.inl h)))
              · exact .inr (HYB.out b h)
          refine ⟨true, rfl, true, rfl, hKC _ _ ?_⟩
          rw [act_eq' (htm true) hdf]
          clear htm htv hfr t0 t1 t2 t3 hdf hsz hKC hJ3 hmv hO' hnw hyo hym hyb c1 c2
          simp only [fill, List.getD_cons_succ, List.getD_cons_zero, List.setIfInBounds_toArray, List.set_cons_succ, List.set_cons_zero]
          gi_wp2_with fail
          exact HRB.out
        · have HRB : Hid (Mv (fun b => Oi b ∨ x.blk b) V W3 ∧ ∃ pre, Jx pre W3) := ⟨HVW.out.trans hmx (fun b hb => by
            rcases hb with h | h | h
            · exact .inl (.inl ((H3.out b).2 (.inl h)))
            · exact .inr (HYB.out b h)
            · exact .inl (.inl ((H3.out b).2 (.inr h)))), _, hJx3⟩
          refine ⟨false, rfl, false, rfl, hKC _ _ ?_⟩
          rw [act_eq' (htm false) hdf]
          clear htm htv hfr t0 t1 t2 t3 hdf hsz hKC hJx3 hmx hnw hyo hym hyb c1 c2
          simp only [fill, List.getD_cons_succ, List.getD_cons_zero, List.setIfInBounds_toArray, List.set_cons_succ, List.set_cons_zero]
          gi_wp2_with fail
          exact ⟨HRB.out.1, rfl, HRB.out.2⟩
    case stop =>
      rintro D c pre V hD ⟨rfl, q', hq'⟩ hdd
      have HQ' := hid hq'
      have HDD := hid hdd
      have HD := hid hD
      clear hq' hdd hD
      gi_wp2_with fail
      refine fb_end HDD.out ?_ _ _ (.inl rfl)
      exact ⟨⟨_, rfl⟩, .inr ⟨q', HBK.out.2 _ _ _ HQ'.out ((mv_putObj V D _).mono (fun b hb => .inl ⟨by have := HN8.out.size; have := HD.out; have := HB.out; omega, .deferred (some []), by rw [hb]; exact HDD.out, rfl⟩))⟩⟩
    case done =>
      rintro D ys Oi V hD hms hI hdd
      obtain ⟨xs, O, h1, h2, h3, h4⟩ := hI.ex
      have HDD := hid hdd
      have HD := hid hD
      have HRE : Hid (FOut ms J Jx (.returned (.tuple #[])) (V.putObj D (.deferred none))) := ⟨⟨_, rfl⟩, .inl ⟨xs, O, by rw [h1, hms, HFM.out], HBK.out.1 _ _ _ _ h2 ((mv_putObj V D _).mono (fun b hb => .inl ⟨by have := HN8.out.size; have := HD.out; have := HB.out; omega, .deferred (some []), by rw [hb]; exact HDD.out, .inl rfl⟩))⟩⟩
      clear h1 h2 h3 h4 hI hms hdd hD
      refine fb_end HDD.out HRE.out _ _ (.inr rfl)

end Go.Proofs.Ytcpgpiokjghcnaa
/-
  handOn: moves that were held back, one by one.
-/
set_option linter.unusedVariables false
set_option linter.unusedSimpArgs false
namespace Go.Proofs.Ytcpgpiokjghcnaa
open Go.RowKit

/-- How far it has come. -/
structure Hs (W A : World) (J : List X → (Nat → Prop) → World → Prop) (pre0 : List X) (O0 : Nat → Prop) (bes : List Mov) (ys : List X) (O : Nat → Prop) : Prop where
  eq : ys.map X.m = bes.take ys.length
  j : J (pre0 ++ ys) O A
  o : ∀ b, O b → O0 b ∨ W.heap.size ≤ b
  mv : Mv O0 W A

def BsOut (l : Nat) (W : World) (J : List X → (Nat → Prop) → World → Prop) (Jx : List X → World → Prop) (pre0 : List X) (O0 : Nat → Prop) (bes : List Mov) (e : Ending) (W' : World) : Prop :=
  (e = .returned (.bool true) ∧ ∃ xs O', xs.map X.m = bes ∧ J (pre0 ++ xs) O' W' ∧ (∀ b, O' b → O0 b ∨ W.heap.size ≤ b) ∧ Mv O0 W W') ∨ (e = .returned (.bool false) ∧ (∃ pre, Jx pre W') ∧ Mv (fun b => O0 b ∨ b = l) W W')

/-- The blocks of a row of moves, and of these. -/
def heldS (xs : List X) (vo : Option Addr) (vc : Nat) (b : Nat) : Prop := (Value.slice vo xs.length vc).ownBlock = some b ∨ ∃ x ∈ xs, x.blk b

set_option maxHeartbeats 8000000 in
set_option maxRecDepth 40000 in
theorem handOn_any (n l B : Nat) (ms : List Mov) (J : List X → (Nat → Prop) → World → Prop) (Jx : List X → World → Prop) (hT : Taker n l B ms J Jx) (W : World) (hB : B ≤ W.heap.size) (H : Nat) (xs : List X) (vo : Option Addr) (vc : Nat) (to : ByteArray) (hto : SmallB to)
    (hrow : W.ownsRow H 44 9 (.slice vo xs.length vc) xs.length (xflat xs)) (hown : ∀ x ∈ xs, XOwn W H x) (hsm : ∀ x ∈ xs, SmallB x.m.to) (hlen : xs.length ≤ 1000000000) (pre0 : List X) (O0 : Nat → Prop) (hj : J pre0 O0 W)
    (hms : ∀ i m, (xs.map fun x => numMv to x.m)[i]? = some m → ms[pre0.length + i]? = some m) (hno : ∀ b, heldS xs vo vc b → ¬ O0 b) :
    Calls Try.prog 74 #[.slice vo xs.length vc, .string to, .func (.yield l) #[] #[]] W (BsOut l W J Jx pre0 O0 (xs.map fun x => numMv to x.m)) := by
  have HT := hid hT
  have HJ := hid hj
  have HMS := hid hms
  have HTO := hid hto
  have HRW := hid hrow
  have HOW := hid hown
  have HSM := hid hsm
  have HNO := hid hno
  have HB := hid hB
  have hl1 : (xs.length : Int) ≤ 1000000000 := by omega
  clear hT hj hms hto hrow hown hsm hno hB
  go_enter Try.func74, Try.ntmps74
  go_wp2_with fail
  go_loopw [10] (fun iv wr => ∃ (ys : List X) (O : Nat → Prop), ys.length ≤ xs.length ∧ iv = .int .i64 (ys.length : Int) ∧ Hid (Hs W wr J pre0 O0 (xs.map fun x => numMv to x.m) ys O)) (fun iv _ => xs.length - (intOf iv).toNat)
  case atStart => exact ⟨[], O0, Nat.zero_le _, rfl, ⟨by simp, by rw [List.append_nil]; exact HJ.out, fun b h => .inl h, Mv.refl _ _⟩⟩
  case round =>
    obtain ⟨ys, O, hyl, rfl, HHS⟩ := hrel
    rcases Nat.lt_or_ge ys.length xs.length with hlt | hge
    · have hlt' : (ys.length : Int) < (xs.length : Int) := by omega
      have hrw := HRW.out.2
      rcases hrw with ⟨hv, hn0⟩ | ⟨g, cap, cur, hv, hgH, hg, hrest⟩
      · omega
      cases hv
      obtain ⟨x, hat, hxo, hxs, hgt⟩ : ∃ x, XAt wr g (ys.length * 9) x ∧ XOwn wr H x ∧ SmallB x.m.to ∧ (xs.map fun x => numMv to x.m)[ys.length]? = some (numMv to x.m) :=
        ⟨xs[ys.length], xrow_at (row_mv HHS.out.mv HRW.out (fun k hk => HNO.out k (.inl hk))) rfl ys.length hlt, (HOW.out _ (List.getElem_mem hlt)).mv HHS.out.mv (fun b hb => HNO.out b (.inr ⟨_, List.getElem_mem hlt, hb⟩)) (Nat.le_refl _), HSM.out _ (List.getElem_mem hlt), by rw [List.getElem?_map, List.getElem?_eq_getElem hlt]; rfl⟩
      have HXO := hid hxo
      have HXS := hid hxs
      have HGT := hid hgt
      clear hg hrest hxo hxs hgt
      obtain ⟨p0, p1, p2, p3, p4, p5, p6, p7, p8⟩ := hat
      have HLT : Hid (ys.length < xs.length) := hlt
      clear hlt
      go_upto_region 4 with fail
      refine (wpIn_wide (n := n)).1 ?_
      gi_wp2_with fail
      refine ⟨trivial, fun h => by simp [Fence.wide] at h, (callsIn_wide.2 (numMove_any wr x to HTO.out HXS.out HXO.out.r.at HXO.out.w.at)).mono ?_⟩
      rintro e w2 ⟨hn2, y, rfl, hym, hyo⟩
      have hlr : ∀ b, O b → b < wr.heap.size := HT.out.lt _ _ _ HHS.out.j
      have hyb : ∀ b, y.blk b → wr.heap.size ≤ b := fun b hb => (hyo.ge hb).1
      have hsz : W.heap.size ≤ wr.heap.size := HHS.out.mv.size
      obtain ⟨fn, tmps, assign, body, hy, hR⟩ := HT.out.yld (pre0 ++ ys) y w2 O (HT.out.nu _ _ _ _ HHS.out.j hn2) (Nat.le_trans HB.out (Nat.le_trans hsz hn2.size)) (by rw [hym, List.length_append]; exact HMS.out _ _ HGT.out) (hyo.mv (Mv.refl (fun _ => False) _) (fun _ _ => id) (Nat.le_trans HB.out hsz)) (fun b hb ho => by have h1 := hyb b hb; have h2 := hlr b ho; omega)
      have hy' : (Instr.yield l #[y.val]).run Try.prog w2 = .ok (.round l fn tmps assign body) w2 := hy
      have HR := hid hR
      have HYB := hid hyb
      have HYM := hid hym
      have HN2 := hid hn2
      have HSZ := hid hsz
      clear hR hy hyb hym hyo hn2 hsz hlr p0 p1 p2 p3 p4 p5 p6 p7 p8
      gi_wp2_with fail
      refine ⟨fun h => by simp [Fence.wide] at h, HR.out.mono ?_⟩
      rintro e W3 hE
      clear hy' HR
      rcases hE with ⟨rfl, O', hJ3, hO', hmv⟩ | ⟨rfl, hJx3, hmx⟩
      · have hlen : (ys ++ [y]).length = ys.length + 1 := by simp
        have HB3 : Hid (Hs W W3 J pre0 O0 (xs.map fun x => numMv to x.m) (ys ++ [y]) O') := by
          refine ⟨?_, by rw [← List.append_assoc]; exact hJ3, fun b hb => ?_, (HHS.out.mv.trans HN2.out (fun _ h => h.elim)).trans hmv (fun b hb => ?_)⟩
          · rw [List.map_append, HHS.out.eq, hlen, List.take_add_one, HGT.out]
            simp [HYM.out]
          · rcases hO' b hb with h | h | h
            · exact HHS.out.o b h
            · exact .inr (Nat.le_trans HSZ.out (HYB.out b h))
            · exact .inr (Nat.le_trans HSZ.out (Nat.le_trans HN2.out.size h))
          · rcases hb with h | h
            · exact HHS.out.o b h
            · exact .inr (Nat.le_trans HSZ.out (HYB.out b h))
        clear hJ3 hO' hmv
        gi_wp2_with fail
        go_wp2
        go_roundw
        case rel => exact ⟨ys ++ [y], O', by rw [hlen]; exact HLT.out, by rw [hlen]; go_num, HB3.out⟩
        case measure => have := HLT.out; simp [intOf]; omega
      · have HRE : Hid (BsOut l W J Jx pre0 O0 (xs.map fun x => numMv to x.m) (.returned (.bool false)) W3) := .inr ⟨rfl, ⟨_, hJx3⟩, ((HHS.out.mv.mono (fun b hb => .inl (.inl hb))).trans HN2.out (fun _ h => h.elim)).trans hmx (fun b hb => by
          rcases hb with h | h | h
          · exact (HHS.out.o b h).imp .inl id
          · exact .inr (Nat.le_trans HSZ.out (HYB.out b h))
          · exact .inl (.inr h))⟩
        clear hJx3 hmx
        gi_wp2_with fail
        go_wp2
        go_ret
        exact HRE.out
    · have he : ys.length = xs.length := by omega
      have HRE : Hid (BsOut l W J Jx pre0 O0 (xs.map fun x => numMv to x.m) (.returned (.bool true)) wr) := .inl ⟨rfl, ys, O, by rw [HHS.out.eq, he, List.take_of_length_le (by simp)], HHS.out.j, HHS.out.o, HHS.out.mv⟩
      have he' : ¬ (ys.length : Int) < (xs.length : Int) := by omega
      clear he hge
      go_wp2
      go_ret
      exact HRE.out

end Go.Proofs.Ytcpgpiokjghcnaa
/-
  waited: what is known while the system's moves are gone over.
-/
set_option linter.unusedVariables false
set_option linter.unusedSimpArgs false
namespace Go.Proofs.Ytcpgpiokjghcnaa
open Go.RowKit

/-- A move in a copy k that waits, where its process is able. -/
def wMv (K k : Nat) (m : Mov) : Mov := numMv (nst (if movesIn m ((k : Int) - 1) then nextK K k else k)) m

theorem fair_able {K k : Nat} (hk : 0 < k) {ac : Bool} {l : List Mov} (h : ∃ m ∈ l, movesIn m ((k : Int) - 1) = true) : fairMoves K k ac l = l.map (wMv K k) := by
  unfold fairMoves wMv
  rw [if_neg (by omega)]
  have : (l.any fun x => movesIn x ((k : Int) - 1)) = true := List.any_eq_true.2 h
  rw [this]
  simp
theorem fair_none {K k : Nat} (hk : 0 < k) {ac : Bool} {l : List Mov} (h : ∀ m ∈ l, movesIn m ((k : Int) - 1) = false) : fairMoves K k ac l = l.map (numMv (nst (nextK K k))) := by
  unfold fairMoves
  rw [if_neg (by omega)]
  have : (l.any fun x => movesIn x ((k : Int) - 1)) = false := by
    rw [List.any_eq_false]
    intro m hm
    rw [h m hm]
    simp
  rw [this]
  simp
theorem wmv_not {K k : Nat} {m : Mov} (h : movesIn m ((k : Int) - 1) = false) : wMv K k m = numMv (nst k) m := by unfold wMv; rw [h]; rfl
theorem wmv_yes {K k : Nat} {m : Mov} (h : movesIn m ((k : Int) - 1) = true) : wMv K k m = numMv (nst (nextK K k)) m := by unfold wMv; rw [h]; rfl

/-- No move of the process came yet: all that came is held back. -/
structure WA (W w8 : World) (k l : Nat) (J : List X → (Nat → Prop) → World → Prop) (O₀ : Nat → Prop) (ys : List X) (Oi : Nat → Prop) (A : World) (vo : Option Addr) (vc : Nat) : Prop where
  ab : A.heap[W.heap.size + 4]? = some (.cells #[.bool false] 4 (0, 0))
  no : ∀ y ∈ ys, movesIn y.m ((k : Int) - 1) = false
  hb : A.heap[W.heap.size + 3]? = some (.cells #[.slice vo ys.length vc] 37 (0, 0))
  row : A.ownsRow (w8.heap.size + 2) 44 9 (.slice vo ys.length vc) ys.length (xflat ys)
  own : ∀ y ∈ ys, XOwn A (w8.heap.size + 2) y
  j : J [] O₀ A
  o : ∀ b, Oi b ↔ O₀ b ∨ b = l ∨ b = W.heap.size + 3 ∨ b = W.heap.size + 4 ∨ (Value.slice vo ys.length vc).ownBlock = some b

/-- One came: nothing is held back any more. -/
structure WB (W w8 : World) (K k l : Nat) (J : List X → (Nat → Prop) → World → Prop) (O₀ : Nat → Prop) (ys : List X) (Oi : Nat → Prop) (A : World) (xs : List X) (O : Nat → Prop) : Prop where
  ab : A.heap[W.heap.size + 4]? = some (.cells #[.bool true] 4 (0, 0))
  yes : ∃ y ∈ ys, movesIn y.m ((k : Int) - 1) = true
  eq : xs.map X.m = (ys.map X.m).map (wMv K k)
  j : J xs O A
  oo : ∀ b, O b → O₀ b ∨ w8.heap.size + 2 ≤ b
  o : ∀ b, Oi b ↔ O b ∨ b = l ∨ b = W.heap.size + 4

structure WN (W w8 : World) (pb K k l : Nat) (nx : List Mov) (F Fi : Nat → Prop) (J : List X → (Nat → Prop) → World → Prop) (O₀ : Nat → Prop) (ys : List X) (Oi : Nat → Prop) (A : World) : Prop where
  eq : ys.map X.m = nx.take ys.length
  cb : A.heap[W.heap.size]? = some (.cells #[.pointer (some ⟨pb, 0, none⟩)] 55 (0, 0))
  kb : A.heap[W.heap.size + 1]? = some (.cells #[.int .i64 (k : Int)] 3 (0, 0))
  yb : A.heap[W.heap.size + 2]? = some (.cells #[.func (.yield l) #[] #[]] 128 (0, 0))
  kp : KeepF (fun b => F b ∨ Fi b) W A
  sz : w8.heap.size ≤ A.heap.size
  ph : (∃ vo vc, WA W w8 k l J O₀ ys Oi A vo vc) ∨ ∃ xs O, WB W w8 K k l J O₀ ys Oi A xs O

theorem WN.abides {W w8 : World} {pb K k l B : Nat} {nx : List Mov} {F Fi : Nat → Prop} {J : List X → (Nat → Prop) → World → Prop} {O₀ : Nat → Prop} (hB : ∀ pre O A A', J pre O A → Mv (turnB B O A) A A' → J pre O A') (hBW : B ≤ w8.heap.size) (hF : ∀ b, (F b ∨ Fi b) → b < W.heap.size) (hW : W.heap.size + 4 < w8.heap.size) :
    AbidesO w8.heap.size (fun (s : List X × (Nat → Prop)) A => WN W w8 pb K k l nx F Fi J O₀ s.1 s.2 A) := by
  rintro ⟨ys, Oi⟩ A A' h hm
  simp only at h hm ⊢
  have hno : ∀ b, b < w8.heap.size → ¬ turnB w8.heap.size Oi A b := fun b hb hx => by have := hx.1; omega
  refine ⟨h.eq, hm.heap h.cb (hno _ (by omega)), hm.heap h.kb (hno _ (by omega)), hm.heap h.yb (hno _ (by omega)), h.kp.trans (hm.keep (fun b hb => ⟨Nat.lt_of_lt_of_le (hF b hb) h.kp.1, hno b (by have := hF b hb; omega)⟩)), Nat.le_trans h.sz hm.size, ?_⟩
  rcases h.ph with ⟨vo, vc, ha⟩ | ⟨xs, O, hb⟩
  · refine .inl ⟨vo, vc, hm.heap ha.ab (hno _ hW), ha.no, hm.heap ha.hb (hno _ (by omega)), row_mv hm ha.row (fun b hb hs => ?_), fun y hy => (ha.own y hy).mv hm (fun b hb hs => ?_) (Nat.le_refl _), hB _ _ _ _ ha.j (hm.mono (fun x hx => .inl ⟨Nat.le_trans hBW hx.1, hx.2.imp fun _ ho => ⟨ho.1, ho.2.imp id fun hh => ⟨hh.1, fun hO => hh.2 ((ha.o x).2 (.inl hO))⟩⟩⟩)), ha.o⟩
    · obtain ⟨_, _, cs, hc⟩ := row_blk ha.row hb
      obtain ⟨_, o, ho, hb'⟩ := hs
      rw [hc] at ho; cases ho
      rcases hb' with hb' | hb'
      · simp [bookO] at hb'
      · exact hb'.2 ((ha.o b).2 (.inr (.inr (.inr (.inr hb)))))
    · obtain ⟨_, _, cs, hc⟩ := (ha.own y hy).ge hb
      obtain ⟨_, o, ho, hb'⟩ := hs
      rw [hc] at ho; cases ho
      rcases hb' with hb' | hb'
      · simp [bookO] at hb'
      · simp [ownO] at hb'
  · exact .inr ⟨xs, O, hm.heap hb.ab (hno _ hW), hb.yes, hb.eq, hB _ _ _ _ hb.j (hm.mono (fun x hx => .inl ⟨Nat.le_trans hBW hx.1, hx.2.imp fun _ ho => ⟨ho.1, ho.2.imp id fun hh => ⟨hh.1, fun hO => hh.2 ((hb.o x).2 (.inl hO))⟩⟩⟩)), hb.oo, hb.o⟩

theorem five_boxes (w : World) (a b c d e : Obj) : Nu w (((((w.alloc a).alloc b).alloc c).alloc d).alloc e) ∧ (((((w.alloc a).alloc b).alloc c).alloc d).alloc e).heap[w.heap.size]? = some a ∧ (((((w.alloc a).alloc b).alloc c).alloc d).alloc e).heap[w.heap.size + 1]? = some b ∧ (((((w.alloc a).alloc b).alloc c).alloc d).alloc e).heap[w.heap.size + 2]? = some c ∧ (((((w.alloc a).alloc b).alloc c).alloc d).alloc e).heap[w.heap.size + 3]? = some d ∧ (((((w.alloc a).alloc b).alloc c).alloc d).alloc e).heap[w.heap.size + 4]? = some e := by
  have nx : ∀ (v : World) (o o' : Obj) (i : Nat), v.heap[i]? = some o' → (v.alloc o).heap[i]? = some o' := fun v o o' i h => (Mv.alloc (fun _ => False) v o).heap h id
  have h1 := heap_alloc_new w a
  have h2 := heap_alloc_new (w.alloc a) b
  have h3 := heap_alloc_new ((w.alloc a).alloc b) c
  have h4 := heap_alloc_new (((w.alloc a).alloc b).alloc c) d
  have h5 := heap_alloc_new ((((w.alloc a).alloc b).alloc c).alloc d) e
  simp only [World.size_alloc, Nat.add_assoc, Nat.reduceAdd] at h2 h3 h4 h5
  exact ⟨mv0 (mv0 (mv0 (mv0 (Mv.alloc _ _ _) (Mv.alloc _ _ _)) (Mv.alloc _ _ _)) (Mv.alloc _ _ _)) (Mv.alloc _ _ _), nx _ _ _ _ (nx _ _ _ _ (nx _ _ _ _ (nx _ _ _ _ h1))), nx _ _ _ _ (nx _ _ _ _ (nx _ _ _ _ h2)), nx _ _ _ _ (nx _ _ _ _ h3), nx _ _ _ _ h4, h5⟩

/-- Ahead of the yield of x itself. -/
structure WT (W w8 V V1 : World) (pb K k l : Nat) (F Fi : Nat → Prop) (J : List X → (Nat → Prop) → World → Prop) (O₀ : Nat → Prop) (ys : List X) (x : X) (xb : Nat) (Oi : Nat → Prop) (xs : List X) (O : Nat → Prop) (to : ByteArray) : Prop where
  ab : V1.heap[W.heap.size + 4]? = some (.cells #[.bool true] 4 (0, 0))
  yes : ∃ y ∈ ys ++ [x], movesIn y.m ((k : Int) - 1) = true
  eq : xs.map X.m = (ys.map X.m).map (wMv K k)
  j : J xs O V1
  oo : ∀ b, O b → O₀ b ∨ w8.heap.size + 2 ≤ b
  oi : ∀ b, O b → Oi b ∨ V.heap.size ≤ b
  te : numMv to x.m = wMv K k x.m
  sm : SmallB to
  cb : V1.heap[W.heap.size]? = some (.cells #[.pointer (some ⟨pb, 0, none⟩)] 55 (0, 0))
  kb : V1.heap[W.heap.size + 1]? = some (.cells #[.int .i64 (k : Int)] 3 (0, 0))
  yb : V1.heap[W.heap.size + 2]? = some (.cells #[.func (.yield l) #[] #[]] 128 (0, 0))
  kp : KeepF (fun b => F b ∨ Fi b) W V1
  mv : Mv (fun b => Oi b ∨ x.blk b) V V1
  xo : XOwn V1 (w8.heap.size + 2) x
  xb : V1.heap[xb]? = some (.cells (mvCells x.m x.m.to (.slice x.ra x.m.reads.length x.rc) (.slice x.wa x.m.writes.length x.wc)) 44 (0, 0))
  la : Oi l ∧ Oi (W.heap.size + 4)
  sz : w8.heap.size + 2 ≤ V.heap.size

theorem WT.next {W w8 V V1 w' W3 : World} {pb K k l : Nat} {nx : List Mov} {F Fi : Nat → Prop} {J : List X → (Nat → Prop) → World → Prop} {O₀ : Nat → Prop} {ys : List X} {x y : X} {xb : Nat} {Oi O' : Nat → Prop} {xs : List X} {O : Nat → Prop} {to : ByteArray} (h : WT W w8 V V1 pb K k l F Fi J O₀ ys x xb Oi xs O to)
    (heq : ys.map X.m = nx.take ys.length) (hx : nx[ys.length]? = some x.m) (h0 : ∀ b, O₀ b → b < W.heap.size) (hOF : ∀ b, O b → ¬ (F b ∨ Fi b)) (hW8 : W.heap.size + 4 < w8.heap.size) (hFF : ∀ b, (F b ∨ Fi b) → b < W.heap.size)
    (hnw : Nu V1 w') (hym : y.m = numMv to x.m) (hyb : ∀ b, y.blk b → V1.heap.size ≤ b) (hj : J (xs ++ [y]) O' W3) (hO' : ∀ b, O' b → O b ∨ y.blk b ∨ w'.heap.size ≤ b) (hmv : Mv (fun b => O b ∨ y.blk b) w' W3) :
    ∃ O', WN W w8 pb K k l nx F Fi J O₀ (ys ++ [x]) O' W3 ∧ (∀ b, O' b → Oi b ∨ x.blk b ∨ V.heap.size ≤ b) ∧ Mv (fun b => Oi b ∨ x.blk b) V W3 := by
  have h1 := h.mv.size
  have h2 := hnw.size
  have h3 := hmv.size
  have h8 := h.sz
  have hlen : (ys ++ [x]).length = ys.length + 1 := by simp
  have hno : ∀ b, W.heap.size ≤ b → b < w8.heap.size → ¬ (O b ∨ y.blk b) := fun b hb1 hb2 ho => by
    rcases ho with ho | ho
    · rcases h.oo b ho with h | h
      · have := h0 b h; omega
      · omega
    · have := hyb b ho; omega
  have tr : ∀ {b : Nat} {o : Obj}, W.heap.size ≤ b → b < w8.heap.size → V1.heap[b]? = some o → W3.heap[b]? = some o := fun hb1 hb2 h => hmv.heap (hnw.heap h id) (hno _ hb1 hb2)
  refine ⟨fun b => O' b ∨ b = l ∨ b = W.heap.size + 4, ⟨?_, tr (by omega) (by omega) h.cb, tr (by omega) (by omega) h.kb, tr (by omega) (by omega) h.yb, ?_, by omega, .inr ⟨xs ++ [y], O', tr (by omega) (by omega) h.ab, h.yes, ?_, hj, fun b hb => ?_, fun b => Iff.rfl⟩⟩, fun b hb => ?_, (h.mv.trans (hnw.mono (fun _ h => h.elim)) (fun b hb => .inl hb)).trans hmv (fun b hb => ?_)⟩
  · rw [List.map_append, heq, hlen, List.take_add_one, hx]
    rfl
  · refine h.kp.trans ((hnw.keep (fun b hb => ⟨by have := hFF b hb; have := h.kp.1; omega, id⟩)).trans (hmv.keep (fun b hb => ⟨by have := hFF b hb; have := h.kp.1; omega, fun ho => ?_⟩)))
    rcases ho with ho | ho
    · exact hOF b ho hb
    · have := hyb b ho
      have := hFF b hb
      have := h.kp.1
      omega
  · rw [List.map_append, h.eq, List.map_append, List.map_append]
    simp [hym, h.te]
  · rcases hO' b hb with h4 | h4 | h4
    · exact h.oo b h4
    · have := hyb b h4; exact .inr (by have := h.xo; have := lt_of_block h.xb; omega)
    · exact .inr (by omega)
  · rcases hb with hb | rfl | rfl
    · rcases hO' b hb with h4 | h4 | h4
      · exact (h.oi b h4).imp id .inr
      · exact .inr (.inr (by have := hyb b h4; omega))
      · exact .inr (.inr (by omega))
    · exact .inl h.la.1
    · exact .inl h.la.2
  · rcases hb with h4 | h4
    · exact (h.oi b h4).imp .inl id
    · exact .inr (by have := hyb b h4; omega)

theorem WT.stop {W w8 V V1 w' W3 : World} {pb K k l : Nat} {F Fi : Nat → Prop} {J : List X → (Nat → Prop) → World → Prop} {O₀ : Nat → Prop} {ys : List X} {x y : X} {xb : Nat} {Oi : Nat → Prop} {xs : List X} {O : Nat → Prop} {to : ByteArray} (h : WT W w8 V V1 pb K k l F Fi J O₀ ys x xb Oi xs O to)
    (hnw : Nu V1 w') (hyb : ∀ b, y.blk b → V1.heap.size ≤ b) (hmv : Mv (fun b => O b ∨ y.blk b ∨ b = l) w' W3) : Mv (fun b => Oi b ∨ x.blk b) V W3 := by
  have h1 := h.mv.size
  refine (h.mv.trans (hnw.mono (fun _ h => h.elim)) (fun b hb => .inl hb)).trans hmv (fun b hb => ?_)
  rcases hb with h4 | h4 | h4
  · exact (h.oi b h4).imp .inl id
  · exact .inr (by have := hyb b h4; omega)
  · rw [h4]; exact .inl (.inl h.la.1)

/-- One more is held back. -/
theorem WA.more {W w8 V V1 V2 : World} {pb K k l B : Nat} {nx : List Mov} {F Fi : Nat → Prop} {J : List X → (Nat → Prop) → World → Prop} {O₀ : Nat → Prop} {ys : List X} {x : X} {Oi : Nat → Prop} {vo : Option Addr} {vc g' vc' : Nat} (h : WN W w8 pb K k l nx F Fi J O₀ ys Oi V) (ha : WA W w8 k l J O₀ ys Oi V vo vc)
    (hB : ∀ pre O A A', J pre O A → Mv (turnB B O A) A A' → J pre O A') (hBW : B ≤ W.heap.size) (hx : nx[ys.length]? = some x.m) (h0 : ∀ b, O₀ b → b < W.heap.size) (hW8 : W.heap.size + 4 < w8.heap.size) (hFF : ∀ b, (F b ∨ Fi b) → b < W.heap.size) (hno : movesIn x.m ((k : Int) - 1) = false) (hxo : XOwn V (w8.heap.size + 2) x)
    (hn : Nu V V1) (hg : V1.grownBy V2 (Value.slice vo ys.length vc).ownBlock) (hr : V2.ownsRow (w8.heap.size + 2) 44 9 (.slice (some ⟨g', 0, none⟩) (ys.length + 1) vc') (ys.length + 1) (xflat ys ++ x.cells)) (hg' : (Value.slice vo ys.length vc).ownBlock = some g' ∨ g' = V1.heap.size) :
    ∃ O', WN W w8 pb K k l nx F Fi J O₀ (ys ++ [x]) O' (V2.setCell ⟨W.heap.size + 3, 0, none⟩ (.slice (some ⟨g', 0, none⟩) (ys.length + 1) vc')) ∧ (∀ b, O' b → Oi b ∨ x.blk b ∨ V.heap.size ≤ b) ∧ Mv (fun b => Oi b ∨ x.blk b) V (V2.setCell ⟨W.heap.size + 3, 0, none⟩ (.slice (some ⟨g', 0, none⟩) (ys.length + 1) vc')) := by
  have hlen : (ys ++ [x]).length = ys.length + 1 := by simp
  have hm2 := Mv.grown hg
  have hm3 := Mv.setCell V2 ⟨W.heap.size + 3, 0, none⟩ (.slice (some ⟨g', 0, none⟩) (ys.length + 1) vc')
  have hr1 := row_mv hn ha.row (fun _ _ => id)
  have hrb : ∀ b, (Value.slice vo ys.length vc).ownBlock = some b → w8.heap.size + 2 ≤ b := fun b hb => (row_blk ha.row hb).1
  have hs := h.sz
  have hmv : Mv (fun b => b = W.heap.size + 3 ∨ (Value.slice vo ys.length vc).ownBlock = some b) V (V2.setCell ⟨W.heap.size + 3, 0, none⟩ (.slice (some ⟨g', 0, none⟩) (ys.length + 1) vc')) :=
    ((hn.mono (fun _ h => h.elim)).trans hm2 (fun x hx => .inl (.inr hx))).trans hm3 (fun x hx => .inl (.inl hx))
  have hn4 : ∀ b, b < w8.heap.size → b ≠ W.heap.size + 3 → ¬ (b = W.heap.size + 3 ∨ (Value.slice vo ys.length vc).ownBlock = some b) := fun b hb hne ho => by
    rcases ho with ho | ho
    · exact hne ho
    · have := hrb b ho; omega
  have hty : ∀ y, XOwn V (w8.heap.size + 2) y → ∀ b, y.blk b → ¬ (b = W.heap.size + 3 ∨ (Value.slice vo ys.length vc).ownBlock = some b) := fun y hy b hb ho => by
    obtain ⟨hge, _, cs, hc⟩ := hy.ge hb
    rcases ho with ho | ho
    · omega
    · obtain ⟨_, _, cs', hc'⟩ := row_blk ha.row ho
      rw [hc] at hc'
      simp at hc'
  have hh2 : V2.heap[W.heap.size + 3]? = some (.cells #[.slice vo ys.length vc] 37 (0, 0)) := hm2.heap (hn.heap ha.hb id) (fun e => by have := hrb _ e; omega)
  have hJ : J [] O₀ (V2.setCell ⟨W.heap.size + 3, 0, none⟩ (.slice (some ⟨g', 0, none⟩) (ys.length + 1) vc')) := by
    refine hB _ _ _ _ (hB _ _ _ _ (hB _ _ _ _ ha.j (hn.mono (fun _ h => h.elim))) (hm2.mono (fun b hb => .inl ?_))) (hm3.mono (fun b hb => .inl ?_))
    · obtain ⟨h1, _, cs, hc⟩ := row_blk hr1 hb
      exact ⟨by omega, _, hc, .inr ⟨by simp [ownO], fun ho => by have := h0 b ho; omega⟩⟩
    · simp only at hb
      subst hb
      exact ⟨by omega, _, hh2, .inr ⟨by simp [ownO], fun ho => by have := h0 _ ho; omega⟩⟩
  refine ⟨fun b => O₀ b ∨ b = l ∨ b = W.heap.size + 3 ∨ b = W.heap.size + 4 ∨ (Value.slice (some ⟨g', 0, none⟩) (ys ++ [x]).length vc').ownBlock = some b, ⟨?_, hmv.heap h.cb (hn4 _ (by omega) (by omega)), hmv.heap h.kb (hn4 _ (by omega) (by omega)), hmv.heap h.yb (hn4 _ (by omega) (by omega)), h.kp.trans (hmv.keep (fun b hb => ⟨by have := hFF b hb; have := h.kp.1; omega, hn4 _ (by have := hFF b hb; omega) (by have := hFF b hb; omega)⟩)), Nat.le_trans hs hmv.size, .inl ⟨some ⟨g', 0, none⟩, vc', hmv.heap ha.ab (hn4 _ (by omega) (by omega)), fun y hy => ?_, ?_, ?_, fun y hy => ?_, hJ, fun b => Iff.rfl⟩⟩, fun b hb => ?_, hmv.mono (fun b hb => .inl (.inl ?_))⟩
  · rw [List.map_append, h.eq, hlen, List.take_add_one, hx]
    rfl
  · rcases List.mem_append.1 hy with hy | hy
    · exact ha.no y hy
    · rw [List.mem_singleton.1 hy]; exact hno
  · rw [setCell_blk hh2, hlen]; simp
  · have hf : xflat (ys ++ [x]) = xflat ys ++ x.cells := by rw [xflat_append]; simp [xflat]
    rw [hlen, hf]
    exact row_mv hm3 hr (fun b hb e => by have := (row_blk hr hb).1; simp only at e; omega)
  · rcases List.mem_append.1 hy with hy | hy
    · exact (ha.own y hy).mv hmv (hty y (ha.own y hy)) (Nat.le_refl _)
    · rw [List.mem_singleton.1 hy]; exact hxo.mv hmv (hty x hxo) (Nat.le_refl _)
  · rcases hb with hb | hb | hb | hb | hb
    · exact .inl ((ha.o b).2 (.inl hb))
    · exact .inl ((ha.o b).2 (.inr (.inl hb)))
    · exact .inl ((ha.o b).2 (.inr (.inr (.inl hb))))
    · exact .inl ((ha.o b).2 (.inr (.inr (.inr (.inl hb)))))
    · simp only [Value.ownBlock, Option.some.injEq] at hb
      subst hb
      rcases hg' with h4 | h4
      · exact .inl ((ha.o _).2 (.inr (.inr (.inr (.inr h4)))))
      · exact .inr (.inr (by rw [h4]; exact hn.size))
  · rcases hb with hb | hb
    · exact (ha.o b).2 (.inr (.inr (.inl hb)))
    · exact (ha.o b).2 (.inr (.inr (.inr (.inr hb))))

/-- What region 5 knows of. -/
def RW5 (pb no K nc k : Nat) : Nat → World → Value → Prop
  | 0, _, v => v = .pointer (some ⟨pb, 0, none⟩)
  | 1, _, v => v = .pointer (some ⟨pb, 0, none⟩)
  | 2, _, v => v = .pointer (some ⟨pb, 1, none⟩)
  | 3, _, v => v = .slice (some ⟨no, 0, none⟩) K nc
  | 4, _, v => v = .int .i64 (k : Int)
  | 5, _, v => v = .pointer (some ⟨no, k, none⟩)
  | 6, _, v => v = .string (nst k)
  | 7, _, v => v = .string (nst k)
  | _, _, v => v = undef
theorem RW5.nu {pb no K nc k : Nat} : ∀ (i : Nat) (w w' : World) (v : Value), Nu w w' → RW5 pb no K nc k i w v → RW5 pb no K nc k i w' v := by
  intro i w w' v _ h
  unfold RW5 at h ⊢
  split <;> simp only at h <;> exact h

theorem leftN_nu {I : List X → (Nat → Prop) → World → Prop} {Ix : Code → List X → World → Prop} {pre : List X} {x : X} {O : Nat → Prop} {V V' W' : World} (hn : Nu V V') {e : Exit} {a : Act} (h : leftN I Ix pre x O V' e a W') : leftN I Ix pre x O V e a W' := by
  have hs := hn.size
  have hm : Mv (fun b => O b ∨ x.blk b) V V' := hn.mono (fun _ h => h.elim)
  cases e with
  | normal =>
    obtain ⟨O', h1, h2, h3⟩ := h
    exact ⟨O', h1, fun b hb => (h2 b hb).imp id (Or.imp id (fun h => Nat.le_trans hs h)), hm.trans h3 (fun b hb => .inl hb)⟩
  | ret => exact ⟨hm.trans h.1 (fun b hb => .inl hb), h.2⟩
  | exit id => exact ⟨hm.trans h.1 (fun b hb => .inl hb), h.2⟩
  | goto t => exact ⟨hm.trans h.1 (fun b hb => .inl hb), h.2⟩
  | panic c => exact h
  | outgrown => exact h

theorem WT.of {W w8 V2 V6 : World} {pb K k l : Nat} {nx : List Mov} {F Fi P : Nat → Prop} {J : List X → (Nat → Prop) → World → Prop} {O₀ : Nat → Prop} {ys : List X} {x : X} {xb : Nat} {Oi : Nat → Prop} {xs : List X} {O : Nat → Prop} {to : ByteArray} (h : WN W w8 pb K k l nx F Fi J O₀ ys Oi V2)
    (hmv : Mv (fun b => P b ∨ b = W.heap.size + 4) V2 V6) (hP : ∀ b, P b → b < W.heap.size ∧ Oi b ∧ ¬ (F b ∨ Fi b)) (hla : Oi l ∧ Oi (W.heap.size + 4)) (hxo : XOwn V2 (w8.heap.size + 2) x)
    (hxb : V2.heap[xb]? = some (.cells (mvCells x.m x.m.to (.slice x.ra x.m.reads.length x.rc) (.slice x.wa x.m.writes.length x.wc)) 44 (0, 0))) (hxl : w8.heap.size + 2 ≤ xb) (hS : w8.heap.size + 2 ≤ V2.heap.size) (hW8 : W.heap.size + 4 < w8.heap.size) (hFF : ∀ b, (F b ∨ Fi b) → b < W.heap.size)
    (ab : V6.heap[W.heap.size + 4]? = some (.cells #[.bool true] 4 (0, 0))) (yes : ∃ y ∈ ys ++ [x], movesIn y.m ((k : Int) - 1) = true) (eq : xs.map X.m = (ys.map X.m).map (wMv K k)) (j : J xs O V6) (oo : ∀ b, O b → O₀ b ∨ w8.heap.size + 2 ≤ b) (oi : ∀ b, O b → Oi b ∨ V2.heap.size ≤ b) (te : numMv to x.m = wMv K k x.m) (sm : SmallB to) :
    WT W w8 V2 V6 pb K k l F Fi J O₀ ys x xb Oi xs O to := by
  have hno : ∀ b, W.heap.size ≤ b → b ≠ W.heap.size + 4 → ¬ (P b ∨ b = W.heap.size + 4) := fun b h1 h2 ho => by
    rcases ho with ho | ho
    · have := (hP b ho).1; omega
    · exact h2 ho
  refine ⟨ab, yes, eq, j, oo, oi, te, sm, hmv.heap h.cb (hno _ (by omega) (by omega)), hmv.heap h.kb (hno _ (by omega) (by omega)), hmv.heap h.yb (hno _ (by omega) (by omega)), h.kp.trans (hmv.keep (fun b hb => ⟨by have := hFF b hb; have := h.kp.1; omega, fun ho => ?_⟩)), hmv.mono (fun b hb => .inl (.inl ?_)), hxo.mv hmv (fun b hb => ?_) (Nat.le_refl _), hmv.heap hxb (hno _ (by omega) (by omega)), hla, hS⟩
  · rcases ho with ho | ho
    · exact (hP b ho).2.2 hb
    · have := hFF b hb; omega
  · rcases hb with hb | hb
    · exact (hP b hb).2.1
    · rw [hb]; exact hla.2
  · have := (hxo.ge hb).1
    exact hno b (by omega) (by omega)

end Go.Proofs.Ytcpgpiokjghcnaa
