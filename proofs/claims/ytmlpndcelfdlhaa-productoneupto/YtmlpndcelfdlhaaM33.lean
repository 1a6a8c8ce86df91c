/-
  PrNext, PrSys.
-/
import Derived.OwnWalkIn
import Derived.Sort.CutIn
import Derived.TacticsInMore
import Derived.Test.YtmlpndcelfdlhaaM30
import Derived.Test.YtmlpndcelfdlhaaM32
/-
  Next of a pair: its moves, one by one. NOT CLEAN: under way.
-/
set_option linter.unusedVariables false
set_option linter.unusedSimpArgs false
namespace Go.Proofs.Ytmlpndcelfdlhaa
open Go.RowKit
attribute [local go_sem] Oper.semAt_some

theorem range_net3 {n : Nat} {g : Operand} {ps : Array Tmp} {assign body : Code} {Q : Exit → Act → World → Prop} {a : Act} {w : World} {gf : Nat} {lb : Array Value}
    (hg : a.eval g = .func (.func gf) #[] lb) (eg : ∀ args w, (callFunc gf args).run Try.prog w = .ok (.enter gf args) w)
    {F : Nat → Prop} {ms : List Mov} (hseq : SeqN (n - 1) gf lb F ms w) (hF : ∀ b, F b → b < w.heap.size) (hps : 1 = ps.size)
    (I : List X × (Nat → Prop) → World → Prop) (Ix : Code → List X → World → Prop) (hI : Abides w.heap.size I) (hIx : ∀ c, Abides w.heap.size (Ix c)) (O₀ : Nat → Prop) (h0 : I ([], O₀) w)
    (hO : ∀ s A, I s A → ∀ b, s.2 b → b < A.heap.size ∧ ¬ F b ∧ (b < w.heap.size ∨ w.heap.size + 2 ≤ b)) (As : Array Value → X × Act → World → Prop) (hAs : Abides w.heap.size (As a.tmps))
    (hassign : ∀ (l : Nat) (x : X) (W : World) (K : Act → World → Prop), w.heap.size + 2 ≤ W.heap.size → (∀ a₁ W₁, Nu W W₁ → As a.tmps (x, a₁) W₁ → K a₁ W₁) →
      assign.wpIn (Fence.wide.inRound l) (n - 1 - 1) Try.prog (Exit.then K (fun _ _ _ => False)) { tmps := (ps.zip x.enc).foldl (fun t (p, v) => t.setIfInBounds p v) a.tmps, defers := [] } W)
    (hbody : ∀ (l : Nat) (pre : List X) (x : X) (O : Nat → Prop) (a₁ : Act) (W : World), I (pre, O) W → As a.tmps (x, a₁) W → ms[pre.length]? = some x.m → w.heap.size + 2 ≤ W.heap.size → XOwn W (w.heap.size + 2) x → (∀ b, x.blk b → ¬ O b) →
      body.wpIn (Fence.wide.inRound l) (n - 1 - 1) Try.prog (leftN (fun p o => I (p, o)) Ix pre x O W) a₁ W)
    (hdone : ∀ (D : Nat) (xs : List X) (O : Nat → Prop) (W : World), D = w.heap.size → xs.map X.m = ms → I (xs, O) W → W.heap[D]? = some (.deferred (some [])) → Q .normal { a with defers := { target := .collected D, args := #[] } :: a.defers } W)
    (hstop : ∀ (D : Nat) (c : Code) (pre : List X) (W : World), D = w.heap.size → Ix c pre W → W.heap[D]? = some (.deferred (some [])) → c.wpIn Fence.wide n Try.prog Q { a with defers := { target := .collected D, args := #[] } :: a.defers } W) :
    (Code.rangeFunc g ps assign body).wpIn Fence.wide n Try.prog Q a w :=
  range_netD hg eg hseq hF hps I Ix hI hIx O₀ h0 hO (As a.tmps) hAs hassign hbody hdone hstop

/-- What a round begins with: the move in a box. -/
def PAs (B : Nat) (T : Array Value) (p : X × Act) (A : World) : Prop := ∃ xb, p.2 = ⟨(T.setIfInBounds 35 p.1.val).setIfInBounds 9 (.pointer (some ⟨xb, 0, none⟩)), []⟩ ∧ A.heap[xb]? = some (.cells (mvCells p.1.m p.1.m.to (.slice p.1.ra p.1.m.reads.length p.1.rc) (.slice p.1.wa p.1.m.writes.length p.1.wc)) 69 (0, 0)) ∧ B + 2 ≤ xb
theorem PAs.abides (B : Nat) (T : Array Value) : Abides B (PAs B T) := by
  intro p A A' h hm
  obtain ⟨xb, h1, h2, h3⟩ := h
  refine ⟨xb, h1, hm.heap h2 (fun hx => ?_), h3⟩
  obtain ⟨_, o, ho, hb⟩ := hx
  rw [h2] at ho
  cases ho
  cases hb

/-- The range under way: the moves that came (ys), what may be turned (Oi). -/
structure PN (W w8 : World) (eb nb : Nat) (ao : Option Addr) (cap l : Nat) (tos : List ByteArray) (nx : List Mov) (F Fi : Nat → Prop) (J : List X → (Nat → Prop) → World → Prop) (O₀ : Nat → Prop) (ys : List X) (Oi : Nat → Prop) (A : World) : Prop where
  ex : ∃ xs O, xs.map X.m = (ys.map X.m).flatMap (besideM tos) ∧ J xs O A ∧ (∀ b, Oi b ↔ O b ∨ b = eb ∨ b = l) ∧ (∀ b, O b → O₀ b ∨ (W.heap.size ≤ b ∧ w8.heap.size + 2 ≤ b))
  eq : ys.map X.m = nx.take ys.length
  end_ : A.heap[eb]? = some (.cells #[.bool ys.isEmpty] 4 (0, 0))
  tb : A.heap[nb]? = some (.cells #[.slice ao tos.length cap] 43 (0, 0))
  row : StrsAt A w8.heap.size ao tos
  yb : A.heap[W.heap.size]? = some (.cells #[.func (.yield l) #[] #[]] 129 (0, 0))
  kp : KeepF (fun b => F b ∨ Fi b) W A
  sz : w8.heap.size ≤ A.heap.size

theorem PN.abides {W w8 : World} {eb nb : Nat} {ao : Option Addr} {cap l : Nat} {tos : List ByteArray} {nx : List Mov} {F Fi : Nat → Prop} {J : List X → (Nat → Prop) → World → Prop} {O₀ : Nat → Prop} (hB : ∀ pre O A A', J pre O A → Mv (booksB W.heap.size A) A A' → J pre O A') (hF : ∀ b, (F b ∨ Fi b) → b < W.heap.size) (hW : W.heap.size < w8.heap.size) (he : eb < w8.heap.size) (hn : nb < w8.heap.size) :
    Abides w8.heap.size (fun (s : List X × (Nat → Prop)) A => PN W w8 eb nb ao cap l tos nx F Fi J O₀ s.1 s.2 A) := by
  intro s A A' h hm
  obtain ⟨xs, O, h1, h2, h3, h4⟩ := h.ex
  have hno : ∀ b, b < w8.heap.size → ¬ (w8.heap.size ≤ b ∧ ∃ o, A.heap[b]? = some o ∧ bookO o = true) := fun b hb hx => by have := hx.1; omega
  refine ⟨⟨xs, O, h1, hB _ _ _ _ h2 (hm.mono (fun x hx => .inl ⟨by have := hx.1; omega, hx.2⟩)), h3, h4⟩, h.eq, hm.heap h.end_ (hno _ he), hm.heap h.tb (hno _ hn), ⟨h.row.lim, h.row.row.imp id fun ⟨b, off, ha, hb, hit⟩ => ⟨b, off, ha, hb, fun i hi => cell_mv hm (hit i hi) (hno _ hb)⟩⟩, hm.heap h.yb (hno _ hW), ?_, Nat.le_trans h.sz hm.size⟩
  exact h.kp.trans (hm.keep (fun b hb => ⟨Nat.lt_of_lt_of_le (hF b hb) h.kp.1, hno b (by have := hF b hb; omega)⟩))

/-- Which of all the moves come with one of the system's. -/
theorem flat_at {f : Mov → List Mov} {l : List Mov} {k : Nat} {m : Mov} (hk : l[k]? = some m) {i : Nat} {m' : Mov} (hi : (f m)[i]? = some m') : (l.flatMap f)[((l.take k).flatMap f).length + i]? = some m' := by
  obtain ⟨hlt, rfl⟩ := List.getElem?_eq_some_iff.1 hk
  have h1 : l = l.take k ++ (l[k] :: l.drop (k + 1)) := by rw [List.getElem_cons_drop, List.take_append_drop]
  have h2 : (l.flatMap f) = (l.take k).flatMap f ++ (f l[k] ++ (l.drop (k + 1)).flatMap f) := by
    conv => lhs; rw [h1]
    rw [List.flatMap_append, List.flatMap_cons]
  rw [h2, List.getElem?_append_right (by omega), Nat.add_sub_cancel_left]
  obtain ⟨h3, _⟩ := List.getElem?_eq_some_iff.1 hi
  rw [List.getElem?_append_left h3]
  exact hi

theorem no_O {W w8 : World} {O₀ O : Nat → Prop} (h0 : ∀ b, O₀ b → b < W.heap.size) (h4 : ∀ b, O b → O₀ b ∨ (W.heap.size ≤ b ∧ w8.heap.size + 2 ≤ b)) {b : Nat} (h1 : W.heap.size ≤ b) (h2 : b < w8.heap.size + 2) : ¬ O b := fun h => by
  rcases h4 b h with h | h
  · have := h0 b h; omega
  · omega

theorem pnext_none {n : Nat} {W : World} {R : Ending → World → Prop} (hR : R (.returned (.tuple #[])) W) (T : Array Value) (x : Exit) (hx : x = .ret ∨ x = .normal) : bodyPostM Fence.wide n Try.prog Try.f69 R x { tmps := T, defers := [] } W := by
  rcases hx with rfl | rfl <;> exact ⟨.tuple #[], results_none rfl _ _ _, hR⟩
theorem pnext_end {n : Nat} {W : World} {D : Nat} {R : Ending → World → Prop} (hD : W.heap[D]? = some (.deferred (some []))) (hR : R (.returned (.tuple #[])) (W.putObj D (.deferred none))) (T : Array Value) (x : Exit) (hx : x = .ret ∨ x = .normal) :
    bodyPostM Fence.wide n Try.prog Try.f69 R x { tmps := T, defers := [{ target := .collected D, args := #[] }] } W := by
  have key : LeavesInM Fence.wide n Try.prog Try.f69 T R [{ target := .collected D, args := #[] }] .returning W :=
    ⟨by simp, .inl ⟨D, _, rfl, run_takeDeferred hD, ⟨.tuple #[], results_none rfl _ _ _, hR⟩⟩⟩
  rcases hx with rfl | rfl
  · exact key
  · exact key

set_option maxHeartbeats 8000000 in
set_option maxRecDepth 100000 in
theorem pseq_any (n : Nat) (hn : 2 ≤ n) (F Fi : Nat → Prop) (pb b1 b2 : Nat) (T : TypeId) (r0 : Value) (A : List ASt) (so sc no nc : Nat) (M : Sem) (st : ByteArray) (w : World) (h : PairIs w F pb (.iface T r0) A so sc no nc) (hs : SysAt Fi w T r0 M)
    (hb1 : w.heap[b1]? = some (.cells #[.pointer (some ⟨pb, 0, none⟩)] 60 (0, 0))) (hb2 : w.heap[b2]? = some (.cells #[.string st] 9 (0, 0))) (hst : Short st) (hsm : M.Fine) (hFlt : ∀ b, F b → b < w.heap.size) :
    SeqN n 69 #[.pointer (some ⟨b1, 0, none⟩), .pointer (some ⟨b2, 0, none⟩)] (fun b => F b ∨ Fi b ∨ b = b1 ∨ b = b2) ((prodSem M A).next st) w := fun l J Jx W O₀ hK hLl hJ hJx hBk hOF hY h0 => by
  have hkF : KeepF F w W := ⟨hK.1, fun x hx => hK.2 x (.inl hx)⟩
  have hkI : KeepF Fi w W := ⟨hK.1, fun x hx => hK.2 x (.inr (.inl hx))⟩
  have HP : Hid (PairIs W F pb (.iface T r0) A so sc no nc) := h.keep hkF
  have HSY : Hid (SysAt Fi W T r0 M) := hs.keep hkI
  have HB1 : Hid (W.heap[b1]? = some (.cells #[.pointer (some ⟨pb, 0, none⟩)] 60 (0, 0))) := (hK.2 b1 (.inr (.inr (.inl rfl)))).trans hb1
  have HB2 : Hid (W.heap[b2]? = some (.cells #[.string st] 9 (0, 0))) := (hK.2 b2 (.inr (.inr (.inr rfl)))).trans hb2
  have HF : Hid (∀ b, F b → b < W.heap.size) := fun b hb => Nat.lt_of_lt_of_le (hFlt b hb) hK.1
  have HST := hid hst
  have HJ := hid hJ
  have HLL := hid hLl
  have HJX := hid hJx
  have HBK := hid hBk
  have HOF := hid hOF
  have HY := hid hY
  have HTK : Hid (Taker n l W.heap.size ((prodSem M A).next st) J Jx) := ⟨hJ, fun pre O A h b hb => (hOF pre O A h b hb).1, hY⟩
  have H0 := hid h0
  have HSM : Hid (∀ s m, m ∈ M.next s → SmallB m.to) := hsm.n
  have hn1 : 1 ≤ n := by omega
  have HSP : Hid (∀ W', Nu W W' → Calls Try.prog 68 #[.pointer (some ⟨pb, 0, none⟩), .string st] W' fun e w' => e = .returned (splitV so A st) ∧ Nu W' w') := fun W' hW => split_any W' F pb _ A so sc no nc (HP.out.nu HF.out hW) st hst
  clear hkF hkI h hs hb1 hb2 hst hJ hJx hBk hOF hY h0 hK hFlt hsm hLl
  refine callsIn_of_wp_marks Try.func69 rfl trivial ?_ rfl
  simp only [Try.ntmps69, List.size_toArray, List.length_cons, List.length_nil, Nat.reduceAdd, Nat.reduceSub, Array.replicate_succ, Array.replicate_zero, List.push_toArray, List.append_toArray, List.nil_append, List.cons_append]
  have HN1 : Hid (Nu W (W.alloc (.cells #[.func (.yield l) #[] #[]] 129))) := Mv.alloc _ _ _
  have HYB : Hid ((W.alloc (.cells #[.func (.yield l) #[] #[]] 129)).heap[W.heap.size]? = some (.cells #[.func (.yield l) #[] #[]] 129 (0, 0))) := heap_alloc_new W _
  have c1 : (W.alloc (.cells #[.func (.yield l) #[] #[]] 129)).cell? ⟨b1, 0, none⟩ = some (.pointer (some ⟨pb, 0, none⟩)) := cell_blk (HN1.out.heap HB1.out id) 0
  have c2 : (W.alloc (.cells #[.func (.yield l) #[] #[]] 129)).cell? ⟨b2, 0, none⟩ = some (.string st) := cell_blk (HN1.out.heap HB2.out id) 0
  cases ha : apartA A st with
  | none =>
    have HV : Hid (splitV so A st = .tuple #[.pointer none, .string ⟨#[]⟩, .bool false]) := by show _ = _; simp [splitV, ha]
    have HE : Hid ((prodSem M A).next st = []) := by show _ = _; simp [prodSem, ha]
    rw [HV.out] at HSP
    clear ha HV
    gi_wp2_with fail
    refine ⟨trivial, (callsIn_wide.2 (HSP.out _ HN1.out)).mono ?_⟩
    rintro e w2 ⟨rfl, hn2⟩
    have HN2 := hid hn2
    clear hn2 c1 c2
    gi_wp2_with fail
    refine pnext_none ?_ _ _ (.inl rfl)
    exact ⟨⟨_, rfl⟩, .inl ⟨[], O₀, by rw [HE.out]; rfl, HJ.out _ _ _ _ H0.out (mv0 HN1.out HN2.out)⟩⟩
  | some p =>
    obtain ⟨q, r⟩ := p
    obtain ⟨hq, hr⟩ := apartA_some ha
    have HQ := hid hq
    have HRS2 : Hid (Short r ∧ SmallB r) := ⟨Nat.le_trans hr HST.out, Nat.le_trans hr HST.out⟩
    have HV : Hid (splitV so A st = .tuple #[.pointer (some ⟨so, q * 2, none⟩), .string r, .bool true]) := by show _ = _; simp [splitV, ha]
    have HE : Hid ((prodSem M A).next st = if M.next r = [] then besideM (tosA A q (M.look r).props) (stayM r) else (M.next r).flatMap (besideM (tosA A q (M.look r).props))) := by show _ = _; unfold prodSem; simp only [ha]
    rw [HV.out] at HSP
    clear ha HV hq hr
    gi_wp2_with fail
    refine ⟨trivial, (callsIn_wide.2 (HSP.out _ HN1.out)).mono ?_⟩
    rintro e w2 ⟨rfl, hn2⟩
    have HN2 := hid hn2
    replace c1 := cell_mv hn2 c1 id
    replace c2 := cell_mv hn2 c2 id
    clear hn2
    gi_wp2_with fail
    have HW2 : Hid (Nu W w2) := mv0 HN1.out HN2.out
    have HC := hid (And.intro c1 c2)
    clear c1 c2
    rename_i KC hKC
    refine (wpIn_wide (n := n)).2 ?_
    refine wp_lookS (R3P pb so q T r0 (M.look r) r (tosA A q (M.look r).props) w2.heap.size) R3P.nu (by kernel_rfl) (by kernel_rfl) ?step ?last
    case step =>
      intro i o d a w' ho hd hn hfr had K hK
      have hi : i < 12 := (Array.getElem?_eq_some_iff.1 ho).1
      have f1 := hfr 1 (by kernel_rfl)
      have f4 := hfr 4 (by kernel_rfl)
      have f5 := hfr 5 (by kernel_rfl)
      have hnw := mv0 HW2.out hn
      have hpi := HP.out.nu HF.out hnw
      obtain ⟨fl, rl, hll, hcl⟩ := (HSY.out.doNu hnw).lk
      have : i = 0 ∨ i = 1 ∨ i = 2 ∨ i = 3 ∨ i = 4 ∨ i = 5 ∨ i = 6 ∨ i = 7 ∨ i = 8 ∨ i = 9 ∨ i = 10 ∨ i = 11 := by omega
      rcases this with rfl | rfl | rfl | rfl | rfl | rfl | rfl | rfl | rfl | rfl | rfl | rfl <;> cases ho <;> cases hd
      · exact ite_yes (want_none rfl) (lk_ldPair rfl rfl f1 (cell_mv hn HC.out.1 id) (fun w' hm => hK w' _ hm rfl))
      · exact ite_yes (want_none rfl) (lk_move rfl rfl f4 (fun w' hm => hK w' _ hm rfl))
      · exact ite_yes (want_none rfl) (lk_ldPair rfl rfl f1 (cell_mv hn HC.out.1 id) (fun w' hm => hK w' _ hm rfl))
      · obtain ⟨⟨_, h0, rfl⟩, _⟩ := had; exact ite_yes (want_none rfl) (lk_nilPr rfl rfl h0 (fun w' hm => hK w' _ hm rfl))
      · obtain ⟨⟨_, h0, rfl⟩, _⟩ := had; exact ite_yes (want_none rfl) (lk_fieldPr0 rfl rfl h0 (fun w' hm => hK w' _ hm rfl))
      · obtain ⟨⟨_, h0, rfl⟩, _⟩ := had; exact ite_yes (want_none rfl) (lk_ldSys rfl rfl h0 (cell_blk hpi.blk 0) (fun w' hm => hK w' _ hm rfl))
      · exact ite_yes (want_none rfl) (lk_move rfl rfl f5 (fun w' hm => hK w' _ hm rfl))
      · obtain ⟨⟨_, h0, rfl⟩, ⟨_, h1, rfl⟩, _⟩ := had; exact ite_yes (want_none rfl) (lk_callLook hll rfl rfl h0 h1 (hcl r HRS2.out.1) (fun w' hm => hK w' _ hm rfl))
      · obtain ⟨⟨_, h0, rfl⟩, _⟩ := had; exact ite_yes (want_none rfl) (lk_props rfl rfl h0 (fun w' hm => hK w' _ hm rfl))
      · obtain ⟨⟨_, h0, rfl⟩, ⟨_, h1, rfl⟩, ⟨_, h2, rfl⟩, _⟩ := had; exact ite_yes (want_none rfl) (lk_behind rfl rfl h0 h1 h2 hpi (fun b hb => Nat.lt_of_lt_of_le (HF.out b hb) hnw.size) HQ.out (fun w' ao cap hm hst hnw' => hK w' _ hm ⟨ao, cap, rfl, hst, fun a ha => Nat.le_trans hn.size (hnw' a ha)⟩))
      · exact ite_yes (want_none rfl) (lk_allocSt rfl rfl (hK _ _ (Mv.alloc _ _ _) ⟨_, rfl, heap_alloc_new _ _, hn.size⟩))
    case last =>
      intro p a w5 ho hn5 hdf hsz hfr htv
      cases ho
      obtain ⟨_, t9, ao, cap, rfl, hst9, hao9⟩ := htv 9 _ 28 rfl rfl
      have HAO := hid hao9
      obtain ⟨_, t10, nb, rfl, hnb, hnbl⟩ := htv 10 _ 7 rfl rfl
      have htm := fill_eq (vals := fun i => ([.pointer (some ⟨pb, 0, none⟩), .pointer (some ⟨so, q * 2, none⟩), .pointer (some ⟨pb, 0, none⟩), .pointer (some ⟨pb, 0, none⟩), .pointer (some ⟨pb, 0, none⟩), .iface T r0, .string r, sval (M.look r), .int .u64 (M.look r).props, .slice ao (tosA A q (M.look r).props).length cap, .pointer (some ⟨nb, 0, none⟩)] : List Value).getD i undef) (by kernel_rfl) hfr (fun i p d hi hd => by
        have hi' : i < 12 := (Array.getElem?_eq_some_iff.1 hi).1
        obtain ⟨v, h, hv⟩ := htv i p d hi hd
        have : i = 0 ∨ i = 1 ∨ i = 2 ∨ i = 3 ∨ i = 4 ∨ i = 5 ∨ i = 6 ∨ i = 7 ∨ i = 8 ∨ i = 9 ∨ i = 10 ∨ i = 11 := by omega
        rcases this with rfl | rfl | rfl | rfl | rfl | rfl | rfl | rfl | rfl | rfl | rfl | rfl <;> cases hi <;> cases hd <;> first | exact t9 | exact t10 | exact h.trans (congrArg some hv))
      refine lk_stStrs rfl rfl t10 t9 (cell_blk hnb 0) (free_blk hnb 0) ?_
      have HTB : Hid ((w5.setCell ⟨nb, 0, none⟩ (.slice ao (tosA A q (M.look r).props).length cap)).heap[nb]? = some (.cells #[.slice ao (tosA A q (M.look r).props).length cap] 43 (0, 0))) := setCell_blk hnb
      have hms : Mv (· = nb) w5 (w5.setCell ⟨nb, 0, none⟩ (.slice ao (tosA A q (M.look r).props).length cap)) := Mv.setCell w5 ⟨nb, 0, none⟩ _
      have HN6 : Hid (Nu w2 (w5.setCell ⟨nb, 0, none⟩ (.slice ao (tosA A q (M.look r).props).length cap))) := hn5.trans hms (fun x hx => .inr (by omega))
      have HTS : Hid (StrsAt (w5.setCell ⟨nb, 0, none⟩ (.slice ao (tosA A q (M.look r).props).length cap)) (w5.setCell ⟨nb, 0, none⟩ (.slice ao (tosA A q (M.look r).props).length cap)).heap.size ao (tosA A q (M.look r).props)) := by
        refine ⟨hst9.lim, hst9.row.imp id fun ⟨b, off, ha, hb, hit⟩ => ⟨b, off, ha, Nat.lt_of_lt_of_le hb hms.size, fun i hi => cell_mv hms (hit i hi) (fun e => ?_)⟩⟩
        have h1 := hit i hi
        rw [e] at h1
        have h2 := cell_blk hnb (off + i)
        rw [h1] at h2
        cases ho : off + i with
        | zero => rw [ho] at h2; simp at h2
        | succ k => rw [ho] at h2; simp at h2
      have HNB := hid hnbl
      refine hKC _ _ ?_
      rw [act_eq' htm hdf]
      clear htm hdf hsz hfr htv t9 t10 hn5 hnb hnbl hms hst9 hao9 hKC
      simp only [fill, List.getD_cons_succ, List.getD_cons_zero, List.setIfInBounds_toArray, List.set_cons_succ, List.set_cons_zero]
      generalize w5.setCell ⟨nb, 0, none⟩ (.slice ao (tosA A q (M.look r).props).length cap) = w6 at *
      have HTOS : Hid (∀ t ∈ tosA A q (M.look r).props, SmallB t) := by
        intro t ht
        unfold tosA at ht
        rw [List.getElem?_eq_getElem HQ.out] at ht
        obtain ⟨m, hm, rfl⟩ := List.mem_map.1 ht
        have h1 := (HP.out.tos _ (List.getElem_mem HQ.out)).2 m (List.mem_filter.1 hm).1
        have h2 := HP.out.len.2
        exact nst_smallB (by omega)
      generalize tosA A q (M.look r).props = tos at *
      have HW6 : Hid (Nu W w6) := mv0 HW2.out HN6.out
      have c1 := cell_mv HN6.out HC.out.1 id
      have HPW := hid (HP.out.nu HF.out HW6.out)
      have HSW := hid (HSY.out.nu HW6.out)
      have HYW : Hid (w6.heap[W.heap.size]? = some (.cells #[.func (.yield l) #[] #[]] 129 (0, 0))) := HN6.out.heap (HN2.out.heap HYB.out id) id
      clear HC HSP
      have HN7 : Hid (Nu w6 (w6.alloc (.cells #[.bool true] 4))) := Mv.alloc _ _ _
      have HE7 : Hid ((w6.alloc (.cells #[.bool true] 4)).heap[w6.heap.size]? = some (.cells #[.bool true] 4 (0, 0))) := heap_alloc_new w6 _
      obtain ⟨w7, hw7⟩ : ∃ w7, w6.alloc (.cells #[.bool true] 4) = w7 := ⟨_, rfl⟩
      rw [hw7] at HN7 HE7
      replace c1 := cell_mv HN7.out c1 id
      have c0 : w7.cell? ⟨pb, 0, none⟩ = some (.iface T r0) := cell_blk (HN7.out.heap HPW.out.blk id) 0
      obtain ⟨fnx, rnx, hlx, hcx⟩ := (HSW.out.doNu HN7.out).nx
      have hmt := hlx.1
      have hen := hlx.2.1
      unfold Enters at hen
      have HCX := hid (hcx r HRS2.out.1)
      clear hlx hcx
      gi_wp2_with fail
      refine ⟨trivial, (callsIn_wide.2 HCX.out).mono ?_⟩
      rintro e w8 ⟨gf, lb, G, rfl, hn8, heg, hG, hseq⟩
      clear c0 c1 hmt hen HCX
      clear hw7
      gi_wp2_with fail
      have HG8 := hid hG
      have HSEQ := hid hseq
      have HN8 := hid hn8
      have HSB : Hid (∀ t ∈ tos, SmallB t) := HTOS.out
      have HNW8 : Hid (Nu W w8) := mv0 (mv0 HW6.out HN7.out) HN8.out
      have hsz8 : w6.heap.size < w8.heap.size := Nat.lt_of_lt_of_le (lt_of_block HE7.out) HN8.out.size
      have HFF : Hid (∀ b, (F b ∨ Fi b) → b < W.heap.size) := fun b hb => hb.elim (HF.out b) (HSY.out.lt b)
      have hnb8 : nb < w8.heap.size := lt_of_block ((mv0 HN7.out HN8.out).heap HTB.out id)
      rename_i KC2 hKC2
      have HOO : Hid (∀ b, O₀ b → b < W.heap.size) := fun b hb => (HOF.out _ _ _ H0.out b hb).1
      refine range_net3 (F := G) (gf := gf) (lb := lb) (ms := M.next r) rfl heg (HSEQ.out (n - 1) (by omega)) (fun b hb => (HG8.out b hb).1) rfl
        (fun s A => PN W w8 w6.heap.size nb ao cap l tos (M.next r) F Fi J O₀ s.1 s.2 A) (fun c ys A => c = .ret ∧ ∃ pre, Jx pre A) ?habI ?habX (fun b => O₀ b ∨ b = w6.heap.size ∨ b = l) ?start ?hO (PAs w8.heap.size) (PAs.abides _ _) ?assign ?body ?done ?stop
      case habI => exact PN.abides HBK.out.1 HFF.out (by have := HW6.out.size; omega) hsz8 hnb8
      case habX => exact fun c ys A A' h hm => ⟨h.1, by
        obtain ⟨pre, hp⟩ := h.2
        exact ⟨pre, HBK.out.2 _ _ _ hp (hm.mono (fun x hx => .inl ⟨by have := hx.1; have := HNW8.out.size; omega, hx.2⟩))⟩⟩
      case start =>
        refine ⟨⟨[], O₀, rfl, HJ.out _ _ _ _ H0.out HNW8.out, fun b => Iff.rfl, fun b h => .inl h⟩, by simp, HN8.out.heap HE7.out id, (mv0 HN7.out HN8.out).heap HTB.out id, HTS.out.below (mv0 HN7.out HN8.out).nu_below (mv0 HN7.out HN8.out).size, (mv0 HN7.out HN8.out).heap HYW.out id, HNW8.out.keep (fun b hb => ⟨HFF.out b hb, id⟩), Nat.le_refl _⟩
      case hO =>
        intro s A h b hb
        obtain ⟨xs, O, _, hj, hi, ho⟩ := h.ex
        have h0 : ∀ b, O₀ b → b < W.heap.size := fun b hb => (HOF.out _ _ _ H0.out b hb).1
        have hw6 := HW6.out.size
        have hw7 := (lt_of_block HE7.out)
        rcases (hi b).1 hb with hb | rfl | rfl
        · obtain ⟨h1, h2⟩ := HOF.out _ _ _ hj b hb
          refine ⟨h1, fun hg => ?_, ?_⟩
          · obtain ⟨g1, g2⟩ := HG8.out b hg
            rcases g2 with g2 | g2
            · exact h2 (.inr (.inl g2))
            · rcases ho b hb with h3 | h3
              · have := h0 b h3; omega
              · omega
          · rcases ho b hb with h3 | h3
            · have := h0 b h3; omega
            · exact .inr h3.2
        · refine ⟨Nat.lt_of_lt_of_le hsz8 h.sz, fun hg => ?_, .inl hsz8⟩
          obtain ⟨g1, g2⟩ := HG8.out _ hg
          rcases g2 with g2 | g2
          · have := HFF.out _ (.inr g2); omega
          · omega
        · refine ⟨Nat.lt_of_lt_of_le HLL.out.1 (Nat.le_trans HNW8.out.size h.sz), fun hg => ?_, .inl (Nat.lt_of_lt_of_le HLL.out.1 HNW8.out.size)⟩
          obtain ⟨g1, g2⟩ := HG8.out _ hg
          rcases g2 with g2 | g2
          · exact HLL.out.2 (.inr (.inl g2))
          · have := HLL.out.1; omega
      case assign =>
        intro l2 x A K hA hK
        have hc : x.enc = #[.agg x.cells.toArray] := rfl
        simp only [hc, X.cells]
        gi_wp2
        exact hK _ _ (Mv.alloc _ _ _) ⟨A.heap.size, rfl, heap_alloc_new A _, hA⟩
      case body =>
        rintro l2 ys x Oi a₁ V hI ⟨xb, ha, hxb, hxl⟩ hx hA hown hno
        simp only at ha hxb
        obtain ⟨xs, O, h1, h2, h3, h4⟩ := hI.ex
        have HI : Hid (PN W w8 w6.heap.size nb ao cap l tos (M.next r) F Fi J O₀ ys Oi V) := hI
        have HXO := hid hown
        have HX := hid hx
        have H1 : Hid (xs.map X.m = (ys.map X.m).flatMap (besideM tos)) := h1
        have H3 : Hid (∀ b, Oi b ↔ O b ∨ b = w6.heap.size ∨ b = l) := h3
        have H4 := hid h4
        have HNO := hid hno
        have HXL := hid hxl
        subst ha
        simp only [List.setIfInBounds_toArray, List.set_cons_succ, List.set_cons_zero]
        have e0 := cell_blk hI.end_ 0
        have e1 := free_blk hI.end_ 0
        have HV2 : Hid (Mv (· = w6.heap.size) V (V.setCell ⟨w6.heap.size, 0, none⟩ (.bool false))) := Mv.setCell V ⟨w6.heap.size, 0, none⟩ _
        have HE2 : Hid ((V.setCell ⟨w6.heap.size, 0, none⟩ (.bool false)).heap[w6.heap.size]? = some (.cells #[.bool false] 4 (0, 0))) := setCell_blk hI.end_
        have HXB := hid hxb
        have HJ2 := hid h2
        have hw0 := HW6.out.size
        have hb6 : ∀ b o, w6.heap[b]? = some o → b < w6.heap.size := fun b o h => lt_of_block h
        have HNB6 : Hid (nb < w6.heap.size) := hb6 _ _ HTB.out
        have HYB6 : Hid (W.heap.size < w6.heap.size) := hb6 _ _ HYW.out
        clear hI hown hx h1 h2 h3 h4 hno hxl hxb hb6
        gi_upto_region 8 with fail
        clear e0 e1
        obtain ⟨V2, hV2⟩ : ∃ V2, V.setCell ⟨w6.heap.size, 0, none⟩ (.bool false) = V2 := ⟨_, rfl⟩
        rw [hV2] at HV2 HE2 ⊢
        clear hV2
        obtain ⟨p0, p1, p2, p3, p4, p5, p6, p7, p8⟩ := cells9 (HV2.out.heap HXB.out (by have := HXL.out; have := hsz8; omega))
        have HTB2 : Hid (V2.heap[nb]? = some (.cells #[.slice ao tos.length cap] 43 (0, 0))) := HV2.out.heap HI.out.tb (by have := HNB6.out; omega)
        have HYB2 : Hid (V2.heap[W.heap.size]? = some (.cells #[.func (.yield l) #[] #[]] 129 (0, 0))) := HV2.out.heap HI.out.yb (by have := HYB6.out; omega)
        have c1 := cell_blk HTB2.out 0
        have c2 := cell_blk HYB2.out 0
        have HON : Hid (∀ b, W.heap.size ≤ b → b < w8.heap.size + 2 → ¬ O b) := fun b h1 h2 => no_O HOO.out H4.out h1 h2
        have HJV : Hid (J xs O V2) := HBK.out.1 _ _ _ _ HJ2.out (HV2.out.mono (fun b hb => .inl ⟨by have := HYB6.out; omega, .cells #[.bool ys.isEmpty] 4 (0, 0), by rw [hb]; exact HI.out.end_, rfl⟩))
        have HRW : Hid (StrsAt V2 w6.heap.size ao tos ∧ (0 < tos.length → ∀ a, ao = some a → W.heap.size ≤ a.block ∧ a.block < w6.heap.size)) := by
          rcases HTS.out.row with h0 | ⟨tb, off, hao, htb, _⟩
          · exact ⟨⟨HTS.out.lim, .inl h0⟩, fun h => by omega⟩
          · have hge : w2.heap.size ≤ tb := HAO.out _ hao
            have hge2 := HW2.out.size
            refine ⟨⟨HTS.out.lim, ?_⟩, fun _ a ha => ?_⟩
            · rcases HI.out.row.row with h0 | ⟨tb', off', hao', _, hit⟩
              · exact .inl h0
              · cases hao.symm.trans hao'
                exact .inr ⟨tb, off, hao, htb, fun i hi => cell_mv HV2.out (hit i hi) (by omega)⟩
            · rw [hao] at ha
              cases ha
              exact ⟨Nat.le_trans hge2 hge, htb⟩
        have HXO2 : Hid (XOwn V2 (w8.heap.size + 2) x) := HXO.out.mv HV2.out (fun b hb e => by have := (HXO.out.ge hb).1; omega) (Nat.le_refl _)
        have HMS : Hid (∀ i m, (besideM tos x.m)[i]? = some m → ((prodSem M A).next st)[xs.length + i]? = some m) := fun i m hi => by
          have hne : M.next r ≠ [] := fun h => by
            have := HX.out
            rw [h] at this
            cases this
          have hl : xs.length = (((M.next r).take ys.length).flatMap (besideM tos)).length := by
            have h := H1.out
            rw [HI.out.eq] at h
            rw [← h, List.length_map]
          rw [HE.out, if_neg hne, hl]
          exact flat_at HX.out hi
        have HXS : Hid (SmallB x.m.to) := HSM.out r x.m (List.mem_of_getElem? HX.out)
        have HWV : Hid (W.heap.size ≤ V2.heap.size ∧ w6.heap.size ≤ V2.heap.size) := by
          have h1 := HNW8.out.size
          have h2 := HI.out.sz
          have h3 := HV2.out.size
          exact ⟨by omega, by omega⟩
        gi_wp2_with fail
        refine ⟨trivial, fun h => by simp [Fence.wide] at h, (CallsIn.inRound l2 (callsIn_wide.2 (beside_any n l W.heap.size _ J Jx HTK.out V2 HWV.out.1 x tos ao cap xs O HJV.out HMS.out ⟨HRW.out.1.lim, HRW.out.1.row.imp id fun ⟨b, off, h1, h2, h3⟩ => ⟨b, off, h1, Nat.lt_of_lt_of_le h2 HWV.out.2, h3⟩⟩ HSB.out HXS.out HXO2.out.r.at HXO2.out.w.at (fun h0 a ha => HON.out _ (HRW.out.2 h0 a ha).1 (by have := (HRW.out.2 h0 a ha).2; omega)) (fun h0 a ha ho => HNO.out a.block (.inl ⟨Nat.lt_of_lt_of_le h0 HXO.out.r.len, a, ha, rfl⟩) ((H3.out _).2 (.inl ho))) (fun h0 a ha ho => HNO.out a.block (.inr ⟨Nat.lt_of_lt_of_le h0 HXO.out.w.len, a, ha, rfl⟩) ((H3.out _).2 (.inl ho)))))).mono ?_⟩
        rintro e V3 hE
        clear p0 p1 p2 p3 p4 p5 p6 p7 p8 c1 c2
        have HVS : Hid (Mv (fun b => Oi b ∨ x.blk b) V V2) := HV2.out.mono (fun b hb => .inl (.inl ((H3.out b).2 (.inr (.inl hb)))))
        rcases hE with ⟨rfl, xs2, O2, hx2, hj3, ho2, hmv⟩ | ⟨rfl, ⟨pre, hjx⟩, hmx⟩
        · have HR : Hid (∃ O', PN W w8 w6.heap.size nb ao cap l tos (M.next r) F Fi J O₀ (ys ++ [x]) O' V3 ∧ (∀ b, O' b → Oi b ∨ x.blk b ∨ V.heap.size ≤ b) ∧ Mv (fun b => Oi b ∨ x.blk b) V V3) := by
            have hvv := HV2.out.size
            have hww := HI.out.sz
            refine ⟨fun b => O2 b ∨ b = w6.heap.size ∨ b = l, ⟨⟨xs ++ xs2, O2, ?_, hj3, fun b => Iff.rfl, fun b hb => ?_⟩, ?_, ?_, hmv.heap HTB2.out (HON.out _ (by have := HNB.out; have := HW2.out.size; omega) (by have := HNB6.out; omega)), ⟨HRW.out.1.lim, ?_⟩, hmv.heap HYB2.out (HON.out _ (Nat.le_refl _) (by have := HYB6.out; omega)), ?_, Nat.le_trans hww (Nat.le_trans hvv hmv.size)⟩, fun b hb => ?_, HVS.out.trans hmv (fun b hb => .inl (.inl ((H3.out b).2 (.inl hb))))⟩
            · rw [List.map_append, H1.out, hx2, List.map_append, List.flatMap_append]
              simp
            · rcases ho2 b hb with h | h
              · exact H4.out b h
              · exact .inr ⟨by have := HWV.out.1; omega, by omega⟩
            · have h := HX.out
              rw [List.map_append, HI.out.eq, List.length_append, List.length_singleton, List.take_add_one, h]
              rfl
            · have h := hmv.heap HE2.out (HON.out _ (by have := HYB6.out; omega) (by omega))
              rw [h]
              simp
            · rcases HRW.out.1.row with h0 | ⟨tb, off, hao, htb, hit⟩
              · exact .inl h0
              · refine .inr ⟨tb, off, hao, by omega, fun i hi => cell_mv hmv (hit i hi) (HON.out _ (HRW.out.2 (by omega) _ hao).1 (by have := (HRW.out.2 (by omega) _ hao).2; omega))⟩
            · refine HI.out.kp.trans ((HV2.out.keep (fun b hb => ⟨?_, ?_⟩)).trans (hmv.keep (fun b hb => ⟨?_, ?_⟩)))
              · exact Nat.lt_of_lt_of_le (HFF.out b hb) HI.out.kp.1
              · have := HFF.out b hb
                have := HYB6.out
                omega
              · exact Nat.lt_of_lt_of_le (HFF.out b hb) HWV.out.1
              · exact fun ho => (HOF.out _ _ _ HJV.out b ho).2 (hb.imp id .inl)
            · rcases hb with hb | hb
              · rcases ho2 b hb with h | h
                · exact .inl ((H3.out b).2 (.inl h))
                · exact .inr (.inr (Nat.le_trans hvv h))
              · exact .inl ((H3.out b).2 (.inr hb))
          clear hx2 hj3 ho2 hmv
          gi_wp2_with fail
          exact HR.out
        · have HR : Hid (Mv (fun b => Oi b ∨ x.blk b) V V3 ∧ ∃ pre, Jx pre V3) := ⟨HVS.out.trans hmx (fun b hb => .inl (.inl ((H3.out b).2 (hb.imp id .inr)))), pre, hjx⟩
          clear hjx hmx
          gi_wp2_with fail
          exact ⟨HR.out.1, rfl, HR.out.2⟩
      case stop =>
        rintro D c pre V hD ⟨rfl, q', hq'⟩ hdd
        have HQ' := hid hq'
        have HDD := hid hdd
        have HD := hid hD
        clear hq' hdd hD
        gi_wp2_with fail
        refine pnext_end HDD.out ?_ _ _ (.inl rfl)
        exact ⟨⟨_, rfl⟩, .inr ⟨q', HBK.out.2 _ _ _ HQ'.out ((mv_putObj V D _).mono (fun b hb => .inl ⟨by have := HNW8.out.size; have := HD.out; omega, .deferred (some []), by rw [hb]; exact HDD.out, rfl⟩))⟩⟩
      case done =>
        rintro D ys Oi V hD hms hI hdd
        have HI : Hid (PN W w8 w6.heap.size nb ao cap l tos (M.next r) F Fi J O₀ ys Oi V) := hI
        obtain ⟨xs, O, h1, h2, h3, h4⟩ := HI.out.ex
        have HDD := hid hdd
        have HD := hid hD
        have H1 := hid h1
        have HJ2 := hid h2
        have H4 := hid h4
        have HMY := hid hms
        clear hI h1 h2 h3 h4 hdd hD hms
        refine hKC2 _ _ ?_
        clear hKC2
        have HPUT : Hid (∀ V3, V3.heap[D]? = some (.deferred (some [])) → Mv (booksB W.heap.size V3) V3 (V3.putObj D (.deferred none))) := fun V3 h => (mv_putObj V3 D _).mono (fun b hb => .inl ⟨by have := HNW8.out.size; have := HD.out; omega, .deferred (some []), by rw [hb]; exact h, rfl⟩)
        rcases ys with _ | ⟨y, ys⟩
        · have e0 : V.cell? ⟨w6.heap.size, 0, none⟩ = some (.bool true) := cell_blk HI.out.end_ 0
          have c1 := cell_blk HI.out.tb 0
          have c2 := cell_blk HI.out.yb 0
          have HXN : Hid (xs = []) := List.map_eq_nil_iff.1 H1.out
          have HMN : Hid (M.next r = []) := HMY.out.symm
          have HON : Hid (∀ b, W.heap.size ≤ b → b < w8.heap.size + 2 → ¬ O b) := fun b h1 h2 => no_O HOO.out H4.out h1 h2
          have HRW : Hid (0 < tos.length → ∀ a, ao = some a → W.heap.size ≤ a.block ∧ a.block < w6.heap.size) := by
            intro hp a ha
            rcases HTS.out.row with h0 | ⟨tb, off, hao, htb, _⟩
            · omega
            · have hge : w2.heap.size ≤ tb := HAO.out _ hao
              have hge2 := HW2.out.size
              rw [hao] at ha
              cases ha
              exact ⟨Nat.le_trans hge2 hge, htb⟩
          have HMS : Hid (∀ i m, (besideM tos (stayM r))[i]? = some m → ((prodSem M A).next st)[xs.length + i]? = some m) := fun i m hi => by
            rw [HE.out, if_pos HMN.out, HXN.out]
            simpa using hi
          have HWV : Hid (W.heap.size ≤ V.heap.size ∧ w8.heap.size ≤ V.heap.size) := ⟨HI.out.kp.1, HI.out.sz⟩
          gi_wp2_with fail
          refine ⟨trivial, (callsIn_wide.2 (beside_any n l W.heap.size _ J Jx HTK.out V HWV.out.1 ⟨stayM r, none, 0, none, 0⟩ tos ao cap xs O HJ2.out HMS.out ⟨HI.out.row.lim, HI.out.row.row.imp id fun ⟨b, off, h1, h2, h3⟩ => ⟨b, off, h1, Nat.lt_of_lt_of_le h2 HWV.out.2, h3⟩⟩ HSB.out HRS2.out.2 ⟨by simp [stayM], .inl rfl⟩ ⟨by simp [stayM], .inl rfl⟩ (fun h0 a ha => HON.out _ (HRW.out h0 a ha).1 (by have := (HRW.out h0 a ha).2; omega)) (fun h0 a ha => by cases ha) (fun h0 a ha => by cases ha))).mono ?_⟩
          rintro e V3 hE
          have HDO : Hid (¬ O D) := by
            have h1 := HNW8.out.size
            have h2 := HD.out
            exact HON.out _ (by omega) (by omega)
          rcases hE with ⟨rfl, xs2, O2, hx2, hj3, ho2, hmv⟩ | ⟨rfl, ⟨pre, hjx⟩, hmx⟩
          · have HD3 : Hid (V3.heap[D]? = some (.deferred (some []))) := hmv.heap HDD.out HDO.out
            have HR : Hid (∃ xs O, xs.map X.m = (prodSem M A).next st ∧ J xs O (V3.putObj D (.deferred none))) := ⟨xs2, O2, by rw [hx2, HE.out, if_pos HMN.out], HBK.out.1 _ _ _ _ (by rw [HXN.out] at hj3; exact hj3) (HPUT.out V3 HD3.out)⟩
            clear hx2 hj3 ho2 hmv
            gi_wp2_with fail
            exact pnext_end HD3.out ⟨⟨_, rfl⟩, .inl HR.out⟩ _ _ (.inr rfl)
          · have HD3 : Hid (V3.heap[D]? = some (.deferred (some []))) := hmx.heap HDD.out (fun h => h.elim HDO.out (fun h => by
              have h1 := HNW8.out.size
              have h2 := HD.out
              have h3 := HLL.out.1
              omega))
            have HR : Hid (∃ pre, Jx pre (V3.putObj D (.deferred none))) := ⟨pre, HBK.out.2 _ _ _ hjx (HPUT.out V3 HD3.out)⟩
            clear hjx hmx
            gi_wp2_with fail
            exact pnext_end HD3.out ⟨⟨_, rfl⟩, .inr HR.out⟩ _ _ (.inr rfl)
        · have e0 : V.cell? ⟨w6.heap.size, 0, none⟩ = some (.bool false) := cell_blk HI.out.end_ 0
          gi_wp2_with fail
          refine pnext_end HDD.out ?_ _ _ (.inr rfl)
          refine ⟨⟨_, rfl⟩, .inl ⟨xs, O, ?_, HBK.out.1 _ _ _ _ HJ2.out (HPUT.out V HDD.out)⟩⟩
          rw [H1.out, HMY.out, HE.out, if_neg (by rw [← HMY.out]; simp)]

end Go.Proofs.Ytmlpndcelfdlhaa
/-
  A system beside an automaton is a system: the program's Next and what Of hands back.
-/
set_option linter.unusedVariables false
set_option linter.unusedSimpArgs false
namespace Go.Proofs.Ytmlpndcelfdlhaa
open Go.RowKit

set_option maxHeartbeats 1000000 in
theorem pNext_any (w : World) (F Fi : Nat → Prop) (pb : Nat) (T : TypeId) (r0 : Value) (A : List ASt) (so sc no nc : Nat) (M : Sem) (h : PairIs w F pb (.iface T r0) A so sc no nc) (hF : ∀ b, F b → b < w.heap.size) (hs : SysAt Fi w T r0 M) (hm : M.Fine) (st : ByteArray) (hst : Short st) :
    Calls Try.prog 67 #[.pointer (some ⟨pb, 0, none⟩), .string st] w fun e w' => ∃ gf lb G, e = .returned (.func (.func gf) #[] lb) ∧ Nu w w' ∧ Enters gf ∧ (∀ b, G b → b < w'.heap.size ∧ ((F b ∨ Fi b) ∨ w.heap.size ≤ b)) ∧ ∀ n, 1 ≤ n → SeqN n gf lb G ((prodSem M A).next st) w' := by
  have HP := hid h
  have HM := hid hm
  have HF := hid hF
  have HSY := hid hs
  have HST := hid hst
  clear h hm hF hst hs
  go_enter Try.func67, Try.ntmps67
  go_wp2
  go_ret
  have hn1 : Nu w (w.alloc (.cells #[.pointer (some ⟨pb, 0, none⟩)] 60)) := Mv.alloc _ _ _
  have hb1 := heap_alloc_new w (.cells #[.pointer (some ⟨pb, 0, none⟩)] 60)
  have hz1 : (w.alloc (.cells #[.pointer (some ⟨pb, 0, none⟩)] 60)).heap.size = w.heap.size + 1 := World.size_alloc _ _
  generalize w.alloc (.cells #[.pointer (some ⟨pb, 0, none⟩)] 60) = w1 at *
  have hn2 : Nu w1 (w1.alloc (.cells #[.string st] 9)) := Mv.alloc _ _ _
  have hb2 := heap_alloc_new w1 (.cells #[.string st] 9)
  have hz2 : (w1.alloc (.cells #[.string st] 9)).heap.size = w1.heap.size + 1 := World.size_alloc _ _
  rw [hz1] at hb2
  generalize w1.alloc (.cells #[.string st] 9) = w2 at *
  have hk : KeepF F w w2 := (mv0 hn1 hn2).keep (fun b hb => ⟨HF.out b hb, id⟩)
  have hFlt : ∀ b, F b → b < w2.heap.size := fun b hb => Nat.lt_of_lt_of_le (HF.out b hb) hk.1
  have hs2 := HSY.out.nu (mv0 hn1 hn2)
  refine ⟨69, _, fun b => F b ∨ Fi b ∨ b = w.heap.size ∨ b = w.heap.size + 1, rfl, mv0 hn1 hn2, p_entersNext1, fun b hb => ?_, fun n hn => (pseq_any 2 (Nat.le_refl _) F Fi pb w.heap.size (w.heap.size + 1) T r0 A so sc no nc M st w2 (HP.out.keep hk) hs2 (hn2.heap hb1 id) hb2 HST.out HM.out hFlt).any⟩
  rcases hb with hb | hb | rfl | rfl
  · exact ⟨hFlt b hb, .inl (.inl hb)⟩
  · exact ⟨hs2.lt b hb, .inl (.inr hb)⟩
  · exact ⟨by omega, .inr (Nat.le_refl _)⟩
  · exact ⟨by omega, .inr (by omega)⟩

/-- A pair of the program's is a system. -/
theorem PairIs.sys {w : World} {F Fi : Nat → Prop} {pb : Nat} {T : TypeId} {r0 : Value} {A : List ASt} {so sc no nc : Nat} {M : Sem} (h : PairIs w F pb (.iface T r0) A so sc no nc) (hF : ∀ b, F b → b < w.heap.size) (hs : SysAt Fi w T r0 M) (hm : M.Fine) : SysAt (fun b => F b ∨ Fi b) w 60 (.pointer (some ⟨pb, 0, none⟩)) (prodSem M A) where
  lt := fun b hb => hb.elim (hF b) (hs.lt b)
  does := fun w' hk => by
    have hkF : KeepF F w w' := ⟨hk.1, fun x hx => hk.2 x (.inl hx)⟩
    have hkI : KeepF Fi w w' := ⟨hk.1, fun x hx => hk.2 x (.inr hx)⟩
    have hF' : ∀ b, F b → b < w'.heap.size := fun b hb => Nat.lt_of_lt_of_le (hF b hb) hk.1
    exact {
      bg := ⟨_, _, p_leadsBegin pb, pBegin_any w' F Fi pb T r0 A so sc no nc M (h.keep hkF) (hs.keep hkI) hm.b⟩
      nx := ⟨_, _, p_leadsNext pb, fun st hst => pNext_any w' F Fi pb T r0 A so sc no nc M (h.keep hkF) hF' (hs.keep hkI) hm st hst⟩
      lk := ⟨_, _, p_leadsLook pb, fun st hst => pLook_any w' F Fi pb T r0 A so sc no nc M (h.keep hkF) hF' (hs.keep hkI) st hst⟩ }

end Go.Proofs.Ytmlpndcelfdlhaa
