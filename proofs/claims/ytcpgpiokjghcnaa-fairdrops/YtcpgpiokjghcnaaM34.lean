/-
  FaLast, FaWait, FaNext, FaSys, FaCopies0, FaCopies.
-/
import Derived.Deep.AppendLies
import Derived.Deep.AppendSrc
import Derived.Test.YtcpgpiokjghcnaaM19
import Derived.Test.YtcpgpiokjghcnaaM33
/-
  A region that draws its order, whose last operation waits for all others; what the end of waited knows of.
-/
set_option linter.unusedSimpArgs false
set_option linter.unusedVariables false
namespace Go.Proofs.Ytcpgpiokjghcnaa
open Go.RowKit

def lastB (ops : Array Oper) (N y : Nat) : Bool :=
  apartO ops.toList && (ops.toList.all fun o => match o.dst with | some d => decide (d < N) && o.guard.isNone | none => false) && aheadB 0 ops.toList && (ops.size == y + 1)

/-- THE LAW. -/
theorem wpIn_last {n : Nat} {ops : Array Oper} {A0 : Act} {W : World} {Q : Exit → Act → World → Prop} {id : Nat} (y dy : Nat) (oy : Oper) (R : Nat → World → Value → Prop) (hR : ∀ i w w' v, Nu w w' → R i w v → R i w' v) (hF : Try.prog.follows Departure.mixedOrders = true) (hk : lastB ops A0.tmps.size y = true)
    (hoy : ops[y]? = some oy) (hcl : ∀ l : Array Bool, Closed ops l → (∀ e ∈ oy.after, Region.binds .any e = true → l.getD e.on false = true) → ∀ i, i < y → l.getD i false = true) (hdy : oy.dst = some dy)
    (hstep : ∀ (i : Nat) (o : Oper) (d : Nat) (a : Act) (w : World), i < y → ops[i]? = some o → o.dst = some d → Nu W w → (∀ j : Nat, (ops.toList.all fun o => o.dst != some j) = true → a.tmps[j]? = A0.tmps[j]?) → HadR R a w (waits ops o) →
      ∀ K : Act → World → Prop, (∀ w' v, Nu w w' → R i w' v → K ⟨a.tmps.setIfInBounds d v, a.defers⟩ w') → Oper.wpIn Fence.wide n Try.prog o a w K Q)
    (hlast : ∀ (a : Act) (w : World), Nu W w → a.defers = A0.defers → a.tmps.size = A0.tmps.size → (∀ j : Nat, (ops.toList.all fun o => o.dst != some j) = true → a.tmps[j]? = A0.tmps[j]?) → (∀ (i : Nat) (o : Oper) (d : Nat), i < y → ops[i]? = some o → o.dst = some d → ∃ v, a.tmps[d]? = some v ∧ R i w v) →
      Oper.wpIn Fence.wide n Try.prog oy a w (Q .normal) Q) :
    Code.wpIn Fence.wide n Try.prog (Code.region id ops true) Q A0 W := by
  have hk' := hk
  simp only [lastB, Bool.and_eq_true, List.all_eq_true, beq_iff_eq] at hk'
  obtain ⟨⟨⟨hap, hdst⟩, hahd⟩, hsz⟩ := hk'
  have hfalse : ∀ i, (Array.replicate ops.size false).getD i false = false := fun i => getD_none
  have hahead : ∀ (i : Nat) o, ops[i]? = some o → ∀ e ∈ o.after, Region.binds .any e = true → e.on < i := fun i o ho e he hb => by
    have := aheadB_of hahd i o (by rw [Array.getElem?_toList]; exact ho) e he hb
    omega
  have hdsts : ∀ (i : Nat) o, ops[i]? = some o → ∃ d, o.dst = some d ∧ d < A0.tmps.size ∧ o.guard = none := fun i o ho => by
    have := hdst o (Array.mem_toList_iff.2 (Array.mem_of_getElem? ho))
    cases hd : o.dst with
    | none => rw [hd] at this; cases this
    | some d =>
      rw [hd] at this
      simp only [Bool.and_eq_true, decide_eq_true_eq] at this
      exact ⟨d, rfl, this.1, by simpa using this.2⟩
  have hfrm : ∀ {l : Array Bool} {a : Act} {w : World}, LR ops R A0 W l a w → ∀ j : Nat, (ops.toList.all fun o => o.dst != some j) = true → a.tmps[j]? = A0.tmps[j]? := fun hI j hj => hI.fr j (fun i' o' ho' => by
    rw [List.all_eq_true] at hj
    have := hj o' (Array.mem_toList_iff.2 (Array.mem_of_getElem? ho'))
    simpa using this)
  refine wpIn_region_inv hF (fun l a w => (l.getD y false = false ∧ Closed ops l ∧ LR ops R A0 W l a w) ∨ (l.size = ops.size ∧ (∀ i, i < ops.size → l.getD i false = true) ∧ Q .normal a w)) ?_ ?_ ?_
  · exact .inl ⟨hfalse _, fun i _ _ hl => absurd hl (by rw [hfalse]; simp), by simp, rfl, rfl, Mv.drew _ _, fun _ _ => rfl, fun i _ _ _ hl => absurd hl (by rw [hfalse]; simp)⟩
  · intro l a w hI hrd
    have hls : l.size = ops.size := by
      rcases hI with ⟨_, _, h⟩ | ⟨h, _⟩
      · exact h.ls
      · exact h
    have hall : ∀ i, i < ops.size → l.getD i false = true := by
      intro i
      induction i using Nat.strongRecOn with
      | _ i ih =>
        intro hi
        cases hg : l.getD i false with
        | true => rfl
        | false =>
          exfalso
          have hmem : i ∈ Region.ready .any ops l := by
            unfold Region.ready
            rw [List.mem_filter]
            refine ⟨List.mem_range.2 hi, ?_⟩
            obtain ⟨o, ho⟩ : ∃ o, ops[i]? = some o := ⟨_, Array.getElem?_eq_getElem hi⟩
            have hgt : l.getD i true = false := by
              rw [Array.getD_eq_getD_getElem?, Array.getElem?_eq_getElem (by omega)] at hg ⊢
              simpa using hg
            rw [hgt, ho]
            simp only [Bool.not_false, Bool.true_and, Option.map_some, Option.getD_some]
            rw [Array.all_eq_true']
            intro e he
            cases hb : Region.binds .any e with
            | false => simp
            | true => rw [ih e.on (hahead i o ho e he hb) (by have := hahead i o ho e he hb; omega)]; simp
          rw [hrd] at hmem
          cases hmem
    rcases hI with ⟨h1, _, _⟩ | ⟨_, _, hq⟩
    · rw [hall y (by omega)] at h1; cases h1
    · exact hq
  · intro l a w i o hI ho hli haft
    have hli' := bit_of hli
    have hil : i < ops.size := (Array.getElem?_eq_some_iff.1 ho).1
    obtain ⟨d, hd, hdN, hg⟩ := hdsts i o ho
    rw [if_pos (want_none hg)]
    rcases hI with ⟨hny, hclo, hI⟩ | ⟨hls, hall, _⟩
    · rcases Nat.lt_or_ge i y with hiy | hiy
      · refine hstep i o d a w hiy ho hd hI.nu (hfrm hI) (hadR_of hI.tv _ (fun e he => by
          rw [List.mem_filter] at he
          exact haft e (Array.mem_toList_iff.1 he.1) he.2)) _ (fun w' v hm hv => .inl ⟨by rw [getD_set_ne (by omega)]; exact hny, cl_set hclo ho haft, hI.put2 hR hap hdN hm ho hd hv⟩)
      · obtain rfl : i = y := by omega
        rw [hoy] at ho
        cases ho
        have hoth := hcl l hclo haft
        refine Oper.wpIn_mono (fun a' w' hq => ?_) (hlast a w hI.nu hI.df hI.sz (hfrm hI) (fun j o' d' hj ho' hd' => hI.tv j o' d' ho' (hoth j hj) hd'))
        refine .inr ⟨by simp [hI.ls], fun k hk => ?_, hq⟩
        by_cases hki : k = i
        · rw [hki]; exact getD_set_self (by rw [hI.ls]; exact hil)
        · rw [getD_set_ne hki]; exact hoth k (by omega)
    · rw [hall i hil] at hli'; cases hli'

section
variable {o : Oper} {a : Act} {w : World} {K : Act → World → Prop} {Q : Exit → Act → World → Prop} {d : Nat}
theorem lk_ldMoves {s b f : Nat} {v : Value} (hd : o.dst = some d) (ho : o.op = .load 37 (.tmp s)) (hs : a.tmps[s]? = some (.pointer (some ⟨b, f, none⟩))) (h0 : w.cell? ⟨b, f, none⟩ = some v) (hK : ∀ w', Nu w w' → K ⟨a.tmps.setIfInBounds d v, a.defers⟩ w') : Oper.wp Try.prog o a w K Q := by
  have he : a.eval (.tmp s) = .pointer (some ⟨b, f, none⟩) := by simp [Act.eval, hs]
  unfold Oper.wp execOp
  simp only [ho, he, hd]
  go_simp
  exact hK w (Mv.refl _ _)
theorem lk_fnext {s r pb k : Nat} {x : ByteArray} (hd : o.dst = some d) (ho : o.op = .call { callee := .value (.func 71), args := #[.tmp s, .tmp r], argTypes := #[55, 3] }) (hs : a.tmps[s]? = some (.pointer (some ⟨pb, 0, none⟩))) (hr : a.tmps[r]? = some (.int .i64 (k : Int)))
    (h : Calls Try.prog 71 #[.pointer (some ⟨pb, 0, none⟩), .int .i64 (k : Int)] w fun e w' => e = .returned (.string x) ∧ Nu w w') (hK : ∀ w', Nu w w' → K ⟨a.tmps.setIfInBounds d (.string x), a.defers⟩ w') : Oper.wp Try.prog o a w K Q := by
  have he : a.eval (.tmp s) = .pointer (some ⟨pb, 0, none⟩) := by simp [Act.eval, hs]
  have he' : a.eval (.tmp r) = .int .i64 (k : Int) := by simp [Act.eval, hr]
  unfold Oper.wp execOp
  simp only [ho, hd]
  go_simp
  refine Calls.mono h ?_
  rintro e w' ⟨rfl, hn⟩
  exact hK w' hn
theorem lk_handOn {s r q : Nat} {v1 v2 v3 : Value} {R : Ending → World → Prop} (hd : o.dst = some d) (ho : o.op = .call { callee := .value (.func 74), args := #[.tmp s, .tmp r, .tmp q], argTypes := #[37, 9, 128] }) (hs : a.tmps[s]? = some v1) (hr : a.tmps[r]? = some v2) (hq : a.tmps[q]? = some v3)
    (h : Calls Try.prog 74 #[v1, v2, v3] w R) (hK : ∀ e w', R e w' → ∃ b, e = .returned (.bool b) ∧ K ⟨a.tmps.setIfInBounds d (.bool b), a.defers⟩ w') : Oper.wp Try.prog o a w K Q := by
  have he : a.eval (.tmp s) = v1 := by simp [Act.eval, hs]
  have he' : a.eval (.tmp r) = v2 := by simp [Act.eval, hr]
  have he2 : a.eval (.tmp q) = v3 := by simp [Act.eval, hq]
  unfold Oper.wp execOp
  simp only [ho, hd]
  go_simp
  refine Calls.mono h ?_
  intro e w' hr
  obtain ⟨b, rfl, hk⟩ := hK e w' hr
  exact hk
end

/-- What region 14 knows of. -/
def RW14 (pb k l : Nat) (vs : Value) (to : ByteArray) : Nat → World → Value → Prop
  | 0, _, v => v = vs
  | 1, _, v => v = .pointer (some ⟨pb, 0, none⟩)
  | 2, _, v => v = .int .i64 (k : Int)
  | 3, _, v => v = .string to
  | 4, _, v => v = .func (.yield l) #[] #[]
  | _, _, v => v = undef
theorem RW14.nu {pb k l : Nat} {vs : Value} {to : ByteArray} : ∀ (i : Nat) (w w' : World) (v : Value), Nu w w' → RW14 pb k l vs to i w v → RW14 pb k l vs to i w' v := by
  intro i w w' v _ h
  unfold RW14 at h ⊢
  split <;> simp only at h <;> exact h

end Go.Proofs.Ytcpgpiokjghcnaa
/-
  A system in copies: the moves of a state in a copy that waits.
-/
set_option linter.unusedVariables false
set_option linter.unusedSimpArgs false
namespace Go.Proofs.Ytcpgpiokjghcnaa
open Go.RowKit
attribute [local go_sem] Oper.semAt_some

theorem fw_end {n : Nat} {W : World} {D : Nat} {R : Ending → World → Prop} (hD : W.heap[D]? = some (.deferred (some []))) (hR : R (.returned (.tuple #[])) (W.putObj D (.deferred none))) (T : Array Value) (x : Exit) (hx : x = .ret ∨ x = .normal) :
    bodyPostM Fence.wide n Try.prog Try.f70 R x { tmps := T, defers := [{ target := .collected D, args := #[] }] } W := by
  have key : LeavesInM Fence.wide n Try.prog Try.f70 T R [{ target := .collected D, args := #[] }] .returning W :=
    ⟨by simp, .inl ⟨D, _, rfl, run_takeDeferred hD, ⟨.tuple #[], results_none rfl _ _ _, hR⟩⟩⟩
  rcases hx with rfl | rfl
  · exact key
  · exact key

theorem hid6 {a b c d e f : Prop} (h : a ∧ b ∧ c ∧ d ∧ e ∧ f) : Hid a ∧ Hid b ∧ Hid c ∧ Hid d ∧ Hid e ∧ Hid f := ⟨hid h.1, hid h.2.1, hid h.2.2.1, hid h.2.2.2.1, hid h.2.2.2.2.1, hid h.2.2.2.2.2⟩

set_option maxHeartbeats 16000000 in
set_option maxRecDepth 100000 in
theorem waited_any (n : Nat) (hn : 2 ≤ n) (F Fi : Nat → Prop) (pb : Nat) (T : TypeId) (r0 : Value) (K no nc : Nat) (M : Sem) (k : Nat) (hk0 : 0 < k) (hkK : k < K) (r : ByteArray) (W : World) (h : CopIs W F pb (.iface T r0) K no nc) (hs : SysAt Fi W T r0 M) (hr : Short r) (hsm : ∀ s m, m ∈ M.next s → SmallB m.to) (hml : (M.next r).length ≤ 1000000000) (hFl : ∀ b, F b → b < W.heap.size)
    (l B : Nat) (hL : l < W.heap.size ∧ ¬ (F l ∨ Fi l)) (hB : B ≤ W.heap.size) (J : List X → (Nat → Prop) → World → Prop) (Jx : List X → World → Prop) (O₀ : Nat → Prop) (hT : Taker n l B (fairMoves K k (M.look r).ac (M.next r)) J Jx)
    (hBk : (∀ pre O A A', J pre O A → Mv (turnB B O A) A A' → J pre O A') ∧ ∀ pre A A', Jx pre A → Mv (booksB B A) A A' → Jx pre A') (hOF : ∀ pre O A, J pre O A → ∀ b, O b → b < A.heap.size ∧ ¬ (F b ∨ Fi b)) (h0 : J [] O₀ W) :
    CallsIn Fence.wide n Try.prog 70 #[.pointer (some ⟨pb, 0, none⟩), .int .i64 (k : Int), .string r, .func (.yield l) #[] #[]] W (FOut (fairMoves K k (M.look r).ac (M.next r)) J Jx) := by
  have HP := hid h
  have HSY := hid hs
  have HR := hid hr
  have HSM := hid hsm
  have HML := hid hml
  have HF := hid hFl
  have HL := hid hL
  have HT := hid hT
  have HBK := hid hBk
  have HOF := hid hOF
  have H0 := hid h0
  have HB := hid hB
  have HK0 := hid hk0
  have HKK := hid hkK
  have hn1 : 1 ≤ n := by omega
  have HN0 : Hid (∀ W' : World, CopIs W' F pb (.iface T r0) K no nc → Calls Try.prog 71 #[.pointer (some ⟨pb, 0, none⟩), .int .i64 (k : Int)] W' fun e w' => e = .returned (.string (nst (nextK K k))) ∧ Nu W' w') := fun W' hW => fnext_any W' F pb _ K no nc hW k hkK
  have HNK : Hid (nextK K k < 17) := by
    have h1 := HP.out.len
    have : nextK K k < K := Nat.mod_lt _ (by omega)
    show _ < _
    omega
  have HK17 : Hid (1 ≤ k ∧ k < 17 ∧ k < K ∧ K ≤ 17) := ⟨hk0, by have := HP.out.len; omega, hkK, HP.out.len.2⟩
  clear h hs hr hsm hml hFl hL hT hBk hOF h0 hB hk0 hkK
  generalize hms : fairMoves K k (M.look r).ac (M.next r) = ms at HT ⊢
  have HMS := hid hms
  clear hms
  refine callsIn_of_wp_marks Try.func70 rfl trivial ?_ rfl
  simp only [Try.ntmps70, List.size_toArray, List.length_cons, List.length_nil, Nat.reduceAdd, Nat.reduceSub, Array.replicate_succ, Array.replicate_zero, List.push_toArray, List.append_toArray, List.nil_append, List.cons_append]
  gi_upto_region 3 with fail
  simp only [Nat.add_assoc, Nat.reduceAdd]
  obtain ⟨HN5, HC5, HK5, HY5, HH5, HA5⟩ := hid6 (five_boxes W (.cells #[.pointer (some ⟨pb, 0, none⟩)] 55) (.cells #[.int .i64 (k : Int)] 3) (.cells #[.func (.yield l) #[] #[]] 128) (.cells #[.slice none 0 0] 37) (.cells #[.bool false] 4))
  generalize ((((W.alloc (.cells #[.pointer (some ⟨pb, 0, none⟩)] 55)).alloc (.cells #[.int .i64 (k : Int)] 3)).alloc (.cells #[.func (.yield l) #[] #[]] 128)).alloc (.cells #[.slice none 0 0] 37)).alloc (.cells #[.bool false] 4) = w5 at *
  have c0 : w5.cell? ⟨W.heap.size, 0, none⟩ = some (.pointer (some ⟨pb, 0, none⟩)) := cell_blk HC5.out 0
  have c1 : w5.cell? ⟨pb, 0, none⟩ = some (.iface T r0) := cell_blk (HN5.out.heap HP.out.blk id) 0
  obtain ⟨fnx, rnx, hlx, hcx⟩ := (HSY.out.doNu HN5.out).nx
  have hmt := hlx.1
  have hen := hlx.2.1
  unfold Enters at hen
  have HCX := hid (hcx r HR.out)
  have HWK : Hid (W.heap.size + 4 < w5.heap.size) := lt_of_block HA5.out
  clear hlx hcx
  gi_wp2_with fail
  refine ⟨trivial, (callsIn_wide.2 HCX.out).mono ?_⟩
  rintro e w8 ⟨gf, lb, G, rfl, hn8, heg, hG, hseq⟩
  clear c0 c1 hmt hen HCX
  gi_wp2_with fail
  have HG8 := hid hG
  have HSEQ := hid hseq
  have HN8 : Hid (Nu W w8) := mv0 HN5.out hn8
  have HC8 := hid (hn8.heap HC5.out id)
  have HK8 := hid (hn8.heap HK5.out id)
  have HY8 := hid (hn8.heap HY5.out id)
  have HH8 := hid (hn8.heap HH5.out id)
  have HA8 := hid (hn8.heap HA5.out id)
  have HFF : Hid (∀ b, (F b ∨ Fi b) → b < W.heap.size) := fun b hb => hb.elim (HF.out b) (HSY.out.lt b)
  have HSZ : Hid (W.heap.size + 4 < w8.heap.size) := lt_of_block HA8.out
  clear hn8 hG hseq HN5 HC5 HK5 HY5 HH5 HA5
  refine range_net3 (F := G) (gf := gf) (lb := lb) (ms := M.next r) rfl heg (HSEQ.out (n - 1) (by omega)) (fun b hb => (HG8.out b hb).1) rfl
    (fun s A => WN W w8 pb K k l (M.next r) F Fi J O₀ s.1 s.2 A) (fun c ys A => c = .ret ∧ ∃ pre, Jx pre A) ?habI ?habX (fun b => O₀ b ∨ b = l ∨ b = W.heap.size + 3 ∨ b = W.heap.size + 4) ?start ?hO (FAs 18 10 w8.heap.size) (FAs.abides _ _ _ _) ?assign ?body ?done ?stop
  case habI => exact WN.abides HBK.out.1 (by have := HB.out; have := HN8.out.size; omega) HFF.out HSZ.out
  case habX => exact fun c ys A A' h hm => ⟨h.1, by
    obtain ⟨pre, hp⟩ := h.2
    exact ⟨pre, HBK.out.2 _ _ _ hp (hm.mono (fun x hx => .inl ⟨by have := hx.1; have := HN8.out.size; have := HB.out; omega, hx.2⟩))⟩⟩
  case start => exact ⟨by simp, HC8.out, HK8.out, HY8.out, HN8.out.keep (fun b hb => ⟨HFF.out b hb, id⟩), Nat.le_refl _, .inl ⟨none, 0, HA8.out, by simp, HH8.out, ⟨rfl, .inl ⟨rfl, rfl⟩⟩, by simp, HT.out.nu _ _ _ _ H0.out HN8.out, fun b => by simp [Value.ownBlock]⟩⟩
  case hO =>
    rintro ⟨ys, Oi⟩ A h b hb
    simp only at h hb
    have h0 : ∀ b, O₀ b → b < W.heap.size ∧ ¬ (F b ∨ Fi b) := fun b hb => HOF.out _ _ _ H0.out b hb
    have hw8 := HN8.out.size
    have hwk := HWK.out
    have hsz := HSZ.out
    have hA := h.sz
    have hl := HL.out
    have hgn : ∀ b, G b → Fi b ∨ w5.heap.size ≤ b := fun b hg => (HG8.out b hg).2
    have hgl : ∀ b, G b → b < w8.heap.size := fun b hg => (HG8.out b hg).1
    have hff : ∀ b, Fi b → b < W.heap.size := fun b hb => HFF.out b (.inr hb)
    have hlo : b = l → b < A.heap.size ∧ ¬ G b ∧ (b < w8.heap.size ∨ w8.heap.size + 2 ≤ b) := by
      rintro rfl
      refine ⟨by omega, fun hg => ?_, .inl (by omega)⟩
      rcases hgn _ hg with g2 | g2
      · exact hl.2 (.inr g2)
      · omega
    have hbo : W.heap.size ≤ b → b ≤ W.heap.size + 4 → b < A.heap.size ∧ ¬ G b ∧ (b < w8.heap.size ∨ w8.heap.size + 2 ≤ b) := fun h1 h2 => by
      refine ⟨by omega, fun hg => ?_, .inl (by omega)⟩
      rcases hgn _ hg with g2 | g2
      · have := hff _ g2; omega
      · omega
    have hob : ∀ pre O, J pre O A → (∀ b, O b → O₀ b ∨ w8.heap.size + 2 ≤ b) → O b → b < A.heap.size ∧ ¬ G b ∧ (b < w8.heap.size ∨ w8.heap.size + 2 ≤ b) := fun pre O hj ho hb => by
      obtain ⟨h1, h2⟩ := HOF.out _ _ _ hj b hb
      refine ⟨h1, fun hg => ?_, ?_⟩
      · rcases hgn b hg with g2 | g2
        · exact h2 (.inr g2)
        · have := hgl b hg
          rcases ho b hb with h3 | h3
          · have := (h0 b h3).1; omega
          · omega
      · rcases ho b hb with h3 | h3
        · have := (h0 b h3).1; omega
        · exact .inr h3
    rcases h.ph with ⟨vo, vc, ha⟩ | ⟨xs, O, hbb⟩
    · rcases (ha.o b).1 hb with hb | hb | hb | hb | hb
      · exact hob _ _ ha.j (fun b h => .inl h) hb
      · exact hlo hb
      · exact hbo (by omega) (by omega)
      · exact hbo (by omega) (by omega)
      · obtain ⟨g1, g2, _⟩ := row_blk ha.row hb
        exact ⟨g2, fun hg => by have := hgl b hg; omega, .inr g1⟩
    · rcases (hbb.o b).1 hb with hb | hb | hb
      · exact hob _ _ hbb.j hbb.oo hb
      · exact hlo hb
      · exact hbo (by omega) (by omega)
  case assign =>
    intro l2 x A Kx hA hK
    have hc : x.enc = #[.agg x.cells.toArray] := rfl
    simp only [hc, X.cells]
    gi_wp2
    exact hK _ _ (Mv.alloc _ _ _) ⟨A.heap.size, rfl, heap_alloc_new A _, hA⟩
  case body =>
    rintro l2 ys x Oi a₁ V hI ⟨xb, ha, hxb, hxl⟩ hx hA hown hno
    simp only at ha hxb
    have HI : Hid (WN W w8 pb K k l (M.next r) F Fi J O₀ ys Oi V) := hI
    have HXO := hid hown
    have HX := hid hx
    have HA9 := hid hA
    have HXB := hid hxb
    have HNO := hid hno
    have HXL := hid hxl
    subst ha
    simp only [List.setIfInBounds_toArray, List.set_cons_succ, List.set_cons_zero]
    clear hI hown hx hno hxl hxb hA
    have HPV : Hid (CopIs V F pb (.iface T r0) K no nc) := HP.out.keep ⟨HI.out.kp.1, fun b hb => HI.out.kp.2 b (.inl hb)⟩
    gi_upto_region 5 with fail
    rename_i KC hKC
    refine wpIn_lookRR (RW5 pb no K nc k) RW5.nu (by kernel_rfl) (by kernel_rfl) (by kernel_rfl) ?step5 ?last5
    case step5 =>
      intro i o d a w' ho hd hnw hfr had Kx hK
      have hi : i < 8 := (Array.getElem?_eq_some_iff.1 ho).1
      have f4 := hfr 4 (by kernel_rfl)
      have f5 := hfr 5 (by kernel_rfl)
      have c0 := cell_mv hnw (cell_blk HI.out.cb 0) id
      have c2 := cell_mv hnw (cell_blk HI.out.kb 0) id
      have c1 := cell_mv hnw (cell_blk HPV.out.blk 1) id
      have c3 := cell_mv hnw (HPV.out.nums k HKK.out) id
      have : i = 0 ∨ i = 1 ∨ i = 2 ∨ i = 3 ∨ i = 4 ∨ i = 5 ∨ i = 6 ∨ i = 7 := by omega
      rcases this with rfl | rfl | rfl | rfl | rfl | rfl | rfl | rfl <;> cases ho <;> cases hd
      · exact ite_yes (want_none rfl) (lk_ldCop rfl rfl f4 c0 (fun w' hm => hK w' _ hm rfl))
      · obtain ⟨⟨_, h0, rfl⟩, _⟩ := had; exact ite_yes (want_none rfl) (lk_nilPr rfl rfl h0 (fun w' hm => hK w' _ hm rfl))
      · obtain ⟨⟨_, h0, rfl⟩, _⟩ := had; exact ite_yes (want_none rfl) (lk_fieldFc1 rfl rfl h0 (fun w' hm => hK w' _ hm rfl))
      · obtain ⟨⟨_, h0, rfl⟩, _⟩ := had; exact ite_yes (want_none rfl) (lk_ldStrs rfl rfl h0 c1 (fun w' hm => hK w' _ hm rfl))
      · exact ite_yes (want_none rfl) (lk_ldI rfl rfl f5 c2 (fun w' hm => hK w' _ hm rfl))
      · obtain ⟨⟨_, h0, rfl⟩, ⟨_, h1, rfl⟩, _⟩ := had; exact ite_yes (want_none rfl) (lk_idxSp rfl rfl h0 h1 HKK.out (fun w' hm => hK w' _ hm rfl))
      · obtain ⟨⟨_, h0, rfl⟩, _⟩ := had; exact ite_yes (want_none rfl) (lk_ldStr rfl rfl h0 c3 (fun w' hm => hK w' _ hm rfl))
      · obtain ⟨⟨_, h0, rfl⟩, _⟩ := had; exact ite_yes (want_none rfl) (lk_assign rfl rfl h0 (fun w' hm => hK w' _ hm rfl))
    case last5 =>
      intro a V2 hn2 hdf hsz hfr htv
      have htm := fill_eqN (vals := fun i => ([.pointer (some ⟨pb, 0, none⟩), .pointer (some ⟨pb, 0, none⟩), .pointer (some ⟨pb, 1, none⟩), .slice (some ⟨no, 0, none⟩) K nc, .int .i64 (k : Int), .pointer (some ⟨no, k, none⟩), .string (nst k), .string (nst k)] : List Value).getD i undef) (by kernel_rfl) hfr (fun i p d hi hd => by
        have hi' : i < 8 := (Array.getElem?_eq_some_iff.1 hi).1
        obtain ⟨v, h, hv⟩ := htv i p d hi hd
        have : i = 0 ∨ i = 1 ∨ i = 2 ∨ i = 3 ∨ i = 4 ∨ i = 5 ∨ i = 6 ∨ i = 7 := by omega
        rcases this with rfl | rfl | rfl | rfl | rfl | rfl | rfl | rfl <;> cases hi <;> cases hd <;> exact h.trans (congrArg some hv))
      refine hKC _ _ ?_
      rw [act_eq' htm hdf]
      have HV2 : Hid (Nu V V2) := hn2
      have HI2 : Hid (WN W w8 pb K k l (M.next r) F Fi J O₀ ys Oi V2) := AbidesO.nu (s := (ys, Oi)) (WN.abides HBK.out.1 (by have := HB.out; have := HN8.out.size; omega) HFF.out HSZ.out) HI.out hn2
      have HXO2 : Hid (XOwn V2 (w8.heap.size + 2) x) := HXO.out.mv hn2 (fun _ _ => id) (Nat.le_refl _)
      have HXB2 := hid (hn2.heap HXB.out id)
      have HS2 : Hid (w8.heap.size + 2 ≤ V2.heap.size) := Nat.le_trans HA9.out hn2.size
      clear htm htv hfr hdf hsz hKC hn2
      simp only [fill, List.getD_cons_succ, List.getD_cons_zero, List.setIfInBounds_toArray, List.set_cons_succ, List.set_cons_zero]
      have hk17 : (k : Int) ≤ 17 := by have := HK17.out; omega
      have hk1 : 1 ≤ (k : Int) := by have := HK17.out; omega
      have c2 := cell_blk HI2.out.kb 0
      gi_upto_region 6 with fail
      have HXLb := hid (And.intro HA9.out HXL.out)
      have HMA : Hid ((∃ y ∈ ys ++ [x], movesIn y.m ((k : Int) - 1) = true) → ms = (M.next r).map (wMv K k)) := fun hh => by
        obtain ⟨y, hy, hm⟩ := hh
        rw [← HMS.out]
        refine fair_able HK0.out ⟨y.m, ?_, hm⟩
        rcases List.mem_append.1 hy with hy | hy
        · have : y.m ∈ ys.map X.m := List.mem_map_of_mem hy
          rw [HI2.out.eq] at this
          exact List.mem_of_mem_take this
        · rw [List.mem_singleton.1 hy]
          exact List.mem_of_getElem? HX.out
      have HXS : Hid (SmallB x.m.to) := HSM.out r x.m (List.mem_of_getElem? HX.out)
      have HBV : Hid (B ≤ V2.heap.size ∧ W.heap.size ≤ V2.heap.size) := by
        have h1 := HB.out
        have h2 := HN8.out.size
        have h3 := HS2.out
        exact ⟨by omega, by omega⟩
      have HO0 : Hid (∀ b, O₀ b → b < W.heap.size ∧ ¬ (F b ∨ Fi b)) := HOF.out _ _ _ H0.out
      rename_i KT hKT KI hKI
      have htail : ∀ (to : ByteArray) (u26 u27 u28 u29 u30 u31 u32 u33 u34 u35 u36 u37 u38 u39 u40 u41 u42 u43 u44 u45 u46 u47 u48 : Value) (V1 : World) (xs : List X) (O : Nat → Prop), WT W w8 V2 V1 pb K k l F Fi J O₀ ys x xb Oi xs O to → KT ⟨#[.pointer (some ⟨pb, 0, none⟩), .int .i64 (k : Int), .string r, .func (.yield l) #[] #[], .pointer (some ⟨W.heap.size, 0, none⟩), .pointer (some ⟨W.heap.size + 1, 0, none⟩), undef, .pointer (some ⟨W.heap.size + 2, 0, none⟩), .pointer (some ⟨W.heap.size + 3, 0, none⟩), .pointer (some ⟨W.heap.size + 4, 0, none⟩), .pointer (some ⟨xb, 0, none⟩), .string to, .pointer (some ⟨pb, 0, none⟩), .pointer (some ⟨pb, 0, none⟩), .pointer (some ⟨pb, 0, none⟩), .iface T r0, .string r, .func (.func gf) #[] lb, x.val, .pointer (some ⟨pb, 0, none⟩), .pointer (some ⟨pb, 0, none⟩), .pointer (some ⟨pb, 1, none⟩), .slice (some ⟨no, 0, none⟩) K nc, .int .i64 (k : Int), .pointer (some ⟨no, k, none⟩), .string (nst k), u26, u27, u28, u29, u30, u31, u32, u33, u34, u35, u36, u37, u38, u39, u40, u41, u42, u43, u44, u45, u46, u47, u48, undef, undef, undef, undef, undef, undef, undef, undef, undef, undef, undef, undef, undef, undef], []⟩ V1 := by
        intro to u26 u27 u28 u29 u30 u31 u32 u33 u34 u35 u36 u37 u38 u39 u40 u41 u42 u43 u44 u45 u46 u47 u48 V1 xs O hwt
        have HWT := hid hwt
        clear hwt
        refine hKT _ _ ?_
        clear hKI hKT
        gi_upto_region 12 with fail
        rename_i KY hKY
        have HOB : Hid (∀ b, O b → b < V1.heap.size ∧ ¬ (F b ∨ Fi b)) := HOF.out _ _ _ HWT.out.j
        have HMX : Hid (ms[xs.length]? = some (numMv to x.m)) := by
          have hl : xs.length = ys.length := by
            have := congrArg List.length HWT.out.eq
            simpa using this
          show _ = _
          rw [HMA.out HWT.out.yes, hl, List.getElem?_map, HX.out, HWT.out.te]
          rfl
        refine wpIn_yieldR 4 53 54 _ _ (RBg l x to V1.heap.size) (fun b a w' => KY ⟨(a.tmps.setIfInBounds 53 (.bool b)).setIfInBounds 54 (.bool (!b)), a.defers⟩ w') RBg.nu (by kernel_rfl) (by kernel_rfl) rfl ?hcl rfl rfl rfl (by intro c hc; cases hc) ?hnot ?step ?yield ?last
        case hnot =>
          intro a b w' he
          have he' : a.tmps[53]?.getD undef = .bool b := by simpa [Act.eval] using he
          unfold execOp
          simp [go_sem, he']
        case hcl =>
          intro l' hcl hy i hi
          have h0 := hy ⟨0, .data⟩ (by simp) rfl
          have h3 := hy ⟨3, .data⟩ (by simp) rfl
          have h1 := hcl 3 _ rfl h3 ⟨1, .data⟩ (by simp) rfl
          have h2 := hcl 3 _ rfl h3 ⟨2, .data⟩ (by simp) rfl
          have : i = 0 ∨ i = 1 ∨ i = 2 ∨ i = 3 := by omega
          rcases this with rfl | rfl | rfl | rfl <;> assumption
        case last => exact fun b a w' _ h => h
        case step =>
          intro i o d a w' hi7 ho hd hnw hfr had Kx hK
          have f7 := hfr 7 (by kernel_rfl)
          have f10 := hfr 10 (by kernel_rfl)
          have f11 := hfr 11 (by kernel_rfl)
          have : i = 0 ∨ i = 1 ∨ i = 2 ∨ i = 3 := by omega
          rcases this with rfl | rfl | rfl | rfl <;> cases ho <;> cases hd
          · exact wpIn_of_opR (by intro c hc; cases hc) (lk_ldYld rfl rfl f7 (cell_mv hnw (cell_blk HWT.out.yb 0) id) (fun w' hm => hK w' _ hm rfl))
          · exact wpIn_of_opR (by intro c hc; cases hc) (lk_ldMove rfl rfl f10 (hnw.heap HWT.out.xb id) (fun w' hm => hK w' _ hm rfl))
          · exact wpIn_of_opR (by intro c hc; cases hc) (lk_move rfl rfl f11 (fun w' hm => hK w' _ hm rfl))
          · obtain ⟨⟨_, h0, rfl⟩, ⟨_, h1, rfl⟩, _⟩ := had
            exact wpIn_of_opR (by intro c hc; cases hc) (lk_numMove rfl rfl h0 h1 HWT.out.sm HXS.out (HWT.out.xo.r.at.below hnw.nu_below hnw.size) (HWT.out.xo.w.at.below hnw.nu_below hnw.size) (fun w' y hm hy ho => hK w' _ hm ⟨y, rfl, hy, ho.mv (Mv.refl (fun _ => False) _) (fun _ _ => id) hnw.size⟩))
        case yield =>
          intro a w' hnw hdf hsz hfr htv
          obtain ⟨_, t0, rfl⟩ := htv 0 _ 49 (by decide) rfl rfl
          obtain ⟨_, t1, rfl⟩ := htv 1 _ 50 (by decide) rfl rfl
          obtain ⟨_, t2, rfl⟩ := htv 2 _ 51 (by decide) rfl rfl
          obtain ⟨_, t3, y, rfl, hym, hyo⟩ := htv 3 _ 52 (by decide) rfl rfl
          have hyb : ∀ b, y.blk b → V1.heap.size ≤ b := fun b hb => (hyo.ge hb).1
          have hb1 : B ≤ V1.heap.size := Nat.le_trans HBV.out.1 HWT.out.mv.size
          refine lk_yieldR (z := y) rfl rfl t0 t3 (HT.out.yld xs y w' O (HT.out.nu _ _ _ _ HWT.out.j hnw) (Nat.le_trans hb1 hnw.size) (by rw [hym]; exact HMX.out) (hyo.mv (Mv.refl (fun _ => False) _) (fun _ _ => id) hb1) (fun b hb ho => by have h1 := hyb b hb; have h2 := (HOB.out b ho).1; omega)) ?_
          intro e W3 hE
          have htm : ∀ bb : Bool, (⟨(a.tmps.setIfInBounds 53 (.bool bb)).setIfInBounds 54 (.bool (!bb)), a.defers⟩ : Act).tmps = _ := fun bb => fill_eqN (vals := fun i => ([.func (.yield l) #[] #[], x.val, .string to, y.val, .bool bb, .bool (!bb)] : List Value).getD i undef) (by kernel_rfl) (frame2 (ip := 4) (iq := 5) hfr rfl rfl rfl rfl) (fun i o d hi hd => by
            have hi' : i < 6 := (Array.getElem?_eq_some_iff.1 hi).1
            have : i = 0 ∨ i = 1 ∨ i = 2 ∨ i = 3 ∨ i = 4 ∨ i = 5 := by omega
            rcases this with rfl | rfl | rfl | rfl | rfl | rfl <;> cases hi <;> cases hd
            · rw [Array.getElem?_setIfInBounds_ne (by decide), Array.getElem?_setIfInBounds_ne (by decide)]; exact t0
            · rw [Array.getElem?_setIfInBounds_ne (by decide), Array.getElem?_setIfInBounds_ne (by decide)]; exact t1
            · rw [Array.getElem?_setIfInBounds_ne (by decide), Array.getElem?_setIfInBounds_ne (by decide)]; exact t2
            · rw [Array.getElem?_setIfInBounds_ne (by decide), Array.getElem?_setIfInBounds_ne (by decide)]; exact t3
            · rw [Array.getElem?_setIfInBounds_ne (by decide), Array.getElem?_setIfInBounds_self]; simp [hsz]
            · rw [Array.getElem?_setIfInBounds_self]; simp [hsz])
          rcases hE with ⟨rfl, O', hJ3, hO', hmv⟩ | ⟨rfl, hJx3, hmx⟩
          · have HRB := hid (HWT.out.next HI2.out.eq HX.out (fun b hb => (HO0.out b hb).1) (fun b hb => (HOB.out b hb).2) HSZ.out HFF.out hnw hym hyb hJ3 hO' hmv)
            refine ⟨true, rfl, true, rfl, hKY _ _ ?_⟩
            rw [act_eq' (htm true) hdf]
            clear htm htv hfr t0 t1 t2 t3 hdf hsz hKY hJ3 hmv hO' hnw hyo hym hyb
            simp only [fill, List.getD_cons_succ, List.getD_cons_zero, List.setIfInBounds_toArray, List.set_cons_succ, List.set_cons_zero]
            gi_wp2_with fail
            exact leftN_nu (e := .normal) (a := ⟨#[], []⟩) (pre := ys) (x := x) (O := Oi) (I := fun p o A => WN W w8 pb K k l (M.next r) F Fi J O₀ p o A) (Ix := fun c ys A => c = .ret ∧ ∃ pre, Jx pre A) HV2.out HRB.out
          · have HRB : Hid (Mv (fun b => Oi b ∨ x.blk b) V2 W3 ∧ ∃ pre, Jx pre W3) := ⟨HWT.out.stop hnw hyb hmx, _, hJx3⟩
            refine ⟨false, rfl, false, rfl, hKY _ _ ?_⟩
            rw [act_eq' (htm false) hdf]
            clear htm htv hfr t0 t1 t2 t3 hdf hsz hKY hJx3 hmx hnw hyo hym hyb
            simp only [fill, List.getD_cons_succ, List.getD_cons_zero, List.setIfInBounds_toArray, List.set_cons_succ, List.set_cons_zero]
            gi_wp2_with fail
            exact leftN_nu (e := .ret) (a := ⟨#[], []⟩) (pre := ys) (x := x) (O := Oi) (I := fun p o A => WN W w8 pb K k l (M.next r) F Fi J O₀ p o A) (Ix := fun c ys A => c = .ret ∧ ∃ pre, Jx pre A) HV2.out ⟨HRB.out.1, rfl, HRB.out.2⟩
      clear hKT
      have HPW : Hid (∀ V', (∀ b, (F b ∨ Fi b) → V'.heap[b]? = W.heap[b]?) → W.heap.size ≤ V'.heap.size → CopIs V' F pb (.iface T r0) K no nc) := fun V' h1 h2 => HP.out.keep ⟨h2, fun b hb => h1 b (.inl hb)⟩
      rcases HI2.out.ph with ⟨vo, vc, ha⟩ | ⟨xs, O, hbb⟩
      · have HA2 : Hid (WA W w8 k l J O₀ ys Oi V2 vo vc) := ha
        clear ha
        have ca := cell_blk HA2.out.ab 0
        have HLA : Hid (Oi l ∧ Oi (W.heap.size + 4)) := ⟨(HA2.out.o _).2 (.inr (.inl rfl)), (HA2.out.o _).2 (.inr (.inr (.inr (.inl rfl))))⟩
        have HYL : Hid (ys.length < (M.next r).length) := (List.getElem?_eq_some_iff.1 HX.out).1
        cases hmo : movesIn x.m ((k : Int) - 1) with
        | true =>
          have HMO := hid hmo
          have HISO : Hid (Calls Try.prog 73 #[.pointer (some ⟨xb, 0, none⟩), .int .i64 ((k : Int) - 1)] V2 fun e w' => e = .returned (.bool true) ∧ Nu V2 w') := by
            have h := isOf_any V2 xb x.m x.m.to _ _ HXB2.out ((k : Int) - 1)
            rwa [hmo] at h
          clear hmo
          gi_wp2_with fail
          refine ⟨trivial, fun h => by simp [Fence.wide] at h, (CallsIn.inRound l2 (callsIn_wide.2 HISO.out)).mono ?_⟩
          rintro e V3 ⟨rfl, hn3⟩
          have HN3 := hid hn3
          replace ca := cell_mv hn3 ca id
          replace c2 := cell_mv hn3 c2 id
          have ch := cell_mv hn3 (cell_blk HA2.out.hb 0) id
          have cy := cell_mv hn3 (cell_blk HI2.out.yb 0) id
          have HHM : Hid (ys.map (fun y => numMv (nst k) y.m) = ((M.next r).map (wMv K k)).take ys.length) := by
            show _ = _
            rw [← List.map_take, ← HI2.out.eq, List.map_map]
            exact List.map_congr_left fun y hy => (wmv_not (HA2.out.no y hy)).symm
          have HHO := hid (handOn_any n l B ms J Jx HT.out V3 (Nat.le_trans HBV.out.1 hn3.size) (w8.heap.size + 2) ys vo vc (nst k) (nst_smallB (by have := HK17.out; omega)) (row_mv hn3 HA2.out.row (fun _ _ => id)) (fun y hy => (HA2.out.own y hy).mv hn3 (fun _ _ => id) (Nat.le_refl _)) (fun y hy => by
              have h1 : y.m ∈ ys.map X.m := List.mem_map_of_mem hy
              rw [HI2.out.eq] at h1
              exact HSM.out r y.m (List.mem_of_mem_take h1)) (by have := HYL.out; have := HML.out; omega) [] O₀ (HT.out.nu _ _ _ _ HA2.out.j hn3) (fun i m hi => by
              rw [HHM.out, List.getElem?_take] at hi
              split at hi
              · rw [HMA.out ⟨x, by simp, HMO.out⟩]; simpa using hi
              · cases hi) (fun b hb ho => by
              have h1 := (HO0.out b ho).1
              have h2 := HSZ.out
              rcases hb with hb | ⟨y, hy, hb⟩
              · have := (row_blk HA2.out.row hb).1; omega
              · have := ((HA2.out.own y hy).ge hb).1; omega))
          clear hn3
          gi_wp2_with fail
          refine ⟨trivial, fun h => by simp [Fence.wide] at h, (CallsIn.inRound l2 (callsIn_wide.2 HHO.out)).mono ?_⟩
          rintro e V4 hE
          clear HHO
          rcases hE with ⟨rfl, xs', O', hx', hj', ho', hmv'⟩ | ⟨rfl, ⟨pre, hjx⟩, hmx⟩
          · have HX' : Hid (xs'.map X.m = (ys.map X.m).map (wMv K k)) := by
              show _ = _
              rw [hx', List.map_map]
              exact List.map_congr_left fun y hy => (wmv_not (HA2.out.no y hy)).symm
            have HJ4 : Hid (J xs' O' V4) := hj'
            have HO4 := hid ho'
            have HM4 : Hid (Mv O₀ V3 V4) := hmv'
            have HAB4 : Hid (V4.heap[W.heap.size + 4]? = some (.cells #[.bool false] 4 (0, 0))) := hmv'.heap (HN3.out.heap HA2.out.ab id) (fun ho => by have := (HO0.out _ ho).1; omega)
            clear hx' hj' ho' hmv' ca ch cy c2
            have e0 := cell_blk HAB4.out 0
            have e1 := free_blk HAB4.out 0
            gi_upto_region 9 with fail
            have hm5 : Mv (· = W.heap.size + 4) V4 (V4.setCell ⟨W.heap.size + 4, 0, none⟩ (.bool true)) := Mv.setCell V4 ⟨W.heap.size + 4, 0, none⟩ _
            have HAB5 : Hid ((V4.setCell ⟨W.heap.size + 4, 0, none⟩ (.bool true)).heap[W.heap.size + 4]? = some (.cells #[.bool true] 4 (0, 0))) := setCell_blk HAB4.out
            have HJ5 : Hid (J xs' O' (V4.setCell ⟨W.heap.size + 4, 0, none⟩ (.bool true))) := HBK.out.1 _ _ _ _ HJ4.out (hm5.mono (fun b hb => by
              obtain rfl : b = W.heap.size + 4 := hb
              exact .inl ⟨by have := HB.out; omega, _, HAB4.out, .inl (by simp [bookO])⟩))
            have HM5 : Hid (Mv (fun b => O₀ b ∨ b = W.heap.size + 4) V2 (V4.setCell ⟨W.heap.size + 4, 0, none⟩ (.bool true))) := ((HN3.out.mono (fun _ h => h.elim)).trans HM4.out (fun b hb => .inl (.inl hb))).trans hm5 (fun b hb => .inl (.inr hb))
            have HN45 : Hid (V3.heap.size ≤ (V4.setCell ⟨W.heap.size + 4, 0, none⟩ (.bool true)).heap.size) := Nat.le_trans HM4.out.size hm5.size
            generalize V4.setCell ⟨W.heap.size + 4, 0, none⟩ (.bool true) = V5 at *
            clear e0 e1 hm5 HAB4 HJ4 HM4
            have HNX : Hid (Calls Try.prog 71 #[.pointer (some ⟨pb, 0, none⟩), .int .i64 (k : Int)] V5 fun e w' => e = .returned (.string (nst (nextK K k))) ∧ Nu V5 w') := HN0.out V5 (HPW.out V5 (fun b hb => by
              rw [HM5.out.block b (by have := HFF.out b hb; have := HBV.out.2; omega) (fun ho => by
                rcases ho with ho | ho
                · exact (HO0.out b ho).2 hb
                · have := HFF.out b hb; omega)]
              exact HI2.out.kp.2 b hb) (Nat.le_trans HBV.out.2 HM5.out.size))
            have d0 : V5.cell? ⟨W.heap.size, 0, none⟩ = some (.pointer (some ⟨pb, 0, none⟩)) := cell_mv HM5.out (cell_blk HI2.out.cb 0) (fun ho => by
              rcases ho with ho | ho
              · have := (HO0.out _ ho).1; omega
              · omega)
            have d1 : V5.cell? ⟨W.heap.size + 1, 0, none⟩ = some (.int .i64 (k : Int)) := cell_mv HM5.out (cell_blk HI2.out.kb 0) (fun ho => by
              rcases ho with ho | ho
              · have := (HO0.out _ ho).1; omega
              · omega)
            gi_wp2_with fail
            refine ⟨trivial, fun h => by simp [Fence.wide] at h, (CallsIn.inRound l2 (callsIn_wide.2 HNX.out)).mono ?_⟩
            rintro e V6 ⟨rfl, hn6⟩
            have HWT : Hid (WT W w8 V2 V6 pb K k l F Fi J O₀ ys x xb Oi xs' O' (nst (nextK K k))) := WT.of (P := O₀) HI2.out (HM5.out.trans hn6 (fun _ h => h.elim)) (fun b hb => ⟨(HO0.out b hb).1, (HA2.out.o b).2 (.inl hb), (HO0.out b hb).2⟩) HLA.out HXO2.out HXB2.out HXL.out HS2.out HSZ.out HFF.out
              (hn6.heap HAB5.out id) ⟨x, by simp, HMO.out⟩ HX'.out (HT.out.nu _ _ _ _ HJ5.out hn6) (fun b hb => (HO4.out b hb).imp id (fun h => by have := HN3.out.size; have := HS2.out; omega)) (fun b hb => by
                rcases HO4.out b hb with h | h
                · exact .inl ((HA2.out.o b).2 (.inl h))
                · exact .inr (Nat.le_trans HN3.out.size h)) (wmv_yes HMO.out).symm (nst_smallB (by have := HNK.out; omega))
            clear hn6 d0 d1
            gi_wp2_with fail
            exact htail _ _ _ _ _ _ _ _ _ _ _ _ _ _ _ _ _ _ _ _ _ _ _ _ _ _ _ HWT.out
          · have HRB : Hid (Mv (fun b => Oi b ∨ x.blk b) V2 V4 ∧ ∃ pre, Jx pre V4) := ⟨(HN3.out.mono (fun _ h => h.elim)).trans hmx (fun b hb => by
              rcases hb with h | h
              · exact .inl (.inl ((HA2.out.o b).2 (.inl h)))
              · rw [h]; exact .inl (.inl HLA.out.1)), _, hjx⟩
            clear hjx hmx ca ch cy c2
            gi_wp2_with fail
            exact leftN_nu (e := .ret) (a := ⟨#[], []⟩) (pre := ys) (x := x) (O := Oi) (I := fun p o A => WN W w8 pb K k l (M.next r) F Fi J O₀ p o A) (Ix := fun c ys A => c = .ret ∧ ∃ pre, Jx pre A) HV2.out ⟨HRB.out.1, rfl, HRB.out.2⟩
        | false =>
          have HMO := hid hmo
          have HISO : Hid (Calls Try.prog 73 #[.pointer (some ⟨xb, 0, none⟩), .int .i64 ((k : Int) - 1)] V2 fun e w' => e = .returned (.bool false) ∧ Nu V2 w') := by
            have h := isOf_any V2 xb x.m x.m.to _ _ HXB2.out ((k : Int) - 1)
            rwa [hmo] at h
          clear hmo
          gi_wp2_with fail
          refine ⟨trivial, fun h => by simp [Fence.wide] at h, (CallsIn.inRound l2 (callsIn_wide.2 HISO.out)).mono ?_⟩
          rintro e V3 ⟨rfl, hn3⟩
          have HN3 := hid hn3
          replace ca := cell_mv hn3 ca id
          have ch := cell_mv hn3 (cell_blk HA2.out.hb 0) id
          obtain ⟨p0, p1, p2, p3, p4, p5, p6, p7, p8⟩ := cells9 (hn3.heap HXB2.out id)
          have HH3 : Hid (V3.heap[W.heap.size + 3]? = some (.cells #[.slice vo ys.length vc] 37 (0, 0))) := hn3.heap HA2.out.hb id
          have HR3 := hid (row_mv hn3 HA2.out.row (fun _ _ => id))
          clear hn3 c2
          obtain ⟨i0, hi, hz0, hz1, hz2⟩ := n_info_parts n_infoMove
          have HN1 : Hid (Nu V3 (V3.alloc (.cells x.cells.toArray 44))) := Mv.alloc _ _ _
          have HR1 : Hid ((V3.alloc (.cells x.cells.toArray 44)).ownsRow (w8.heap.size + 2) 44 9 (.slice vo ys.length vc) ys.length (xflat ys)) := row_mv HN1.out HR3.out (fun _ _ => id)
          have HNB : Hid (∀ j u, x.cells[j]? = some u → (V3.alloc (.cells x.cells.toArray 44)).cell? ((⟨V3.heap.size, 0, none⟩ : Addr).add j) = some u) := fun j u hj => by
            rw [add_block, cell_blk (heap_alloc_new V3 _)]; simpa using hj
          have HL1 : Hid ((V3.alloc (.cells x.cells.toArray 44)).heap[W.heap.size + 3]? = some (.cells #[.slice vo ys.length vc] 37 (0, 0))) := HN1.out.heap HH3.out id
          have hyl : ys.length < 1000000000 := by have := HYL.out; have := HML.out; omega
          have hsz3 : w8.heap.size + 2 ≤ V3.heap.size := Nat.le_trans HS2.out HN3.out.size
          gi_wp2_with (gi_at_builtin; refine wpListIn_append_lies _ rfl _ _ 37 rfl (w8.heap.size + 2) 44 i0 (.agg #[.int .i64 0, .int .i64 0, .int .i64 0, .int .i64 0, .string ⟨#[]⟩, .int .i64 0, .slice none 0 0, .slice none 0 0, .int .u64 0]) 9 112 Try.underlying37 hi hz0 hz1 hz2 rfl (by decide) _ ys.length (xflat ys) rfl HR1.out ⟨V3.heap.size, 0, none⟩ 1 1 x.cells rfl rfl HNB.out (by simp [X.cells, Value.oneCell']) (by decide) (by unfold maxLen; omega) (by omega) (by simp; omega) ?_)
          intro g' vc' V4 ho2 hg hg'
          have hlb4 : V4.heap[W.heap.size + 3]? = some (.cells #[.slice vo ys.length vc] 37 (0, 0)) := (Mv.grown hg).heap HL1.out (fun e => by have := (row_blk HR1.out e).1; have := HSZ.out; omega)
          have c4 := cell_blk hlb4 0
          have f4 := free_blk hlb4 0
          have HMR := hid (WA.more HI2.out HA2.out HBK.out.1 HB.out HX.out (fun b hb => (HO0.out b hb).1) HSZ.out HFF.out HMO.out HXO2.out (mv0 HN3.out HN1.out) hg ho2 (by rw [World.size_alloc]; exact hg'))
          clear hlb4 ho2 hg hg' HL1 HNB HR1 ca ch p0 p1 p2 p3 p4 p5 p6 p7 p8
          gi_wp2
          exact leftN_nu (e := .normal) (a := ⟨#[], []⟩) (pre := ys) (x := x) (O := Oi) (I := fun p o A => WN W w8 pb K k l (M.next r) F Fi J O₀ p o A) (Ix := fun c ys A => c = .ret ∧ ∃ pre, Jx pre A) HV2.out HMR.out
      · have HB2 : Hid (WB W w8 K k l J O₀ ys Oi V2 xs O) := hbb
        clear hbb
        have ca := cell_blk HB2.out.ab 0
        have HLA : Hid (Oi l ∧ Oi (W.heap.size + 4)) := ⟨(HB2.out.o _).2 (.inr (.inl rfl)), (HB2.out.o _).2 (.inr (.inr rfl))⟩
        cases hmo : movesIn x.m ((k : Int) - 1) with
        | true =>
          have HMO := hid hmo
          have HISO : Hid (Calls Try.prog 73 #[.pointer (some ⟨xb, 0, none⟩), .int .i64 ((k : Int) - 1)] V2 fun e w' => e = .returned (.bool true) ∧ Nu V2 w') := by
            have h := isOf_any V2 xb x.m x.m.to _ _ HXB2.out ((k : Int) - 1)
            rwa [hmo] at h
          clear hmo
          gi_wp2_with fail
          refine ⟨trivial, fun h => by simp [Fence.wide] at h, (CallsIn.inRound l2 (callsIn_wide.2 HISO.out)).mono ?_⟩
          rintro e V3 ⟨rfl, hn3⟩
          have HN3 := hid hn3
          replace ca := cell_mv hn3 ca id
          have HAB3 : Hid (V3.heap[W.heap.size + 4]? = some (.cells #[.bool true] 4 (0, 0))) := hn3.heap HB2.out.ab id
          have e1 := free_blk HAB3.out 0
          have HJ3 : Hid (J xs O V3) := HT.out.nu _ _ _ _ HB2.out.j hn3
          clear hn3 c2
          gi_wp2_with fail
          refine ⟨trivial, ?_⟩
          gi_upto_region 9 with fail
          have hm5 : Mv (· = W.heap.size + 4) V3 (V3.setCell ⟨W.heap.size + 4, 0, none⟩ (.bool true)) := Mv.setCell V3 ⟨W.heap.size + 4, 0, none⟩ _
          have HAB5 : Hid ((V3.setCell ⟨W.heap.size + 4, 0, none⟩ (.bool true)).heap[W.heap.size + 4]? = some (.cells #[.bool true] 4 (0, 0))) := setCell_blk HAB3.out
          have HJ5 : Hid (J xs O (V3.setCell ⟨W.heap.size + 4, 0, none⟩ (.bool true))) := HBK.out.1 _ _ _ _ HJ3.out (hm5.mono (fun b hb => by
            obtain rfl : b = W.heap.size + 4 := hb
            exact .inl ⟨by have := HB.out; omega, _, HAB3.out, .inl (by simp [bookO])⟩))
          have HM5 : Hid (Mv (fun b => False ∨ b = W.heap.size + 4) V2 (V3.setCell ⟨W.heap.size + 4, 0, none⟩ (.bool true))) := (HN3.out.mono (fun _ h => h.elim)).trans hm5 (fun b hb => .inl (.inr hb))
          generalize V3.setCell ⟨W.heap.size + 4, 0, none⟩ (.bool true) = V5 at *
          clear ca e1 hm5 HAB3 HJ3
          have HNX : Hid (Calls Try.prog 71 #[.pointer (some ⟨pb, 0, none⟩), .int .i64 (k : Int)] V5 fun e w' => e = .returned (.string (nst (nextK K k))) ∧ Nu V5 w') := HN0.out V5 (HPW.out V5 (fun b hb => by
            rw [HM5.out.block b (by have := HFF.out b hb; have := HBV.out.2; omega) (fun ho => by
              rcases ho with ho | ho
              · exact ho
              · have := HFF.out b hb; omega)]
            exact HI2.out.kp.2 b hb) (Nat.le_trans HBV.out.2 HM5.out.size))
          have d0 : V5.cell? ⟨W.heap.size, 0, none⟩ = some (.pointer (some ⟨pb, 0, none⟩)) := cell_mv HM5.out (cell_blk HI2.out.cb 0) (fun ho => by
            rcases ho with ho | ho
            · exact ho
            · omega)
          have d1 : V5.cell? ⟨W.heap.size + 1, 0, none⟩ = some (.int .i64 (k : Int)) := cell_mv HM5.out (cell_blk HI2.out.kb 0) (fun ho => by
            rcases ho with ho | ho
            · exact ho
            · omega)
          gi_wp2_with fail
          refine ⟨trivial, fun h => by simp [Fence.wide] at h, (CallsIn.inRound l2 (callsIn_wide.2 HNX.out)).mono ?_⟩
          rintro e V6 ⟨rfl, hn6⟩
          have HWT : Hid (WT W w8 V2 V6 pb K k l F Fi J O₀ ys x xb Oi xs O (nst (nextK K k))) := WT.of (P := fun _ => False) HI2.out (HM5.out.trans hn6 (fun _ h => h.elim)) (fun b hb => hb.elim) HLA.out HXO2.out HXB2.out HXL.out HS2.out HSZ.out HFF.out
            (hn6.heap HAB5.out id) ⟨x, by simp, HMO.out⟩ HB2.out.eq (HT.out.nu _ _ _ _ HJ5.out hn6) HB2.out.oo (fun b hb => .inl ((HB2.out.o b).2 (.inl hb))) (wmv_yes HMO.out).symm (nst_smallB (by have := HNK.out; omega))
          clear hn6 d0 d1
          gi_wp2_with fail
          exact htail _ _ _ _ _ _ _ _ _ _ _ _ _ _ _ _ _ _ _ _ _ _ _ _ _ _ _ HWT.out
        | false =>
          have HMO := hid hmo
          have HISO : Hid (Calls Try.prog 73 #[.pointer (some ⟨xb, 0, none⟩), .int .i64 ((k : Int) - 1)] V2 fun e w' => e = .returned (.bool false) ∧ Nu V2 w') := by
            have h := isOf_any V2 xb x.m x.m.to _ _ HXB2.out ((k : Int) - 1)
            rwa [hmo] at h
          clear hmo
          gi_wp2_with fail
          refine ⟨trivial, fun h => by simp [Fence.wide] at h, (CallsIn.inRound l2 (callsIn_wide.2 HISO.out)).mono ?_⟩
          rintro e V3 ⟨rfl, hn3⟩
          replace ca := cell_mv hn3 ca id
          have HWT : Hid (WT W w8 V2 V3 pb K k l F Fi J O₀ ys x xb Oi xs O (nst k)) := WT.of (P := fun _ => False) HI2.out (hn3.mono (fun _ h => h.elim)) (fun b hb => hb.elim) HLA.out HXO2.out HXB2.out HXL.out HS2.out HSZ.out HFF.out
            (hn3.heap HB2.out.ab id) (HB2.out.yes.imp fun y hy => ⟨List.mem_append_left _ hy.1, hy.2⟩) HB2.out.eq (HT.out.nu _ _ _ _ HB2.out.j hn3) HB2.out.oo (fun b hb => .inl ((HB2.out.o b).2 (.inl hb))) (wmv_not HMO.out).symm (nst_smallB (by have := HK17.out; omega))
          clear hn3 c2
          gi_wp2_with fail
          exact htail _ _ _ _ _ _ _ _ _ _ _ _ _ _ _ _ _ _ _ _ _ _ _ _ _ _ _ HWT.out
  case stop =>
    rintro D c pre V hD ⟨rfl, q', hq'⟩ hdd
    have HQ' := hid hq'
    have HDD := hid hdd
    have HD := hid hD
    clear hq' hdd hD
    gi_wp2_with fail
    refine fw_end HDD.out ?_ _ _ (.inl rfl)
    exact ⟨⟨_, rfl⟩, .inr ⟨q', HBK.out.2 _ _ _ HQ'.out ((mv_putObj V D _).mono (fun b hb => .inl ⟨by have := HN8.out.size; have := HD.out; have := HB.out; omega, .deferred (some []), by rw [hb]; exact HDD.out, rfl⟩))⟩⟩
  case done =>
    rintro D ys Oi V hD hms hI hdd
    have HI : Hid (WN W w8 pb K k l (M.next r) F Fi J O₀ ys Oi V) := hI
    have HDD := hid hdd
    have HD := hid hD
    have HMY := hid hms
    have HO0 : Hid (∀ b, O₀ b → b < W.heap.size ∧ ¬ (F b ∨ Fi b)) := HOF.out _ _ _ H0.out
    have HPUT : Hid (∀ V3, V3.heap[D]? = some (.deferred (some [])) → Mv (booksB B V3) V3 (V3.putObj D (.deferred none))) := fun V3 h => (mv_putObj V3 D _).mono (fun b hb => .inl ⟨by have := HN8.out.size; have := HD.out; have := HB.out; omega, .deferred (some []), by rw [hb]; exact h, rfl⟩)
    clear hI hdd hD hms
    rename_i Kd hKd
    refine hKd _ _ ?_
    clear hKd
    rcases HI.out.ph with ⟨vo, vc, ha⟩ | ⟨xs, O, hbb⟩
    · have HA2 : Hid (WA W w8 k l J O₀ ys Oi V vo vc) := ha
      clear ha
      have ca := cell_blk HA2.out.ab 0
      have HHM : Hid (ys.map (fun y => numMv (nst (nextK K k)) y.m) = ms) := by
        show _ = _
        rw [← HMS.out, fair_none HK0.out (fun m hm => by
          rw [← HMY.out] at hm
          obtain ⟨y, hy, rfl⟩ := List.mem_map.1 hm
          exact HA2.out.no y hy), ← HMY.out, List.map_map]
        rfl
      have HKP : Hid (W.heap.size ≤ V.heap.size ∧ w8.heap.size ≤ V.heap.size) := ⟨HI.out.kp.1, HI.out.sz⟩
      have HYL : Hid (ys.length = (M.next r).length) := by
        have := congrArg List.length HMY.out
        rw [List.length_map] at this
        exact this
      gi_upto_region 14 with fail
      refine wpIn_last 5 62 _ (RW14 pb k l (.slice vo ys.length vc) (nst (nextK K k))) RW14.nu (by kernel_rfl) (by kernel_rfl) rfl ?hcl rfl ?step ?last
      case hcl =>
        intro l' hcl hy i hi
        have h0 := hy ⟨0, .data⟩ (by simp) rfl
        have h3 := hy ⟨3, .data⟩ (by simp) rfl
        have h4 := hy ⟨4, .data⟩ (by simp) rfl
        have h1 := hcl 3 _ rfl h3 ⟨1, .data⟩ (by simp) rfl
        have h2 := hcl 3 _ rfl h3 ⟨2, .data⟩ (by simp) rfl
        have : i = 0 ∨ i = 1 ∨ i = 2 ∨ i = 3 ∨ i = 4 := by omega
        rcases this with rfl | rfl | rfl | rfl | rfl <;> assumption
      case step =>
        intro i o d a w' hi7 ho hd hnw hfr had Kx hK
        have f4 := hfr 4 (by kernel_rfl)
        have f5 := hfr 5 (by kernel_rfl)
        have f7 := hfr 7 (by kernel_rfl)
        have f8 := hfr 8 (by kernel_rfl)
        have : i = 0 ∨ i = 1 ∨ i = 2 ∨ i = 3 ∨ i = 4 := by omega
        rcases this with rfl | rfl | rfl | rfl | rfl <;> cases ho <;> cases hd
        · exact wpIn_of_op (lk_ldMoves rfl rfl f8 (cell_mv hnw (cell_blk HA2.out.hb 0) id) (fun w' hm => hK w' _ hm rfl))
        · exact wpIn_of_op (lk_ldCop rfl rfl f4 (cell_mv hnw (cell_blk HI.out.cb 0) id) (fun w' hm => hK w' _ hm rfl))
        · exact wpIn_of_op (lk_ldI rfl rfl f5 (cell_mv hnw (cell_blk HI.out.kb 0) id) (fun w' hm => hK w' _ hm rfl))
        · obtain ⟨⟨_, h0, rfl⟩, ⟨_, h1, rfl⟩, _⟩ := had
          exact wpIn_of_op (lk_fnext rfl rfl h0 h1 (HN0.out w' (HP.out.keep ⟨Nat.le_trans HKP.out.1 hnw.size, fun b hb => (hnw.block b (by have := HFF.out b (.inl hb); have := HKP.out.1; omega) id).trans (HI.out.kp.2 b (.inl hb))⟩)) (fun w' hm => hK w' _ hm rfl))
        · exact wpIn_of_op (lk_ldYld rfl rfl f7 (cell_mv hnw (cell_blk HI.out.yb 0) id) (fun w' hm => hK w' _ hm rfl))
      case last =>
        intro a w' hnw hdf hsz hfr htv
        obtain ⟨_, t0, rfl⟩ := htv 0 _ 57 (by decide) rfl rfl
        obtain ⟨_, t3, rfl⟩ := htv 3 _ 60 (by decide) rfl rfl
        obtain ⟨_, t4, rfl⟩ := htv 4 _ 61 (by decide) rfl rfl
        have hbv : B ≤ w'.heap.size := by have := HB.out; have := HKP.out.1; have := hnw.size; omega
        refine wpIn_of_op (lk_handOn rfl rfl t0 t3 t4 (handOn_any n l B ms J Jx HT.out w' hbv (w8.heap.size + 2) ys vo vc (nst (nextK K k)) (nst_smallB (by have := HNK.out; omega)) (row_mv hnw HA2.out.row (fun _ _ => id)) (fun y hy => (HA2.out.own y hy).mv hnw (fun _ _ => id) (Nat.le_refl _)) (fun y hy => by
              have h1 : y.m ∈ ys.map X.m := List.mem_map_of_mem hy
              rw [HMY.out] at h1
              exact HSM.out r y.m h1) (by have := HYL.out; have := HML.out; omega) [] O₀ (HT.out.nu _ _ _ _ HA2.out.j hnw) (fun i m hi => by
              rw [HHM.out] at hi
              simpa using hi) (fun b hb ho => by
              have h1 := (HO0.out b ho).1
              have h2 := HSZ.out
              rcases hb with hb | ⟨y, hy, hb⟩
              · have := (row_blk HA2.out.row hb).1; omega
              · have := ((HA2.out.own y hy).ge hb).1; omega)) ?_)
        intro e W3 hE
        have hDn : D = w8.heap.size := HD.out
        rcases hE with ⟨rfl, xs', O', hx', hj', ho', hmv'⟩ | ⟨rfl, ⟨pre, hjx⟩, hmx⟩
        · refine ⟨true, rfl, ?_⟩
          have hd3 : W3.heap[D]? = some (.deferred (some [])) := hmv'.heap (hnw.heap HDD.out id) (fun ho => by have := (HO0.out _ ho).1; have := HSZ.out; omega)
          rw [hdf]
          refine fw_end hd3 ?_ _ _ (.inr rfl)
          exact ⟨⟨_, rfl⟩, .inl ⟨xs', O', hx'.trans HHM.out, HBK.out.1 _ _ _ _ hj' ((HPUT.out W3 hd3).mono (fun b hb => .inl (hb.turn (Nat.le_refl _))))⟩⟩
        · refine ⟨false, rfl, ?_⟩
          have hd3 : W3.heap[D]? = some (.deferred (some [])) := hmx.heap (hnw.heap HDD.out id) (fun ho => by
            have h2 := HSZ.out
            rcases ho with ho | ho
            · have := (HO0.out _ ho).1; omega
            · have := HL.out.1; omega)
          rw [hdf]
          refine fw_end hd3 ?_ _ _ (.inr rfl)
          exact ⟨⟨_, rfl⟩, .inr ⟨pre, HBK.out.2 _ _ _ hjx (HPUT.out W3 hd3)⟩⟩
    · have HB2 : Hid (WB W w8 K k l J O₀ ys Oi V xs O) := hbb
      clear hbb
      have ca := cell_blk HB2.out.ab 0
      have HRE : Hid (FOut ms J Jx (.returned (.tuple #[])) (V.putObj D (.deferred none))) := by
        refine ⟨⟨_, rfl⟩, .inl ⟨xs, O, ?_, HBK.out.1 _ _ _ _ HB2.out.j ((HPUT.out V HDD.out).mono (fun b hb => .inl (hb.turn (Nat.le_refl _))))⟩⟩
        rw [HB2.out.eq, HMY.out, ← HMS.out, fair_able HK0.out]
        obtain ⟨y, hy, hm⟩ := HB2.out.yes
        exact ⟨y.m, by rw [← HMY.out]; exact List.mem_map_of_mem hy, hm⟩
      gi_wp2_with fail
      exact fw_end HDD.out HRE.out _ _ (.inr rfl)

end Go.Proofs.Ytcpgpiokjghcnaa
/-
  A system in copies: its moves, one by one.
-/
set_option linter.unusedVariables false
set_option linter.unusedSimpArgs false
namespace Go.Proofs.Ytcpgpiokjghcnaa
open Go.RowKit
attribute [local go_sem] Oper.semAt_some

theorem fnext_none {n : Nat} {W : World} {R : Ending → World → Prop} (hR : R (.returned (.tuple #[])) W) (T : Array Value) (x : Exit) (hx : x = .ret ∨ x = .normal) : bodyPostM Fence.wide n Try.prog Try.f68 R x { tmps := T, defers := [] } W := by
  rcases hx with rfl | rfl <;> exact ⟨.tuple #[], results_none rfl _ _ _, hR⟩

set_option maxHeartbeats 8000000 in
set_option maxRecDepth 100000 in
theorem fseq_any (n : Nat) (hn : 2 ≤ n) (F Fi : Nat → Prop) (pb b1 b2 : Nat) (T : TypeId) (r0 : Value) (K no nc : Nat) (M : Sem) (st : ByteArray) (w : World) (h : CopIs w F pb (.iface T r0) K no nc) (hs : SysAt Fi w T r0 M)
    (hb1 : w.heap[b1]? = some (.cells #[.pointer (some ⟨pb, 0, none⟩)] 55 (0, 0))) (hb2 : w.heap[b2]? = some (.cells #[.string st] 9 (0, 0))) (hst : Short st) (hsm : ∀ s m, m ∈ M.next s → SmallB m.to) (hml : ∀ s, (M.next s).length ≤ 1000000000) (hFlt : ∀ b, F b → b < w.heap.size) :
    SeqN n 68 #[.pointer (some ⟨b1, 0, none⟩), .pointer (some ⟨b2, 0, none⟩)] (fun b => F b ∨ Fi b ∨ b = b1 ∨ b = b2) ((fairSem M K).next st) w := fun l J Jx W O₀ hK hLl hJ hJx hBk hOF hY h0 => by
  have hkF : KeepF F w W := ⟨hK.1, fun x hx => hK.2 x (.inl hx)⟩
  have hkI : KeepF Fi w W := ⟨hK.1, fun x hx => hK.2 x (.inr (.inl hx))⟩
  have HP : Hid (CopIs W F pb (.iface T r0) K no nc) := h.keep hkF
  have HSY : Hid (SysAt Fi W T r0 M) := hs.keep hkI
  have HB1 : Hid (W.heap[b1]? = some (.cells #[.pointer (some ⟨pb, 0, none⟩)] 55 (0, 0))) := (hK.2 b1 (.inr (.inr (.inl rfl)))).trans hb1
  have HB2 : Hid (W.heap[b2]? = some (.cells #[.string st] 9 (0, 0))) := (hK.2 b2 (.inr (.inr (.inr rfl)))).trans hb2
  have HF : Hid (∀ b, F b → b < W.heap.size) := fun b hb => Nat.lt_of_lt_of_le (hFlt b hb) hK.1
  have HST := hid hst
  have HLL : Hid (l < W.heap.size ∧ ¬ (F l ∨ Fi l)) := ⟨hLl.1, fun hh => hLl.2 (hh.imp id .inl)⟩
  have HBK := hid hBk
  have HOF : Hid (∀ pre O A, J pre O A → ∀ b, O b → b < A.heap.size ∧ ¬ (F b ∨ Fi b)) := fun pre O A hj b hb => ⟨(hOF pre O A hj b hb).1, fun hh => (hOF pre O A hj b hb).2 (hh.imp id .inl)⟩
  have HTK : Hid (Taker n l W.heap.size ((fairSem M K).next st) J Jx) := ⟨hJ, fun pre O A h b hb => (hOF pre O A h b hb).1, hY⟩
  have HJ := hid hJ
  have H0 := hid h0
  have HSM := hid hsm
  have HML := hid hml
  have hn1 : 1 ≤ n := by omega
  have HSP : Hid (∀ W', Nu W W' → Calls Try.prog 67 #[.pointer (some ⟨pb, 0, none⟩), .string st] W' fun e w' => e = .returned (splitK K st) ∧ Nu W' w') := fun W' hW => fsplit_any W' F pb _ K no nc (HP.out.nu HF.out hW) st hst
  clear hkF hkI h hs hb1 hb2 hst hJ hJx hBk hOF hY h0 hK hFlt hsm hml hLl
  refine callsIn_of_wp_marks Try.func68 rfl trivial ?_ rfl
  simp only [Try.ntmps68, List.size_toArray, List.length_cons, List.length_nil, Nat.reduceAdd, Nat.reduceSub, Array.replicate_succ, Array.replicate_zero, List.push_toArray, List.append_toArray, List.nil_append, List.cons_append]
  have c1 : W.cell? ⟨b1, 0, none⟩ = some (.pointer (some ⟨pb, 0, none⟩)) := cell_blk HB1.out 0
  have c2 : W.cell? ⟨b2, 0, none⟩ = some (.string st) := cell_blk HB2.out 0
  cases ha : apartK K st with
  | none =>
    have HV : Hid (splitK K st = .tuple #[.int .i64 0, .string ⟨#[]⟩, .bool false]) := by show _ = _; simp [splitK, ha]
    have HE : Hid ((fairSem M K).next st = []) := by show _ = _; simp [fairSem, ha]
    rw [HV.out] at HSP
    clear ha HV
    gi_wp2_with fail
    refine ⟨trivial, (callsIn_wide.2 (HSP.out _ (Mv.refl _ _))).mono ?_⟩
    rintro e w2 ⟨rfl, hn2⟩
    have HN2 := hid hn2
    clear hn2 c1 c2
    gi_wp2_with fail
    refine fnext_none ?_ _ _ (.inl rfl)
    exact ⟨⟨_, rfl⟩, .inl ⟨[], O₀, by rw [HE.out]; rfl, HJ.out _ _ _ _ H0.out HN2.out⟩⟩
  | some p =>
    obtain ⟨q, r⟩ := p
    obtain ⟨hq, hr⟩ := apartK_some ha
    have HQ := hid hq
    have HR : Hid (Short r) := Nat.le_trans hr HST.out
    have HE : Hid ((fairSem M K).next st = fairMoves K q (M.look r).ac (M.next r)) := by show _ = _; unfold fairSem; simp only [ha]
    have HV : Hid (splitK K st = .tuple #[.int .i64 (q : Int), .string r, .bool true]) := by show _ = _; simp [splitK, ha]
    rw [HV.out] at HSP
    rw [HE.out] at HTK ⊢
    have hq17 : (q : Int) ≤ 17 := by have := HP.out.len; omega
    clear ha HV hr hq HE
    gi_wp2_with fail
    refine ⟨trivial, (callsIn_wide.2 (HSP.out _ (Mv.refl _ _))).mono ?_⟩
    rintro e w2 ⟨rfl, hn2⟩
    have HN2 := hid hn2
    replace c1 := cell_mv hn2 c1 id
    replace c2 := cell_mv hn2 c2 id
    clear hn2
    have HL2 : Hid (l < w2.heap.size ∧ ¬ (F l ∨ Fi l)) := ⟨Nat.lt_of_lt_of_le HLL.out.1 HN2.out.size, HLL.out.2⟩
    have HF2 : Hid (∀ b, F b → b < w2.heap.size) := fun b hb => Nat.lt_of_lt_of_le (HF.out b hb) HN2.out.size
    rcases Nat.eq_zero_or_pos q with hz | hz
    · subst hz
      gi_wp2_with fail
      refine ⟨trivial, (callsIn_wide.2 (callsIn_wide.1 (begun_any n hn F Fi pb T r0 K no nc M r w2 (HP.out.nu HF.out HN2.out) (HSY.out.nu HN2.out) HR.out HSM.out HF2.out l W.heap.size HL2.out HN2.out.size J Jx O₀ HTK.out HBK.out HOF.out (HJ.out _ _ _ _ H0.out HN2.out)))).mono ?_⟩
      rintro e w3 ⟨⟨v, rfl⟩, hq⟩
      have HRE := hid hq
      clear hq c1 c2
      gi_wp2_with fail
      refine fnext_none ?_ _ _ (.inl rfl)
      exact ⟨⟨_, rfl⟩, HRE.out⟩
    · have hz1 : (1 : Int) ≤ (q : Int) := by omega
      have hz2 : ¬ (q : Int) = 0 := by omega
      have HZ := hid hz
      clear hz
      gi_wp2_with fail
      refine ⟨trivial, (callsIn_wide.2 (callsIn_wide.1 (waited_any n hn F Fi pb T r0 K no nc M q HZ.out HQ.out r w2 (HP.out.nu HF.out HN2.out) (HSY.out.nu HN2.out) HR.out HSM.out (HML.out r) HF2.out l W.heap.size HL2.out HN2.out.size J Jx O₀ HTK.out HBK.out HOF.out (HJ.out _ _ _ _ H0.out HN2.out)))).mono ?_⟩
      rintro e w3 ⟨⟨v, rfl⟩, hq⟩
      have HRE := hid hq
      clear hq c1 c2
      gi_wp2_with fail
      refine fnext_none ?_ _ _ (.inr rfl)
      exact ⟨⟨_, rfl⟩, HRE.out⟩

end Go.Proofs.Ytcpgpiokjghcnaa
/-
  A system in copies is a system: the program's Next and what Of hands back.
-/
set_option linter.unusedVariables false
set_option linter.unusedSimpArgs false
namespace Go.Proofs.Ytcpgpiokjghcnaa
open Go.RowKit

theorem f_entersNext1 : Enters 68 := fun args w => by
  unfold callFunc
  simp [go_sem, Try.func68]
  rfl
theorem f_entersBegin : Enters 64 := fun args w => by
  unfold callFunc
  simp [go_sem, Try.func64]
  rfl
theorem f_entersNext : Enters 66 := fun args w => by
  unfold callFunc
  simp [go_sem, Try.func66]
  rfl
theorem f_entersLook : Enters 65 := fun args w => by
  unfold callFunc
  simp [go_sem, Try.func65]
  rfl
theorem f_leadsBegin (pb : Nat) : Leads 55 (.pointer (some ⟨pb, 0, none⟩)) "Begin" 64 (.pointer (some ⟨pb, 0, none⟩)) :=
  ⟨fun w => by kernel_rfl, f_entersBegin, fun w => by kernel_rfl⟩
theorem f_leadsNext (pb : Nat) : Leads 55 (.pointer (some ⟨pb, 0, none⟩)) "Next" 66 (.pointer (some ⟨pb, 0, none⟩)) :=
  ⟨fun w => by kernel_rfl, f_entersNext, fun w => by kernel_rfl⟩
theorem f_leadsLook (pb : Nat) : Leads 55 (.pointer (some ⟨pb, 0, none⟩)) "Look" 65 (.pointer (some ⟨pb, 0, none⟩)) :=
  ⟨fun w => by kernel_rfl, f_entersLook, fun w => by kernel_rfl⟩
theorem SeqN.any {n m : Nat} {gf : FuncId} {lb : Array Value} {F : Nat → Prop} {ms : List Mov} {w : World} (h : SeqN n gf lb F ms w) : SeqN m gf lb F ms w := fun l J Jx W O₀ hK hL hJ hJx hB hOF hY h0 =>
  callsIn_wide.2 (callsIn_wide.1 (h l J Jx W O₀ hK hL hJ hJx hB hOF (fun pre x W1 O h1 h2 h3 h4 h5 => by
    obtain ⟨fn, tmps, assign, body, hy, hR⟩ := hY pre x W1 O h1 h2 h3 h4 h5
    exact ⟨fn, tmps, assign, body, hy, roundK hR⟩) h0))

set_option maxHeartbeats 1000000 in
theorem fNext_any (w : World) (F Fi : Nat → Prop) (pb : Nat) (T : TypeId) (r0 : Value) (K no nc : Nat) (M : Sem) (h : CopIs w F pb (.iface T r0) K no nc) (hF : ∀ b, F b → b < w.heap.size) (hs : SysAt Fi w T r0 M) (hm : ∀ s m, m ∈ M.next s → SmallB m.to) (hml : ∀ s, (M.next s).length ≤ 1000000000) (st : ByteArray) (hst : Short st) :
    Calls Try.prog 66 #[.pointer (some ⟨pb, 0, none⟩), .string st] w fun e w' => ∃ gf lb G, e = .returned (.func (.func gf) #[] lb) ∧ Nu w w' ∧ Enters gf ∧ (∀ b, G b → b < w'.heap.size ∧ ((F b ∨ Fi b) ∨ w.heap.size ≤ b)) ∧ ∀ n, 1 ≤ n → SeqN n gf lb G ((fairSem M K).next st) w' := by
  have HP := hid h
  have HM := hid hm
  have HML := hid hml
  have HF := hid hF
  have HSY := hid hs
  have HST := hid hst
  clear h hm hml hF hst hs
  go_enter Try.func66, Try.ntmps66
  go_wp2
  go_ret
  have hn1 : Nu w (w.alloc (.cells #[.pointer (some ⟨pb, 0, none⟩)] 55)) := Mv.alloc _ _ _
  have hb1 := heap_alloc_new w (.cells #[.pointer (some ⟨pb, 0, none⟩)] 55)
  have hz1 : (w.alloc (.cells #[.pointer (some ⟨pb, 0, none⟩)] 55)).heap.size = w.heap.size + 1 := World.size_alloc _ _
  generalize w.alloc (.cells #[.pointer (some ⟨pb, 0, none⟩)] 55) = w1 at *
  have hn2 : Nu w1 (w1.alloc (.cells #[.string st] 9)) := Mv.alloc _ _ _
  have hb2 := heap_alloc_new w1 (.cells #[.string st] 9)
  have hz2 : (w1.alloc (.cells #[.string st] 9)).heap.size = w1.heap.size + 1 := World.size_alloc _ _
  rw [hz1] at hb2
  generalize w1.alloc (.cells #[.string st] 9) = w2 at *
  have hk : KeepF F w w2 := (mv0 hn1 hn2).keep (fun b hb => ⟨HF.out b hb, id⟩)
  have hFlt : ∀ b, F b → b < w2.heap.size := fun b hb => Nat.lt_of_lt_of_le (HF.out b hb) hk.1
  have hs2 := HSY.out.nu (mv0 hn1 hn2)
  refine ⟨68, _, fun b => F b ∨ Fi b ∨ b = w.heap.size ∨ b = w.heap.size + 1, rfl, mv0 hn1 hn2, f_entersNext1, fun b hb => ?_, fun n hn => (fseq_any 2 (Nat.le_refl _) F Fi pb w.heap.size (w.heap.size + 1) T r0 K no nc M st w2 (HP.out.keep hk) hs2 (hn2.heap hb1 id) hb2 HST.out HM.out HML.out hFlt).any⟩
  rcases hb with hb | hb | rfl | rfl
  · exact ⟨hFlt b hb, .inl (.inl hb)⟩
  · exact ⟨hs2.lt b hb, .inl (.inr hb)⟩
  · exact ⟨by omega, .inr (Nat.le_refl _)⟩
  · exact ⟨by omega, .inr (by omega)⟩

/-- A pair of the program's is a system. -/
theorem CopIs.sys {w : World} {F Fi : Nat → Prop} {pb : Nat} {T : TypeId} {r0 : Value} {K no nc : Nat} {M : Sem} (h : CopIs w F pb (.iface T r0) K no nc) (hF : ∀ b, F b → b < w.heap.size) (hs : SysAt Fi w T r0 M) (hb : SmallB M.begin) (hm : ∀ s m, m ∈ M.next s → SmallB m.to) (hml : ∀ s, (M.next s).length ≤ 1000000000) : SysAt (fun b => F b ∨ Fi b) w 55 (.pointer (some ⟨pb, 0, none⟩)) (fairSem M K) where
  lt := fun b hb => hb.elim (hF b) (hs.lt b)
  does := fun w' hk => by
    have hkF : KeepF F w w' := ⟨hk.1, fun x hx => hk.2 x (.inl hx)⟩
    have hkI : KeepF Fi w w' := ⟨hk.1, fun x hx => hk.2 x (.inr hx)⟩
    have hF' : ∀ b, F b → b < w'.heap.size := fun b hb => Nat.lt_of_lt_of_le (hF b hb) hk.1
    exact {
      bg := ⟨_, _, f_leadsBegin pb, fBegin_any w' F Fi pb T r0 K no nc M (h.keep hkF) (hs.keep hkI) hb⟩
      nx := ⟨_, _, f_leadsNext pb, fun st hst => fNext_any w' F Fi pb T r0 K no nc M (h.keep hkF) hF' (hs.keep hkI) hm hml st hst⟩
      lk := ⟨_, _, f_leadsLook pb, fun st hst => fLook_any w' F Fi pb T r0 K no nc M (h.keep hkF) hF' (hs.keep hkI) st hst⟩ }

end Go.Proofs.Ytcpgpiokjghcnaa
/-
  copiesOf: while it makes the copies' numbers.
-/
set_option linter.unusedVariables false
set_option linter.unusedSimpArgs false
namespace Go.Proofs.Ytcpgpiokjghcnaa
open Go.RowKit

def numsTo (j : Nat) : List ByteArray := (List.range j).map nst
theorem numsTo_succ (j : Nat) : numsTo (j + 1) = numsTo j ++ [nst j] := by unfold numsTo; rw [List.range_succ, List.map_append]; rfl
theorem numsTo_len (j : Nat) : (numsTo j).length = j := by simp [numsTo]
theorem blk_ne {W : World} {a b : Nat} {ca cb : Array Value} {ta tb : TypeId} (ha : W.heap[a]? = some (.cells ca ta (0, 0))) (hb : W.heap[b]? = some (.cells cb tb (0, 0))) (h : ta ≠ tb) : a ≠ b := fun e => by
  subst e
  rw [ha] at hb
  simp only [Option.some.injEq, Obj.cells.injEq] at hb
  exact h hb.2.1

theorem f_infoStr : (Try.prog.info? 9).map (fun i => (i.zero, i.size, i.bytes)) = some (some (.string ⟨#[]⟩), 1, 16) := by kernel_rfl

section
variable {o : Oper} {a : Act} {w : World} {K : Act → World → Prop} {Q : Exit → Act → World → Prop} {d : Nat}
theorem lk_stStrs {s r b f : Nat} {u : Value} {ao : Option Addr} {n c : Nat} (hd : o.dst = none) (ho : o.op = .store 51 (.tmp s) (.tmp r)) (hs : a.tmps[s]? = some (.pointer (some ⟨b, f, none⟩))) (hr : a.tmps[r]? = some (.slice ao n c)) (h0 : w.cell? ⟨b, f, none⟩ = some u) (hf : w.frozen? ⟨b, f, none⟩ = false) (hK : K a (w.setCell ⟨b, f, none⟩ (.slice ao n c))) : Oper.wp Try.prog o a w K Q := by
  have hes : a.eval (.tmp s) = .pointer (some ⟨b, f, none⟩) := by simp [Act.eval, hs]
  have her : a.eval (.tmp r) = .slice ao n c := by simp [Act.eval, hr]
  unfold Oper.wp execOp
  simp only [ho, hd, hes, her]
  go_simp
  exact hK
theorem lk_bytes {s n : Nat} (hn : n < 2097152) (hd : o.dst = some d) (ho : o.op = .call { callee := .value (.func 25), args := #[.tmp s], argTypes := #[3] }) (hs : a.tmps[s]? = some (.int .i64 (n : Int)))
    (hK : ∀ w', Nu w w' → K ⟨a.tmps.setIfInBounds d (.string (nst n)), a.defers⟩ w') : Oper.wp Try.prog o a w K Q := by
  have he : a.eval (.tmp s) = .int .i64 (n : Int) := by simp [Act.eval, hs]
  unfold Oper.wp execOp
  simp only [ho, hd]
  go_simp
  refine (numBytes_any w n hn).mono ?_
  rintro e w' ⟨rfl, hm⟩
  exact hK w' hm
end

/-- How far the copies' numbers are made. -/
structure CO (w W : World) (cb : Nat) (sv : Value) (no : Option Addr) (nc j : Nat) : Prop where
  ge : w.heap.size ≤ cb
  blk : W.heap[cb]? = some (.cells #[sv, .slice no j nc] 83 (0, 0))
  num : W.ownsRow w.heap.size 9 1 (.slice no j nc) j ((numsTo j).map Value.string)
  nu : Nu w W
theorem CO.keep {w W W' : World} {cb : Nat} {sv : Value} {no : Option Addr} {nc j : Nat} (h : CO w W cb sv no nc j) (hn : Nu W W') : CO w W' cb sv no nc j :=
  ⟨h.ge, hn.heap h.blk id, row_mv hn h.num (fun _ _ => id), mv0 h.nu hn⟩
theorem CO.more {w W W3 : World} {cb : Nat} {sv : Value} {no : Option Addr} {nc j : Nat} (h : CO w W cb sv no nc j) {g5 nc5 : Nat} (hg : W.grownBy W3 (Value.slice no j nc).ownBlock) (hown : W3.ownsRow w.heap.size 9 1 (.slice (some ⟨g5, 0, none⟩) (j + 1) nc5) (j + 1) ((numsTo (j + 1)).map Value.string)) :
    CO w (W3.setCell ⟨cb, 1, none⟩ (.slice (some ⟨g5, 0, none⟩) (j + 1) nc5)) cb sv (some ⟨g5, 0, none⟩) nc5 (j + 1) := by
  have hmg := Mv.grown hg
  have hb3 := hmg.heap h.blk (fun e => by
    obtain ⟨_, _, cs, hc⟩ := row_blk h.num e
    exact blk_ne h.blk hc (by decide) rfl)
  have hms : Mv (· = cb) W3 (W3.setCell ⟨cb, 1, none⟩ (.slice (some ⟨g5, 0, none⟩) (j + 1) nc5)) := Mv.setCell W3 ⟨cb, 1, none⟩ _
  refine ⟨h.ge, setCell_blk hb3, row_mv hms hown (fun k hk e => ?_), (h.nu.trans hmg (fun x hx => .inr (by have := (row_blk h.num hx).1; omega))).trans hms (fun x hx => .inr (by have := h.ge; omega))⟩
  obtain ⟨_, _, cs, hc⟩ := row_blk hown hk
  exact blk_ne hc hb3 (by decide) e
theorem CO.cop {w W : World} {cb : Nat} {sv : Value} {no : Option Addr} {nc K : Nat} (h : CO w W cb sv no nc K) (hK : 1 ≤ K ∧ K ≤ 17) : ∃ g, no = some ⟨g, 0, none⟩ ∧ w.heap.size ≤ g ∧ g < W.heap.size ∧ CopIs W (fun b => b = cb ∨ b = g) cb sv K g nc := by
  rcases h.num.2 with ⟨hv, hn⟩ | ⟨g, cap', cur, hv, hg, hblk, hrest⟩
  · omega
  · simp only [Value.slice.injEq] at hv
    obtain ⟨rfl, _, rfl⟩ := hv
    refine ⟨g, rfl, hg, lt_of_block hblk, .inl rfl, .inr rfl, hK, h.blk, fun i hi => ?_⟩
    have hi' : i < (numsTo K).length := by rw [numsTo_len]; exact hi
    have := h.num.cells (g := g) rfl i (.string (nst i)) (by rw [List.getElem?_map, List.getElem?_eq_getElem hi']; simp [numsTo])
    rw [add_block] at this
    exact this

/-- What region 5 of copiesOf knows of. -/
def RCo (cb : Nat) (na : Option Addr) (nc j B : Nat) : Nat → World → Value → Prop
  | 0, _, v => v = .pointer (some ⟨cb, 0, none⟩)
  | 1, _, v => v = .pointer (some ⟨cb, 0, none⟩)
  | 2, _, v => v = .pointer (some ⟨cb, 0, none⟩)
  | 3, _, v => v = .pointer (some ⟨cb, 1, none⟩)
  | 4, _, v => v = .slice na j nc
  | 5, _, v => v = .int .i64 (j : Int)
  | 6, _, v => v = .string (nst j)
  | 7, w, v => ∃ rb, v = .slice (some ⟨rb, 0, none⟩) 1 1 ∧ w.heap[rb]? = some (.cells #[.string (nst j)] 9 (0, 0)) ∧ B ≤ rb
  | _ + 8, _, _ => False
theorem RCo.nu {cb : Nat} {na : Option Addr} {nc j B : Nat} : ∀ i w w' v, Nu w w' → RCo cb na nc j B i w v → RCo cb na nc j B i w' v := by
  intro i w w' v hn h
  match i with
  | 0 | 1 | 2 | 3 | 4 | 5 | 6 => exact h
  | 7 => obtain ⟨rb, h1, h2, h3⟩ := h; exact ⟨rb, h1, hn.heap h2 id, h3⟩
  | _ + 8 => exact h

end Go.Proofs.Ytcpgpiokjghcnaa
/-
  copiesOf: a system's copies, with their numbers' bytes.
-/
set_option linter.unusedVariables false
set_option linter.unusedSimpArgs false
namespace Go.Proofs.Ytcpgpiokjghcnaa
open Go.RowKit

set_option maxHeartbeats 8000000 in
set_option maxRecDepth 40000 in
theorem copiesOf_any (w : World) (T : TypeId) (r0 : Value) (p : Nat) (hp : p ≤ 16) :
    Calls Try.prog 17 #[.iface T r0, .int .i64 (p : Int)] w fun e w' => ∃ cb no nc, e = .returned (.pointer (some ⟨cb, 0, none⟩)) ∧ CO w w' cb (.iface T r0) no nc (p + 1) := by
  have hp1 : (p : Int) ≤ 16 := by omega
  have hp0 : (0 : Int) ≤ (p : Int) := by omega
  go_enter Try.func17, Try.ntmps17
  go_upto_region 2 with fail
  have HCO : Hid (CO w (w.alloc (.cells #[.iface T r0, .slice none 0 0] 83)) w.heap.size (.iface T r0) none 0 0) := ⟨Nat.le_refl _, heap_alloc_new w _, World.ownsRow_nil _ _ _ _, Mv.alloc _ _ _⟩
  generalize w.alloc (.cells #[.iface T r0, .slice none 0 0] 83) = w1 at *
  generalize hcb : w.heap.size = cb
  have HCO2 : Hid (CO w w1 cb (.iface T r0) none 0 0) := by rw [← hcb]; exact HCO.out
  clear HCO hcb
  go_wp2_with fail
  go_loopw [12] (fun iv wr => ∃ (j : Nat) (na : Option Addr) (nc : Nat), j ≤ p + 1 ∧ iv = .int .i64 (j : Int) ∧ Hid (CO w wr cb (.iface T r0) na nc j)) (fun iv _ => p + 1 - (intOf iv).toNat)
  case atStart => exact ⟨0, none, 0, Nat.zero_le _, rfl, HCO2.out⟩
  case round =>
    obtain ⟨j, na, nc, hj, rfl, HP⟩ := hrel
    rcases Nat.lt_or_ge j (p + 1) with hlt | hge
    · have hlt' : (j : Int) < (p : Int) + 1 := by omega
      have HLT : Hid (j < p + 1) := hlt
      have HJ17 : Hid (j < 17) := by show _ < _; omega
      clear hlt
      go_upto_region 5 with fail
      rename_i KC6 hKC6
      refine wp_tail2 8 (.pointer (some ⟨cb, 0, none⟩)) _ 15 (RCo cb na nc j wr.heap.size) RCo.nu (by kernel_rfl) (by kernel_rfl) rfl rfl (by kernel_rfl) (by kernel_rfl) (by kernel_rfl) (fun _ _ _ h => h) (.inl ⟨by rfl, fun w => by rfl⟩) rfl ?hcl6 ?step6 ?tail6
      case hcl6 =>
        intro l' hcl h0 hy i hi
        have hy := hy _ rfl
        have h4 := hy ⟨4, .data⟩ (by simp) rfl
        have h7 := hy ⟨7, .data⟩ (by simp) rfl
        have h6 := hcl 7 _ rfl h7 ⟨6, .data⟩ (by simp) rfl
        have h5 := hcl 6 _ rfl h6 ⟨5, .data⟩ (by simp) rfl
        have h3 := hcl 4 _ rfl h4 ⟨3, .data⟩ (by simp) rfl
        have h2 := hcl 3 _ rfl h3 ⟨2, .data⟩ (by simp) rfl
        have h1 := hcl 2 _ rfl h2 ⟨1, .data⟩ (by simp) rfl
        have : i = 0 ∨ i = 1 ∨ i = 2 ∨ i = 3 ∨ i = 4 ∨ i = 5 ∨ i = 6 ∨ i = 7 := by omega
        rcases this with rfl | rfl | rfl | rfl | rfl | rfl | rfl | rfl <;> assumption
      case step6 =>
        intro i o d a w' hi ho' hd' hn hfr had K hK
        have f5 := hfr 5 (by kernel_rfl)
        have f6 := hfr 6 (by kernel_rfl)
        have : i = 0 ∨ i = 1 ∨ i = 2 ∨ i = 3 ∨ i = 4 ∨ i = 5 ∨ i = 6 ∨ i = 7 := by omega
        have hblk := hn.heap HP.out.blk id
        rcases this with rfl | rfl | rfl | rfl | rfl | rfl | rfl | rfl
        · cases ho'; cases hd'; exact ite_yes (want_none rfl) (lk_move rfl rfl f5 (fun w' hm => hK w' _ hm rfl))
        · cases ho'; cases hd'; exact ite_yes (want_none rfl) (lk_move rfl rfl f5 (fun w' hm => hK w' _ hm rfl))
        · cases ho'; cases hd'; obtain ⟨⟨_, h0, rfl⟩, _⟩ := had; exact ite_yes (want_none rfl) (lk_nilPr rfl rfl h0 (fun w' hm => hK w' _ hm rfl))
        · cases ho'; cases hd'; obtain ⟨⟨_, h0, rfl⟩, _⟩ := had; exact ite_yes (want_none rfl) (lk_fieldFc1 rfl rfl h0 (fun w' hm => hK w' _ hm rfl))
        · cases ho'; cases hd'; obtain ⟨⟨_, h0, rfl⟩, _⟩ := had; exact ite_yes (want_none rfl) (lk_ldStrs rfl rfl h0 (cell_blk hblk 1) (fun w' hm => hK w' _ hm rfl))
        · cases ho'; cases hd'; exact ite_yes (want_none rfl) (lk_move rfl rfl f6 (fun w' hm => hK w' _ hm rfl))
        · cases ho'; cases hd'; obtain ⟨⟨_, h0, rfl⟩, _⟩ := had; exact ite_yes (want_none rfl) (lk_bytes (by have := HJ17.out; omega) rfl rfl h0 (fun w' hm => hK w' _ hm rfl))
        · cases ho'; cases hd'; obtain ⟨⟨_, h0, rfl⟩, _⟩ := had; exact ite_yes (want_none rfl) (lk_rowStr rfl rfl h0 (hK _ _ (Mv.alloc _ _ _) ⟨_, rfl, heap_alloc_new _ _, hn.size⟩))
      case tail6 =>
        intro a w8 hn8 hdf hsz hfr htv
        obtain ⟨_, t7, rb, rfl, hbr, _⟩ := htv 7 _ 22 (by decide) rfl rfl
        have htm := fill_eqT (y := 8) (vals := fun i => ([.pointer (some ⟨cb, 0, none⟩), .pointer (some ⟨cb, 0, none⟩), .pointer (some ⟨cb, 0, none⟩), .pointer (some ⟨cb, 1, none⟩), .slice na j nc, .int .i64 (j : Int), .string (nst j), .slice (some ⟨rb, 0, none⟩) 1 1] : List Value).getD i undef) (by kernel_rfl) hfr (fun i o d hi ho' hd' => by
          obtain ⟨v, h, hv⟩ := htv i o d hi ho' hd'
          have : i = 0 ∨ i = 1 ∨ i = 2 ∨ i = 3 ∨ i = 4 ∨ i = 5 ∨ i = 6 ∨ i = 7 := by omega
          rcases this with rfl | rfl | rfl | rfl | rfl | rfl | rfl | rfl <;> cases ho' <;> cases hd' <;> first | exact t7 | exact h.trans (congrArg some hv))
        rw [act_eq' htm hdf]
        have HN8 := hid hn8
        have HBR := hid hbr
        clear htm hdf hsz hfr htv t7 hn8 hbr
        simp only [fill, List.take, List.getD_cons_succ, List.getD_cons_zero, List.setIfInBounds_toArray, List.set_cons_succ, List.set_cons_zero]
        show tailW _ _ [8, 9, 10, 11] _ _
        have HP8 := hid (HP.out.keep HN8.out)
        obtain ⟨i1, hi1, hz1, hy1, hb1⟩ := n_info_parts f_infoStr
        refine ⟨_, rfl, rfl, wp_append_lies _ (.tmp 19) (.tmp 22) 51 rfl w.heap.size 9 i1 (.string ⟨#[]⟩) 1 16 Try.underlying51 hi1 hz1 hy1 hb1 rfl (by decide) (.slice na j nc) j _ rfl HP8.out.num ⟨rb, 0, none⟩ 1 1 [.string (nst j)] rfl rfl (World.news_of_block HBR.out) (by intro u hu; simp at hu; subst hu; rfl) (by decide) (by have := HJ17.out; unfold maxLen; omega) (by have := HJ17.out; omega) HP8.out.nu.size _ rfl ?_⟩
        intro g5 cap5 w9 hown hgrow hat hg5
        show tailW _ _ _ (Act.put _ (some 23) _) _
        simp only [Act.put, List.setIfInBounds_toArray, List.set_cons_succ, List.set_cons_zero]
        refine ⟨_, rfl, rfl, lk_nilPr rfl rfl rfl (fun u0 hu0 => ?_)⟩
        simp only [List.setIfInBounds_toArray, List.set_cons_succ, List.set_cons_zero]
        refine ⟨_, rfl, rfl, lk_fieldFc1 rfl rfl rfl (fun u1 hu1 => ?_)⟩
        simp only [List.setIfInBounds_toArray, List.set_cons_succ, List.set_cons_zero]
        have hnu := mv0 hu0 hu1
        have hgrow' : w8.grownBy u1 (Value.slice na j nc).ownBlock := ⟨hnu.os.trans hgrow.os, hnu.tape.trans hgrow.tape, hnu.output.trans hgrow.output, Nat.le_trans hgrow.size hnu.size, fun k hk hn => (hnu.block k (Nat.lt_of_lt_of_le hk hgrow.size) id).trans (hgrow.block k hk hn)⟩
        have hown' : u1.ownsRow w.heap.size 9 1 (.slice (some ⟨g5, 0, none⟩) (j + 1) cap5) (j + 1) ((numsTo (j + 1)).map Value.string) := by
          rw [numsTo_succ, List.map_append]
          exact row_mv hnu hown (fun _ _ => id)
        have hpb : u1.heap[cb]? = some (.cells #[.iface T r0, .slice na j nc] 83 (0, 0)) := hnu.heap ((Mv.grown hgrow).heap HP8.out.blk (fun e => by
          obtain ⟨_, _, cs, hc⟩ := row_blk HP8.out.num e
          exact blk_ne HP8.out.blk hc (by decide) rfl)) id
        refine ⟨_, rfl, rfl, lk_stStrs rfl rfl rfl rfl (cell_blk hpb 1) (free_blk hpb 1) ?_⟩
        have HP9 := hid (HP8.out.more hgrow' hown')
        clear hown hown' hgrow hgrow' hat hg5 hnu hu0 hu1 hpb HP8 HBR HN8 hi1 hz1 hy1 hb1
        show Exit.inBlock 1 (Exit.then KC6 _) .normal _ _
        simp only [Exit.inBlock, Exit.then]
        refine hKC6 _ _ ?_
        clear hKC6
        generalize u1.setCell ⟨cb, 1, none⟩ (.slice (some ⟨g5, 0, none⟩) (j + 1) cap5) = w10 at *
        go_wp2
        go_roundw
        case rel => exact ⟨j + 1, some ⟨g5, 0, none⟩, cap5, HLT.out, by go_num, HP9.out⟩
        case measure => have := HLT.out; simp [intOf]; omega
    · obtain rfl : j = p + 1 := by omega
      have hge' : ¬ (((p + 1 : Nat) : Int)) < (p : Int) + 1 := by omega
      go_wp2
      go_ret
      exact ⟨cb, rfl, na, nc, HP.out⟩

end Go.Proofs.Ytcpgpiokjghcnaa
