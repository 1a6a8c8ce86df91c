/-
  JEverW0, JEverW1.
-/
import Derived.Laws.Bits64
import Derived.Laws.BitsAllLaws
import Derived.Test.YtiinmaedmkgfoaaDoorM14
import Derived.Test.YtiinmaedmkgfoaaDoorM49
import Derived.Test.YtiinmaedmkgfoaaDoorM50
/-
  What a move leaves; the statement's own pick, within.
-/
set_option linter.unusedVariables false
set_option linter.unusedSimpArgs false
namespace Go.Proofs.YtiinmaedmkgfoaaDoor
open Go.RowKit

/-! What a move leaves. -/
theorem proc_get {t : Thr} {p : Nat} (hp : p < t.procs.length) : t.procs[p]? = some (t.procs.getD p []) := by rw [List.getD_eq_getElem?_getD, List.getElem?_eq_getElem hp]; rfl
theorem bound_node {t : Thr} {p : Nat} (hp : p < t.procs.length) : (boundsN t)[t.init.length + p]? = some (t.procs.getD p []).length := by
  rw [boundsN, List.getElem?_append_right (by simp), List.length_replicate, Nat.add_sub_cancel_left, List.getElem?_map, proc_get hp]
  rfl
theorem bound_obj {t : Thr} {i : Nat} (hi : i < t.init.length) : (boundsN t)[i]? = some 256 := by
  rw [boundsN, List.getElem?_append_left (by simpa using hi), List.getElem?_replicate, if_pos hi]
theorem Okay.node {t : Thr} {L : List Nat} (h : Okay t L) {p : Nat} (hp : p < t.procs.length) : L.getD (t.init.length + p) 0 < (t.procs.getD p []).length := by
  have hl : t.init.length + p < L.length := by rw [h.len, boundsN_len]; omega
  rw [List.getD_eq_getElem?_getD, List.getElem?_eq_getElem hl]
  exact h.lt _ _ _ (List.getElem?_eq_getElem hl) (bound_node hp)
theorem Okay.set {t : Thr} {L : List Nat} (h : Okay t L) {k x : Nat} (hx : ∀ b, (boundsN t)[k]? = some b → x < b) : Okay t (L.set k x) := by
  refine ⟨by rw [List.length_set]; exact h.len, fun i n b hn hb => ?_⟩
  rw [List.getElem?_set] at hn
  by_cases hk : k = i
  · subst hk
    rw [if_pos rfl] at hn
    split at hn
    · cases hn; exact hx b hb
    · cases hn
  · rw [if_neg hk] at hn
    exact h.lt i n b hn hb
theorem behind_okay {t : Thr} {L : List Nat} (h : Okay t L) {p : Nat} (hp : p < t.procs.length) {a : TA} (ha : taB (t.procs.getD p []).length t.init.length a = true) : Okay t (behindN t.init.length L p a) := by
  obtain ⟨_, hset, _, hto, _⟩ := taB_parts ha
  have h1 : Okay t (L.set (t.init.length + p) a.to.toNat) := h.set (fun b hb => by
    rw [bound_node hp] at hb
    cases hb
    omega)
  rw [behindN]
  split
  · rename_i hs
    obtain ⟨⟨h2, h3⟩, h4, h5⟩ := hset hs
    refine h1.set (fun b hb => ?_)
    rw [bound_obj (by omega)] at hb
    cases hb
    omega
  · exact h1
/-- Where processes stand behind a move. -/
theorem behind_node {t : Thr} {L : List Nat} (h : Okay t L) {p : Nat} (hp : p < t.procs.length) {a : TA} (ha : taB (t.procs.getD p []).length t.init.length a = true) {q : Nat} (hq : q < t.procs.length) :
    (behindN t.init.length L p a).getD (t.init.length + q) 0 = if q = p then a.to.toNat else L.getD (t.init.length + q) 0 := by
  obtain ⟨_, hset, _, hto, _⟩ := taB_parts ha
  have hl : L.length = t.init.length + t.procs.length := by rw [h.len, boundsN_len]
  have h1 : (L.set (t.init.length + p) a.to.toNat).getD (t.init.length + q) 0 = if q = p then a.to.toNat else L.getD (t.init.length + q) 0 := by
    rw [getDs]
    by_cases hqp : q = p
    · rw [if_pos ⟨by omega, by omega⟩, if_pos hqp]
    · rw [if_neg (by omega), if_neg hqp]
  rw [behindN]
  split
  · rename_i hs
    obtain ⟨⟨h2, h3⟩, _⟩ := hset hs
    rw [getDs, if_neg (by omega), h1]
  · exact h1
/-- The objects behind a move. -/
theorem behind_obj {t : Thr} {L : List Nat} {p : Nat} {a : TA} (ha : taB (t.procs.getD p []).length t.init.length a = true) {o : Nat} (ho : o < t.init.length) (hd : (behindN t.init.length L p a).getD o 0 ≠ L.getD o 0) : a.set = true ∧ a.setObject = (o : Int) := by
  obtain ⟨_, hset, _⟩ := taB_parts ha
  have h1 : ∀ x, (L.set (t.init.length + p) x).getD o 0 = L.getD o 0 := fun x => by rw [getDs, if_neg (by omega)]
  rw [behindN] at hd
  by_cases hs : a.set = true
  · rw [if_pos hs, getDs] at hd
    obtain ⟨⟨h2, h3⟩, _⟩ := hset hs
    by_cases hk : o = a.setObject.toNat
    · exact ⟨hs, by omega⟩
    · rw [if_neg (fun e => hk e.1), h1] at hd
      exact absurd rfl hd
  · rw [if_neg hs, h1] at hd
    exact absurd rfl hd

theorem seen_bit (L : List Nat) (ps : List (Int × Int)) (i : Nat) : ∀ k, (seenTo L ps k).testBit i = true ↔ i < k ∧ ∃ q, ps[i]? = some q ∧ (L.getD q.1.toNat 0 : Int) = q.2
  | 0 => by simp [seenTo]
  | k + 1 => by
    have ih := seen_bit L ps i k
    have hc : ((ps[k]?).map fun p => decide ((L.getD p.1.toNat 0 : Int) = p.2)) = some true ↔ ∃ q, ps[k]? = some q ∧ (L.getD q.1.toNat 0 : Int) = q.2 := by
      cases hk : ps[k]? with
      | none => simp
      | some q => simp
    unfold seenTo
    by_cases h : ((ps[k]?).map fun p => decide ((L.getD p.1.toNat 0 : Int) = p.2)) = some true
    · rw [if_pos h, Nat.testBit_or, Bool.or_eq_true, ih, Nat.testBit_two_pow]
      constructor
      · rintro (⟨h1, h2⟩ | h1)
        · exact ⟨by omega, h2⟩
        · have : k = i := by simpa using h1
          subst this
          exact ⟨by omega, hc.1 h⟩
      · rintro ⟨h1, h2⟩
        by_cases hki : k = i
        · exact .inr (by simp [hki])
        · exact .inl ⟨by omega, h2⟩
    · rw [if_neg h, ih]
      constructor
      · rintro ⟨h1, h2⟩
        exact ⟨by omega, h2⟩
      · rintro ⟨h1, h2⟩
        by_cases hki : k = i
        · subst hki
          exact absurd (hc.2 h2) h
        · exact ⟨by omega, h2⟩
theorem about_bit (ps : List (Int × Int)) (o : Int) (i : Nat) : ∀ k, i < k → (ps[i]?).map (·.1) = some o → (aboutTo ps o k).testBit i = true
  | 0, h, _ => absurd h (by omega)
  | k + 1, h, hp => by
    unfold aboutTo
    by_cases hki : k = i
    · subst hki
      rw [if_pos hp, Nat.testBit_or, Nat.testBit_two_pow]
      simp
    · have ih := about_bit ps o i k (by omega) hp
      split
      · rw [Nat.testBit_or, ih, Bool.true_or]
      · exact ih

/-- What is seen to turn is told by the move. -/
theorem turns_seen {t : Thr} (hm : mayT t = true) {L : List Nat} {p : Nat} {a : TA} (ha : taB (t.procs.getD p []).length t.init.length a = true) (x y : TN) : Sb (seenTo L t.props t.props.length ^^^ seenTo (behindN t.init.length L p a) t.props t.props.length) (footN t.props x y a).t := fun i hi => by
  obtain ⟨_, _, _, _, _, hps⟩ := mayT_parts hm
  rw [Nat.testBit_xor] at hi
  have hne : (seenTo L t.props t.props.length).testBit i ≠ (seenTo (behindN t.init.length L p a) t.props t.props.length).testBit i := by
    intro e
    rw [e] at hi
    simp at hi
  have hex : i < t.props.length ∧ ∃ q, t.props[i]? = some q ∧ (behindN t.init.length L p a).getD q.1.toNat 0 ≠ L.getD q.1.toNat 0 := by
    have h1 := seen_bit L t.props i t.props.length
    have h2 := seen_bit (behindN t.init.length L p a) t.props i t.props.length
    by_cases hil : i < t.props.length
    · refine ⟨hil, _, List.getElem?_eq_getElem hil, fun e => hne ?_⟩
      rw [Bool.eq_iff_iff, h1, h2]
      constructor
      · rintro ⟨h3, q, hq, h4⟩
        rw [List.getElem?_eq_getElem hil] at hq
        cases hq
        exact ⟨h3, _, List.getElem?_eq_getElem hil, by rw [e]; exact h4⟩
      · rintro ⟨h3, q, hq, h4⟩
        rw [List.getElem?_eq_getElem hil] at hq
        cases hq
        exact ⟨h3, _, List.getElem?_eq_getElem hil, by rw [← e]; exact h4⟩
    · exfalso
      apply hne
      rw [Bool.eq_iff_iff, h1, h2]
      exact ⟨fun h => absurd h.1 hil, fun h => absurd h.1 hil⟩
  obtain ⟨hil, q, hq, hd⟩ := hex
  have hqb := hps q (List.mem_of_getElem? hq)
  simp only [prB, inB, Bool.and_eq_true, decide_eq_true_eq] at hqb
  obtain ⟨hs, ho⟩ := behind_obj ha (o := q.1.toNat) (by omega) hd
  have hb : (aboutN t.props a.setObject).testBit i = true := about_bit t.props _ i _ hil (by rw [hq, ho]; simp; omega)
  show (if markB x y then (if a.set then aboutN t.props a.setObject else 0) ||| 9223372036854775808 else (if a.set then aboutN t.props a.setObject else 0)).testBit i = true
  rw [if_pos hs]
  split
  · rw [Nat.testBit_or, hb, Bool.true_or]
  · exact hb

/-- Where one set of bits lies within the other nothing is left. -/
theorem andNot_sub {a b : Nat} (ha : a < 18446744073709551616) (hb : b < 18446744073709551616) (h : Sb a b) : bits .andNot .u64 (a : Int) (b : Int) = 0 := by
  rw [u64_andNot_nat a b ha hb]
  have : a &&& (18446744073709551615 - b) = 0 := by
    apply Nat.eq_of_testBit_eq
    intro i
    rw [Nat.testBit_and, Nat.zero_testBit]
    cases hi : a.testBit i with
    | false => rfl
    | true =>
      have h1 := h i hi
      have h2 : (18446744073709551615 - b).testBit i = (decide (i < 64) && !b.testBit i) := by
        have := Nat.testBit_two_pow_sub_succ (n := 64) (x := b) (by omega) i
        rwa [show 2 ^ 64 - (b + 1) = 18446744073709551615 - b by omega] at this
      rw [h2, h1]
      simp
  rw [this]
  rfl

theorem pick_any (c n : Int) (w : World) (hc : I64 c) (h0 : 0 < n) (hn : n ≤ 100000000) : Calls Tryd.prog 13 #[.int .i64 c, .int .i64 n] w fun e w' => (∃ k : Nat, e = .returned (.int .i64 (k : Int)) ∧ (k : Int) < n) ∧ w' = w := by
  obtain ⟨hl, hu⟩ := hc
  have hn0 : ¬ n = 0 := by omega
  have hw : ∀ x : Int, 0 ≤ x → ∃ k : Nat, x.tmod n = (k : Int) ∧ x % n = (k : Int) ∧ (k : Int) < n := fun x h1 => by
    have h3 : x.tmod n = x % n := Int.tmod_eq_emod_of_nonneg h1
    have h4 := Int.emod_nonneg x hn0
    have h5 := Int.emod_lt_of_pos x h0
    exact ⟨(x % n).toNat, by rw [h3]; omega, by omega, by omega⟩
  by_cases h : c < 0
  · obtain ⟨k, hk, hk2, hkn⟩ := hw (-(c + 1)) (by omega)
    have HK := hid (And.intro hk (And.intro hk2 hkn))
    have e1 : IntKind.i64.wrap (c + 1) = c + 1 := by rw [IntKind.wrap_i64]; omega
    have e2 : IntKind.i64.wrap (-(c + 1)) = -(c + 1) := by rw [IntKind.wrap_i64]; omega
    clear hw hk hkn hn hk2
    go_enter Tryd.func13, Tryd.ntmps13
    go_wp2
    go_ret
    refine ⟨⟨k, ?_, HK.out.2.2⟩, rfl⟩
    have h1 := HK.out.1
    have h2 := HK.out.2.1
    have h3 : -((c + 1).tmod n) = (k : Int) := by rw [← Int.neg_tmod]; exact h1
    first | (rw [h1]; rfl) | (rw [h2]; rfl) | (rw [h3]; rfl)
  · obtain ⟨k, hk, hk2, hkn⟩ := hw c (by omega)
    have HK := hid (And.intro hk (And.intro hk2 hkn))
    clear hw hk hkn hn hk2
    go_enter Tryd.func13, Tryd.ntmps13
    go_wp2
    go_ret
    refine ⟨⟨k, ?_, HK.out.2.2⟩, rfl⟩
    have h1 := HK.out.1
    have h2 := HK.out.2.1
    first | (rw [h1]; rfl) | (rw [h2]; rfl)


set_option maxHeartbeats 8000000 in
theorem within_any (w : World) (B : Nat) (hB : B ≤ w.heap.size) {ao bo : Option Addr} {cap dap : Nat} (xs ys : List Int) (h : IntsAt w B ao xs) (hu : IntsAt w B bo ys) (hs : ∀ x ∈ xs, x ∈ ys) :
    Calls Tryd.prog 18 #[.slice ao xs.length cap, .slice bo ys.length dap] w fun e w' => e = .returned (.bool true) ∧ Nu w w' := by
  have hlim := h.lim
  have hlim2 := hu.lim
  have HS := hid h
  have HU := hid hu
  have HSB := hid hs
  have HB := hid hB
  clear h hu hs hB
  go_enter Tryd.func18, Tryd.ntmps18
  go_wp2_with fail
  go_loopw [5, 6, 7] (fun iv _ _ wr => ∃ i : Nat, i ≤ xs.length ∧ iv = .int .i64 (i : Int) ∧ Hid (Nu w wr)) (fun iv _ _ _ => xs.length - (intOf iv).toNat)
  case atStart => exact ⟨0, Nat.zero_le _, rfl, Mv.refl _ _⟩
  case round =>
    obtain ⟨i, hi, rfl, HW⟩ := hrel
    by_cases hj : i < xs.length
    · have hj' : (i : Int) < (xs.length : Int) := by omega
      have hmem := HSB.out _ (List.getElem_mem hj)
      rcases (HS.out.below ((HW.out.nu_below).mono HB.out) (Nat.le_refl _)).row with h0 | ⟨b, off, rfl, hbB, hit⟩
      · omega
      have hx := hit i hj
      generalize xs[i] = x at *
      have HX := hid hx
      have HJ := hid hj
      have HME := hid hmem
      clear hx hit hmem hj hi
      go_wp2_with fail
      go_loopw [6, 7] (fun mv kv wk => ∃ k : Nat, k ≤ ys.length ∧ kv = .int .i64 (k : Int) ∧ mv = .bool (decide (x ∈ ys.take k)) ∧ Hid (Nu wr wk)) (fun _ kv _ => ys.length - (intOf kv).toNat)
      case atStart => exact ⟨0, Nat.zero_le _, rfl, by simp, Mv.refl _ _⟩
      case round =>
        rename World => wk
        obtain ⟨k, hk, rfl, rfl, HWk⟩ := hrel
        by_cases hl : k < ys.length
        · have hl' : (k : Int) < (ys.length : Int) := by omega
          rcases (HU.out.below (((mv0 HW.out HWk.out).nu_below).mono HB.out) (Nat.le_refl _)).row with h0 | ⟨b', off', rfl, hbB', hit'⟩
          · omega
          have hy := hit' k hl
          have hx := cell_mv HWk.out HX.out id
          have HKL := hid hl
          have HTK : Hid (decide (x ∈ ys.take (k + 1)) = (decide (x ∈ ys.take k) || decide (x = ys[k]))) := by
            show _ = _
            rw [Bool.eq_iff_iff, Bool.or_eq_true, decide_eq_true_iff, decide_eq_true_iff, decide_eq_true_iff, List.take_add_one, List.getElem?_eq_getElem hl, List.mem_append]
            exact or_congr Iff.rfl (by show x ∈ [ys[k]] ↔ _; exact List.mem_singleton)
          generalize ys[k] = y at *
          generalize decide (x ∈ ys.take k) = d1 at *
          clear hit' hl hk
          cases d1 with
          | true =>
            go_upto_region 8 with fail
            go_quiet (fail)
            go_wp2
            go_roundw
            case rel => exact ⟨k + 1, HKL.out, by go_num, by rw [HTK.out]; rfl, mv0 HWk.out (nu_drewN' _ _)⟩
            case measure => have := HKL.out; simp [intOf]; omega
          | false =>
            by_cases hxy : x = y
            · rw [← hxy] at hy
              have HD : Hid (decide (x ∈ ys.take (k + 1)) = true) := by show _ = _; rw [HTK.out, hxy]; simp
              clear hxy
              go_upto_region 8 with fail
              go_quiet (fail)
              go_wp2
              go_roundw
              case rel => exact ⟨k + 1, HKL.out, by go_num, by rw [HD.out], mv0 HWk.out (nu_drewN' _ _)⟩
              case measure => have := HKL.out; simp [intOf]; omega
            · have HD : Hid (decide (x ∈ ys.take (k + 1)) = false) := by show _ = _; rw [HTK.out, decide_eq_false hxy]; rfl
              go_upto_region 8 with fail
              go_quiet (fail)
              go_wp2
              go_roundw
              case rel => exact ⟨k + 1, HKL.out, by go_num, by rw [HD.out, beq_eq_false_iff_ne.2 hxy], mv0 HWk.out (nu_drewN' _ _)⟩
              case measure => have := HKL.out; simp [intOf]; omega
        · have hd : decide (x ∈ ys.take k) = true := by rw [List.take_of_length_le (by omega)]; exact decide_eq_true HME.out
          rw [hd]
          obtain rfl : k = ys.length := by omega
          have he' : ¬ (ys.length : Int) < (ys.length : Int) := by omega
          clear hd hl hk
          go_wp2
          go_roundw
          case rel => exact ⟨i + 1, HJ.out, by go_num, mv0 HW.out HWk.out⟩
          case measure => have := HJ.out; simp [intOf]; omega
    · obtain rfl : i = xs.length := by omega
      have he' : ¬ (xs.length : Int) < (xs.length : Int) := by omega
      clear hj hi
      go_wp2
      go_ret
      exact ⟨rfl, HW.out⟩

end Go.Proofs.YtiinmaedmkgfoaaDoor
/-
  NetEver: operations, one by one; what its walk asks of a system that tells what its processes may do.
-/
set_option linter.unusedVariables false
set_option linter.unusedSimpArgs false
namespace Go.Proofs.YtiinmaedmkgfoaaDoor
open Go.RowKit

section
variable {o : Oper} {a : Act} {w : World} {K : Act → World → Prop} {Q : Exit → Act → World → Prop} {d : Nat}
theorem opsP_step {P : Program} {ops : Array Oper} {i : Nat} {rest : List Nat} (ho : ops[i]? = some o) (hg : o.guard = none) (h : Oper.wp P o a w (wpOps P ops Q rest) Q) : wpOps P ops Q (i :: rest) a w := by
  have hw : Region.wanted o (yielded ops a.tmps) = true := by simp [Region.wanted, hg]
  simp only [wpOps, ho]
  rw [if_pos hw]
  exact .inl h
theorem opsP_stepG {P : Program} {ops : Array Oper} {i : Nat} {rest : List Nat} {o' : Oper} {j e : Nat} {b : Bool} (ho : ops[i]? = some o) (hg : o.guard = some (j, b)) (ho' : ops[j]? = some o') (hd' : o'.dst = some e) (hv : a.tmps[e]? = some (.bool b)) (h : Oper.wp P o a w (wpOps P ops Q rest) Q) : wpOps P ops Q (i :: rest) a w := by
  have hw : Region.wanted o (yielded ops a.tmps) = true := want_some hg ho' hd' hv
  simp only [wpOps, ho]
  rw [if_pos hw]
  exact .inl h
theorem lk_fieldMv0 {s b f : Nat} (hd : o.dst = some d) (ho : o.op = .fieldAddr 41 (.tmp s) 0) (hs : a.tmps[s]? = some (.pointer (some ⟨b, f, none⟩))) (hK : ∀ w', Nu w w' → K ⟨a.tmps.setIfInBounds d (.pointer (some ⟨b, f, none⟩)), a.defers⟩ w') : Oper.wp Tryd.prog o a w K Q := by
  have he : a.eval (.tmp s) = .pointer (some ⟨b, f, none⟩) := by simp [Act.eval, hs]
  unfold Oper.wp execOp
  simp only [ho, he, hd]
  go_simp
  exact hK w (Mv.refl _ _)
theorem lk_fieldMv4 {s b f : Nat} (hd : o.dst = some d) (ho : o.op = .fieldAddr 41 (.tmp s) 4) (hs : a.tmps[s]? = some (.pointer (some ⟨b, f, none⟩))) (hK : ∀ w', Nu w w' → K ⟨a.tmps.setIfInBounds d (.pointer (some ⟨b, f + 4, none⟩)), a.defers⟩ w') : Oper.wp Tryd.prog o a w K Q := by
  have he : a.eval (.tmp s) = .pointer (some ⟨b, f, none⟩) := by simp [Act.eval, hs]
  unfold Oper.wp execOp
  simp only [ho, he, hd]
  go_simp
  exact hK w (Mv.refl _ _)
theorem lk_fieldMv5 {s b f : Nat} (hd : o.dst = some d) (ho : o.op = .fieldAddr 41 (.tmp s) 5) (hs : a.tmps[s]? = some (.pointer (some ⟨b, f, none⟩))) (hK : ∀ w', Nu w w' → K ⟨a.tmps.setIfInBounds d (.pointer (some ⟨b, f + 5, none⟩)), a.defers⟩ w') : Oper.wp Tryd.prog o a w K Q := by
  have he : a.eval (.tmp s) = .pointer (some ⟨b, f, none⟩) := by simp [Act.eval, hs]
  unfold Oper.wp execOp
  simp only [ho, he, hd]
  go_simp
  exact hK w (Mv.refl _ _)
theorem lk_fieldMv6 {s b f : Nat} (hd : o.dst = some d) (ho : o.op = .fieldAddr 41 (.tmp s) 6) (hs : a.tmps[s]? = some (.pointer (some ⟨b, f, none⟩))) (hK : ∀ w', Nu w w' → K ⟨a.tmps.setIfInBounds d (.pointer (some ⟨b, f + 6, none⟩)), a.defers⟩ w') : Oper.wp Tryd.prog o a w K Q := by
  have he : a.eval (.tmp s) = .pointer (some ⟨b, f, none⟩) := by simp [Act.eval, hs]
  unfold Oper.wp execOp
  simp only [ho, he, hd]
  go_simp
  exact hK w (Mv.refl _ _)
theorem lk_fieldMv7 {s b f : Nat} (hd : o.dst = some d) (ho : o.op = .fieldAddr 41 (.tmp s) 7) (hs : a.tmps[s]? = some (.pointer (some ⟨b, f, none⟩))) (hK : ∀ w', Nu w w' → K ⟨a.tmps.setIfInBounds d (.pointer (some ⟨b, f + 7, none⟩)), a.defers⟩ w') : Oper.wp Tryd.prog o a w K Q := by
  have he : a.eval (.tmp s) = .pointer (some ⟨b, f, none⟩) := by simp [Act.eval, hs]
  unfold Oper.wp execOp
  simp only [ho, he, hd]
  go_simp
  exact hK w (Mv.refl _ _)
theorem lk_fieldMv8 {s b f : Nat} (hd : o.dst = some d) (ho : o.op = .fieldAddr 41 (.tmp s) 8) (hs : a.tmps[s]? = some (.pointer (some ⟨b, f, none⟩))) (hK : ∀ w', Nu w w' → K ⟨a.tmps.setIfInBounds d (.pointer (some ⟨b, f + 8, none⟩)), a.defers⟩ w') : Oper.wp Tryd.prog o a w K Q := by
  have he : a.eval (.tmp s) = .pointer (some ⟨b, f, none⟩) := by simp [Act.eval, hs]
  unfold Oper.wp execOp
  simp only [ho, he, hd]
  go_simp
  exact hK w (Mv.refl _ _)
theorem lk_lenMv {s : Nat} {ao : Option Addr} {l c : Nat} (hd : o.dst = some d) (ho : o.op = .call { callee := .builtin .len, args := #[.tmp s], argTypes := #[37] }) (hs : a.tmps[s]? = some (.slice ao l c)) (hK : ∀ w', Nu w w' → K ⟨a.tmps.setIfInBounds d (.int .i64 (l : Int)), a.defers⟩ w') : Oper.wp Tryd.prog o a w K Q := by
  have he : a.eval (.tmp s) = .slice ao l c := by simp [Act.eval, hs]
  unfold Oper.wp execOp
  simp only [ho, hd]
  go_simp
  exact hK w (Mv.refl _ _)
theorem lk_idxMv {s r g n i c : Nat} (hi : i < n) (hd : o.dst = some d) (ho : o.op = .indexAddr 37 (.tmp s) (.tmp r)) (hs : a.tmps[s]? = some (.slice (some ⟨g, 0, none⟩) n c)) (hr : a.tmps[r]? = some (.int .i64 (i : Int))) (hK : ∀ w', Nu w w' → K ⟨a.tmps.setIfInBounds d (.pointer (some ⟨g, i * 9, none⟩)), a.defers⟩ w') : Oper.wp Tryd.prog o a w K Q := by
  have hes : a.eval (.tmp s) = .slice (some ⟨g, 0, none⟩) n c := by simp [Act.eval, hs]
  have her : a.eval (.tmp r) = .int .i64 (i : Int) := by simp [Act.eval, hr]
  have hi' : (i : Int) < (n : Int) := by omega
  unfold Oper.wp execOp
  simp only [ho, hd]
  go_simp
  exact hK w (Mv.refl _ _)
theorem lk_idxIo {s r g f n i c : Nat} (hi : i < n) (hd : o.dst = some d) (ho : o.op = .indexAddr 22 (.tmp s) (.tmp r)) (hs : a.tmps[s]? = some (.slice (some ⟨g, f, none⟩) n c)) (hr : a.tmps[r]? = some (.int .i64 (i : Int))) (hK : ∀ w', Nu w w' → K ⟨a.tmps.setIfInBounds d (.pointer (some ⟨g, f + i, none⟩)), a.defers⟩ w') : Oper.wp Tryd.prog o a w K Q := by
  have hes : a.eval (.tmp s) = .slice (some ⟨g, f, none⟩) n c := by simp [Act.eval, hs]
  have her : a.eval (.tmp r) = .int .i64 (i : Int) := by simp [Act.eval, hr]
  have hi' : (i : Int) < (n : Int) := by omega
  unfold Oper.wp execOp
  simp only [ho, hd]
  go_simp
  exact hK w (Mv.refl _ _)
theorem lk_loadMv {s g f : Nat} {x : X} (hx : XAt w g f x) (hd : o.dst = some d) (ho : o.op = .load 41 (.tmp s)) (hs : a.tmps[s]? = some (.pointer (some ⟨g, f, none⟩))) (hK : ∀ w', Nu w w' → K ⟨a.tmps.setIfInBounds d x.val, a.defers⟩ w') : Oper.wp Tryd.prog o a w K Q := by
  have he : a.eval (.tmp s) = .pointer (some ⟨g, f, none⟩) := by simp [Act.eval, hs]
  obtain ⟨h0, h1, h2, h3, h4, h5, h6, h7, h8⟩ := hx
  unfold Oper.wp execOp
  simp only [ho, he, hd]
  go_simp
  exact hK w (Mv.refl _ _)
set_option maxHeartbeats 4000000 in
theorem lk_storeMv {s r nb : Nat} {z0 z1 z2 z3 z4 z5 z6 z7 z8 : Value} {x : X} (hd : o.dst = none) (ho : o.op = .store 41 (.tmp s) (.tmp r)) (hs : a.tmps[s]? = some (.pointer (some ⟨nb, 0, none⟩))) (hr : a.tmps[r]? = some x.val) (hb : w.heap[nb]? = some (.cells #[z0, z1, z2, z3, z4, z5, z6, z7, z8] 41 (0, 0)))
    (hK : ∀ w', w'.heap[nb]? = some (.cells #[.int .i64 x.m.proc, .int .i64 x.m.edge, .int .i64 x.m.wth, .int .i64 x.m.wedge, .string x.m.to, .int .i64 x.m.bad, .slice x.ra x.m.reads.length x.rc, .slice x.wa x.m.writes.length x.wc, .int .u64 x.m.turns] 41 (0, 0)) → Mv (· = nb) w w' → K a w') : Oper.wp Tryd.prog o a w K Q := by
  have hes : a.eval (.tmp s) = .pointer (some ⟨nb, 0, none⟩) := by simp [Act.eval, hs]
  have her : a.eval (.tmp r) = .agg #[.int .i64 x.m.proc, .int .i64 x.m.edge, .int .i64 x.m.wth, .int .i64 x.m.wedge, .string x.m.to, .int .i64 x.m.bad, .slice x.ra x.m.reads.length x.rc, .slice x.wa x.m.writes.length x.wc, .int .u64 x.m.turns] := by simp [Act.eval, hr, X.val]
  have d0 := cell_blk hb 0
  have d1 := cell_blk hb 1
  have d2 := cell_blk hb 2
  have d3 := cell_blk hb 3
  have d4 := cell_blk hb 4
  have d5 := cell_blk hb 5
  have d6 := cell_blk hb 6
  have d7 := cell_blk hb 7
  have d8 := cell_blk hb 8
  simp only [List.size_toArray, List.length_cons, List.length_nil, Nat.reduceAdd, Nat.lt_add_one, Nat.reduceLT, getElem?_pos, List.getElem_toArray, List.getElem_cons_zero, List.getElem_cons_succ, Nat.zero_lt_succ] at d0 d1 d2 d3 d4 d5 d6 d7 d8
  have f0 := free_blk hb 0
  have f1 := free_blk hb 1
  have f2 := free_blk hb 2
  have f3 := free_blk hb 3
  have f4 := free_blk hb 4
  have f5 := free_blk hb 5
  have f6 := free_blk hb 6
  have f7 := free_blk hb 7
  have f8 := free_blk hb 8
  obtain ⟨h1, h2⟩ := set9 (v0 := .int .i64 x.m.proc) (v1 := .int .i64 x.m.edge) (v2 := .int .i64 x.m.wth) (v3 := .int .i64 x.m.wedge) (v4 := .string x.m.to) (v5 := .int .i64 x.m.bad) (v6 := .slice x.ra x.m.reads.length x.rc) (v7 := .slice x.wa x.m.writes.length x.wc) (v8 := .int .u64 x.m.turns) hb
  generalize x.m.proc = q0 at *
  generalize x.m.edge = q1 at *
  generalize x.m.wth = q2 at *
  generalize x.m.wedge = q3 at *
  generalize x.m.to = q4 at *
  generalize x.m.bad = q5 at *
  generalize x.m.reads.length = q6 at *
  generalize x.m.writes.length = q7 at *
  generalize x.m.turns = q8 at *
  unfold Oper.wp execOp
  simp only [ho, hd, hes, her]
  go_simp
  exact hK _ h1 h2
theorem lk_allocFt (hd : o.dst = some d) (ho : o.op = .alloc 58) (hK : K ⟨a.tmps.setIfInBounds d (.pointer (some ⟨w.heap.size, 0, none⟩)), a.defers⟩ (w.alloc (.cells #[.slice none 0 0, .slice none 0 0, .int .u64 0] 58))) : Oper.wp Tryd.prog o a w K Q := by
  unfold Oper.wp execOp
  simp only [ho, hd]
  go_simp
  exact hK
theorem lk_pick13 {s r : Nat} {c n : Int} (hc : I64 c) (h0 : 0 < n) (hn : n ≤ 100000000) (hd : o.dst = some d) (ho : o.op = .call { callee := .value (.func 13), args := #[.tmp s, .tmp r], argTypes := #[3, 3] }) (hs : a.tmps[s]? = some (.int .i64 c)) (hr : a.tmps[r]? = some (.int .i64 n)) (hK : ∀ k : Nat, (k : Int) < n → K ⟨a.tmps.setIfInBounds d (.int .i64 (k : Int)), a.defers⟩ w) : Oper.wp Tryd.prog o a w K Q := by
  have hes : a.eval (.tmp s) = .int .i64 c := by simp [Act.eval, hs]
  have her : a.eval (.tmp r) = .int .i64 n := by simp [Act.eval, hr]
  have HC := hid (fun (_ : Unit) => pick_any c n w hc h0 hn)
  have HK := hid hK
  clear hc h0 hn hK
  unfold Oper.wp execOp
  simp only [ho, hd]
  go_simp
  refine Calls.mono (HC.out ()) ?_
  rintro e w' ⟨⟨k, rfl, hk⟩, rfl⟩
  exact HK.out k hk
theorem lk_within {s r : Nat} {v u : Value} (hd : o.dst = some d) (ho : o.op = .call { callee := .value (.func 18), args := #[.tmp s, .tmp r], argTypes := #[22, 22] }) (hs : a.tmps[s]? = some v) (hr : a.tmps[r]? = some u) (hc : Calls Tryd.prog 18 #[v, u] w fun e w' => e = .returned (.bool true) ∧ Nu w w') (hK : ∀ w', Nu w w' → K ⟨a.tmps.setIfInBounds d (.bool true), a.defers⟩ w') : Oper.wp Tryd.prog o a w K Q := by
  have hes : a.eval (.tmp s) = v := by simp [Act.eval, hs]
  have her : a.eval (.tmp r) = u := by simp [Act.eval, hr]
  unfold Oper.wp execOp
  simp only [ho, hd]
  go_simp
  refine Calls.mono hc ?_
  rintro e w' ⟨rfl, hm⟩
  exact hK w' hm
theorem lk_pickE {s r : Nat} (hd : o.dst = some d) (ho : o.op = .pick (.tmp s) (.const (.bool true)) (.tmp r)) (hs : a.tmps[s]? = some (.bool false)) (hr : a.tmps[r]? = some (.bool false)) (hK : ∀ w', Nu w w' → K ⟨a.tmps.setIfInBounds d (.bool false), a.defers⟩ w') : Oper.wp Tryd.prog o a w K Q := by
  have hes : a.eval (.tmp s) = .bool false := by simp [Act.eval, hs]
  have her : a.eval (.tmp r) = .bool false := by simp [Act.eval, hr]
  unfold Oper.wp execOp
  simp only [ho, hd]
  go_simp
  exact hK w (Mv.refl _ _)
theorem lk_andNot0 {s r : Nat} {x y : Int} (h0 : bits .andNot .u64 x y = 0) (hd : o.dst = some d) (ho : o.op = .binOp .andNot 39 (.tmp s) (.tmp r) 39) (hs : a.tmps[s]? = some (.int .u64 x)) (hr : a.tmps[r]? = some (.int .u64 y)) (hK : ∀ w', Nu w w' → K ⟨a.tmps.setIfInBounds d (.int .u64 0), a.defers⟩ w') : Oper.wp Tryd.prog o a w K Q := by
  have hes : a.eval (.tmp s) = .int .u64 x := by simp [Act.eval, hs]
  have her : a.eval (.tmp r) = .int .u64 y := by simp [Act.eval, hr]
  unfold Oper.wp execOp
  simp only [ho, hd]
  go_simp
  first | exact hK w (Mv.refl _ _) | (rw [h0]; exact hK w (Mv.refl _ _))
theorem lk_xorU {s r : Nat} {x y : Int} (hd : o.dst = some d) (ho : o.op = .binOp .xor 39 (.tmp s) (.tmp r) 39) (hs : a.tmps[s]? = some (.int .u64 x)) (hr : a.tmps[r]? = some (.int .u64 y)) (hK : ∀ w', Nu w w' → K ⟨a.tmps.setIfInBounds d (.int .u64 (bits .xor .u64 x y)), a.defers⟩ w') : Oper.wp Tryd.prog o a w K Q := by
  have hes : a.eval (.tmp s) = .int .u64 x := by simp [Act.eval, hs]
  have her : a.eval (.tmp r) = .int .u64 y := by simp [Act.eval, hr]
  unfold Oper.wp execOp
  simp only [ho, hd]
  go_simp
  exact hK w (Mv.refl _ _)
theorem lk_neq0 {s : Nat} (hd : o.dst = some d) (ho : o.op = .binOp .neq 39 (.tmp s) (.const (.int .u64 0)) 39) (hs : a.tmps[s]? = some (.int .u64 0)) (hK : ∀ w', Nu w w' → K ⟨a.tmps.setIfInBounds d (.bool false), a.defers⟩ w') : Oper.wp Tryd.prog o a w K Q := by
  have hes : a.eval (.tmp s) = .int .u64 0 := by simp [Act.eval, hs]
  unfold Oper.wp execOp
  simp only [ho, hd]
  go_simp
  exact hK w (Mv.refl _ _)
theorem lk_lookV {s r f : Nat} {T : TypeId} {r0 rv : Value} {st : ByteArray} {v : Value} (hmt : ∀ w : World, (method 311 T r0 "Look").run Tryd.prog w = .ok (f, rv) w) (hen : ∀ args w, (callFunc f args).run Tryd.prog w = .ok (.enter f args) w) (hd : o.dst = some d)
    (ho : o.op = .call { callee := .invoke (.tmp s) "Look", args := #[.tmp r], argTypes := #[9] }) (hs : a.tmps[s]? = some (.iface T r0)) (hr : a.tmps[r]? = some (.string st)) (hc : Calls Tryd.prog f #[rv, .string st] w fun e w' => e = .returned v ∧ Nu w w') (hK : ∀ w', Nu w w' → K ⟨a.tmps.setIfInBounds d v, a.defers⟩ w') : Oper.wp Tryd.prog o a w K Q := by
  have hes : a.eval (.tmp s) = .iface T r0 := by simp [Act.eval, hs]
  have her : a.eval (.tmp r) = .string st := by simp [Act.eval, hr]
  unfold Oper.wp execOp
  simp only [ho, hd]
  go_simp
  refine Calls.mono hc ?_
  rintro e w' ⟨rfl, hm⟩
  exact hK w' hm
theorem lk_beginV {s f : Nat} {T : TypeId} {r0 rv : Value} {v : Value} (hmt : ∀ w : World, (method 311 T r0 "Begin").run Tryd.prog w = .ok (f, rv) w) (hen : ∀ args w, (callFunc f args).run Tryd.prog w = .ok (.enter f args) w) (hd : o.dst = some d)
    (ho : o.op = .call { callee := .invoke (.tmp s) "Begin", args := #[], argTypes := #[] }) (hs : a.tmps[s]? = some (.iface T r0)) (hc : Calls Tryd.prog f #[rv] w fun e w' => e = .returned v ∧ Nu w w') (hK : ∀ w', Nu w w' → K ⟨a.tmps.setIfInBounds d v, a.defers⟩ w') : Oper.wp Tryd.prog o a w K Q := by
  have hes : a.eval (.tmp s) = .iface T r0 := by simp [Act.eval, hs]
  unfold Oper.wp execOp
  simp only [ho, hd]
  go_simp
  refine Calls.mono hc ?_
  rintro e w' ⟨rfl, hm⟩
  exact hK w' hm
theorem field_sight (x0 : Int) (x1 x2 x3 : Bool) (w : World) : (Instr.field 62 (.agg #[.int .u64 x0, .bool x1, .bool x2, .bool x3]) 0).run Tryd.prog w = .ok (.int .u64 x0) w := by kernel_rfl
theorem lk_sight0 {s : Nat} {x : Sight} (hd : o.dst = some d) (ho : o.op = .field 62 (.tmp s) 0) (hs : a.tmps[s]? = some (sval x)) (hK : ∀ w', Nu w w' → K ⟨a.tmps.setIfInBounds d (.int .u64 x.props), a.defers⟩ w') : Oper.wp Tryd.prog o a w K Q := by
  obtain ⟨x0, x1, x2, x3⟩ := x
  have he2 : a.tmps[s]?.getD undef = .agg #[.int .u64 x0, .bool x1, .bool x2, .bool x3] := by rw [hs]; rfl
  have HK : Hid (∀ w', Nu w w' → K ⟨a.tmps.setIfInBounds d (.int .u64 x0), a.defers⟩ w') := hK
  clear hK hs
  unfold Oper.wp execOp
  simp only [ho]
  go_simp
  rw [field_sight]
  show K (a.put o.dst (.int .u64 x0)) w
  rw [hd]
  exact HK.out w (Mv.refl _ _)
theorem lk_invEver {s r q f : Nat} {T : TypeId} {r0 rv : Value} {st : ByteArray} {p : Int} {R : Ending → World → Prop} (hmt : ∀ w : World, (method 311 T r0 "Ever").run Tryd.prog w = .ok (f, rv) w) (hen : ∀ args w, (callFunc f args).run Tryd.prog w = .ok (.enter f args) w) (hd : o.dst = some d)
    (ho : o.op = .call { callee := .invoke (.tmp s) "Ever", args := #[.tmp r, .tmp q], argTypes := #[9, 3] }) (hs : a.tmps[s]? = some (.iface T r0)) (hr : a.tmps[r]? = some (.string st)) (hq : a.tmps[q]? = some (.int .i64 p)) (hc : Calls Tryd.prog f #[rv, .string st, .int .i64 p] w R) (hK : ∀ e w', R e w' → ∃ v, e = .returned v ∧ K ⟨a.tmps.setIfInBounds d v, a.defers⟩ w') : Oper.wp Tryd.prog o a w K Q := by
  have hes : a.eval (.tmp s) = .iface T r0 := by simp [Act.eval, hs]
  have her : a.eval (.tmp r) = .string st := by simp [Act.eval, hr]
  have he3 : a.eval (.tmp q) = .int .i64 p := by simp [Act.eval, hq]
  unfold Oper.wp execOp
  simp only [ho, hd]
  go_simp
  refine Calls.mono hc ?_
  intro e w' h
  obtain ⟨v, rfl, hk⟩ := hK e w' h
  exact hk
theorem lk_invHere {s r q f : Nat} {T : TypeId} {r0 rv : Value} {st : ByteArray} {p : Int} {R : Ending → World → Prop} (hmt : ∀ w : World, (method 311 T r0 "Here").run Tryd.prog w = .ok (f, rv) w) (hen : ∀ args w, (callFunc f args).run Tryd.prog w = .ok (.enter f args) w) (hd : o.dst = some d)
    (ho : o.op = .call { callee := .invoke (.tmp s) "Here", args := #[.tmp r, .tmp q], argTypes := #[9, 3] }) (hs : a.tmps[s]? = some (.iface T r0)) (hr : a.tmps[r]? = some (.string st)) (hq : a.tmps[q]? = some (.int .i64 p)) (hc : Calls Tryd.prog f #[rv, .string st, .int .i64 p] w R) (hK : ∀ e w', R e w' → ∃ v, e = .returned v ∧ K ⟨a.tmps.setIfInBounds d v, a.defers⟩ w') : Oper.wp Tryd.prog o a w K Q := by
  have hes : a.eval (.tmp s) = .iface T r0 := by simp [Act.eval, hs]
  have her : a.eval (.tmp r) = .string st := by simp [Act.eval, hr]
  have he3 : a.eval (.tmp q) = .int .i64 p := by simp [Act.eval, hq]
  unfold Oper.wp execOp
  simp only [ho, hd]
  go_simp
  refine Calls.mono hc ?_
  intro e w' h
  obtain ⟨v, rfl, hk⟩ := hK e w' h
  exact hk
end

theorem enters_tEver : Enters 88 := fun args w => by
  unfold callFunc
  simp [go_sem, Tryd.func88]
  rfl
theorem enters_tHere : Enters 89 := fun args w => by
  unfold callFunc
  simp [go_sem, Tryd.func89]
  rfl
theorem leads_tEver (tb : Nat) : Leads 66 (.pointer (some ⟨tb, 0, none⟩)) "Ever" 88 (.pointer (some ⟨tb, 0, none⟩)) :=
  ⟨fun w => by kernel_rfl, enters_tEver, fun w => by kernel_rfl⟩
theorem leads_tHere (tb : Nat) : Leads 66 (.pointer (some ⟨tb, 0, none⟩)) "Here" 89 (.pointer (some ⟨tb, 0, none⟩)) :=
  ⟨fun w => by kernel_rfl, enters_tHere, fun w => by kernel_rfl⟩

/-- A system of raw processes that tells what they may do. -/
structure EvS (w : World) (T : TypeId) (r0 : Value) (t : Thr) : Prop where
  sys : ∀ w', Nu w w' → ∃ F, SysAt F w' T r0 (threadSem t)
  ever : ∀ w', Nu w w' → ∃ f r, Leads T r0 "Ever" f r ∧ ∀ L p, Okay t L → p < t.procs.length → Calls Tryd.prog f #[r, .string (txt (encs L)), .int .i64 ((p : Nat) : Int)] w' (TOut w' (everT t p (L.getD (t.init.length + p) 0)))
  here : ∀ w', Nu w w' → ∃ f r, Leads T r0 "Here" f r ∧ ∀ L p, Okay t L → p < t.procs.length → Calls Tryd.prog f #[r, .string (txt (encs L)), .int .i64 ((p : Nat) : Int)] w' (TOut w' (hereT t p (L.getD (t.init.length + p) 0)))

theorem encs_short {t : Thr} (hm : mayT t = true) {L : List Nat} (h : Okay t L) : Short (txt (encs L)) := by
  obtain ⟨h1, h2, _⟩ := mayT_parts hm
  have hl : L.length ≤ 24 := by have := h.len; rw [boundsN_len] at this; omega
  have := encs_len L (fun n hn => by
    obtain ⟨i, hi, rfl⟩ := List.mem_iff_getElem.1 hn
    have hib : i < (boundsN t).length := by rw [← h.len]; exact hi
    have h1 := h.lt i _ _ (List.getElem?_eq_getElem hi) (List.getElem?_eq_getElem hib)
    have h2 := bounds_le hm _ (List.getElem_mem hib)
    omega)
  have e : (txt (encs L)).size = (encs L).length := by simp [txt, ByteArray.size]
  show (txt (encs L)).size ≤ _
  rw [e]
  omega

theorem TMade.evs {H : Nat} {t : Thr} {tb : Nat} {w w' : World} (h : TMade H t tb w') (hm : mayT t = true) (hT : TabAt 0 Lib.deBruijn64tab w) (hn : Nu w w') : EvS w' 66 (.pointer (some ⟨tb, 0, none⟩)) t := by
  have hs := h.sys hm hT hn
  obtain ⟨ro, rc, fo, fc, po, pc, qo, qc, pxs, hsm, hi⟩ := h
  have hk : ∀ w2, Nu w' w2 → KeepF (fun b => b = 0 ∨ (H ≤ b ∧ b < w'.heap.size)) w' w2 := fun w2 h2 => h2.keep (fun b hb => ⟨hs.lt b hb, id⟩)
  exact ⟨fun w2 h2 => ⟨_, hs.nu h2⟩,
    fun w2 h2 => ⟨_, _, leads_tEver tb, fun L p hL hp => tEver_any w2 _ tb t (hi.keep (hk w2 h2)) hsm hm (fun b hb => Nat.lt_of_lt_of_le (hs.lt b hb) h2.size) (tab_nu hT (mv0 hn h2)) _ (encs_short hm hL) L (hL.nums hm) p hp (hL.node hp)⟩,
    fun w2 h2 => ⟨_, _, leads_tHere tb, fun L p hL hp => tHere_any w2 _ tb t (hi.keep (hk w2 h2)) hsm hm (fun b hb => Nat.lt_of_lt_of_le (hs.lt b hb) h2.size) (tab_nu hT (mv0 hn h2)) _ (encs_short hm hL) L (hL.nums hm) p hp (hL.node hp)⟩⟩

end Go.Proofs.YtiinmaedmkgfoaaDoor
