/-
  JLook, JSem, JEverP.
-/
import Derived.Test.YtiinmaedmkgfoaaDoorM47
/-
  What is seen of a state of raw processes: the program's Look.
-/
set_option linter.unusedVariables false
set_option linter.unusedSimpArgs false
namespace Go.Proofs.YtiinmaedmkgfoaaDoor
open Go.RowKit

theorem nums_lt {s : ByteArray} : ∀ {bs : List Nat} {p : Nat} {l : List Nat}, nums s p bs = some l → ∀ (i b : Nat), bs[i]? = some b → ∃ n, l[i]? = some n ∧ n < b := by
  intro bs
  induction bs with
  | nil => intro p l h i b hb; simp at hb
  | cons b r ih =>
    intro p l h i c hc
    unfold nums at h
    split at h
    · rename_i hn
      obtain ⟨l', hl', rfl⟩ := Option.map_eq_some_iff.1 h
      cases i with
      | zero => simp only [List.getElem?_cons_zero, Option.some.injEq] at hc; exact ⟨_, rfl, by rw [← hc]; exact hn.2⟩
      | succ j => simp only [List.getElem?_cons_succ] at hc ⊢; exact ih hl' j c hc
    · cases h

/-- The propositions that hold where the numbers are L: the first of them. -/
def seenTo (L : List Nat) (ps : List (Int × Int)) : Nat → Nat
  | 0 => 0
  | k + 1 => if ((ps[k]?).map fun p => decide ((L.getD p.1.toNat 0 : Int) = p.2)) = some true then seenTo L ps k ||| 2 ^ k else seenTo L ps k
theorem seenTo_lt (L : List Nat) (ps : List (Int × Int)) : ∀ k, seenTo L ps k < 2 ^ k
  | 0 => by simp [seenTo]
  | k + 1 => by
    have h := seenTo_lt L ps k
    have h1 : seenTo L ps k < 2 ^ (k + 1) := by rw [Nat.pow_succ]; omega
    unfold seenTo
    split
    · exact Nat.or_lt_two_pow h1 (by rw [Nat.pow_succ]; have := Nat.two_pow_pos k; omega)
    · exact h1
def nodeT (t : Thr) (L : List Nat) (p : Nat) : TN := (t.procs.getD p []).getD (L.getD (t.init.length + p) 0) default
def sawTo (t : Thr) (L : List Nat) (m : Nat) : Nat → Sight
  | 0 => ⟨m, true, false, false⟩
  | k + 1 => ⟨m, (sawTo t L m k).en && (nodeT t L k).en, (sawTo t L m k).pr || (nodeT t L k).pr, (sawTo t L m k).ac || (nodeT t L k).ac⟩
theorem sawTo_props (t : Thr) (L : List Nat) (m : Nat) : ∀ k, (sawTo t L m k).props = m
  | 0 => rfl
  | _ + 1 => rfl
def lookS (t : Thr) (st : ByteArray) : Sight := match nums st 0 (boundsN t) with | none => ⟨0, false, false, false⟩ | some L => sawTo t L (seenTo L t.props t.props.length) t.procs.length

section
variable {o : Oper} {a : Act} {w : World} {K : Act → World → Prop} {Q : Exit → Act → World → Prop} {d : Nat}
theorem lk_fieldX3 {s b f : Nat} (hd : o.dst = some d) (ho : o.op = .fieldAddr 111 (.tmp s) 3) (hs : a.tmps[s]? = some (.pointer (some ⟨b, f, none⟩))) (hK : ∀ w', Nu w w' → K ⟨a.tmps.setIfInBounds d (.pointer (some ⟨b, f + 3, none⟩)), a.defers⟩ w') : Oper.wp Tryd.prog o a w K Q := by
  have he : a.eval (.tmp s) = .pointer (some ⟨b, f, none⟩) := by simp [Act.eval, hs]
  unfold Oper.wp execOp
  simp only [ho, he, hd]
  go_simp
  exact hK w (Mv.refl _ _)
theorem lk_fieldPr0 {s b f : Nat} (hd : o.dst = some d) (ho : o.op = .fieldAddr 120 (.tmp s) 0) (hs : a.tmps[s]? = some (.pointer (some ⟨b, f, none⟩))) (hK : ∀ w', Nu w w' → K ⟨a.tmps.setIfInBounds d (.pointer (some ⟨b, f, none⟩)), a.defers⟩ w') : Oper.wp Tryd.prog o a w K Q := by
  have he : a.eval (.tmp s) = .pointer (some ⟨b, f, none⟩) := by simp [Act.eval, hs]
  unfold Oper.wp execOp
  simp only [ho, he, hd]
  go_simp
  exact hK w (Mv.refl _ _)
theorem lk_loadPr {s b f : Nat} {v : Value} (hd : o.dst = some d) (ho : o.op = .load 109 (.tmp s)) (hs : a.tmps[s]? = some (.pointer (some ⟨b, f, none⟩))) (h0 : w.cell? ⟨b, f, none⟩ = some v) (hK : ∀ w', Nu w w' → K ⟨a.tmps.setIfInBounds d v, a.defers⟩ w') : Oper.wp Tryd.prog o a w K Q := by
  have he : a.eval (.tmp s) = .pointer (some ⟨b, f, none⟩) := by simp [Act.eval, hs]
  unfold Oper.wp execOp
  simp only [ho, he, hd]
  go_simp
  exact hK w (Mv.refl _ _)
theorem lk_loadTNs {s b f : Nat} {v : Value} (hd : o.dst = some d) (ho : o.op = .load 71 (.tmp s)) (hs : a.tmps[s]? = some (.pointer (some ⟨b, f, none⟩))) (h0 : w.cell? ⟨b, f, none⟩ = some v) (hK : ∀ w', Nu w w' → K ⟨a.tmps.setIfInBounds d v, a.defers⟩ w') : Oper.wp Tryd.prog o a w K Q := by
  have he : a.eval (.tmp s) = .pointer (some ⟨b, f, none⟩) := by simp [Act.eval, hs]
  unfold Oper.wp execOp
  simp only [ho, he, hd]
  go_simp
  exact hK w (Mv.refl _ _)
theorem lk_idxPr {s r g n i c : Nat} (hi : i < n) (hd : o.dst = some d) (ho : o.op = .indexAddr 109 (.tmp s) (.tmp r)) (hs : a.tmps[s]? = some (.slice (some ⟨g, 0, none⟩) n c)) (hr : a.tmps[r]? = some (.int .i64 (i : Int))) (hK : ∀ w', Nu w w' → K ⟨a.tmps.setIfInBounds d (.pointer (some ⟨g, i * 4, none⟩)), a.defers⟩ w') : Oper.wp Tryd.prog o a w K Q := by
  have hes : a.eval (.tmp s) = .slice (some ⟨g, 0, none⟩) n c := by simp [Act.eval, hs]
  have her : a.eval (.tmp r) = .int .i64 (i : Int) := by simp [Act.eval, hr]
  have hi' : (i : Int) < (n : Int) := by omega
  unfold Oper.wp execOp
  simp only [ho, hd]
  go_simp
  exact hK w (Mv.refl _ _)
theorem lk_idxTN {s r g n i c : Nat} (hi : i < n) (hd : o.dst = some d) (ho : o.op = .indexAddr 71 (.tmp s) (.tmp r)) (hs : a.tmps[s]? = some (.slice (some ⟨g, 0, none⟩) n c)) (hr : a.tmps[r]? = some (.int .i64 (i : Int))) (hK : ∀ w', Nu w w' → K ⟨a.tmps.setIfInBounds d (.pointer (some ⟨g, i * 4, none⟩)), a.defers⟩ w') : Oper.wp Tryd.prog o a w K Q := by
  have hes : a.eval (.tmp s) = .slice (some ⟨g, 0, none⟩) n c := by simp [Act.eval, hs]
  have her : a.eval (.tmp r) = .int .i64 (i : Int) := by simp [Act.eval, hr]
  have hi' : (i : Int) < (n : Int) := by omega
  unfold Oper.wp execOp
  simp only [ho, hd]
  go_simp
  exact hK w (Mv.refl _ _)
theorem lk_idxAtL {s r g f n i c : Nat} (hi : i < n) (hd : o.dst = some d) (ho : o.op = .indexAddr 22 (.tmp s) (.tmp r)) (hs : a.tmps[s]? = some (.slice (some ⟨g, f, none⟩) n c)) (hr : a.tmps[r]? = some (.int .i64 (i : Int))) (hK : ∀ w', Nu w w' → K ⟨a.tmps.setIfInBounds d (.pointer (some ⟨g, f + i, none⟩)), a.defers⟩ w') : Oper.wp Tryd.prog o a w K Q := by
  have hes : a.eval (.tmp s) = .slice (some ⟨g, f, none⟩) n c := by simp [Act.eval, hs]
  have her : a.eval (.tmp r) = .int .i64 (i : Int) := by simp [Act.eval, hr]
  have hi' : (i : Int) < (n : Int) := by omega
  unfold Oper.wp execOp
  simp only [ho, hd]
  go_simp
  exact hK w (Mv.refl _ _)
end

def RLk (tb qg np qc g pl nc lb lo ll ac n p nd : Nat) : Nat → World → Value → Prop
  | 0, _, v => v = .pointer (some ⟨tb, 0, none⟩)
  | 1, _, v => v = .pointer (some ⟨tb, 0, none⟩)
  | 2, _, v => v = .pointer (some ⟨tb, 0 + 3, none⟩)
  | 3, _, v => v = .slice (some ⟨qg, 0, none⟩) np qc
  | 4, _, v => v = .int .i64 (p : Int)
  | 5, _, v => v = .pointer (some ⟨qg, p * 4, none⟩)
  | 6, _, v => v = .pointer (some ⟨qg, p * 4, none⟩)
  | 7, _, v => v = .slice (some ⟨g, 0, none⟩) pl nc
  | 8, _, v => v = .slice (some ⟨lb, lo, none⟩) ll ac
  | 9, _, v => v = .pointer (some ⟨tb, 0, none⟩)
  | 10, _, v => v = .int .i64 (p : Int)
  | 11, _, v => v = .int .i64 ((n + p : Nat) : Int)
  | 12, _, v => v = .pointer (some ⟨lb, lo + (n + p), none⟩)
  | 13, _, v => v = .int .i64 (nd : Int)
  | 14, _, v => v = .pointer (some ⟨g, nd * 4, none⟩)
  | 15, _, v => v = .pointer (some ⟨g, nd * 4, none⟩)
  | _, _, v => v = undef
theorem RLk.nu {tb qg np qc g pl nc lb lo ll ac n p nd : Nat} : ∀ (i : Nat) (w w' : World) (v : Value), Nu w w' → RLk tb qg np qc g pl nc lb lo ll ac n p nd i w v → RLk tb qg np qc g pl nc lb lo ll ac n p nd i w' v := by
  intro i w w' v hn h
  unfold RLk at h ⊢
  split <;> simp only at h <;> exact h

set_option maxHeartbeats 8000000 in
set_option maxRecDepth 40000 in
theorem tLook_any (w : World) (F : Nat → Prop) (tb : Nat) (t : Thr) {ro : Option Addr} {rc : Nat} {fo : Option Addr} {fc : Nat} {po : Option Addr} {pc : Nat} {qo : Option Addr} {qc : Nat} {pxs : List PX} (h : TIs w F tb t ro rc fo fc po pc qo qc pxs) (hm : mayT t = true) (hF : ∀ b, F b → b < w.heap.size) (st : ByteArray) (hst : Short st) :
    Calls Tryd.prog 91 #[.pointer (some ⟨tb, 0, none⟩), .string st] w fun e w' => e = .returned (sval (lookS t st)) ∧ Nu w w' := by
  have HTI := hid h
  have HM := hid hm
  have HF := hid hF
  have HST := hid hst
  obtain ⟨hi16, hp8, hp60, _, hpr, hpp⟩ := mayT_parts hm
  have HMP := hid (mayT_parts hm)
  have g0 := cell_blk h.blk 0
  have g2 := cell_blk h.blk 2
  have g3 := cell_blk h.blk 3
  simp only [List.size_toArray, List.length_cons, List.length_nil, Nat.reduceAdd, Nat.lt_add_one, Nat.reduceLT, getElem?_pos, List.getElem_toArray, List.getElem_cons_zero, List.getElem_cons_succ, Nat.zero_lt_succ] at g0 g2 g3
  clear h hm hF hst hpr hpp hi16 hp8 hp60
  go_enter Tryd.func91, Tryd.ntmps91
  go_upto_region 1 with fail
  have HN1 : Hid (Nu w (w.alloc (.cells #[.int .u64 0, .bool false, .bool false, .bool false] 62))) := Mv.alloc _ _ _
  have HA1 : Hid ((w.alloc (.cells #[.int .u64 0, .bool false, .bool false, .bool false] 62)).heap[w.heap.size]? = some (.cells #[.int .u64 0, .bool false, .bool false, .bool false] 62 (0, 0))) := heap_alloc_new w _
  generalize w.alloc (.cells #[.int .u64 0, .bool false, .bool false, .bool false] 62) = w1 at *
  replace g0 := cell_mv HN1.out g0 id
  replace g2 := cell_mv HN1.out g2 id
  replace g3 := cell_mv HN1.out g3 id
  have HC1 := hid (numbers_any w1 w1.heap.size ro rc (boundsN t) ((HTI.out.row.keep (HN1.out.keep (fun b hb => ⟨HF.out b hb, id⟩))).at (fun b hb => Nat.lt_of_lt_of_le (HF.out b hb) HN1.out.size)) (fun n hn => by
    rcases List.mem_append.1 hn with h1 | h1
    · rw [List.eq_of_mem_replicate h1]; decide
    · obtain ⟨l, hl, rfl⟩ := List.mem_map.1 h1
      have := (procB_parts (HMP.out.2.2.2.2.1 l hl)).2.1
      omega) (by rw [boundsN_len]; have := HMP.out; omega) st HST.out)
  rw [boundsN_len] at HC1
  go_upto_region 2 with (go_at_call 96; refine HC1.out.mono ?_; rintro e w2 ⟨hn2, hcase⟩; have HN2 := hid hn2; rcases hcase with ⟨hno, rfl⟩ | ⟨L, ao, ac, hno, rfl, hown⟩)
  · have HL : Hid (lookS t st = ⟨0, false, false, false⟩) := by show _ = _; simp [lookS, hno]
    have HA2 := hid (HN2.out.heap HA1.out id)
    obtain ⟨q0, q1, q2, q3⟩ := cells4 HA2.out
    have z0 := free_blk HA2.out 0
    have z1 := free_blk HA2.out 1
    have z2 := free_blk HA2.out 2
    have z3 := free_blk HA2.out 3
    clear hno g0 g2 g3 hn2 HC1
    go_wp2
    obtain ⟨hset, hmset⟩ := set4 (v0 := .int .u64 0) (v1 := .bool false) (v2 := .bool false) (v3 := .bool false) HA2.out
    refine bodyPost_ret (results_cell_row rfl _ _ w.heap.size 62 _ (0, 0) _ rfl hset Tryd.underlying62 rfl (by kernel_rfl)) rfl ⟨by rw [HL.out]; rfl, ?_⟩
    exact (mv0 HN1.out HN2.out).trans hmset (fun x hx => .inr (by omega))
  · have HL : Hid (lookS t st = sawTo t L (seenTo L t.props t.props.length) t.procs.length) := by show _ = _; simp [lookS, hno]
    have HLL : Hid (L.length = t.init.length + t.procs.length) := by show _ = _; rw [nums_short hno, boundsN_len]
    have HNL := hid (nums_lt hno)
    have HOW := hid hown
    have HA2 := hid (HN2.out.heap HA1.out id)
    replace g0 := cell_mv HN2.out g0 id
    replace g2 := cell_mv HN2.out g2 id
    replace g3 := cell_mv HN2.out g3 id
    have HK2 := hid (mv0 HN1.out HN2.out)
    clear hno hown hn2 HC1 g0
    go_upto_region 5 with fail
    have HB4 : Hid ((w2.alloc (.cells #[.int .u64 0, .bool true, .bool false, .bool false] 62)).heap[w2.heap.size]? = some (.cells #[.int .u64 0, .bool true, .bool false, .bool false] 62 (0, 0))) := heap_alloc_new w2 _
    have HN4 : Hid (Nu w2 (w2.alloc (.cells #[.int .u64 0, .bool true, .bool false, .bool false] 62))) := Mv.alloc _ _ _
    generalize w2.alloc (.cells #[.int .u64 0, .bool true, .bool false, .bool false] 62) = w4 at *
    have HSB : Hid (w.heap.size < w2.heap.size) := by have := lt_of_block HA2.out; exact this
    have HSL : Hid (w2.heap.size < w4.heap.size) := lt_of_block HB4.out
    have HAT : Hid (L.length = 0 ∨ ∃ lb lo, ao = some ⟨lb, lo, none⟩ ∧ lb < w2.heap.size ∧ ∀ i (h : i < L.length), w2.cell? ⟨lb, lo + i, none⟩ = some (.int .i64 (L[i] : Int))) := by
      rcases HOW.out.at.row with h0 | ⟨lb, lo, h1, h2, h3⟩
      · exact .inl (by rwa [ints_length] at h0)
      · exact .inr ⟨lb, lo, h1, h2, fun i hi => by
          have := h3 i (by rwa [ints_length])
          rw [this]
          simp [ints]⟩
    generalize w2.heap.size = sb at *
    replace g2 := cell_mv HN4.out g2 id
    replace g3 := cell_mv HN4.out g3 id
    have HK4 := hid (mv0 HK2.out HN4.out)
    have HA4 := hid (HN4.out.heap HA2.out id)
    clear HOW
    go_wp2
    go_loopw [30] (fun iv wr => ∃ (i : Nat), i ≤ t.props.length ∧ iv = .int .i64 (i : Int) ∧ Hid (wr.heap[sb]? = some (.cells #[.int .u64 (seenTo L t.props i : Int), .bool true, .bool false, .bool false] 62 (0, 0))) ∧ Hid (Mv (· = sb) w4 wr)) (fun iv _ => t.props.length - (intOf iv).toNat)
    case atStart => exact ⟨0, Nat.zero_le _, rfl, HB4.out, Mv.refl _ _⟩
    case round =>
      obtain ⟨i, hi, rfl, HBR, HMR⟩ := hrel
      rcases Nat.lt_or_ge i t.props.length with hlt | hge
      case inr =>
        obtain rfl : i = t.props.length := by omega
        clear hge hi
        have HMW : Hid (Mv (· = sb) w wr) := (HK4.out.mono (fun _ h => h.elim)).trans HMR.out (fun _ h => .inl h)
        have htbs : ¬ tb = sb := by have := HF.out tb HTI.out.ft; have := HSB.out; omega
        have HTBS := hid htbs
        replace g3 := cell_mv HMR.out g3 htbs
        have HBR0 := hid HBR.out
        have HMR0 := hid HMR.out
        clear g2 htbs HBR HMR HMW
        go_wp2
        go_loopw [55] (fun iv wk => ∃ (p : Nat), p ≤ t.procs.length ∧ iv = .int .i64 (p : Int) ∧ Hid (wk.heap[sb]? = some (.cells #[.int .u64 ((seenTo L t.props t.props.length : Nat) : Int), .bool (sawTo t L (seenTo L t.props t.props.length) p).en, .bool (sawTo t L (seenTo L t.props t.props.length) p).pr, .bool (sawTo t L (seenTo L t.props t.props.length) p).ac] 62 (0, 0))) ∧ Hid (Mv (· = sb) w4 wk)) (fun iv _ => t.procs.length - (intOf iv).toNat)
        case atStart => exact ⟨0, Nat.zero_le _, rfl, HBR0.out, HMR0.out⟩
        case round =>
          rename World => wk
          obtain ⟨p, hp, rfl, HBK, HMK⟩ := hrel
          have HMW : Hid (Mv (· = sb) w wk) := (HK4.out.mono (fun _ h => h.elim)).trans HMK.out (fun _ h => .inl h)
          rcases Nat.lt_or_ge p t.procs.length with hplt | hpge
          case inr =>
            obtain rfl : p = t.procs.length := by omega
            clear hpge hp g3
            have HAK := hid (HMK.out.heap HA4.out (fun e => by have := HSB.out; omega))
            obtain ⟨s0, s1, s2, s3⟩ := cells4 HBK.out
            obtain ⟨q0, q1, q2, q3⟩ := cells4 HAK.out
            have z0 := free_blk HAK.out 0
            have z1 := free_blk HAK.out 1
            have z2 := free_blk HAK.out 2
            have z3 := free_blk HAK.out 3
            go_wp2
            obtain ⟨hset, hmset⟩ := set4 (v0 := .int .u64 ((seenTo L t.props t.props.length : Nat) : Int)) (v1 := .bool (sawTo t L (seenTo L t.props t.props.length) t.procs.length).en) (v2 := .bool (sawTo t L (seenTo L t.props t.props.length) t.procs.length).pr) (v3 := .bool (sawTo t L (seenTo L t.props t.props.length) t.procs.length).ac) HAK.out
            refine bodyPost_ret (results_cell_row rfl _ _ w.heap.size 62 _ (0, 0) _ rfl hset Tryd.underlying62 rfl (by kernel_rfl)) rfl ⟨by rw [HL.out, sval, sawTo_props], ?_⟩
            exact ((Mv.refl (fun _ => False) w).trans HMW.out (fun x hx => .inr (by have : x = sb := hx; have := HSB.out; omega))).trans hmset (fun x hx => .inr (by have : x = w.heap.size := hx; omega))
          have hplt' : (p : Int) < (t.procs.length : Int) := by omega
          rcases HTI.out.procs with h0 | ⟨qg, rfl, hFq, hpx⟩
          · omega
          have hpl : pxs.length = t.procs.length := by rw [← HTI.out.eq, List.length_map]
          have hpp : p < pxs.length := by omega
          have hx := hpx p hpp
          have hxi := HTI.out.pis _ (List.getElem_mem hpp)
          have hxl : t.procs[p]? = some pxs[p].l := by rw [← HTI.out.eq, List.getElem?_map, List.getElem?_eq_getElem hpp]; rfl
          obtain ⟨nd, hnd, hndl⟩ := HNL.out (t.init.length + p) pxs[p].l.length (by
            rw [boundsN, List.getElem?_append_right (by simp), List.length_replicate, Nat.add_sub_cancel_left, List.getElem?_map, hxl]
            rfl)
          generalize pxs[p] = px at *
          have htl : px.txs.length = px.l.length := by rw [← hxi.eq, List.length_map]
          have hnt : nd < px.txs.length := by omega
          have hnat := hxi.nat nd hnt
          have HND : Hid (nodeT t L p = (px.txs[nd]).n) := by
            show _ = _
            have h1 : px.l[nd]? = some (px.txs[nd]).n := by rw [← hxi.eq, List.getElem?_map, List.getElem?_eq_getElem hnt]; rfl
            simp only [nodeT, List.getD_eq_getElem?_getD, hxl, hnd, Option.getD_some, h1]
          generalize px.txs[nd] = tx at *
          rcases HAT.out with h0 | ⟨lb, lo, rfl, hlb, hat⟩
          · have := HLL.out; omega
          have hql : t.init.length + p < L.length := by have := HLL.out; omega
          have cl := hat _ hql
          have hnd' : L[t.init.length + p] = nd := by rw [List.getElem?_eq_getElem hql] at hnd; exact Option.some.inj hnd
          rw [hnd'] at cl
          replace cl := cell_mv HMK.out (cell_mv HN4.out cl id) (show ¬ lb = sb by omega)
          have hFx : ∀ b, F b → ¬ b = sb := fun b hb => by have := HF.out b hb; have := HSB.out; omega
          have q0 := cell_mv HMW.out hx.c0 (hFx _ hFq)
          have g3' := cell_mv HMK.out (cell_mv (Mv.refl (fun _ => False) w4) (cell_mv HN4.out (cell_mv HN2.out (cell_mv HN1.out (cell_blk HTI.out.blk 3) id) id) id) id) HTBS.out
          simp only [List.size_toArray, List.length_cons, List.length_nil, Nat.reduceAdd, Nat.lt_add_one, Nat.reduceLT, getElem?_pos, List.getElem_toArray, List.getElem_cons_zero, List.getElem_cons_succ, Nat.zero_lt_succ] at g3'
          have x1 := cell_mv HMW.out hnat.c1 (hFx _ hxi.ng)
          have x2 := cell_mv HMW.out hnat.c2 (hFx _ hxi.ng)
          have x3 := cell_mv HMW.out hnat.c3 (hFx _ hxi.ng)
          have HGS : Hid (¬ px.g = sb) := hid (hFx _ hxi.ng)
          have hp8 : p < 8 := by have := HMP.out; omega
          have HPL := hid hplt
          have HQL := hid hql
          have HNDL := hid hndl
          have HTK : Hid (∀ W, Nu wk W → TIs W F tb t ro rc fo fc po pc (some ⟨qg, 0, none⟩) qc pxs) := fun W hW => HTI.out.keep ((nu_mv HMW.out hW).keep (fun b hb => ⟨HF.out b hb, hFx b hb⟩))
          clear hpx hxl hxi hx hnd hnd' hat hnat hndl hnt htl hpp hpl hplt hlb hFx hFq hql hp
          go_upto_region 14 with fail
          rename_i KC hKC
          refine wp_lookR (RLk tb qg t.procs.length qc px.g px.l.length px.nc lb lo L.length ac t.init.length p nd) RLk.nu (by kernel_rfl) (by kernel_rfl) ?step ?post
          case step =>
            intro i o d a w' ho hd hn hfr had K hK
            have hi : i < 16 := (Array.getElem?_eq_some_iff.1 ho).1
            have f0 := hfr 0 (by kernel_rfl)
            have f5 := hfr 5 (by kernel_rfl)
            have f10 := hfr 10 (by kernel_rfl)
            have : i = 0 ∨ i = 1 ∨ i = 2 ∨ i = 3 ∨ i = 4 ∨ i = 5 ∨ i = 6 ∨ i = 7 ∨ i = 8 ∨ i = 9 ∨ i = 10 ∨ i = 11 ∨ i = 12 ∨ i = 13 ∨ i = 14 ∨ i = 15 := by omega
            rcases this with rfl | rfl | rfl | rfl | rfl | rfl | rfl | rfl | rfl | rfl | rfl | rfl | rfl | rfl | rfl | rfl <;> cases ho <;> cases hd
            · exact ite_yes (want_none rfl) (lk_move rfl rfl f0 (fun w' hm => hK w' _ hm rfl))
            · obtain ⟨⟨_, h0, rfl⟩, _⟩ := had; exact ite_yes (want_none rfl) (lk_nilP rfl rfl h0 (fun w' hm => hK w' _ hm rfl))
            · obtain ⟨⟨_, h0, rfl⟩, _⟩ := had; exact ite_yes (want_none rfl) (lk_fieldX3 rfl rfl h0 (fun w' hm => hK w' _ hm rfl))
            · obtain ⟨⟨_, h0, rfl⟩, _⟩ := had; exact ite_yes (want_none rfl) (lk_loadPr rfl rfl h0 (cell_mv hn g3' id) (fun w' hm => hK w' _ hm rfl))
            · exact ite_yes (want_none rfl) (lk_move rfl rfl f10 (fun w' hm => hK w' _ hm rfl))
            · obtain ⟨⟨_, h0, rfl⟩, ⟨_, h1, rfl⟩, _⟩ := had; exact ite_yes (want_none rfl) (lk_idxPr HPL.out rfl rfl h0 h1 (fun w' hm => hK w' _ hm rfl))
            · obtain ⟨⟨_, h0, rfl⟩, _⟩ := had; exact ite_yes (want_none rfl) (lk_fieldPr0 rfl rfl h0 (fun w' hm => hK w' _ hm rfl))
            · obtain ⟨⟨_, h0, rfl⟩, _⟩ := had; exact ite_yes (want_none rfl) (lk_loadTNs rfl rfl h0 (cell_mv hn q0 id) (fun w' hm => hK w' _ hm rfl))
            · exact ite_yes (want_none rfl) (lk_move rfl rfl f5 (fun w' hm => hK w' _ hm rfl))
            · exact ite_yes (want_none rfl) (lk_move rfl rfl f0 (fun w' hm => hK w' _ hm rfl))
            · exact ite_yes (want_none rfl) (lk_move rfl rfl f10 (fun w' hm => hK w' _ hm rfl))
            · obtain ⟨⟨_, h1, rfl⟩, ⟨_, h2, rfl⟩, _⟩ := had
              exact ite_yes (want_none rfl) (lk_place rfl rfl h1 h2 (place_any w' F tb t (HTK.out w' hn) HM.out p HPL.out) (fun w' hm => hK w' _ hm rfl))
            · obtain ⟨⟨_, h0, rfl⟩, ⟨_, h1, rfl⟩, _⟩ := had; exact ite_yes (want_none rfl) (lk_idxAtL HQL.out rfl rfl h0 h1 (fun w' hm => hK w' _ hm rfl))
            · obtain ⟨⟨_, h0, rfl⟩, _⟩ := had; exact ite_yes (want_none rfl) (lk_loadN rfl rfl h0 (cell_mv hn cl id) (fun w' hm => hK w' _ hm rfl))
            · obtain ⟨⟨_, h0, rfl⟩, ⟨_, h1, rfl⟩, _⟩ := had; exact ite_yes (want_none rfl) (lk_idxTN HNDL.out rfl rfl h0 h1 (fun w' hm => hK w' _ hm rfl))
            · obtain ⟨⟨_, h0, rfl⟩, _⟩ := had; exact ite_yes (want_none rfl) (lk_assign rfl rfl h0 (fun w' hm => hK w' _ hm rfl))
          case post =>
            intro a' w7 hn7 hdf hsz hfr htv
            have htm := fill_eqN (vals := fun i => ([.pointer (some ⟨tb, 0, none⟩), .pointer (some ⟨tb, 0, none⟩), .pointer (some ⟨tb, 0 + 3, none⟩), .slice (some ⟨qg, 0, none⟩) t.procs.length qc, .int .i64 (p : Int), .pointer (some ⟨qg, p * 4, none⟩), .pointer (some ⟨qg, p * 4, none⟩), .slice (some ⟨px.g, 0, none⟩) px.l.length px.nc, .slice (some ⟨lb, lo, none⟩) L.length ac, .pointer (some ⟨tb, 0, none⟩), .int .i64 (p : Int), .int .i64 ((t.init.length + p : Nat) : Int), .pointer (some ⟨lb, lo + (t.init.length + p), none⟩), .int .i64 (nd : Int), .pointer (some ⟨px.g, nd * 4, none⟩), .pointer (some ⟨px.g, nd * 4, none⟩)] : List Value).getD i undef) (by kernel_rfl) hfr (fun i o d hi hd => by
              have hi' : i < 16 := (Array.getElem?_eq_some_iff.1 hi).1
              obtain ⟨v, h, hv⟩ := htv i o d hi hd
              have : i = 0 ∨ i = 1 ∨ i = 2 ∨ i = 3 ∨ i = 4 ∨ i = 5 ∨ i = 6 ∨ i = 7 ∨ i = 8 ∨ i = 9 ∨ i = 10 ∨ i = 11 ∨ i = 12 ∨ i = 13 ∨ i = 14 ∨ i = 15 := by omega
              rcases this with rfl | rfl | rfl | rfl | rfl | rfl | rfl | rfl | rfl | rfl | rfl | rfl | rfl | rfl | rfl | rfl <;> cases hi <;> cases hd <;> exact h.trans (congrArg some hv))
            refine hKC _ _ ?_
            have HN7 := hid hn7
            rw [act_eq' htm hdf]
            clear htm hdf hsz hfr htv hKC g3' q0 cl
            simp only [fill, List.getD_cons_succ, List.getD_cons_zero, List.setIfInBounds_toArray, List.set_cons_succ, List.set_cons_zero]
            replace x1 := cell_mv hn7 x1 id
            replace x2 := cell_mv hn7 x2 id
            replace x3 := cell_mv hn7 x3 id
            clear hn7
            have HB7 := hid (HN7.out.heap HBK.out id)
            obtain ⟨s0, s1, s2, s3⟩ := cells4 HB7.out
            have z1 := free_blk HB7.out 1
            have z2 := free_blk HB7.out 2
            have z3 := free_blk HB7.out 3
            have HE1 : Hid ((sawTo t L (seenTo L t.props t.props.length) (p + 1)).en = ((sawTo t L (seenTo L t.props t.props.length) p).en && tx.n.en)) := by show _ = _; rw [sawTo, HND.out]
            have HE2 : Hid ((sawTo t L (seenTo L t.props t.props.length) (p + 1)).pr = ((sawTo t L (seenTo L t.props t.props.length) p).pr || tx.n.pr)) := by show _ = _; rw [sawTo, HND.out]
            have HE3 : Hid ((sawTo t L (seenTo L t.props t.props.length) (p + 1)).ac = ((sawTo t L (seenTo L t.props t.props.length) p).ac || tx.n.ac)) := by show _ = _; rw [sawTo, HND.out]
            have HM7 : Hid (Mv (· = sb) w4 w7) := nu_mv HMK.out HN7.out
            generalize (sawTo t L (seenTo L t.props t.props.length) p).en = e1 at *
            generalize (sawTo t L (seenTo L t.props t.props.length) p).pr = e2 at *
            generalize (sawTo t L (seenTo L t.props t.props.length) p).ac = e3 at *
            generalize tx.n.en = n1 at *
            generalize tx.n.pr = n2 at *
            generalize tx.n.ac = n3 at *
            clear HBR0 HMR0 HN7 HBK HMK HMW HTK
            cases e1 with
            | false =>
              go_upto_region 16 with fail
              have HB8 : Hid ((w7.setCell ⟨sb, 1, none⟩ (.bool false)).heap[sb]? = some (.cells #[.int .u64 ((seenTo L t.props t.props.length : Nat) : Int), .bool false, .bool e2, .bool e3] 62 (0, 0))) := setCell_blk HB7.out
              have HM8 : Hid (Mv (· = sb) w4 (w7.setCell ⟨sb, 1, none⟩ (.bool false))) := HM7.out.trans (Mv.setCell w7 ⟨sb, 1, none⟩ _) (fun _ h => .inl h)
              replace x2 := cell_mv (Mv.setCell w7 ⟨sb, 1, none⟩ (.bool false)) x2 HGS.out
              replace x3 := cell_mv (Mv.setCell w7 ⟨sb, 1, none⟩ (.bool false)) x3 HGS.out
              clear x1 s0 s1 s2 s3 z1 z2 z3
              generalize w7.setCell ⟨sb, 1, none⟩ (.bool false) = w8 at *
              obtain ⟨s0, s1, s2, s3⟩ := cells4 HB8.out
              have z2 := free_blk HB8.out 2
              have z3 := free_blk HB8.out 3
              cases e2 with
              | false =>
                go_upto_region 17 with fail
                have HB9 : Hid ((w8.setCell ⟨sb, 2, none⟩ (.bool n2)).heap[sb]? = some (.cells #[.int .u64 ((seenTo L t.props t.props.length : Nat) : Int), .bool false, .bool n2, .bool e3] 62 (0, 0))) := setCell_blk HB8.out
                have HM9 : Hid (Mv (· = sb) w4 (w8.setCell ⟨sb, 2, none⟩ (.bool n2))) := HM8.out.trans (Mv.setCell w8 ⟨sb, 2, none⟩ _) (fun _ h => .inl h)
                replace x3 := cell_mv (Mv.setCell w8 ⟨sb, 2, none⟩ (.bool n2)) x3 HGS.out
                clear x2 s0 s1 s2 s3 z2 z3
                generalize w8.setCell ⟨sb, 2, none⟩ (.bool n2) = w9 at *
                obtain ⟨s0, s1, s2, s3⟩ := cells4 HB9.out
                have z3 := free_blk HB9.out 3
                cases e3 with
                | false =>
                  go_upto_region 18 with fail
                  have HB10 : Hid ((w9.setCell ⟨sb, 3, none⟩ (.bool n3)).heap[sb]? = some (.cells #[.int .u64 ((seenTo L t.props t.props.length : Nat) : Int), .bool false, .bool n2, .bool n3] 62 (0, 0))) := setCell_blk HB9.out
                  have HM10 : Hid (Mv (· = sb) w4 (w9.setCell ⟨sb, 3, none⟩ (.bool n3))) := HM9.out.trans (Mv.setCell w9 ⟨sb, 3, none⟩ _) (fun _ h => .inl h)
                  clear x3 s0 s1 s2 s3 z3
                  generalize w9.setCell ⟨sb, 3, none⟩ (.bool n3) = w10 at *
                  go_wp2
                  go_roundw
                  case rel => exact ⟨p + 1, HPL.out, by go_num, by show _ = _; rw [HE1.out, HE2.out, HE3.out]; exact HB10.out, HM10.out⟩
                  case measure => have := HPL.out; simp [intOf]; omega
                | true =>
                  go_upto_region 18 with fail
                  have HB10 : Hid ((w9.setCell ⟨sb, 3, none⟩ (.bool true)).heap[sb]? = some (.cells #[.int .u64 ((seenTo L t.props t.props.length : Nat) : Int), .bool false, .bool n2, .bool true] 62 (0, 0))) := setCell_blk HB9.out
                  have HM10 : Hid (Mv (· = sb) w4 (w9.setCell ⟨sb, 3, none⟩ (.bool true))) := HM9.out.trans (Mv.setCell w9 ⟨sb, 3, none⟩ _) (fun _ h => .inl h)
                  clear x3 s0 s1 s2 s3 z3
                  generalize w9.setCell ⟨sb, 3, none⟩ (.bool true) = w10 at *
                  go_wp2
                  go_roundw
                  case rel => exact ⟨p + 1, HPL.out, by go_num, by show _ = _; rw [HE1.out, HE2.out, HE3.out]; exact HB10.out, HM10.out⟩
                  case measure => have := HPL.out; simp [intOf]; omega
              | true =>
                go_upto_region 17 with fail
                have HB9 : Hid ((w8.setCell ⟨sb, 2, none⟩ (.bool true)).heap[sb]? = some (.cells #[.int .u64 ((seenTo L t.props t.props.length : Nat) : Int), .bool false, .bool true, .bool e3] 62 (0, 0))) := setCell_blk HB8.out
                have HM9 : Hid (Mv (· = sb) w4 (w8.setCell ⟨sb, 2, none⟩ (.bool true))) := HM8.out.trans (Mv.setCell w8 ⟨sb, 2, none⟩ _) (fun _ h => .inl h)
                replace x3 := cell_mv (Mv.setCell w8 ⟨sb, 2, none⟩ (.bool true)) x3 HGS.out
                clear x2 s0 s1 s2 s3 z2 z3
                generalize w8.setCell ⟨sb, 2, none⟩ (.bool true) = w9 at *
                obtain ⟨s0, s1, s2, s3⟩ := cells4 HB9.out
                have z3 := free_blk HB9.out 3
                cases e3 with
                | false =>
                  go_upto_region 18 with fail
                  have HB10 : Hid ((w9.setCell ⟨sb, 3, none⟩ (.bool n3)).heap[sb]? = some (.cells #[.int .u64 ((seenTo L t.props t.props.length : Nat) : Int), .bool false, .bool true, .bool n3] 62 (0, 0))) := setCell_blk HB9.out
                  have HM10 : Hid (Mv (· = sb) w4 (w9.setCell ⟨sb, 3, none⟩ (.bool n3))) := HM9.out.trans (Mv.setCell w9 ⟨sb, 3, none⟩ _) (fun _ h => .inl h)
                  clear x3 s0 s1 s2 s3 z3
                  generalize w9.setCell ⟨sb, 3, none⟩ (.bool n3) = w10 at *
                  go_wp2
                  go_roundw
                  case rel => exact ⟨p + 1, HPL.out, by go_num, by show _ = _; rw [HE1.out, HE2.out, HE3.out]; exact HB10.out, HM10.out⟩
                  case measure => have := HPL.out; simp [intOf]; omega
                | true =>
                  go_upto_region 18 with fail
                  have HB10 : Hid ((w9.setCell ⟨sb, 3, none⟩ (.bool true)).heap[sb]? = some (.cells #[.int .u64 ((seenTo L t.props t.props.length : Nat) : Int), .bool false, .bool true, .bool true] 62 (0, 0))) := setCell_blk HB9.out
                  have HM10 : Hid (Mv (· = sb) w4 (w9.setCell ⟨sb, 3, none⟩ (.bool true))) := HM9.out.trans (Mv.setCell w9 ⟨sb, 3, none⟩ _) (fun _ h => .inl h)
                  clear x3 s0 s1 s2 s3 z3
                  generalize w9.setCell ⟨sb, 3, none⟩ (.bool true) = w10 at *
                  go_wp2
                  go_roundw
                  case rel => exact ⟨p + 1, HPL.out, by go_num, by show _ = _; rw [HE1.out, HE2.out, HE3.out]; exact HB10.out, HM10.out⟩
                  case measure => have := HPL.out; simp [intOf]; omega
            | true =>
              go_upto_region 16 with fail
              have HB8 : Hid ((w7.setCell ⟨sb, 1, none⟩ (.bool n1)).heap[sb]? = some (.cells #[.int .u64 ((seenTo L t.props t.props.length : Nat) : Int), .bool n1, .bool e2, .bool e3] 62 (0, 0))) := setCell_blk HB7.out
              have HM8 : Hid (Mv (· = sb) w4 (w7.setCell ⟨sb, 1, none⟩ (.bool n1))) := HM7.out.trans (Mv.setCell w7 ⟨sb, 1, none⟩ _) (fun _ h => .inl h)
              replace x2 := cell_mv (Mv.setCell w7 ⟨sb, 1, none⟩ (.bool n1)) x2 HGS.out
              replace x3 := cell_mv (Mv.setCell w7 ⟨sb, 1, none⟩ (.bool n1)) x3 HGS.out
              clear x1 s0 s1 s2 s3 z1 z2 z3
              generalize w7.setCell ⟨sb, 1, none⟩ (.bool n1) = w8 at *
              obtain ⟨s0, s1, s2, s3⟩ := cells4 HB8.out
              have z2 := free_blk HB8.out 2
              have z3 := free_blk HB8.out 3
              cases e2 with
              | false =>
                go_upto_region 17 with fail
                have HB9 : Hid ((w8.setCell ⟨sb, 2, none⟩ (.bool n2)).heap[sb]? = some (.cells #[.int .u64 ((seenTo L t.props t.props.length : Nat) : Int), .bool n1, .bool n2, .bool e3] 62 (0, 0))) := setCell_blk HB8.out
                have HM9 : Hid (Mv (· = sb) w4 (w8.setCell ⟨sb, 2, none⟩ (.bool n2))) := HM8.out.trans (Mv.setCell w8 ⟨sb, 2, none⟩ _) (fun _ h => .inl h)
                replace x3 := cell_mv (Mv.setCell w8 ⟨sb, 2, none⟩ (.bool n2)) x3 HGS.out
                clear x2 s0 s1 s2 s3 z2 z3
                generalize w8.setCell ⟨sb, 2, none⟩ (.bool n2) = w9 at *
                obtain ⟨s0, s1, s2, s3⟩ := cells4 HB9.out
                have z3 := free_blk HB9.out 3
                cases e3 with
                | false =>
                  go_upto_region 18 with fail
                  have HB10 : Hid ((w9.setCell ⟨sb, 3, none⟩ (.bool n3)).heap[sb]? = some (.cells #[.int .u64 ((seenTo L t.props t.props.length : Nat) : Int), .bool n1, .bool n2, .bool n3] 62 (0, 0))) := setCell_blk HB9.out
                  have HM10 : Hid (Mv (· = sb) w4 (w9.setCell ⟨sb, 3, none⟩ (.bool n3))) := HM9.out.trans (Mv.setCell w9 ⟨sb, 3, none⟩ _) (fun _ h => .inl h)
                  clear x3 s0 s1 s2 s3 z3
                  generalize w9.setCell ⟨sb, 3, none⟩ (.bool n3) = w10 at *
                  go_wp2
                  go_roundw
                  case rel => exact ⟨p + 1, HPL.out, by go_num, by show _ = _; rw [HE1.out, HE2.out, HE3.out]; exact HB10.out, HM10.out⟩
                  case measure => have := HPL.out; simp [intOf]; omega
                | true =>
                  go_upto_region 18 with fail
                  have HB10 : Hid ((w9.setCell ⟨sb, 3, none⟩ (.bool true)).heap[sb]? = some (.cells #[.int .u64 ((seenTo L t.props t.props.length : Nat) : Int), .bool n1, .bool n2, .bool true] 62 (0, 0))) := setCell_blk HB9.out
                  have HM10 : Hid (Mv (· = sb) w4 (w9.setCell ⟨sb, 3, none⟩ (.bool true))) := HM9.out.trans (Mv.setCell w9 ⟨sb, 3, none⟩ _) (fun _ h => .inl h)
                  clear x3 s0 s1 s2 s3 z3
                  generalize w9.setCell ⟨sb, 3, none⟩ (.bool true) = w10 at *
                  go_wp2
                  go_roundw
                  case rel => exact ⟨p + 1, HPL.out, by go_num, by show _ = _; rw [HE1.out, HE2.out, HE3.out]; exact HB10.out, HM10.out⟩
                  case measure => have := HPL.out; simp [intOf]; omega
              | true =>
                go_upto_region 17 with fail
                have HB9 : Hid ((w8.setCell ⟨sb, 2, none⟩ (.bool true)).heap[sb]? = some (.cells #[.int .u64 ((seenTo L t.props t.props.length : Nat) : Int), .bool n1, .bool true, .bool e3] 62 (0, 0))) := setCell_blk HB8.out
                have HM9 : Hid (Mv (· = sb) w4 (w8.setCell ⟨sb, 2, none⟩ (.bool true))) := HM8.out.trans (Mv.setCell w8 ⟨sb, 2, none⟩ _) (fun _ h => .inl h)
                replace x3 := cell_mv (Mv.setCell w8 ⟨sb, 2, none⟩ (.bool true)) x3 HGS.out
                clear x2 s0 s1 s2 s3 z2 z3
                generalize w8.setCell ⟨sb, 2, none⟩ (.bool true) = w9 at *
                obtain ⟨s0, s1, s2, s3⟩ := cells4 HB9.out
                have z3 := free_blk HB9.out 3
                cases e3 with
                | false =>
                  go_upto_region 18 with fail
                  have HB10 : Hid ((w9.setCell ⟨sb, 3, none⟩ (.bool n3)).heap[sb]? = some (.cells #[.int .u64 ((seenTo L t.props t.props.length : Nat) : Int), .bool n1, .bool true, .bool n3] 62 (0, 0))) := setCell_blk HB9.out
                  have HM10 : Hid (Mv (· = sb) w4 (w9.setCell ⟨sb, 3, none⟩ (.bool n3))) := HM9.out.trans (Mv.setCell w9 ⟨sb, 3, none⟩ _) (fun _ h => .inl h)
                  clear x3 s0 s1 s2 s3 z3
                  generalize w9.setCell ⟨sb, 3, none⟩ (.bool n3) = w10 at *
                  go_wp2
                  go_roundw
                  case rel => exact ⟨p + 1, HPL.out, by go_num, by show _ = _; rw [HE1.out, HE2.out, HE3.out]; exact HB10.out, HM10.out⟩
                  case measure => have := HPL.out; simp [intOf]; omega
                | true =>
                  go_upto_region 18 with fail
                  have HB10 : Hid ((w9.setCell ⟨sb, 3, none⟩ (.bool true)).heap[sb]? = some (.cells #[.int .u64 ((seenTo L t.props t.props.length : Nat) : Int), .bool n1, .bool true, .bool true] 62 (0, 0))) := setCell_blk HB9.out
                  have HM10 : Hid (Mv (· = sb) w4 (w9.setCell ⟨sb, 3, none⟩ (.bool true))) := HM9.out.trans (Mv.setCell w9 ⟨sb, 3, none⟩ _) (fun _ h => .inl h)
                  clear x3 s0 s1 s2 s3 z3
                  generalize w9.setCell ⟨sb, 3, none⟩ (.bool true) = w10 at *
                  go_wp2
                  go_roundw
                  case rel => exact ⟨p + 1, HPL.out, by go_num, by show _ = _; rw [HE1.out, HE2.out, HE3.out]; exact HB10.out, HM10.out⟩
                  case measure => have := HPL.out; simp [intOf]; omega
      have hlt' : (i : Int) < (t.props.length : Int) := by omega
      rcases HTI.out.props with h0 | ⟨g, rfl, hFg, hpr⟩
      · omega
      have HMW : Hid (Mv (· = sb) w wr) := (HK4.out.mono (fun _ h => h.elim)).trans HMR.out (fun _ h => .inl h)
      have hgs : ¬ g = sb := by have := HF.out g hFg; have := HSB.out; omega
      obtain ⟨c0, c1⟩ := hpr i hlt
      replace c0 := cell_mv HMW.out c0 hgs
      replace c1 := cell_mv HMW.out c1 hgs
      have hpb := HMP.out.2.2.2.2.2 _ (List.getElem_mem hlt)
      simp only [prB, inB, isV, Bool.and_eq_true, decide_eq_true_eq] at hpb
      have HSE : Hid (seenTo L t.props (i + 1) = if ((L.getD (t.props[i]).1.toNat 0 : Nat) : Int) = (t.props[i]).2 then seenTo L t.props i ||| 2 ^ i else seenTo L t.props i) := by
        show _ = _
        rw [seenTo, List.getElem?_eq_getElem hlt]
        simp
      have HLT := hid hlt
      generalize t.props[i] = pp at *
      obtain ⟨pob, pv⟩ := pp
      simp only at c0 c1 hpb
      obtain ⟨pn, rfl⟩ : ∃ pn : Nat, pob = (pn : Int) := ⟨pob.toNat, by omega⟩
      have hpl : pn < L.length := by have := HLL.out; omega
      rcases HAT.out with h0 | ⟨lb, lo, rfl, hlb, hat⟩
      · omega
      have cl := cell_mv HN4.out (hat pn hpl) id
      replace cl := cell_mv HMR.out cl (show ¬ lb = sb by omega)
      have HSE2 : Hid (seenTo L t.props (i + 1) = if (L[pn] : Int) = pv then seenTo L t.props i ||| 2 ^ i else seenTo L t.props i) := by
        have h1 := HSE.out
        simp only [Int.toNat_natCast, List.getD_eq_getElem?_getD, List.getElem?_eq_getElem hpl, Option.getD_some] at h1
        exact h1
      generalize L[pn] = nd at *
      have bl : (pn : Int) < (L.length : Int) := by omega
      have h60 : i < 60 := by have := HMP.out; omega
      have HAL := hid (seenTo_lt L t.props i)
      clear hpr hat HSE hlt hpb hpl hFg hgs hlb hi
      go_upto_region 8 with fail
      have HNY : Hid (Nu wr (wr.alloc (.cells #[.int .i64 (pn : Int), .int .i64 pv] 70))) := Mv.alloc _ _ _
      have HBY : Hid ((wr.alloc (.cells #[.int .i64 (pn : Int), .int .i64 pv] 70)).heap[wr.heap.size]? = some (.cells #[.int .i64 (pn : Int), .int .i64 pv] 70 (0, 0))) := heap_alloc_new wr _
      generalize wr.alloc (.cells #[.int .i64 (pn : Int), .int .i64 pv] 70) = wy at *
      obtain ⟨y0, y1⟩ := cells2 HBY.out
      replace cl := cell_mv HNY.out cl id
      have HBZ := hid (HNY.out.heap HBR.out id)
      obtain ⟨s0, s1, s2, s3⟩ := cells4 HBZ.out
      have z0 := free_blk HBZ.out 0
      clear c0 c1 s1 s2 s3
      by_cases he : (nd : Int) = pv
      · subst he
        have HS2 : Hid (seenTo L t.props (i + 1) = seenTo L t.props i ||| 2 ^ i) := by have := HSE2.out; rwa [if_pos rfl] at this
        clear HSE2
        go_quiet (fail)
        go_wp2
        go_region
        rw [or_bit (about_small HAL.out (by omega)) (by omega), ← HS2.out]
        have HBN : Hid (((wy.drewN (nq + 1)).setCell ⟨sb, 0, none⟩ (.int .u64 (seenTo L t.props (i + 1) : Int))).heap[sb]? = some (.cells #[.int .u64 (seenTo L t.props (i + 1) : Int), .bool true, .bool false, .bool false] 62 (0, 0))) := setCell_blk ((nu_drewN' wy (nq + 1)).heap HBZ.out id)
        have HMN : Hid (Mv (· = sb) w4 ((wy.drewN (nq + 1)).setCell ⟨sb, 0, none⟩ (.int .u64 (seenTo L t.props (i + 1) : Int)))) := (nu_mv HMR.out (mv0 HNY.out (nu_drewN' _ (nq + 1)))).trans (Mv.setCell (wy.drewN (nq + 1)) ⟨sb, 0, none⟩ _) (fun _ h => .inl h)
        generalize (wy.drewN (nq + 1)).setCell ⟨sb, 0, none⟩ (.int .u64 (seenTo L t.props (i + 1) : Int)) = wz at *
        clear s0 z0 y0 y1 cl
        go_wp2
        go_roundw
        case rel => exact ⟨i + 1, HLT.out, by go_num, HBN.out, HMN.out⟩
        case measure => have := HLT.out; simp [intOf]; omega
      · have HS2 : Hid (seenTo L t.props (i + 1) = seenTo L t.props i) := by have := HSE2.out; rwa [if_neg he] at this
        clear HSE2
        go_quiet (fail)
        go_wp2
        go_roundw
        case rel => exact ⟨i + 1, HLT.out, by go_num, by rw [HS2.out]; exact HBZ.out, nu_mv HMR.out (mv0 HNY.out (nu_drewN' _ _))⟩
        case measure => have := HLT.out; simp [intOf]; omega

end Go.Proofs.YtiinmaedmkgfoaaDoor
/-
  Raw processes as a system: the plain notion, and that all its texts are short.
-/
set_option linter.unusedVariables false
set_option linter.unusedSimpArgs false
namespace Go.Proofs.YtiinmaedmkgfoaaDoor
open Go.RowKit

/-- Whether an arc may be taken where the numbers are L. -/
def openT (L : List Nat) (a : TA) : Bool := !a.test || decide ((L.getD a.object.toNat 0 : Int) = a.value)
def arcT (t : Thr) (L : List Nat) (p k : Nat) : TA := (nodeT t L p).arcs.getD k default
def mvT (t : Thr) (L : List Nat) (p k : Nat) : Mov := tmovOf t.init.length L p k (arcT t L p k) (footN t.props (nodeT t L p) ((t.procs.getD p []).getD (arcT t L p k).to.toNat default) (arcT t L p k))
def movesTo (t : Thr) (L : List Nat) (p : Nat) : Nat → List Mov
  | 0 => []
  | k + 1 => movesTo t L p k ++ if openT L (arcT t L p k) then [mvT t L p k] else []
def procsTo (t : Thr) (L : List Nat) : Nat → List Mov
  | 0 => []
  | p + 1 => procsTo t L p ++ movesTo t L p (nodeT t L p).arcs.length
def threadSem (t : Thr) : Sem := ⟨txt (encs (firstN t)), fun st => match nums st 0 (boundsN t) with | none => [] | some L => procsTo t L t.procs.length, lookS t⟩

theorem movesTo_mem {t : Thr} {L : List Nat} {p : Nat} {m : Mov} : ∀ {n : Nat}, m ∈ movesTo t L p n → ∃ k, k < n ∧ m = mvT t L p k
  | 0, h => by cases h
  | n + 1, h => by
    rw [movesTo] at h
    rcases List.mem_append.1 h with h | h
    · obtain ⟨k, hk, e⟩ := movesTo_mem h
      exact ⟨k, by omega, e⟩
    · split at h
      · exact ⟨n, by omega, by simpa using h⟩
      · cases h
theorem procsTo_mem {t : Thr} {L : List Nat} {m : Mov} : ∀ {n : Nat}, m ∈ procsTo t L n → ∃ p k, p < n ∧ k < (nodeT t L p).arcs.length ∧ m = mvT t L p k
  | 0, h => by cases h
  | n + 1, h => by
    rw [procsTo] at h
    rcases List.mem_append.1 h with h | h
    · obtain ⟨p, k, h1, h2, e⟩ := procsTo_mem h
      exact ⟨p, k, by omega, h2, e⟩
    · obtain ⟨k, hk, e⟩ := movesTo_mem h
      exact ⟨n, k, by omega, hk, e⟩

theorem bounds_le {t : Thr} (hm : mayT t = true) : ∀ b ∈ boundsN t, b ≤ 256 := fun b hb => by
  obtain ⟨_, _, _, _, hpr, _⟩ := mayT_parts hm
  rcases List.mem_append.1 hb with h | h
  · rw [List.eq_of_mem_replicate h]; decide
  · obtain ⟨l, hl, rfl⟩ := List.mem_map.1 h
    have := (procB_parts (hpr l hl)).2.1
    omega
theorem nums_small {t : Thr} {st : ByteArray} {L : List Nat} (hm : mayT t = true) (h : nums st 0 (boundsN t) = some L) : L.length = t.init.length + t.procs.length ∧ ∀ n ∈ L, n < 256 := by
  have hl : L.length = (boundsN t).length := nums_short h
  refine ⟨by rw [hl, boundsN_len], fun n hn => ?_⟩
  obtain ⟨i, hi, rfl⟩ := List.mem_iff_getElem.1 hn
  have hib : i < (boundsN t).length := by omega
  obtain ⟨n, h1, h2⟩ := nums_lt h i _ (List.getElem?_eq_getElem hib)
  have h3 := bounds_le hm _ (List.getElem_mem hib)
  rw [List.getElem?_eq_getElem hi] at h1
  have := Option.some.inj h1
  omega
theorem node_in {t : Thr} {st : ByteArray} {L : List Nat} (h : nums st 0 (boundsN t) = some L) {p : Nat} (hp : p < t.procs.length) : nodeT t L p ∈ t.procs[p] := by
  have hb : (boundsN t)[t.init.length + p]? = some (t.procs[p]).length := by
    rw [boundsN, List.getElem?_append_right (by simp), List.length_replicate, Nat.add_sub_cancel_left, List.getElem?_map, List.getElem?_eq_getElem hp]
    rfl
  obtain ⟨n, h1, h2⟩ := nums_lt h _ _ hb
  have : nodeT t L p = (t.procs[p])[n] := by
    simp only [nodeT, List.getD_eq_getElem?_getD, List.getElem?_eq_getElem hp, h1, Option.getD_some, List.getElem?_eq_getElem h2]
  rw [this]
  exact List.getElem_mem h2
theorem behind_small {n p : Nat} {L : List Nat} {a : TA} {size objs : Int} (hL : ∀ x ∈ L, x < 256) (h : taB size objs a = true) (hs : size ≤ 60) : ∀ x ∈ behindN n L p a, x < 256 := by
  obtain ⟨_, hset, _, hto, _⟩ := taB_parts h
  have h1 : ∀ x ∈ L.set (n + p) a.to.toNat, x < 256 := fun x hx => by
    rcases List.mem_or_eq_of_mem_set hx with h | h
    · exact hL x h
    · omega
  intro x hx
  rw [behindN] at hx
  split at hx
  · rename_i hb
    rcases List.mem_or_eq_of_mem_set hx with h | h
    · exact h1 x h
    · have := hset hb; omega
  · exact h1 x hx
theorem behind_len (n p : Nat) (L : List Nat) (a : TA) : (behindN n L p a).length = L.length := by
  rw [behindN]; split <;> simp

theorem thread_fine (t : Thr) (hm : mayT t = true) : (threadSem t).Fine := by
  obtain ⟨h16, h8, _, _, hpr, _⟩ := mayT_parts hm
  refine ⟨?_, fun st m hm' => ?_⟩
  · have h1 := encs_len (firstN t) (fun n hn => by have := first_small hm n hn; omega)
    rw [firstN_len] at h1
    show (txt (encs (firstN t))).size ≤ _
    have : (txt (encs (firstN t))).size = (encs (firstN t)).length := by simp [txt, ByteArray.size]
    rw [this]
    omega
  · simp only [threadSem] at hm'
    split at hm'
    · cases hm'
    · rename_i L hL
      obtain ⟨hl, hs⟩ := nums_small hm hL
      obtain ⟨p, k, hp, hk, rfl⟩ := procsTo_mem hm'
      have hx := node_in hL hp
      obtain ⟨_, hl60, hxa⟩ := procB_parts (hpr _ (List.getElem_mem hp))
      have ha : arcT t L p k ∈ (nodeT t L p).arcs := by
        rw [arcT, List.getD_eq_getElem?_getD, List.getElem?_eq_getElem hk]
        exact List.getElem_mem hk
      have hta := (hxa _ hx).2 _ ha
      show (if (arcT t L p k).bad = 0 then txt (encs (behindN t.init.length L p (arcT t L p k))) else ⟨#[]⟩).size ≤ _
      split
      · have h1 := encs_len (behindN t.init.length L p (arcT t L p k)) (fun n hn => by have := behind_small hs hta (by omega) n hn; omega)
        rw [behind_len, hl] at h1
        have : (txt (encs (behindN t.init.length L p (arcT t L p k)))).size = (encs (behindN t.init.length L p (arcT t L p k))).length := by simp [txt, ByteArray.size]
        rw [this]
        omega
      · exact Nat.zero_le _

end Go.Proofs.YtiinmaedmkgfoaaDoor
/-
  What a process may ever do: plain.
-/
set_option linter.unusedVariables false
set_option linter.unusedSimpArgs false
namespace Go.Proofs.YtiinmaedmkgfoaaDoor

/-- All bits of one are bits of the other. -/
def Sb (a b : Nat) : Prop := ∀ i, a.testBit i = true → b.testBit i = true
theorem Sb.refl (a : Nat) : Sb a a := fun _ h => h
theorem Sb.trans {a b c : Nat} (h : Sb a b) (k : Sb b c) : Sb a c := fun i hi => k i (h i hi)
theorem Sb.orl (a b : Nat) : Sb a (a ||| b) := fun i h => by rw [Nat.testBit_or, h, Bool.true_or]
theorem Sb.orr (a b : Nat) : Sb b (a ||| b) := fun i h => by rw [Nat.testBit_or, h, Bool.or_true]
theorem Sb.or {a b c : Nat} (h : Sb a c) (k : Sb b c) : Sb (a ||| b) c := fun i hi => by
  rw [Nat.testBit_or, Bool.or_eq_true] at hi
  exact hi.elim (h i) (k i)
theorem Sb.zero (b : Nat) : Sb 0 b := fun i h => by simp at h

theorem and_pred_bit {x n : Nat} (hx : x < 18446744073709551616) (h : x ≠ 0) (hn : n ≠ Lib.ctz 64 x) (hb : x.testBit n = true) : (x &&& (x - 1)).testBit n = true := by
  obtain ⟨m, hm, hk⟩ := Lib.ctzFrom_spec 64 x (by omega) hx
  have e : Lib.ctz 64 x = Lib.ctzFrom 64 x := by simp [Lib.ctz, h]
  rw [← e] at hm
  generalize Lib.ctz 64 x = c at *
  rw [Nat.testBit_and, hb, Bool.true_and]
  rcases Nat.lt_or_gt_of_ne hn with hlt | hgt
  · rw [hm, Nat.testBit_two_pow_mul, decide_eq_false (by omega)] at hb
    cases hb
  · have hp := Nat.two_pow_pos c
    have e1 : m * 2 ^ (c + 1) = 2 * (2 ^ c * m) := by rw [Nat.pow_succ, ← Nat.mul_assoc, Nat.mul_comm (m * 2 ^ c) 2, Nat.mul_comm m]
    have e2 : (m + 1) * 2 ^ (c + 1) = 2 * (2 ^ c * m) + 2 * 2 ^ c := by rw [Nat.add_mul, e1, Nat.one_mul, Nat.pow_succ, Nat.mul_comm (2 ^ c) 2]
    have e3 : x = 2 * (2 ^ c * m) + 2 ^ c := by rw [hm, Nat.mul_add, Nat.mul_one, Nat.mul_left_comm]
    have h1 : x / 2 ^ (c + 1) = m := Nat.div_eq_of_lt_le (by omega) (by omega)
    have h2 : (x - 1) / 2 ^ (c + 1) = m := Nat.div_eq_of_lt_le (by omega) (by omega)
    have h3 : ∀ y : Nat, y.testBit n = (y / 2 ^ (c + 1)).testBit (n - (c + 1)) := fun y => by
      rw [Nat.testBit_div_two_pow]
      congr 1
      omega
    rw [h3, h2, ← h1, ← h3]
    exact hb
theorem bitsOf_has : ∀ {x : Nat}, x < 18446744073709551616 → ∀ n, x.testBit n = true → n ∈ bitsOf x := by
  intro x
  induction x using Nat.strongRecOn with
  | _ x ih =>
    intro hx n hn
    by_cases h : x = 0
    · rw [h] at hn; simp at hn
    · rw [bitsOf_step h]
      by_cases hc : n = Lib.ctz 64 x
      · rw [hc]; exact List.mem_cons_self
      · exact List.mem_cons_of_mem _ (ih _ (and_pred_lt h) (Nat.lt_of_lt_of_le (and_pred_lt h) (by omega)) n (and_pred_bit hx h hc hn))
theorem bitsOf_sub {a b : Nat} (ha : a < 18446744073709551616) (hb : b < 18446744073709551616) (h : Sb a b) : ∀ n ∈ bitsOf a, n ∈ bitsOf b := fun n hn => bitsOf_has hb n (h n (bitsOf_mem ha n hn).1)

/-- What one does the other does too. -/
def Ft.Le (f g : Ft) : Prop := Sb f.r g.r ∧ Sb f.w g.w ∧ Sb f.t g.t
theorem Ft.Le.refl (f : Ft) : f.Le f := ⟨Sb.refl _, Sb.refl _, Sb.refl _⟩
theorem Ft.Le.trans {f g h : Ft} (a : f.Le g) (b : g.Le h) : f.Le h := ⟨a.1.trans b.1, a.2.1.trans b.2.1, a.2.2.trans b.2.2⟩
theorem Ft.le_l (f g : Ft) : f.Le (f.join g) := ⟨Sb.orl _ _, Sb.orl _ _, Sb.orl _ _⟩
theorem Ft.le_r (f g : Ft) : g.Le (f.join g) := ⟨Sb.orr _ _, Sb.orr _ _, Sb.orr _ _⟩
theorem Ft.Le.join {f g h : Ft} (a : f.Le h) (b : g.Le h) : (f.join g).Le h := ⟨a.1.or b.1, a.2.1.or b.2.1, a.2.2.or b.2.2⟩
theorem joinAll_ge {fs : List Ft} {f : Ft} (h : f ∈ fs) : f.Le (joinAll fs) := by
  have key : ∀ (fs : List Ft) (a : Ft), a.Le (fs.foldl Ft.join a) ∧ ∀ f ∈ fs, f.Le (fs.foldl Ft.join a) := by
    intro fs
    induction fs with
    | nil => exact fun a => ⟨Ft.Le.refl a, fun f hf => absurd hf (by simp)⟩
    | cons g r ih =>
      intro a
      obtain ⟨h1, h2⟩ := ih (a.join g)
      refine ⟨(Ft.le_l a g).trans h1, fun f hf => ?_⟩
      rcases List.mem_cons.1 hf with rfl | hf
      · exact (Ft.le_r a f).trans h1
      · exact h2 f hf
  exact (key fs ft0).2 f h
theorem joinAll_le {fs : List Ft} {g : Ft} (h : ∀ f ∈ fs, f.Le g) : (joinAll fs).Le g := by
  have key : ∀ (fs : List Ft) (a : Ft), a.Le g → (∀ f ∈ fs, f.Le g) → (fs.foldl Ft.join a).Le g := by
    intro fs
    induction fs with
    | nil => exact fun a ha _ => ha
    | cons f r ih => exact fun a ha hf => ih _ (ha.join (hf f (by simp))) (fun g hg => hf g (by simp [hg]))
  exact key fs ft0 ⟨Sb.zero _, Sb.zero _, Sb.zero _⟩ h

/-! Ways over the nodes. -/
def B (L : List Nat) (i j : Nat) : Prop := (L.getD i 0).testBit j = true
theorem getDs (L : List Nat) (i k x : Nat) : (L.set i x).getD k 0 = if k = i ∧ i < L.length then x else L.getD k 0 := by
  rw [List.getD_eq_getElem?_getD, List.getD_eq_getElem?_getD, List.getElem?_set]
  by_cases h : i = k
  · subst h
    by_cases hl : i < L.length
    · simp [hl]
    · simp [hl, List.getElem?_eq_none (Nat.le_of_not_lt hl)]
  · rw [if_neg h, if_neg (fun e => h e.1.symm)]
theorem wrow_get (L : List Nat) (v : Nat) : ∀ n, n ≤ L.length → ∀ i, (wrow L v n).getD i 0 = if i < n ∧ (L.getD i 0).testBit v = true then L.getD i 0 ||| L.getD v 0 else L.getD i 0
  | 0, _, i => by simp [wrow]
  | n + 1, hn, i => by
    have ih := wrow_get L v n (by omega)
    have hv : (wrow L v n).getD v 0 = L.getD v 0 := by
      rw [ih v]
      split
      · exact Nat.or_self _
      · rfl
    have hnn : (wrow L v n).getD n 0 = L.getD n 0 := by rw [ih n, if_neg (by omega)]
    rw [wrow, wstep, hnn, hv]
    by_cases hb : (L.getD n 0).testBit v = true
    · rw [if_pos hb, getDs, wrow_len]
      by_cases hi : i = n
      · subst hi
        rw [if_pos ⟨rfl, by omega⟩, if_pos ⟨by omega, hb⟩]
      · rw [if_neg (fun e => hi e.1), ih i]
        by_cases h1 : i < n
        · simp only [h1, true_and, show i < n + 1 by omega]
        · rw [if_neg (fun e => h1 e.1), if_neg (fun e => hi (by omega))]
    · rw [if_neg hb, ih i]
      by_cases hi : i = n
      · subst hi
        rw [if_neg (by omega), if_neg (fun e => hb e.2)]
      · by_cases h1 : i < n
        · simp only [h1, true_and, show i < n + 1 by omega]
        · rw [if_neg (fun e => h1 e.1), if_neg (fun e => hi (by omega))]
theorem row_bit {L : List Nat} {v i j : Nat} : B (wrow L v L.length) i j ↔ B L i j ∨ (B L i v ∧ B L v j) := by
  unfold B
  rw [wrow_get L v _ (Nat.le_refl _) i]
  have h0 : ¬ i < L.length → L.getD i 0 = 0 := fun hi => by rw [List.getD_eq_getElem?_getD, List.getElem?_eq_none (by omega)]; rfl
  generalize L.getD i 0 = x at *
  generalize L.getD v 0 = y at *
  by_cases hi : i < L.length
  · by_cases hb : x.testBit v = true
    · rw [if_pos ⟨hi, hb⟩, Nat.testBit_or, Bool.or_eq_true]
      simp [hb]
    · rw [if_neg (fun e => hb e.2)]
      simp [hb]
  · rw [if_neg (fun e => hi e.1)]
    simp [h0 hi]
theorem wall_closed (L : List Nat) : ∀ v, v ≤ L.length → (∀ i j, B L i j → B (wall L v) i j) ∧ ∀ k, k < v → ∀ i j, B (wall L v) i k → B (wall L v) k j → B (wall L v) i j
  | 0, _ => ⟨fun i j h => h, fun k hk => absurd hk (by omega)⟩
  | v + 1, hv => by
    obtain ⟨h1, h2⟩ := wall_closed L v (by omega)
    have e : ∀ i j, B (wall L (v + 1)) i j ↔ B (wall L v) i j ∨ (B (wall L v) i v ∧ B (wall L v) v j) := fun i j => by
      have := row_bit (L := wall L v) (v := v) (i := i) (j := j)
      rw [wall_len] at this
      exact this
    refine ⟨fun i j h => (e i j).2 (.inl (h1 i j h)), fun k hk i j hik hkj => ?_⟩
    rw [e] at hik hkj ⊢
    by_cases hkv : k = v
    · subst hkv
      have a : B (wall L k) i k := hik.elim id (fun h => h.1)
      have b : B (wall L k) k j := hkj.elim id (fun h => h.2)
      exact .inr ⟨a, b⟩
    · have hlt : k < v := by omega
      rcases hik with a | ⟨a, a'⟩
      · rcases hkj with b | ⟨b, b'⟩
        · exact .inl (h2 k hlt i j a b)
        · exact .inr ⟨h2 k hlt i v a b, b'⟩
      · rcases hkj with b | ⟨b, b'⟩
        · exact .inr ⟨a, h2 k hlt v j a' b⟩
        · exact .inr ⟨a, b'⟩

theorem leadTo_self (x : TN) (i : Nat) : ∀ k, (leadTo x i k).testBit i = true
  | 0 => by simp [leadTo]
  | k + 1 => by
    have ih := leadTo_self x i k
    unfold leadTo
    split
    · split
      · rw [Nat.testBit_or, ih, Bool.true_or]
      · exact ih
    · exact ih
theorem leadTo_arc (x : TN) (i : Nat) {j : Nat} {a : TA} (ha : x.arcs[j]? = some a) (hb : a.bad = 0) : ∀ k, j < k → (leadTo x i k).testBit a.to.toNat = true
  | 0, h => absurd h (by omega)
  | k + 1, h => by
    unfold leadTo
    by_cases hjk : j = k
    · subst hjk
      simp [ha, hb]
    · have ih := leadTo_arc x i ha hb k (by omega)
      split
      · split
        · rw [Nat.testBit_or, ih, Bool.true_or]
        · exact ih
      · exact ih
theorem lead0_get {l : List TN} {i : Nat} {x : TN} (h : l[i]? = some x) : (lead0 l).getD i 0 = leadTo x i x.arcs.length := by
  have hi := (List.getElem?_eq_some_iff.1 h).1
  rw [lead0, List.getD_eq_getElem?_getD, List.getElem?_map, List.getElem?_eq_getElem (by simpa using hi)]
  simp [leadF, h]
theorem leads_self {l : List TN} {i : Nat} (h : i < l.length) : B (leadsN l) i i := by
  refine (wall_closed (lead0 l) l.length (by rw [lead0_len]; exact Nat.le_refl _)).1 i i ?_
  unfold B
  rw [lead0_get (List.getElem?_eq_getElem h)]
  exact leadTo_self _ _ _
theorem leads_arc {l : List TN} {i j : Nat} {x : TN} {a : TA} (h : l[i]? = some x) (ha : x.arcs[j]? = some a) (hb : a.bad = 0) : B (leadsN l) i a.to.toNat := by
  refine (wall_closed (lead0 l) l.length (by rw [lead0_len]; exact Nat.le_refl _)).1 i _ ?_
  unfold B
  rw [lead0_get h]
  exact leadTo_arc x i ha hb _ (List.getElem?_eq_some_iff.1 ha).1
theorem leads_trans {l : List TN} {i k : Nat} (hk : k < l.length) (h : B (leadsN l) i k) : Sb ((leadsN l).getD k 0) ((leadsN l).getD i 0) := fun j hj =>
  (wall_closed (lead0 l) l.length (by rw [lead0_len]; exact Nat.le_refl _)).2 k hk i j h hj

/-! What a process does here, and ever. -/
def hereT (t : Thr) (p i : Nat) : Ft := (hereN (t.procs.getD p []) t.props).getD i ft0
def everT (t : Thr) (p i : Nat) : Ft := (everN (t.procs.getD p []) t.props).getD i ft0
theorem here_get {l : List TN} {ps : List (Int × Int)} {i : Nat} {x : TN} (h : l[i]? = some x) : (hereN l ps).getD i ft0 = joinAll (arcsF l ps x) := by
  rw [hereN, List.getD_eq_getElem?_getD, List.getElem?_map, h]
  rfl
theorem ever_get {l : List TN} {ps : List (Int × Int)} {i : Nat} (h : i < l.length) : (everN l ps).getD i ft0 = everF (hereN l ps) ((leadsN l).getD i 0) := by
  have h' : i < (leadsN l).length := by rw [leadsN_len]; exact h
  rw [everN, List.getD_eq_getElem?_getD, List.getElem?_map, List.getElem?_eq_getElem h', List.getD_eq_getElem?_getD, List.getElem?_eq_getElem h']
  rfl
theorem arc_here {l : List TN} {ps : List (Int × Int)} {i k : Nat} {x : TN} {a : TA} (h : l[i]? = some x) (ha : x.arcs[k]? = some a) : (footN ps x (l.getD a.to.toNat default) a).Le ((hereN l ps).getD i ft0) := by
  rw [here_get h]
  exact joinAll_ge (List.mem_map.2 ⟨a, List.mem_of_getElem? ha, rfl⟩)
theorem lead_small {l : List TN} (hl : l.length ≤ 60) (hx : ∀ x ∈ l, ∀ a ∈ x.arcs, 0 ≤ a.to ∧ a.to < (l.length : Int)) (i : Nat) : (leadsN l).getD i 0 < 18446744073709551616 :=
  Nat.lt_of_lt_of_le ((leadsN_lt hx).get i) (Nat.le_trans (Nat.pow_le_pow_right (by decide) hl) (by decide))
theorem here_ever {l : List TN} {ps : List (Int × Int)} {i : Nat} (hl : l.length ≤ 60) (hx : ∀ x ∈ l, ∀ a ∈ x.arcs, 0 ≤ a.to ∧ a.to < (l.length : Int)) (h : i < l.length) : ((hereN l ps).getD i ft0).Le ((everN l ps).getD i ft0) := by
  rw [ever_get h]
  exact joinAll_ge (List.mem_map.2 ⟨i, bitsOf_has (lead_small hl hx i) i (leads_self h), rfl⟩)
theorem ever_mono {l : List TN} {ps : List (Int × Int)} {i k : Nat} (hl : l.length ≤ 60) (hx : ∀ x ∈ l, ∀ a ∈ x.arcs, 0 ≤ a.to ∧ a.to < (l.length : Int)) (hi : i < l.length) (hk : k < l.length) (h : B (leadsN l) i k) : ((everN l ps).getD k ft0).Le ((everN l ps).getD i ft0) := by
  rw [ever_get hi, ever_get hk]
  refine joinAll_le (fun f hf => ?_)
  obtain ⟨n, hn, rfl⟩ := List.mem_map.1 hf
  exact joinAll_ge (List.mem_map.2 ⟨n, bitsOf_sub (lead_small hl hx k) (lead_small hl hx i) (leads_trans hk h) n hn, rfl⟩)

/-! States as bytes. -/
theorem bytes_txt (l : List UInt8) : bytesOf (txt l) = l := by simp [bytesOf, txt]
theorem nums_encs : ∀ (L bs : List Nat) (pre : List UInt8), L.length = bs.length → (∀ (i n b : Nat), L[i]? = some n → bs[i]? = some b → n < b) → (∀ n ∈ L, n < 18446744073709551616) → nums (txt (pre ++ encs L)) pre.length bs = some L
  | [], [], pre, _, _, _ => by
    have : (txt (pre ++ encs [])).size = pre.length := by simp [txt, ByteArray.size, encs]
    simp [nums, this]
  | n :: L, b :: bs, pre, hl, hb, hs => by
    have hn := hb 0 n b rfl rfl
    have hd : numAt (txt (pre ++ encs (n :: L))) pre.length = (n, (encU n).length, 0) := by
      unfold numAt decU
      rw [bytes_txt, List.drop_left]
      have := dec_enc (encs L) n 0 0 (by omega) (by have := hs n (by simp); omega) (by omega)
      simpa [encs] using this
    rw [nums, hd]
    have ih := nums_encs L bs (pre ++ encU n) (by simpa using hl) (fun i m c hm hc => hb (i + 1) m c hm hc) (fun m hm => hs m (by simp [hm]))
    have e : pre ++ encU n ++ encs L = pre ++ encs (n :: L) := by simp [encs]
    rw [e, List.length_append] at ih
    rw [if_pos ⟨rfl, hn⟩]
    show Option.map _ (nums _ (pre.length + (encU n).length) bs) = _
    rw [ih]
    rfl
  | [], b :: bs, pre, hl, _, _ => by simp at hl
  | n :: L, [], pre, hl, _, _ => by simp at hl

/-- Numbers that are a state's. -/
structure Okay (t : Thr) (L : List Nat) : Prop where
  len : L.length = (boundsN t).length
  lt : ∀ (i n b : Nat), L[i]? = some n → (boundsN t)[i]? = some b → n < b
theorem Okay.nums {t : Thr} {L : List Nat} (hm : mayT t = true) (h : Okay t L) : nums (txt (encs L)) 0 (boundsN t) = some L := by
  have := nums_encs L (boundsN t) [] h.len h.lt (fun n hn => by
    obtain ⟨i, hi, rfl⟩ := List.mem_iff_getElem.1 hn
    have hib : i < (boundsN t).length := by rw [← h.len]; exact hi
    have h1 := h.lt i _ _ (List.getElem?_eq_getElem hi) (List.getElem?_eq_getElem hib)
    have h2 := bounds_le hm _ (List.getElem_mem hib)
    omega)
  simpa using this
theorem first_okay {t : Thr} (hm : mayT t = true) : Okay t (firstN t) := by
  refine ⟨by rw [firstN_len, boundsN_len], fun i n b hn hb => ?_⟩
  rcases Nat.lt_or_ge i t.init.length with hi | hi
  · have hs := first_small hm n (List.mem_of_getElem? hn)
    rw [boundsN, List.getElem?_append_left (by simpa using hi), List.getElem?_replicate, if_pos hi] at hb
    cases hb
    exact hs
  · rw [firstN, List.getElem?_append_right (by simpa using hi)] at hn
    have := List.getElem?_replicate (n := t.procs.length) (a := 0) (i := i - (t.init.map Int.toNat).length)
    rw [hn] at this
    split at this
    · cases this
      rw [boundsN, List.getElem?_append_right (by simpa using hi), List.getElem?_map] at hb
      obtain ⟨l, hl, rfl⟩ := Option.map_eq_some_iff.1 hb
      obtain ⟨_, _, _, _, hpr, _⟩ := mayT_parts hm
      exact (procB_parts (hpr l (List.mem_of_getElem? hl))).1
    · cases this

end Go.Proofs.YtiinmaedmkgfoaaDoor
