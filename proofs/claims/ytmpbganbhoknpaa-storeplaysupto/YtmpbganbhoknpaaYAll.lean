/-
  What the statements' all does: it ranges over the store twice.
-/
import Derived.Test.YtmpbganbhoknpaaYNoth
import Derived.Test.YtmpbganbhoknpaaYRefPut
namespace Go.Proofs.Ytmpbganbhoknpaa
open Go.RowKit Go.Shelf
attribute [local go_sem] Oper.semAt_some

/-- The four boxes of all. -/
structure AB (w W : World) (vo : Option Addr) (vc : Nat) (L : List ByteArray) (early : Int) (k : Nat) : Prop where
  wb : W.heap[w.heap.size]? = some (.cells #[.slice vo L.length vc] 39 (0, 0))
  eb : W.heap[w.heap.size + 1]? = some (.cells #[.int .i64 early] 3 (0, 0))
  res : W.heap[w.heap.size + 1 + 1]? = some (.cells #[.bool false] 4 (0, 0))
  kb : W.heap[w.heap.size + 1 + 1 + 1]? = some (.cells #[.int .i64 (k : Int)] 3 (0, 0))
  bel : Below w.heap.size w W

theorem AB.below {w W W' : World} {vo : Option Addr} {vc : Nat} {L : List ByteArray} {early : Int} {k B : Nat} (h : AB w W vo vc L early k) (hb : Below B W W') (hB : w.heap.size + 4 ≤ B) : AB w W' vo vc L early k :=
  ⟨(hb.block _ (by omega)).trans h.wb, (hb.block _ (by omega)).trans h.eb, (hb.block _ (by omega)).trans h.res, (hb.block _ (by omega)).trans h.kb, h.bel.trans (hb.mono (by omega))⟩

theorem ab_new (w : World) (vo : Option Addr) (vc : Nat) (L : List ByteArray) (early : Int) : AB w ((((w.alloc (.cells #[.slice vo L.length vc] 39)).alloc (.cells #[.int .i64 early] 3)).alloc (.cells #[.bool false] 4)).alloc (.cells #[.int .i64 0] 3)) vo vc L early 0 := by
  have a0 := heap_alloc_new w (.cells #[.slice vo L.length vc] 39)
  have a1 := heap_alloc_new (w.alloc (.cells #[.slice vo L.length vc] 39)) (.cells #[.int .i64 early] 3)
  have a2 := heap_alloc_new ((w.alloc (.cells #[.slice vo L.length vc] 39)).alloc (.cells #[.int .i64 early] 3)) (.cells #[.bool false] 4)
  have a3 := heap_alloc_new (((w.alloc (.cells #[.slice vo L.length vc] 39)).alloc (.cells #[.int .i64 early] 3)).alloc (.cells #[.bool false] 4)) (.cells #[.int .i64 0] 3)
  simp only [World.size_alloc] at a1 a2 a3
  have k (W : World) (o : Obj) := Kept.alloc [] W o
  exact ⟨(k _ _).heap ((k _ _).heap ((k _ _).heap a0 (by simp)) (by simp)) (by simp), (k _ _).heap ((k _ _).heap a1 (by simp)) (by simp), (k _ _).heap a2 (by simp), a3,
    ((((Below.refl _ w).alloc (Nat.le_refl _) _).alloc (by simp) _).alloc (by simp; omega) _).alloc (by simp; omega) _⟩

theorem AB.step {w W : World} {vo : Option Addr} {vc : Nat} {L : List ByteArray} {early : Int} {k : Nat} (h : AB w W vo vc L early k) : AB w (W.setCell ⟨w.heap.size + 1 + 1 + 1, 0, none⟩ (.int .i64 ((k : Int) + 1))) vo vc L early (k + 1) := by
  have hk := Kept.setCell W ⟨w.heap.size + 1 + 1 + 1, 0, none⟩ (.int .i64 ((k : Int) + 1))
  refine ⟨hk.heap h.wb (by simp; omega), hk.heap h.eb (by simp), hk.heap h.res (by simp), ?_, h.bel.setCell (p := ⟨w.heap.size + 1 + 1 + 1, 0, none⟩) (by show _ ≤ w.heap.size + 1 + 1 + 1; omega) _⟩
  rw [setCell_blk h.kb]
  rfl
theorem AB.reset {w W : World} {vo : Option Addr} {vc : Nat} {L : List ByteArray} {early : Int} {k : Nat} (h : AB w W vo vc L early k) : AB w (W.setCell ⟨w.heap.size + 1 + 1 + 1, 0, none⟩ (.int .i64 0)) vo vc L early 0 := by
  have hk := Kept.setCell W ⟨w.heap.size + 1 + 1 + 1, 0, none⟩ (.int .i64 0)
  refine ⟨hk.heap h.wb (by simp; omega), hk.heap h.eb (by simp), hk.heap h.res (by simp), ?_, h.bel.setCell (p := ⟨w.heap.size + 1 + 1 + 1, 0, none⟩) (by show _ ≤ w.heap.size + 1 + 1 + 1; omega) _⟩
  rw [setCell_blk h.kb]
  rfl

theorem AB.grown {w W W' : World} {vo : Option Addr} {vc : Nat} {L : List ByteArray} {early : Int} {k B : Nat} {row : Option Nat} (h : AB w W vo vc L early k) (hg : W.grownBy W' row) (hr : ∀ r, row = some r → B ≤ r) (hB : w.heap.size + 4 ≤ B) : AB w W' vo vc L early k := by
  have hk := Kept.grown hg
  have hn : ∀ x, x < B → x ∉ row.toList := fun x hx hm => by
    cases row with
    | none => simp at hm
    | some y => simp at hm; subst hm; have := hr x rfl; omega
  exact ⟨hk.heap h.wb (hn _ (by omega)), hk.heap h.eb (hn _ (by omega)), hk.heap h.res (hn _ (by omega)), hk.heap h.kb (hn _ (by omega)), h.bel.grown hg h.bel.size (fun k e => by have := hr k e; omega)⟩

theorem own_ab {w : World} {vo : Option Addr} {vc : Nat} {L : List ByteArray} {early : Int} {B : Nat} {ds : List Nat} (hB : w.heap.size + 4 ≤ B) (hd : ∀ D ∈ ds, D < B) :
    OwnFrom B (fun (pre : List (Nat × ByteArray)) W => ∃ k : Nat, k ≤ L.length ∧ AB w W vo vc L early k ∧ (pre <+: enumS L → k = pre.length) ∧ ∀ E ∈ ds, W.heap[E]? = some (.deferred (some []))) := by
  rintro pre W W' row ⟨k, hk, hab, hp, hm⟩ hg hr
  refine ⟨k, hk, hab.grown hg (fun r e => (hr r e).1) hB, hp, fun E hE => ?_⟩
  refine (Kept.grown hg).heap (hm E hE) (fun hx => ?_)
  cases row with
  | none => simp at hx
  | some y => simp at hx; subst hx; have := (hr E rfl).1; have := hd E hE; omega

theorem own_abx {w : World} {vo : Option Addr} {vc : Nat} {L : List ByteArray} {early : Int} {B : Nat} {c : Code} (hB : w.heap.size + 4 ≤ B) :
    OwnFrom B (fun (pre : List (Nat × ByteArray)) W => (c = Code.ret ∧ ¬ pre <+: enumS L) ∨ (c = Code.exit 0 ∧ ∃ k : Nat, AB w W vo vc L early k)) := by
  rintro pre W W' row (h | ⟨h1, k, hab⟩) hg hr
  · exact .inl h
  · exact .inr ⟨h1, k, hab.grown hg (fun r e => (hr r e).1) hB⟩

theorem keepF_trans {F : Nat → Prop} {A B C : World} (h : KeepF F A B) (k : KeepF F B C) : KeepF F A C := ⟨Nat.le_trans h.1 k.1, fun x hx => (k.2 x hx).trans (h.2 x hx)⟩
theorem keepF_set {F : Nat → Prop} {g : Nat} (hF : ∀ x, F x → x ≠ g) (W : World) (o : Nat) (v : Value) : KeepF F W (W.setCell ⟨g, o, none⟩ v) :=
  ⟨by simp [World.setCell], fun x hx => Below.heap_setCell _ _ _ _ (by show x ≠ g; exact hF x hx)⟩
theorem keepF_put {F : Nat → Prop} {H : Nat} (hF : ∀ x, F x → x < H) (W : World) (l : Nat) (hl : H ≤ l) (o : Obj) : KeepF F W (W.putObj l o) :=
  ⟨by simp, fun x hx => World.putObj_heap_other (by have := hF x hx; omega)⟩

theorem enum_len (L : List ByteArray) : (enumS L).length = L.length := by simp [enumS]
theorem enum_get {L : List ByteArray} {k : Nat} {s : ByteArray} (h : L[k]? = some s) : (enumS L)[k]? = some (k, s) := by
  obtain ⟨hk, he⟩ := List.getElem?_eq_some_iff.1 h
  unfold enumS
  rw [List.getElem?_zip_eq_some]
  exact ⟨by rw [List.getElem?_range hk], h⟩
theorem enum_lt {L : List ByteArray} {pre : List (Nat × ByteArray)} {x : Nat × ByteArray} {k : Nat} (hp : pre ++ [x] <+: enumS L) (hk : pre <+: enumS L → k = pre.length) : k < L.length := by
  have h1 := hp.length_le
  rw [enum_len, List.length_append] at h1
  rw [hk ((List.prefix_append _ _).trans hp)]
  simp at h1
  omega
theorem enum_at {L : List ByteArray} {pre : List (Nat × ByteArray)} {x : Nat × ByteArray} {k : Nat} {s : ByteArray} (hp : pre ++ [x] <+: enumS L) (hk : pre <+: enumS L → k = pre.length) (hs : L[k]? = some s) : x.1 = k ∧ x.2 = s := by
  have hkl := hk ((List.prefix_append _ _).trans hp)
  obtain ⟨t, ht⟩ := hp
  have h1 : (enumS L)[k]? = some x := by rw [← ht, hkl]; simp
  rw [enum_get hs] at h1
  have := Option.some.inj h1
  exact ⟨by rw [← this], by rw [← this]⟩

theorem y_getD (F : Fence) (n : Nat) {fn : Func} {T : Array Value} {w : World} {H : Nat} (hfn : fn.results = #[.cell 6 4]) (hT : T[6]?.getD undef = .pointer (some ⟨H, 0, none⟩)) :
    ∀ (ds : List Nat) (W : World), (∀ D ∈ ds, w.heap.size ≤ D ∧ W.heap[D]? = some (.deferred (some []))) → ds.Nodup → W.cell? ⟨H, 0, none⟩ = some (.bool true) → Below w.heap.size w W →
      LeavesInM F n Try.prog fn T (fun e w' => e = .returned (.bool true) ∧ Below w.heap.size w w') (ds.map fun D => { target := Target.collected D, args := #[] }) .returning W
  | [], W, _, _, hc, hb => by
    refine ⟨.bool true, ?_, rfl, hb⟩
    simp only [results, hfn]
    simp [hT, go_sem, hc]
  | D :: ds, W, hd, hnd, hc, hb => by
    obtain ⟨h1, h2⟩ := hd D (by simp)
    obtain ⟨h3, h4⟩ := List.nodup_cons.1 hnd
    refine ⟨by simp, .inl ⟨D, _, rfl, run_takeDeferred h2, ?_⟩⟩
    refine y_getD F n hfn hT ds _ (fun E hE => ?_) h4 (cell_kept hc (grownBy_putObj' _ D (.deferred none)) (fun r e => by cases e; exact ⟨_, h2, rfl⟩)) (hb.trans (belowK_b (w := w) (Nat.le_refl _) _ D _ _ h1 h2 rfl rfl))
    obtain ⟨h5, h6⟩ := hd E (by simp [hE])
    exact ⟨h5, (World.putObj_heap_other (fun e => h3 (by subst e; exact hE))).trans h6⟩

set_option maxHeartbeats 4000000 in
set_option maxRecDepth 100000 in
theorem allOf_any {St} {gf} (HC : SCons St) (HA : ACons St gf) (w : World) (F : Nat → Prop) (b : Nat) (L : List ByteArray) (S R : Nat) (vo : Option Addr) (vc : Nat) (early : Int) (hst : St F w b L S R) (hf : Fine S R L) (hl : L.length ≤ 4000) (hbl : bytesIn L ≤ 140737488355328)
    (hw : ∀ i s, L[i]? = some s → ∃ gv, vo = some ⟨gv, 0, none⟩ ∧ w.cell? ⟨gv, i, none⟩ = some (.string s)) :
    Calls Try.prog 20 #[.pointer (some ⟨b, 0, none⟩), .slice vo L.length vc, .int .i64 early] w fun e w' => e = .returned (.bool true) ∧ Below w.heap.size w w' := by
  refine (callsIn_wide (n := 5)).1 ?_
  refine callsIn_of_wp_marks Try.func20 rfl trivial ?_ rfl
  simp only [Try.ntmps20, List.size_toArray, List.length_cons, List.length_nil, Nat.reduceAdd, Nat.reduceSub, Array.replicate_succ, Array.replicate_zero, List.push_toArray, List.append_toArray, List.nil_append, List.cons_append]
  have HW : Hid (∀ i s, L[i]? = some s → ∃ gv, vo = some ⟨gv, 0, none⟩ ∧ w.cell? ⟨gv, i, none⟩ = some (.string s)) := hw
  have HS : Hid (St F w b L S R ∧ Fine S R L) := ⟨hst, hf⟩
  have HLT : Hid (∀ x, F x → x < w.heap.size) := HC.lt _ _ _ _ _ _ hst
  clear hw hst hf
  have HB0 : Hid (AB w ((((w.alloc (.cells #[.slice vo L.length vc] 39)).alloc (.cells #[.int .i64 early] 3)).alloc (.cells #[.bool false] 4)).alloc (.cells #[.int .i64 0] 3)) vo vc L early 0) := ab_new w vo vc L early
  have HZ0 : Hid (((((w.alloc (.cells #[.slice vo L.length vc] 39)).alloc (.cells #[.int .i64 early] 3)).alloc (.cells #[.bool false] 4)).alloc (.cells #[.int .i64 0] 3)).heap.size = w.heap.size + 4) := by show _ = _; simp
  gi_wp2
  generalize (((w.alloc (.cells #[.slice vo L.length vc] 39)).alloc (.cells #[.int .i64 early] 3)).alloc (.cells #[.bool false] 4)).alloc (.cells #[.int .i64 0] 3) = W0 at *
  refine ⟨trivial, ?_⟩
  have HS0 : Hid (St F W0 b L S R) := HC.frame _ _ _ _ _ _ _ HS.out.1 (keepF_of_below HB0.out.bel (HC.lt _ _ _ _ _ _ HS.out.1))
  refine (callsIn_wide.2 (HA.all W0 F b L S R HS0.out HS.out.2 hl hbl)).mono ?_
  rintro e w1 ⟨lb, G, rfl, hk1, hG, hseq⟩
  have HG1 : Hid ((∀ x, G x → x ≠ w.heap.size + 1 + 1 + 1) ∧ ∀ x, G x → x < w1.heap.size) := ⟨fun x hx => by
    have := HZ0.out
    rcases (hG x hx).1 with h | h
    · have := HLT.out x h; omega
    · omega, fun x hx => (hG x hx).2⟩
  have HB1 : Hid (AB w w1 vo vc L early 0) := HB0.out.below hk1 (by have := HZ0.out; omega)
  have HZ1 : Hid (w.heap.size + 4 ≤ w1.heap.size) := by have := HZ0.out; have := hk1.size; show _ ≤ _; omega
  clear hk1 HB0 HZ0
  gi_wp2
  refine wpIn_rangeFunc_ownF (F := Fence.wide) rfl (by omega) (gf := gf) (lb := lb) rfl trivial HA.enters (hseq 4 (by omega)) (fun h k => keepF_trans h k) (fun W l o o' hl _ _ _ => keepF_put (HG1.out.2) W l hl o') (Below.refl _ _) (fun _ => rfl)
    (fun pre W => ∃ k : Nat, k ≤ L.length ∧ AB w W vo vc L early k ∧ (pre <+: enumS L → k = pre.length) ∧ ∀ E ∈ ([] : List Nat), W.heap[E]? = some (.deferred (some [])))
    (fun c pre W => (c = Code.ret ∧ ¬ pre <+: enumS L) ∨ (c = Code.exit 0 ∧ ∃ k : Nat, AB w W vo vc L early k))
    (own_ab (by have := HZ1.out; omega) (by simp)) (fun c => own_abx (by have := HZ1.out; omega)) ⟨0, Nat.zero_le _, HB1.out, fun _ => rfl, by simp⟩
    (fun x => { tmps := #[.pointer (some ⟨b, 0, none⟩), .slice vo L.length vc, .int .i64 early, undef, .pointer (some ⟨w.heap.size, 0, none⟩), .pointer (some ⟨w.heap.size + 1, 0, none⟩), .pointer (some ⟨w.heap.size + 1 + 1, 0, none⟩), .pointer (some ⟨w.heap.size + 1 + 1 + 1, 0, none⟩), .int .i64 (x.1 : Int), .string x.2, undef, undef, .pointer (some ⟨b, 0, none⟩), .func (.func gf) #[] lb, .int .i64 (x.1 : Int), .string x.2, undef, undef, undef, undef, undef, undef, undef, undef, undef, undef, undef, undef, undef, undef, undef, undef, undef, undef, undef, undef, undef, undef, undef, undef, undef, undef, undef, undef, undef, undef, undef, undef, undef, undef, undef, undef, undef, undef, undef, undef, undef, undef, undef, undef, undef, undef, undef, undef, undef], defers := [] }) ?assign ?body ?done ?stop
  case assign =>
    intro l x W K hK
    simp only [encP]
    gi_wp2
    exact hK
  case body =>
    rintro l pre x W ⟨k, hk, hab, hpk, hmk⟩ _
    have ck := Boxed.cell hab.kb
    have fk := Boxed.frozen hab.kb
    have cw := Boxed.cell hab.wb
    have ce := Boxed.cell hab.eb
    have cr := Boxed.cell hab.res
    have fr := Boxed.frozen hab.res
    have HAB : Hid (AB w W vo vc L early k) := hab
    have HPK : Hid (pre <+: enumS L → k = pre.length) := hpk
    have HMK : Hid (∀ E ∈ ([] : List Nat), W.heap[E]? = some (.deferred (some []))) := hmk
    have HKF : Hid (∀ v o, KeepF G W (W.setCell ⟨w.heap.size + 1 + 1 + 1, o, none⟩ v)) := fun v o => keepF_set (HG1.out.1) W o v
    clear hab hpk hmk
    have hl' : (L.length : Int) ≤ 4000 := by omega
    by_cases hlt : k < L.length
    case neg =>
      have hge : (L.length : Int) ≤ (k : Int) := by omega
      have HN : Hid (¬ pre ++ [x] <+: enumS L) := fun hp => hlt (enum_lt hp HPK.out)
      clear hlt
      gi_wp2
      exact ⟨KeepsOthers.setCell _ _ _, .inl ⟨rfl, HN.out⟩⟩
    have hlt' : (k : Int) < (L.length : Int) := by omega
    obtain ⟨s, hs⟩ : ∃ s, L[k]? = some s := ⟨_, List.getElem?_eq_getElem hlt⟩
    obtain ⟨gv, rfl, cs0⟩ := HW.out k s hs
    have cs : W.cell? ⟨gv, k, none⟩ = some (.string s) := (HAB.out.bel.cell (p := ⟨gv, k, none⟩) (World.block_lt_of_cell? w _ cs0)).trans cs0
    have HLS : Hid (L[k]? = some s) := hs
    have HKL : Hid (k < L.length) := hlt
    clear hs cs0 hlt
    by_cases hx1 : x.1 = k
    case neg =>
      have hx1' : ¬ (x.1 : Int) = (k : Int) := by omega
      have HN : Hid (¬ pre ++ [x] <+: enumS L) := fun hp => hx1 (enum_at hp HPK.out HLS.out).1
      clear hx1
      gi_wp2
      exact ⟨KeepsOthers.setCell _ _ _, .inl ⟨rfl, HN.out⟩⟩
    by_cases hx2 : x.2 = s
    case neg =>
      have hx2' : (x.2.toList == s.toList) = false := by rw [str_beq_iff]; exact decide_eq_false hx2
      have HN : Hid (¬ pre ++ [x] <+: enumS L) := fun hp => hx2 (enum_at hp HPK.out HLS.out).2
      rw [hx1]
      clear hx1 hx2
      gi_wp2
      exact ⟨KeepsOthers.setCell _ _ _, .inl ⟨rfl, HN.out⟩⟩
    have HC1 : Hid (pre ++ [x] <+: enumS L → k + 1 = (pre ++ [x]).length) := fun hp => by
      rw [HPK.out ((List.prefix_append _ _).trans hp)]; simp
    have HAB' : Hid (AB w (W.setCell ⟨w.heap.size + 1 + 1 + 1, 0, none⟩ (.int .i64 ((k : Int) + 1))) (some ⟨gv, 0, none⟩) vc L early (k + 1)) := HAB.out.step
    have HMK' : Hid (∀ E ∈ ([] : List Nat), (W.setCell ⟨w.heap.size + 1 + 1 + 1, 0, none⟩ (.int .i64 ((k : Int) + 1))).heap[E]? = some (.deferred (some []))) := fun E hE => (KeepsOthers.setCell W ⟨w.heap.size + 1 + 1 + 1, 0, none⟩ (.int .i64 ((k : Int) + 1))).same E _ (HMK.out E hE) rfl
    rw [hx1, hx2]
    clear hx1 hx2
    rcases Int.lt_or_le ((k : Int) + 1) early with he | he
    · gi_wp2
      exact ⟨KeepsOthers.setCell _ _ _, HKF.out _ _, k + 1, HKL.out, HAB'.out, HC1.out, HMK'.out⟩
    · gi_wp2
      exact ⟨KeepsOthers.setCell _ _ _, .inr ⟨rfl, k + 1, HAB'.out⟩⟩
  case done =>
    rintro D xs W hD hxs ⟨k0, hk, hab, hpk, hmk⟩ hK
    clear hpk hmk hxs hk
    have ck := Boxed.cell hab.kb
    have fk := Boxed.frozen hab.kb
    have HD1 : Hid (w1.heap.size ≤ D ∧ W.heap[D]? = some (.deferred (some []))) := ⟨hD, hK⟩
    have HAB : Hid (AB w W vo vc L early k0) := hab
    clear hab hK hD
    gi_wp2
    have HAB2 : Hid (AB w (W.setCell ⟨w.heap.size + 1 + 1 + 1, 0, none⟩ (.int .i64 0)) vo vc L early 0) := HAB.out.reset
    have HD2 : Hid (w1.heap.size ≤ D ∧ (W.setCell ⟨w.heap.size + 1 + 1 + 1, 0, none⟩ (.int .i64 0)).heap[D]? = some (.deferred (some []))) := ⟨HD1.out.1, (KeepsOthers.setCell W ⟨w.heap.size + 1 + 1 + 1, 0, none⟩ (.int .i64 0)).same D _ HD1.out.2 rfl⟩
    generalize W.setCell ⟨w.heap.size + 1 + 1 + 1, 0, none⟩ (.int .i64 0) = W2 at *
    refine ⟨trivial, ?_⟩
    have HS2 : Hid (St F W2 b L S R) := HC.frame _ _ _ _ _ _ _ HS.out.1 (keepF_of_below HAB2.out.bel (HC.lt _ _ _ _ _ _ HS.out.1))
    refine (callsIn_wide.2 (HA.all W2 F b L S R HS2.out HS.out.2 hl hbl)).mono ?_
    rintro e w3 ⟨lb2, G2, rfl, hk3, hG2, hseq2⟩
    have HG2 : Hid ((∀ x, G2 x → x ≠ w.heap.size + 1 + 1 + 1) ∧ ∀ x, G2 x → x < w3.heap.size) := ⟨fun x hx => by
      have := (Array.getElem?_eq_some_iff.1 HAB2.out.kb).1
      rcases (hG2 x hx).1 with h | h
      · have := HLT.out x h; omega
      · omega, fun x hx => (hG2 x hx).2⟩
    have hDl : D < W2.heap.size := (Array.getElem?_eq_some_iff.1 HD2.out.2).1
    have HB3 : Hid (AB w w3 vo vc L early 0) := HAB2.out.below hk3 (by have := HD2.out.1; have := HZ1.out; omega)
    have HD3 : Hid (w.heap.size + 4 ≤ D ∧ D < w3.heap.size ∧ w3.heap[D]? = some (.deferred (some []))) := ⟨Nat.le_trans HZ1.out HD2.out.1, Nat.lt_of_lt_of_le hDl hk3.size, (hk3.block _ hDl).trans HD2.out.2⟩
    clear hk3 HAB HAB2 HD1 HD2 hDl ck fk
    gi_wp2
    refine wpIn_rangeFunc_ownF (F := Fence.wide) rfl (by omega) (gf := gf) (lb := lb2) rfl trivial HA.enters (hseq2 4 (by omega)) (fun h k => keepF_trans h k) (fun W l o o' hl _ _ _ => keepF_put (HG2.out.2) W l hl o') (Below.refl _ _) (fun _ => rfl)
      (fun pre W => ∃ k : Nat, k ≤ L.length ∧ AB w W vo vc L early k ∧ (pre <+: enumS L → k = pre.length) ∧ ∀ E ∈ [D], W.heap[E]? = some (.deferred (some [])))
      (fun c pre W => c = Code.ret ∧ ¬ pre <+: enumS L)
      (own_ab (by have := HD3.out; omega) (by have := HD3.out; simp; omega)) (fun c => ownFrom_pure _ _) ⟨0, Nat.zero_le _, HB3.out, fun _ => rfl, by have := HD3.out.2.2; simpa using this⟩
      (fun x => { tmps := #[.pointer (some ⟨b, 0, none⟩), .slice vo L.length vc, .int .i64 early, undef, .pointer (some ⟨w.heap.size, 0, none⟩), .pointer (some ⟨w.heap.size + 1, 0, none⟩), .pointer (some ⟨w.heap.size + 1 + 1, 0, none⟩), .pointer (some ⟨w.heap.size + 1 + 1 + 1, 0, none⟩), undef, undef, .int .i64 (x.1 : Int), .string x.2, .pointer (some ⟨b, 0, none⟩), .func (.func gf) #[] lb, undef, undef, undef, undef, undef, undef, undef, undef, undef, undef, undef, undef, undef, undef, undef, undef, undef, undef, undef, undef, undef, undef, undef, undef, .pointer (some ⟨b, 0, none⟩), .func (.func gf) #[] lb2, .int .i64 (x.1 : Int), .string x.2, undef, undef, undef, undef, undef, undef, undef, undef, undef, undef, undef, undef, undef, undef, undef, undef, undef, undef, undef, undef, undef, undef, undef], defers := [] }) ?assign2 ?body2 ?done2 ?stop2
    case assign2 =>
      intro l x W K hK
      simp only [encP]
      gi_wp2
      exact hK
    case stop2 =>
      rintro D' c pre W _ hp ⟨_, hnp⟩ _
      exact absurd hp hnp
    case body2 =>
      rintro l pre x W ⟨k, hk, hab, hpk, hmk⟩ _
      have ck := Boxed.cell hab.kb
      have fk := Boxed.frozen hab.kb
      have cw := Boxed.cell hab.wb
      have ce := Boxed.cell hab.eb
      have cr := Boxed.cell hab.res
      have fr := Boxed.frozen hab.res
      have HAB : Hid (AB w W vo vc L early k) := hab
      have HPK : Hid (pre <+: enumS L → k = pre.length) := hpk
      have HMK : Hid (∀ E ∈ [D], W.heap[E]? = some (.deferred (some []))) := hmk
      have HKF : Hid (∀ v o, KeepF G2 W (W.setCell ⟨w.heap.size + 1 + 1 + 1, o, none⟩ v)) := fun v o => keepF_set (HG2.out.1) W o v
      clear hab hpk hmk
      have hl' : (L.length : Int) ≤ 4000 := by omega
      by_cases hlt : k < L.length
      case neg =>
        have hge : (L.length : Int) ≤ (k : Int) := by omega
        have HN : Hid (¬ pre ++ [x] <+: enumS L) := fun hp => hlt (enum_lt hp HPK.out)
        clear hlt
        gi_wp2
        exact ⟨KeepsOthers.setCell _ _ _, rfl, HN.out⟩
      have hlt' : (k : Int) < (L.length : Int) := by omega
      obtain ⟨s, hs⟩ : ∃ s, L[k]? = some s := ⟨_, List.getElem?_eq_getElem hlt⟩
      obtain ⟨gv, rfl, cs0⟩ := HW.out k s hs
      have cs : W.cell? ⟨gv, k, none⟩ = some (.string s) := (HAB.out.bel.cell (p := ⟨gv, k, none⟩) (World.block_lt_of_cell? w _ cs0)).trans cs0
      have HLS : Hid (L[k]? = some s) := hs
      have HKL : Hid (k < L.length) := hlt
      clear hs cs0 hlt
      by_cases hx1 : x.1 = k
      case neg =>
        have hx1' : ¬ (x.1 : Int) = (k : Int) := by omega
        have HN : Hid (¬ pre ++ [x] <+: enumS L) := fun hp => hx1 (enum_at hp HPK.out HLS.out).1
        clear hx1
        gi_wp2
        exact ⟨KeepsOthers.setCell _ _ _, rfl, HN.out⟩
      by_cases hx2 : x.2 = s
      case neg =>
        have hx2' : (x.2.toList == s.toList) = false := by rw [str_beq_iff]; exact decide_eq_false hx2
        have HN : Hid (¬ pre ++ [x] <+: enumS L) := fun hp => hx2 (enum_at hp HPK.out HLS.out).2
        rw [hx1]
        clear hx1 hx2
        gi_wp2
        exact ⟨KeepsOthers.setCell _ _ _, rfl, HN.out⟩
      have HC1 : Hid (pre ++ [x] <+: enumS L → k + 1 = (pre ++ [x]).length) := fun hp => by
        rw [HPK.out ((List.prefix_append _ _).trans hp)]; simp
      have HAB' : Hid (AB w (W.setCell ⟨w.heap.size + 1 + 1 + 1, 0, none⟩ (.int .i64 ((k : Int) + 1))) (some ⟨gv, 0, none⟩) vc L early (k + 1)) := HAB.out.step
      have HMK' : Hid (∀ E ∈ [D], (W.setCell ⟨w.heap.size + 1 + 1 + 1, 0, none⟩ (.int .i64 ((k : Int) + 1))).heap[E]? = some (.deferred (some []))) := fun E hE => (KeepsOthers.setCell W ⟨w.heap.size + 1 + 1 + 1, 0, none⟩ (.int .i64 ((k : Int) + 1))).same E _ (HMK.out E hE) rfl
      rw [hx1, hx2]
      clear hx1 hx2
      gi_wp2
      exact ⟨KeepsOthers.setCell _ _ _, HKF.out _ _, k + 1, HKL.out, HAB'.out, HC1.out, HMK'.out⟩
    case done2 =>
      rintro D' xs W hD' hxs ⟨k, hk, hab, hpk, hmk⟩ hK'
      have hkl : k = L.length := by rw [hpk (by rw [hxs]; exact List.prefix_refl _), hxs, enum_len]
      subst hkl
      have ck := Boxed.cell hab.kb
      have cw := Boxed.cell hab.wb
      have cr := Boxed.cell hab.res
      have fr := Boxed.frozen hab.res
      have HDD : Hid (w.heap.size ≤ D ∧ W.heap[D]? = some (.deferred (some [])) ∧ w.heap.size ≤ D' ∧ W.heap[D']? = some (.deferred (some [])) ∧ D' ≠ D) := ⟨by have := HD3.out; omega, hmk D (by simp), by have := HD3.out; omega, hK', by have := HD3.out; omega⟩
      have HBL : Hid (Below w.heap.size w W) := hab.bel
      have HCR : Hid (W.cell? ⟨w.heap.size + 1 + 1, 0, none⟩ = some (.bool false)) := cr
      clear hab hpk hmk hK' hxs hD'
      gi_wp2
      exact y_getD Fence.wide 5 Try.results20 rfl [D', D] _ (fun E hE => by
        rcases List.mem_cons.1 hE with rfl | hE
        · exact ⟨HDD.out.2.2.1, (KeepsOthers.setCell _ _ _).same _ _ HDD.out.2.2.2.1 rfl⟩
        · rw [List.mem_singleton.1 hE]; exact ⟨HDD.out.1, (KeepsOthers.setCell _ _ _).same _ _ HDD.out.2.1 rfl⟩)
        (List.nodup_cons.2 ⟨by simpa using HDD.out.2.2.2.2, by simp⟩) (World.cell?_setCell_same' W ⟨w.heap.size + 1 + 1, 0, none⟩ (.bool true) (by rw [HCR.out]; rfl)) (HBL.out.setCell (p := ⟨w.heap.size + 1 + 1, 0, none⟩) (by show _ ≤ w.heap.size + 1 + 1; omega) _)
  case stop =>
    rintro D c pre W hD hp (⟨_, hnp⟩ | ⟨rfl, k0, hab⟩) hK
    · exact absurd hp hnp
    clear hp
    have ck := Boxed.cell hab.kb
    have fk := Boxed.frozen hab.kb
    have HD1 : Hid (w1.heap.size ≤ D ∧ W.heap[D]? = some (.deferred (some []))) := ⟨hD, hK⟩
    have HAB : Hid (AB w W vo vc L early k0) := hab
    clear hab hK hD
    gi_wp2
    have HAB2 : Hid (AB w (W.setCell ⟨w.heap.size + 1 + 1 + 1, 0, none⟩ (.int .i64 0)) vo vc L early 0) := HAB.out.reset
    have HD2 : Hid (w1.heap.size ≤ D ∧ (W.setCell ⟨w.heap.size + 1 + 1 + 1, 0, none⟩ (.int .i64 0)).heap[D]? = some (.deferred (some []))) := ⟨HD1.out.1, (KeepsOthers.setCell W ⟨w.heap.size + 1 + 1 + 1, 0, none⟩ (.int .i64 0)).same D _ HD1.out.2 rfl⟩
    generalize W.setCell ⟨w.heap.size + 1 + 1 + 1, 0, none⟩ (.int .i64 0) = W2 at *
    refine ⟨trivial, ?_⟩
    have HS2 : Hid (St F W2 b L S R) := HC.frame _ _ _ _ _ _ _ HS.out.1 (keepF_of_below HAB2.out.bel (HC.lt _ _ _ _ _ _ HS.out.1))
    refine (callsIn_wide.2 (HA.all W2 F b L S R HS2.out HS.out.2 hl hbl)).mono ?_
    rintro e w3 ⟨lb2, G2, rfl, hk3, hG2, hseq2⟩
    have HG2 : Hid ((∀ x, G2 x → x ≠ w.heap.size + 1 + 1 + 1) ∧ ∀ x, G2 x → x < w3.heap.size) := ⟨fun x hx => by
      have := (Array.getElem?_eq_some_iff.1 HAB2.out.kb).1
      rcases (hG2 x hx).1 with h | h
      · have := HLT.out x h; omega
      · omega, fun x hx => (hG2 x hx).2⟩
    have hDl : D < W2.heap.size := (Array.getElem?_eq_some_iff.1 HD2.out.2).1
    have HB3 : Hid (AB w w3 vo vc L early 0) := HAB2.out.below hk3 (by have := HD2.out.1; have := HZ1.out; omega)
    have HD3 : Hid (w.heap.size + 4 ≤ D ∧ D < w3.heap.size ∧ w3.heap[D]? = some (.deferred (some []))) := ⟨Nat.le_trans HZ1.out HD2.out.1, Nat.lt_of_lt_of_le hDl hk3.size, (hk3.block _ hDl).trans HD2.out.2⟩
    clear hk3 HAB HAB2 HD1 HD2 hDl ck fk
    gi_wp2
    refine wpIn_rangeFunc_ownF (F := Fence.wide) rfl (by omega) (gf := gf) (lb := lb2) rfl trivial HA.enters (hseq2 4 (by omega)) (fun h k => keepF_trans h k) (fun W l o o' hl _ _ _ => keepF_put (HG2.out.2) W l hl o') (Below.refl _ _) (fun _ => rfl)
      (fun pre W => ∃ k : Nat, k ≤ L.length ∧ AB w W vo vc L early k ∧ (pre <+: enumS L → k = pre.length) ∧ ∀ E ∈ [D], W.heap[E]? = some (.deferred (some [])))
      (fun c pre W => c = Code.ret ∧ ¬ pre <+: enumS L)
      (own_ab (by have := HD3.out; omega) (by have := HD3.out; simp; omega)) (fun c => ownFrom_pure _ _) ⟨0, Nat.zero_le _, HB3.out, fun _ => rfl, by have := HD3.out.2.2; simpa using this⟩
      (fun x => { tmps := #[.pointer (some ⟨b, 0, none⟩), .slice vo L.length vc, .int .i64 early, undef, .pointer (some ⟨w.heap.size, 0, none⟩), .pointer (some ⟨w.heap.size + 1, 0, none⟩), .pointer (some ⟨w.heap.size + 1 + 1, 0, none⟩), .pointer (some ⟨w.heap.size + 1 + 1 + 1, 0, none⟩), undef, undef, .int .i64 (x.1 : Int), .string x.2, .pointer (some ⟨b, 0, none⟩), .func (.func gf) #[] lb, undef, undef, undef, undef, undef, undef, undef, undef, undef, undef, undef, undef, undef, undef, undef, undef, undef, undef, undef, undef, undef, undef, undef, undef, .pointer (some ⟨b, 0, none⟩), .func (.func gf) #[] lb2, .int .i64 (x.1 : Int), .string x.2, undef, undef, undef, undef, undef, undef, undef, undef, undef, undef, undef, undef, undef, undef, undef, undef, undef, undef, undef, undef, undef, undef, undef], defers := [] }) ?assign2 ?body2 ?done2 ?stop2
    case assign2 =>
      intro l x W K hK
      simp only [encP]
      gi_wp2
      exact hK
    case stop2 =>
      rintro D' c pre W _ hp ⟨_, hnp⟩ _
      exact absurd hp hnp
    case body2 =>
      rintro l pre x W ⟨k, hk, hab, hpk, hmk⟩ _
      have ck := Boxed.cell hab.kb
      have fk := Boxed.frozen hab.kb
      have cw := Boxed.cell hab.wb
      have ce := Boxed.cell hab.eb
      have cr := Boxed.cell hab.res
      have fr := Boxed.frozen hab.res
      have HAB : Hid (AB w W vo vc L early k) := hab
      have HPK : Hid (pre <+: enumS L → k = pre.length) := hpk
      have HMK : Hid (∀ E ∈ [D], W.heap[E]? = some (.deferred (some []))) := hmk
      have HKF : Hid (∀ v o, KeepF G2 W (W.setCell ⟨w.heap.size + 1 + 1 + 1, o, none⟩ v)) := fun v o => keepF_set (HG2.out.1) W o v
      clear hab hpk hmk
      have hl' : (L.length : Int) ≤ 4000 := by omega
      by_cases hlt : k < L.length
      case neg =>
        have hge : (L.length : Int) ≤ (k : Int) := by omega
        have HN : Hid (¬ pre ++ [x] <+: enumS L) := fun hp => hlt (enum_lt hp HPK.out)
        clear hlt
        gi_wp2
        exact ⟨KeepsOthers.setCell _ _ _, rfl, HN.out⟩
      have hlt' : (k : Int) < (L.length : Int) := by omega
      obtain ⟨s, hs⟩ : ∃ s, L[k]? = some s := ⟨_, List.getElem?_eq_getElem hlt⟩
      obtain ⟨gv, rfl, cs0⟩ := HW.out k s hs
      have cs : W.cell? ⟨gv, k, none⟩ = some (.string s) := (HAB.out.bel.cell (p := ⟨gv, k, none⟩) (World.block_lt_of_cell? w _ cs0)).trans cs0
      have HLS : Hid (L[k]? = some s) := hs
      have HKL : Hid (k < L.length) := hlt
      clear hs cs0 hlt
      by_cases hx1 : x.1 = k
      case neg =>
        have hx1' : ¬ (x.1 : Int) = (k : Int) := by omega
        have HN : Hid (¬ pre ++ [x] <+: enumS L) := fun hp => hx1 (enum_at hp HPK.out HLS.out).1
        clear hx1
        gi_wp2
        exact ⟨KeepsOthers.setCell _ _ _, rfl, HN.out⟩
      by_cases hx2 : x.2 = s
      case neg =>
        have hx2' : (x.2.toList == s.toList) = false := by rw [str_beq_iff]; exact decide_eq_false hx2
        have HN : Hid (¬ pre ++ [x] <+: enumS L) := fun hp => hx2 (enum_at hp HPK.out HLS.out).2
        rw [hx1]
        clear hx1 hx2
        gi_wp2
        exact ⟨KeepsOthers.setCell _ _ _, rfl, HN.out⟩
      have HC1 : Hid (pre ++ [x] <+: enumS L → k + 1 = (pre ++ [x]).length) := fun hp => by
        rw [HPK.out ((List.prefix_append _ _).trans hp)]; simp
      have HAB' : Hid (AB w (W.setCell ⟨w.heap.size + 1 + 1 + 1, 0, none⟩ (.int .i64 ((k : Int) + 1))) (some ⟨gv, 0, none⟩) vc L early (k + 1)) := HAB.out.step
      have HMK' : Hid (∀ E ∈ [D], (W.setCell ⟨w.heap.size + 1 + 1 + 1, 0, none⟩ (.int .i64 ((k : Int) + 1))).heap[E]? = some (.deferred (some []))) := fun E hE => (KeepsOthers.setCell W ⟨w.heap.size + 1 + 1 + 1, 0, none⟩ (.int .i64 ((k : Int) + 1))).same E _ (HMK.out E hE) rfl
      rw [hx1, hx2]
      clear hx1 hx2
      gi_wp2
      exact ⟨KeepsOthers.setCell _ _ _, HKF.out _ _, k + 1, HKL.out, HAB'.out, HC1.out, HMK'.out⟩
    case done2 =>
      rintro D' xs W hD' hxs ⟨k, hk, hab, hpk, hmk⟩ hK'
      have hkl : k = L.length := by rw [hpk (by rw [hxs]; exact List.prefix_refl _), hxs, enum_len]
      subst hkl
      have ck := Boxed.cell hab.kb
      have cw := Boxed.cell hab.wb
      have cr := Boxed.cell hab.res
      have fr := Boxed.frozen hab.res
      have HDD : Hid (w.heap.size ≤ D ∧ W.heap[D]? = some (.deferred (some [])) ∧ w.heap.size ≤ D' ∧ W.heap[D']? = some (.deferred (some [])) ∧ D' ≠ D) := ⟨by have := HD3.out; omega, hmk D (by simp), by have := HD3.out; omega, hK', by have := HD3.out; omega⟩
      have HBL : Hid (Below w.heap.size w W) := hab.bel
      have HCR : Hid (W.cell? ⟨w.heap.size + 1 + 1, 0, none⟩ = some (.bool false)) := cr
      clear hab hpk hmk hK' hxs hD'
      gi_wp2
      exact y_getD Fence.wide 5 Try.results20 rfl [D', D] _ (fun E hE => by
        rcases List.mem_cons.1 hE with rfl | hE
        · exact ⟨HDD.out.2.2.1, (KeepsOthers.setCell _ _ _).same _ _ HDD.out.2.2.2.1 rfl⟩
        · rw [List.mem_singleton.1 hE]; exact ⟨HDD.out.1, (KeepsOthers.setCell _ _ _).same _ _ HDD.out.2.1 rfl⟩)
        (List.nodup_cons.2 ⟨by simpa using HDD.out.2.2.2.2, by simp⟩) (World.cell?_setCell_same' W ⟨w.heap.size + 1 + 1, 0, none⟩ (.bool true) (by rw [HCR.out]; rfl)) (HBL.out.setCell (p := ⟨w.heap.size + 1 + 1, 0, none⟩) (by show _ ≤ w.heap.size + 1 + 1; omega) _)

end Go.Proofs.Ytmpbganbhoknpaa
