/-
  NExpl.
-/
import Derived.Deep.Cut
import Derived.Test.YtcpgpiokjghcnaaM16
import Derived.Test.YtcpgpiokjghcnaaM25
/-
  What is reached in a system, as the statements' explore tells it.
-/
set_option linter.unusedVariables false
set_option linter.unusedSimpArgs false
namespace Go.Proofs.Ytcpgpiokjghcnaa
open Go.RowKit

theorem n_infoStr : (Try.prog.info? 9).map (fun i => (i.zero, i.size, i.bytes)) = some (some (.string ⟨#[]⟩), 1, 16) := by kernel_rfl
theorem n_infoArc : (Try.prog.info? 69).map (fun i => (i.zero, i.size, i.bytes)) = some (some (.agg #[.int .i64 0, .int .i64 0, .int .i64 0, .slice none 0 0, .slice none 0 0, .int .u64 0]), 6, 80) := by kernel_rfl
theorem n_infoNode : (Try.prog.info? 65).map (fun i => (i.zero, i.size, i.bytes)) = some (some (.agg #[.slice none 0 0, .int .u64 0, .bool false, .bool false, .bool false]), 5, 40) := by kernel_rfl
theorem n_zeroInt (w : World) : (zeroValue 3).run Try.prog w = .ok (.int .i64 0) w := by kernel_rfl

/-- What explore answers. -/
def EOut (w : World) (M : Sem) (most : Nat) (e : Ending) (w' : World) : Prop :=
  Nu w w' ∧ ((explored M most = none ∧ e = .returned (.tuple #[.agg #[.slice none 0 0], .slice none 0 0, .bool false])) ∨
    ∃ ns ss na nc sa sc, explored M most = some (ns, ss) ∧ e = .returned (.tuple #[.agg #[.slice na (List.length (α := Node) ns) nc], .slice sa (List.length (α := ByteArray) ss) sc, .bool true]) ∧ NodesAt w' w'.heap.size na ns ∧ StrsAt w' w'.heap.size sa ss)

theorem EO.first {w W : World} {g : Nat} {b : ByteArray} {mb : Nat} {b9 : Nat} (h4 : W.heap[w.heap.size]? = some (.cells #[.slice none 0 0] 24 (0, 0))) (hst : W.heap[g]? = some (.cells #[.string b] 9 (0, 0))) (hg : w.heap.size < g) (hm : MapIs W mb [b]) (hmb : w.heap.size < mb) (h9 : W.heap[b9]? = some (.cells #[.slice none 0 0] 24 (0, 0))) (hb9 : w.heap.size < b9) (hb : Below w.heap.size w W) :
    EO w W [] [b] (some ⟨g, 0, none⟩) 1 mb b9 none 0 [] (fun _ => False) :=
  ⟨h4, ⟨rfl, .inr ⟨g, 1, _, rfl, hg, hst, Nat.le_refl _, (show 1 ≤ maxLen by decide), rfl, rfl⟩⟩, hm, h9, hb9, ⟨rfl, .inl ⟨rfl, rfl⟩⟩, rfl, fun _ h => absurd h (by simp), fun _ h => h.elim, hb, hmb⟩

theorem EO.out {w W : World} {nodes : List Node} {states : List ByteArray} {so : Option Addr} {sc mb b9 : Nat} {vo : Option Addr} {vc : Nat} {nxs : List NX} {Z : Nat → Prop} (h : EO w W nodes states so sc mb b9 vo vc nxs Z) (hn : (nodes.length : Int) ≤ 20000) (hs : (states.length : Int) ≤ 20000) (v : Value) :
    Nu w (W.setCell ⟨w.heap.size, 0, none⟩ v) ∧ NodesAt (W.setCell ⟨w.heap.size, 0, none⟩ v) (W.setCell ⟨w.heap.size, 0, none⟩ v).heap.size vo nodes ∧ StrsAt (W.setCell ⟨w.heap.size, 0, none⟩ v) (W.setCell ⟨w.heap.size, 0, none⟩ v).heap.size so states := by
  have hm := Mv.setCell W ⟨w.heap.size, 0, none⟩ v
  have hr := row_mv hm h.row (fun k hk e => by have := (row_blk h.row hk).1; simp only at e; omega)
  have hst := row_mv hm h.st (fun k hk e => by have := (row_blk h.st hk).1; simp only at e; omega)
  have hZ : ∀ b, Z b → ¬ (b = w.heap.size) := fun b hz e => by have := (h.zt b hz).1; omega
  have hl : nxs.length = nodes.length := by rw [← h.eq, List.length_map]
  refine ⟨Nu.of_below (h.bel.setCell (p := ⟨w.heap.size, 0, none⟩) (Nat.le_refl _) _), ?_, ?_⟩
  · rw [← hl] at hr
    have := nodes_of_row (Z := Z) hr (by omega) (fun y hy => (h.nz y hy).mv hm hZ (fun _ hz => hz)) (fun b hz => by
      obtain ⟨_, cs, t, hc, _⟩ := h.zt b hz
      exact Nat.lt_of_lt_of_le (Array.getElem?_eq_some_iff.1 hc).1 hm.size)
    rw [h.eq] at this
    exact this
  · refine ⟨by omega, ?_⟩
    rcases hst.2 with ⟨_, hn⟩ | ⟨g, cap, cur, hv, _, hg, _⟩
    · exact .inl hn
    · have hso : so = some ⟨g, 0, none⟩ := by simp only [Value.slice.injEq] at hv; exact hv.1
      subst hso
      refine .inr ⟨g, 0, rfl, lt_of_block hg, fun i hi => ?_⟩
      have := hst.cells (g := g) rfl i (.string states[i]) (by simp [hi])
      rw [add_block] at this
      rwa [Nat.zero_add]

theorem act_eq {a : Act} {t : Array Value} {d : List Deferred} (h : a.tmps = t) (hd : a.defers = d) : a = ⟨t, d⟩ := by
  cases a
  simp only at h hd
  rw [h, hd]

/-- How far the exploring has come. -/
structure ER (M : Sem) (most : Nat) (x : Expl) : Prop where
  run : explore M most most ⟨[], [M.begin], 0⟩ = explore M most (most - x.nodes.length) x
  le : x.nodes.length ≤ x.states.length
  most : x.states.length ≤ most
  cnt : x.cnt ≤ 262144
  short : ∀ s ∈ x.states, Rch M s
theorem ER.ends {M : Sem} {most : Nat} {x : Expl} (h : ER M most x) (he : x.nodes.length = x.states.length) : explored M most = some (x.nodes, x.states) := by
  unfold explored
  rw [h.run, explore_end (by rw [he]; simp)]
  rfl
theorem ER.fails {M : Sem} {most : Nat} {x : Expl} (h : ER M most x) {st : ByteArray} (hs : x.states[x.nodes.length]? = some st) (hf : oneState M most x st = none) : explored M most = none := by
  have hlt := (List.getElem?_eq_some_iff.1 hs).1
  have := h.most
  unfold explored
  rw [h.run, show most - x.nodes.length = (most - x.nodes.length - 1) + 1 by omega, explore_step hs, hf]
  rfl
theorem ER.goes {M : Sem} {most : Nat} {x y : Expl} (hM : M.FineR) (h : ER M most x) {st : ByteArray} (hs : x.states[x.nodes.length]? = some st) (hy : oneState M most x st = some y) (hc : y.cnt ≤ 262144) (hsh : ∀ s ∈ y.states, Rch M s) : ER M most y := by
  have hlt := (List.getElem?_eq_some_iff.1 hs).1
  have := h.most
  obtain ⟨a, b, c⟩ := oneState_len hy h.most
  refine ⟨?_, by have := b.length_le; omega, a, hc, hsh⟩
  rw [h.run, show most - x.nodes.length = (most - y.nodes.length) + 1 by omega, explore_step hs, hy]
  rfl

set_option maxHeartbeats 8000000 in
set_option maxRecDepth 400000 in
theorem explore_anyR (w : World) (F : Nat → Prop) (T : TypeId) (r0 : Value) (M : Sem) (most : Int) (hs : SysAt F w T r0 M) (hf : M.FineR) (h1 : 1 ≤ most) (h2 : most ≤ 20000) :
    Calls Try.prog 14 #[.iface T r0, .int .i64 most] w (EOut w M most.toNat) := by
  have HS : Hid (SysAt F w T r0 M) := hs
  have HF : Hid M.FineR := hf
  have HN0 : Hid (Nu w (w.alloc (.cells #[.slice none 0 0] 24))) := Mv.alloc _ _ _
  have HB0 : Hid ((w.alloc (.cells #[.slice none 0 0] 24)).heap[w.heap.size]? = some (.cells #[.slice none 0 0] 24 (0, 0)) ∧ (w.alloc (.cells #[.slice none 0 0] 24)).heap.size = w.heap.size + 1) := ⟨heap_alloc_new w _, by simp⟩
  obtain ⟨fB, rB, ⟨hmB, heB', _⟩, hcB⟩ := (hs.does _ (HN0.out.keep (fun x hx => ⟨hs.lt x hx, id⟩))).bg
  have heB : ∀ args w, (callFunc fB args).run Try.prog w = .ok (.enter fB args) w := heB'
  have HCB : Hid _ := hcB
  have hmm := @run_makeMap Try.prog
  clear hs hf hcB heB'
  go_enter Try.func14, Try.ntmps14
  go_wp2_with fail
  generalize w.alloc (.cells #[.slice none 0 0] 24) = w0 at *
  refine Calls.mono HCB.out ?_
  rintro e w1 ⟨rfl, hn1⟩
  have HN1 : Hid (Nu w w1) := mv0 HN0.out hn1
  have HB1 : Hid (w1.heap[w.heap.size]? = some (.cells #[.slice none 0 0] 24 (0, 0)) ∧ w.heap.size < w1.heap.size) := ⟨hn1.heap HB0.out.1 id, by have := HB0.out.2; have := hn1.size; omega⟩
  clear hn1 HCB HN0 HB0 hmB heB
  obtain ⟨n0, D0, hown0, hn0, hD0⟩ := MapIs.made (w1.alloc (.cells #[.string M.begin] 9))
  have hkey : keyOf Try.prog 9 (.string M.begin) = some (.string M.begin.data.toList) := WideMaps.keyOf_string_mk Try.underlying9 (by have := HF.out.b; unfold Short at this; unfold maxLen; omega)
  rw [World.size_alloc] at hown0
  have HOW : Hid _ := hown0
  have hz0 : n0 = 0 := by simpa using hn0
  subst hz0
  go_wp2_with (at_mapUpdate; refine wpList_mapUpdate_own _ rfl _ _ _ 76 rfl 9 3 skey Try.underlying76 (plainElem Try.prog 3) _ _ D0 rfl HOW.out (by decide) _ _ (.string M.begin.data.toList) rfl rfl hkey (.lit (.int .i64 1)) [] (plainElem_int Try.underlying3 (by decide)) ?_)
  intro w3 hown3 hg3
  have HM3 : Hid (MapIs w3 (w1.heap.size + 1) [M.begin]) := MapIs.put (states := []) (s := M.begin) HOW.out (Nat.le_refl _) hD0 rfl hown3
  have HG3 : Hid (Mv (fun b => b = w1.heap.size + 1) ((w1.alloc (.cells #[.string M.begin] 9)).alloc (.map #[] 0)) w3) := (Mv.grown hg3).mono (fun x hx => .inl (by simpa using hx.symm))
  clear hown3 hg3 hown0 hD0 hn0 hkey HOW
  go_upto_region 7 with fail
  have HN4 : Hid (Nu w3 (w3.alloc (.cells #[.slice none 0 0] 24))) := Mv.alloc _ _ _
  have HEO : Hid (EO w (w3.alloc (.cells #[.slice none 0 0] 24)) [] [M.begin] (some ⟨w1.heap.size, 0, none⟩) 1 (w1.heap.size + 1) w3.heap.size none 0 [] (fun _ => False)) := by
    have hz1 := HB1.out.2
    have m2 : Nu w1 ((w1.alloc (.cells #[.string M.begin] 9)).alloc (.map #[] 0)) := mv0 (Mv.alloc _ _ _) (Mv.alloc _ _ _)
    have m4 : Mv (fun b => b = w1.heap.size + 1) w1 (w3.alloc (.cells #[.slice none 0 0] 24)) := nu_mv ((m2.mono (fun _ h => h.elim)).trans HG3.out (fun x hx => .inl hx)) HN4.out
    have m5 : Mv (fun b => b = w1.heap.size + 1) (w1.alloc (.cells #[.string M.begin] 9)) (w3.alloc (.cells #[.slice none 0 0] 24)) := nu_mv (((Mv.alloc (fun _ => False) _ _).mono (fun _ h => h.elim)).trans HG3.out (fun x hx => .inl hx)) HN4.out
    have hsz : w1.heap.size ≤ w3.heap.size := Nat.le_trans m2.size HG3.out.size
    exact EO.first (m4.heap HB1.out.1 (by omega)) (m5.heap (heap_alloc_new w1 _) (by omega)) hz1 (HM3.out.mv HN4.out id) (by omega) (heap_alloc_new w3 _) (by omega) (HN1.out.nu_below.trans (m4.below HN1.out.size (fun x hx => by omega)))
  have HSY : Hid (∀ W, Below w.heap.size w W → SysAt F W T r0 M) := fun W hW => HS.out.keep ⟨hW.size, fun x hx => hW.block x (HS.out.lt x hx)⟩
  generalize w3.alloc (.cells #[.slice none 0 0] 24) = W4 at *
  generalize w1.heap.size + 1 = mb at *
  generalize w3.heap.size = b9 at *
  clear HB1 HN1 HM3 HG3 HN4 HS
  have hE0 : ER M most.toNat ⟨[], [M.begin], 0⟩ := ⟨rfl, by simp, by simp; omega, by simp, fun s hs => by rw [List.mem_singleton.1 hs]; exact .start⟩
  go_loopw [7, 10, 11] (fun sv cv iv wr => ∃ (x : Expl) (so : Option Addr) (sc : Nat) (vo : Option Addr) (vc : Nat) (nxs : List NX) (Z : Nat → Prop), sv = .slice so x.states.length sc ∧ cv = .int .i64 (x.cnt : Int) ∧ iv = .int .i64 (x.nodes.length : Int) ∧ Hid (EO w wr x.nodes x.states so sc mb b9 vo vc nxs Z) ∧ Hid (ER M most.toNat x))
    (fun _ _ iv _ => most.toNat - (intOf iv).toNat)
  case atStart => exact ⟨⟨[], [M.begin], 0⟩, _, 1, none, 0, [], _, rfl, rfl, rfl, HEO, hE0⟩
  case round =>
    obtain ⟨x, so, sc, vo, vc, nxs, Z, rfl, rfl, rfl, HEO', HER⟩ := hrel
    clear HEO hE0
    have hxl := HER.out.le
    have hxm := HER.out.most
    have hm0 : most.toNat ≤ 20000 := by omega
    have hsl : (x.states.length : Int) ≤ 20000 := by omega
    rcases Nat.lt_or_ge x.nodes.length x.states.length with hlt | hge
    case inr =>
      have heq : x.nodes.length = x.states.length := by omega
      have hge' : (x.states.length : Int) ≤ (x.nodes.length : Int) := by omega
      have HXP : Hid (explored M most.toNat = some (x.nodes, x.states)) := HER.out.ends heq
      have c9 := cell_blk HEO'.out.o9 0
      have c4 := cell_blk HEO'.out.b4 0
      have f4 := free_blk HEO'.out.b4 0
      simp only [List.size_toArray, List.length_cons, List.length_nil, Nat.reduceAdd, Nat.lt_add_one, getElem?_pos, List.getElem_toArray, List.getElem_cons_zero] at c9 c4
      clear heq
      have HOUT : Hid _ := HEO'.out.out (by omega) (by omega) (.slice vo x.nodes.length vc)
      have hc4 := World.cell?_setCell_same' wr ⟨w.heap.size, 0, none⟩ (.slice vo x.nodes.length vc) (by rw [c4]; rfl)
      go_wp2
      refine bodyPost_ret (v := .tuple #[.agg #[.slice vo x.nodes.length vc], .slice so x.states.length sc, .bool true]) (by simp [results, Try.results14, go_sem, hc4]) rfl ⟨HOUT.out.1, .inr ⟨x.nodes, x.states, vo, vc, so, sc, HXP.out, rfl, HOUT.out.2.1, HOUT.out.2.2⟩⟩
    have hlt' : (x.nodes.length : Int) < (x.states.length : Int) := by omega
    obtain ⟨st, hst⟩ : ∃ st, x.states[x.nodes.length]? = some st := ⟨_, List.getElem?_eq_getElem hlt⟩
    have HSR : Hid (Rch M st) := HER.out.short st (List.mem_of_getElem? hst)
    have HST : Hid (x.states[x.nodes.length]? = some st ∧ Short st) := ⟨hst, HF.out.short HSR.out⟩
    obtain ⟨g, rfl⟩ : ∃ g, so = some ⟨g, 0, none⟩ := by
      rcases HEO'.out.st.2 with ⟨_, hn⟩ | ⟨g, cap, cur, hv, _⟩
      · omega
      · simp only [Value.slice.injEq] at hv; exact ⟨g, hv.1⟩
    have cst : wr.cell? ⟨g, x.nodes.length, none⟩ = some (.string st) := by
      have := HEO'.out.st.cells (g := g) rfl x.nodes.length (.string st) (by rw [List.getElem?_map, hst]; rfl)
      rwa [add_block] at this
    obtain ⟨fL, rL, ⟨hmL, heL', hnL⟩, hcL⟩ := ((HSY.out wr HEO'.out.bel).does wr (KeepF.refl _ _)).lk
    have HLK : Hid (∀ W, Nu wr W → Calls Try.prog fL #[rL, .string st] W fun e w' => e = .returned (sval (M.look st)) ∧ Nu W w') := fun W hW => by
      obtain ⟨fL', rL', ⟨hmL2, _, _⟩, hcL'⟩ := ((HSY.out wr HEO'.out.bel).does W (hW.keep (fun b hb => ⟨(HSY.out wr HEO'.out.bel).lt b hb, id⟩))).lk
      have := (hmL2 W).symm.trans (hmL W)
      simp only [Result.ok.injEq, Prod.mk.injEq] at this
      obtain ⟨⟨rfl, rfl⟩, _⟩ := this
      exact hcL' st HST.out.2
    have heL : ∀ args w, (callFunc fL args).run Try.prog w = .ok (.enter fL args) w := heL'
    have HLC : Hid (x.nodes.length < x.states.length) := hlt
    clear hst hcL heL' hxl
    go_upto_region 9 with fail
    rename_i KC hKC
    refine wp_lookS (LKR T r0 g x.states.length x.nodes.length sc st (M.look st) wr.heap.size) LKR.nu (by kernel_rfl) (by kernel_rfl) ?step ?last
    case step =>
      intro i o d a w' ho hd hn hfr had K hK
      have hi : i < 11 := (Array.getElem?_eq_some_iff.1 ho).1
      have f0 := hfr 0 (by kernel_rfl)
      have f7 := hfr 7 (by kernel_rfl)
      have f11 := hfr 11 (by kernel_rfl)
      have : i = 0 ∨ i = 1 ∨ i = 2 ∨ i = 3 ∨ i = 4 ∨ i = 5 ∨ i = 6 ∨ i = 7 ∨ i = 8 ∨ i = 9 ∨ i = 10 := by omega
      rcases this with rfl | rfl | rfl | rfl | rfl | rfl | rfl | rfl | rfl | rfl | rfl <;> cases ho <;> cases hd
      · exact ite_yes (want_none rfl) (lk_move rfl rfl f0 (fun w' hm => hK w' _ hm rfl))
      · exact ite_yes (want_none rfl) (lk_move rfl rfl f7 (fun w' hm => hK w' _ hm rfl))
      · exact ite_yes (want_none rfl) (lk_move rfl rfl f11 (fun w' hm => hK w' _ hm rfl))
      · obtain ⟨⟨_, h0, rfl⟩, ⟨_, h1, rfl⟩, _⟩ := had; exact ite_yes (want_none rfl) (lk_idxS HLC.out rfl rfl h0 h1 (fun w' hm => hK w' _ hm rfl))
      · obtain ⟨⟨_, h0, rfl⟩, _⟩ := had; exact ite_yes (want_none rfl) (lk_loadSt rfl rfl h0 (cell_mv hn cst id) (fun w' hm => hK w' _ hm rfl))
      · obtain ⟨⟨_, h0, rfl⟩, _⟩ := had; exact ite_yes (want_none rfl) (lk_meth rfl rfl h0 (fun w' hm => hK w' _ hm rfl))
      · obtain ⟨⟨_, h0, rfl⟩, _⟩ := had; exact ite_yes (want_none rfl) (lk_nilc hnL rfl rfl h0 (fun w' hm => hK w' _ hm rfl))
      · obtain ⟨⟨_, h0, rfl⟩, _⟩ := had; exact ite_yes (want_none rfl) (lk_move rfl rfl h0 (fun w' hm => hK w' _ hm rfl))
      · obtain ⟨⟨_, h0, rfl⟩, ⟨_, h1, rfl⟩, _⟩ := had; exact ite_yes (want_none rfl) (lk_look hmL heL rfl rfl h0 h1 (HLK.out _ hn) (fun w' hm => hK w' _ hm rfl))
      · exact ite_yes (want_none rfl) (lk_allocS rfl rfl (hK _ _ (Mv.alloc _ _ _) ⟨_, rfl, heap_alloc_new _ _, hn.size⟩))
    case last =>
      intro o a w5 ho hn5 hdf hsz hfr htv
      cases ho
      obtain ⟨v8, h8, rfl⟩ := htv 8 _ 40 rfl rfl
      obtain ⟨v9, h9, nb, rfl, hnb, hnbl⟩ := htv 9 _ 12 rfl rfl
      have htm := fill_eq (vals := fun i => ([.iface T r0, .slice (some ⟨g, 0, none⟩) x.states.length sc, .int .i64 (x.nodes.length : Int), .pointer (some ⟨g, x.nodes.length, none⟩), .string st, .func (.method "Look") #[.iface T r0] #[], .func (.method "Look") #[.iface T r0] #[], .iface T r0, sval (M.look st), .pointer (some ⟨nb, 0, none⟩)] : List Value).getD i undef) (by kernel_rfl) hfr (fun i o d hi hd => by
        have hi' : i < 11 := (Array.getElem?_eq_some_iff.1 hi).1
        obtain ⟨v, h, hv⟩ := htv i o d hi hd
        have : i = 0 ∨ i = 1 ∨ i = 2 ∨ i = 3 ∨ i = 4 ∨ i = 5 ∨ i = 6 ∨ i = 7 ∨ i = 8 ∨ i = 9 ∨ i = 10 := by omega
        rcases this with rfl | rfl | rfl | rfl | rfl | rfl | rfl | rfl | rfl | rfl | rfl
        case inr.inr.inr.inr.inr.inr.inr.inr.inr.inl =>
          cases hi
          cases hd
          exact h9
        case inr.inr.inr.inr.inr.inr.inr.inr.inr.inr =>
          cases hi
          cases hd
        all_goals exact h.trans (congrArg some hv))
      refine lk_storeS rfl rfl h9 h8 hnb (fun w6 hb6 hm6 => ?_)
      refine hKC _ _ ?_
      have HN6 : Hid (Nu wr w6) := ⟨hm6.os.trans hn5.os, hm6.tape.trans hn5.tape, hm6.output.trans hn5.output, Nat.le_trans hn5.size hm6.size, fun k hk _ => (hm6.block k (by have := hn5.size; omega) (by omega)).trans (hn5.block k hk id)⟩
      have HB6 : Hid (w6.heap[nb]? = some (.cells #[.int .u64 (M.look st).props, .bool (M.look st).en, .bool (M.look st).pr, .bool (M.look st).ac] 41 (0, 0))) := hb6
      rw [act_eq htm hdf]
      clear htm hdf hn5 hsz hfr htv h8 h9 hnb hb6 hm6 HLK hmL heL hnL
      simp only [fill, sval, List.getD_cons_succ, List.getD_cons_zero, List.setIfInBounds_toArray, List.set_cons_succ, List.set_cons_zero]
      generalize hsg : M.look st = sg at *
      have HSG : Hid (M.look st = sg) := hsg
      clear hsg
      replace cst := cell_mv HN6.out cst id
      have s0 := cell_blk HB6.out 0
      have s1 := cell_blk HB6.out 1
      have s2 := cell_blk HB6.out 2
      have s3 := cell_blk HB6.out 3
      simp only [List.size_toArray, List.length_cons, List.length_nil, Nat.reduceAdd, Nat.lt_add_one, Nat.reduceLT, getElem?_pos, List.getElem_toArray, List.getElem_cons_zero, List.getElem_cons_succ, Nat.zero_lt_succ] at s0 s1 s2 s3
      go_upto_region 11 with fail
      have HN7 : Hid (Nu w6 (w6.alloc (.cells #[.slice none 0 0, .int .u64 sg.props, .bool sg.en, .bool sg.pr, .bool sg.ac] 65))) := Mv.alloc _ _ _
      obtain ⟨W7, hW7⟩ : ∃ W7, W7 = w6.alloc (.cells #[.slice none 0 0, .int .u64 sg.props, .bool sg.en, .bool sg.pr, .bool sg.ac] 65) := ⟨_, rfl⟩
      rw [← hW7] at HN7 ⊢
      have HW7 : Hid (W7 = w6.alloc (.cells #[.slice none 0 0, .int .u64 sg.props, .bool sg.en, .bool sg.pr, .bool sg.ac] 65)) := hW7
      clear hW7 s0 s1 s2 s3
      replace cst := cell_mv HN7.out cst id
      have HNR7 : Hid (Nu wr W7) := mv0 HN6.out HN7.out
      go_wp2_with fail
      refine (all_any W7 F T r0 M st 262145 (HSY.out W7 (HEO'.out.nu HNR7.out).bel) HST.out.2 (by decide) (by decide)).mono ?_
      rintro e w8 ⟨hn8, mo, mc, xs, rfl, hxm, hrw8, hown8⟩
      have HEM : Hid (EM w w8 x.nodes x.states [] sg (some ⟨g, 0, none⟩) sc mb b9 vo vc nxs (fun b => Z b ∨ ∃ x ∈ xs, x.blk b) w6.heap.size none 0 [] mo mc xs) := EM.start HEO'.out HN6.out HW7.out hn8 hrw8 hown8
      have HXS : Hid (xs.map X.m = (M.next st).take 262145) := hxm
      have hxl : xs.length ≤ 262145 := by
        have := congrArg List.length hxm
        rw [List.length_map, List.length_take] at this
        have h3 : (262145 : Int).toNat = 262145 := rfl
        omega
      clear hn8 hrw8 hown8 hxm HEO' HN6 HB6 HN7 HW7 HNR7 cst
      generalize (fun b => Z b ∨ ∃ x ∈ xs, x.blk b) = Z' at *
      generalize w6.heap.size = bx at *
      go_upto_region 13 with fail
      have hIR0 : IR M most.toNat x st ⟨x.states, x.cnt, []⟩ 0 := ⟨rfl, HER.out.most, HER.out.cnt, Nat.zero_le _, HER.out.short⟩
      go_loopw [7, 10, 15] (fun sv cv kv wk => ∃ (k : Nat) (u : Und) (so' : Option Addr) (sc' : Nat) (va : Option Addr) (vac : Nat) (axs : List AX), k ≤ xs.length ∧ kv = .int .i64 (k : Int) ∧ sv = .slice so' u.states.length sc' ∧ cv = .int .i64 (u.cnt : Int) ∧ Hid (EM w wk x.nodes u.states u.arcs sg so' sc' mb b9 vo vc nxs Z' bx va vac axs mo mc xs) ∧ Hid (IR M most.toNat x st u k))
        (fun _ _ kv _ => xs.length - (intOf kv).toNat)
      case atStart => exact ⟨0, ⟨x.states, x.cnt, []⟩, _, sc, none, 0, [], Nat.zero_le _, rfl, rfl, rfl, HEM, hIR0⟩
      case round =>
        rename World => wk
        obtain ⟨k, u, so', sc', va, vac, axs, hk, rfl, rfl, rfl, HEM', HIR⟩ := hrel
        clear HEM hIR0
        have hum := HIR.out.most
        have huc := HIR.out.cnt
        have hua := HIR.out.arc
        have hul : (u.states.length : Int) ≤ 20000 := by omega
        have huc' : (u.cnt : Int) ≤ 262144 := by omega
        rcases Nat.lt_or_ge k xs.length with hkl | hkg
        case inr =>
          obtain rfl : k = xs.length := by omega
          have hxn : (M.next st).length ≤ xs.length := by
            have h3 := congrArg List.length HXS.out
            rw [List.length_map, List.length_take] at h3
            have := HIR.out.num HER.out.most (by omega)
            omega
          have HDO : Hid (oneState M most.toNat x st = some ⟨x.nodes ++ [nodeOf sg u.arcs], u.states, u.cnt⟩) := by
            have := HIR.out.done hxn
            rwa [HSG.out] at this
          have HER2 : Hid (ER M most.toNat ⟨x.nodes ++ [nodeOf sg u.arcs], u.states, u.cnt⟩) := HER.out.goes HF.out HST.out.1 HDO.out huc HIR.out.short
          obtain ⟨i0, hi, hz0, hz1, hz2⟩ := n_info_parts n_infoNode
          have c0 := cell_blk HEM'.out.hx 0
          have c1 := cell_blk HEM'.out.hx 1
          have c2 := cell_blk HEM'.out.hx 2
          have c3 := cell_blk HEM'.out.hx 3
          have c4 := cell_blk HEM'.out.hx 4
          have c9 := cell_blk HEM'.out.eo.o9 0
          simp only [List.size_toArray, List.length_cons, List.length_nil, Nat.reduceAdd, Nat.lt_add_one, Nat.reduceLT, getElem?_pos, List.getElem_toArray, List.getElem_cons_zero, List.getElem_cons_succ, Nat.zero_lt_succ] at c0 c1 c2 c3 c4 c9
          have HNX : Hid (Nu wk (wk.alloc (.cells #[.slice va u.arcs.length vac, .int .u64 sg.props, .bool sg.en, .bool sg.pr, .bool sg.ac] 65))) := Mv.alloc _ _ _
          have HNB : Hid (∀ j v, ([.slice va u.arcs.length vac, .int .u64 sg.props, .bool sg.en, .bool sg.pr, .bool sg.ac] : List Value)[j]? = some v → (wk.alloc (.cells #[.slice va u.arcs.length vac, .int .u64 sg.props, .bool sg.en, .bool sg.pr, .bool sg.ac] 65)).cell? ((⟨wk.heap.size, 0, none⟩ : Addr).add j) = some v) := fun j v hj => by
            rw [add_block, cell_blk (heap_alloc_new wk _)]; simpa using hj
          have HRW : Hid _ := row_mv HNX.out HEM'.out.eo.row (fun _ _ => id)
          have hnl : (x.nodes.length : Int) ≤ 20000 := by have := HER.out.le; have := HER.out.most; omega
          have hsz : w.heap.size + 1 ≤ wk.heap.size := by have := (Array.getElem?_eq_some_iff.1 HEM'.out.eo.b4).1; omega
          go_wp2_with (at_builtin; refine wpList_append_lies _ rfl _ _ 22 rfl (w.heap.size + 1) 65 i0 (.agg #[.slice none 0 0, .int .u64 0, .bool false, .bool false, .bool false]) 5 40 Try.underlying22 hi hz0 hz1 hz2 rfl (by decide) _ x.nodes.length (nxflat nxs) rfl HRW.out ⟨wk.heap.size, 0, none⟩ 1 1 [.slice va u.arcs.length vac, .int .u64 sg.props, .bool sg.en, .bool sg.pr, .bool sg.ac] rfl rfl HNB.out (by simp [Value.oneCell']) (by decide) (by unfold maxLen; omega) (by omega) (by simp; omega) _ rfl ?_)
          intro g2 vc2 w9 ho9 hg9 hgg _
          have hb9 := (Mv.grown hg9).heap (HNX.out.heap HEM'.out.eo.o9 id) (fun e => by
            obtain ⟨_, _, cs', hc⟩ := row_blk HEM'.out.eo.row e
            rw [HEM'.out.eo.o9] at hc
            simp at hc)
          have d9 := cell_blk hb9 0
          have e9 := free_blk hb9 0
          simp only [List.size_toArray, List.length_cons, List.length_nil, Nat.reduceAdd, Nat.lt_add_one, getElem?_pos, List.getElem_toArray, List.getElem_cons_zero] at d9
          have HEO2 : Hid _ := HEM'.out.node HNX.out hg9 ho9 (by omega)
          have HLN : Hid (x.nodes.length < most.toNat) := by have := HLC.out; have := HER.out.most; show _ < _; omega
          clear hb9 ho9 hg9 hgg HNB HRW c0 c1 c2 c3 c4 c9
          go_wp2
          go_roundw
          case rel => exact ⟨_, _, _, _, _, _, _, rfl, rfl, by simp; try go_num, HEO2, HER2⟩
          case measure => have := HLN.out; simp [intOf]; omega
        have hkl' : (k : Int) < (xs.length : Int) := by omega
        have HKL : Hid (k < xs.length) := hkl
        obtain ⟨gm, rfl⟩ : ∃ gm, mo = some ⟨gm, 0, none⟩ := by
          rcases HEM'.out.ms.2 with ⟨_, hn⟩ | ⟨gm, cap, cur, hv, _⟩
          · omega
          · simp only [Value.slice.injEq] at hv; exact ⟨gm, hv.1⟩
        obtain ⟨y, HY, hy⟩ : ∃ y, Hid (xs[k]'hkl = y) ∧ XAt wk gm (k * 9) y := ⟨_, rfl, xrow_at HEM'.out.ms rfl k hkl⟩
        have HYM : Hid (y ∈ xs) := by rw [← HY.out]; exact List.getElem_mem hkl
        have HMK : Hid ((M.next st)[k]? = some y.m) := by
          have h3 : (xs.map X.m)[k]? = some y.m := by rw [List.getElem?_map, List.getElem?_eq_getElem hkl, HY.out]; rfl
          rw [HXS.out, List.getElem?_take_of_lt (by omega)] at h3
          exact h3
        have y0 := hy.c0
        have y1 := hy.c1
        have y2 := hy.c2
        have y3 := hy.c3
        have y4 := hy.c4
        have y5 := hy.c5
        have y6 := hy.c6
        have y7 := hy.c7
        have y8 := hy.c8
        have hzg : gm < wk.heap.size := World.block_lt_of_cell? wk _ y0
        clear hy HY hkl
        go_upto_region 17 with fail
        have HN2 : Hid (Nu wk ((wk.alloc (.cells #[.int .i64 y.m.proc, .int .i64 y.m.edge, .int .i64 y.m.wth, .int .i64 y.m.wedge, .string y.m.to, .int .i64 y.m.bad, .slice y.ra y.m.reads.length y.rc, .slice y.wa y.m.writes.length y.wc, .int .u64 y.m.turns] 44)).alloc (.cells #[.int .i64 y.m.proc, .int .i64 0, .int .i64 y.m.bad, .slice y.ra y.m.reads.length y.rc, .slice y.wa y.m.writes.length y.wc, .int .u64 y.m.turns] 69))) := mv0 (Mv.alloc _ _ _) (Mv.alloc _ _ _)
        have HBM : Hid (((wk.alloc (.cells #[.int .i64 y.m.proc, .int .i64 y.m.edge, .int .i64 y.m.wth, .int .i64 y.m.wedge, .string y.m.to, .int .i64 y.m.bad, .slice y.ra y.m.reads.length y.rc, .slice y.wa y.m.writes.length y.wc, .int .u64 y.m.turns] 44)).alloc (.cells #[.int .i64 y.m.proc, .int .i64 0, .int .i64 y.m.bad, .slice y.ra y.m.reads.length y.rc, .slice y.wa y.m.writes.length y.wc, .int .u64 y.m.turns] 69)).heap[wk.heap.size]? = some (.cells #[.int .i64 y.m.proc, .int .i64 y.m.edge, .int .i64 y.m.wth, .int .i64 y.m.wedge, .string y.m.to, .int .i64 y.m.bad, .slice y.ra y.m.reads.length y.rc, .slice y.wa y.m.writes.length y.wc, .int .u64 y.m.turns] 44 (0, 0))) := (Mv.alloc (fun _ => False) _ _).heap (heap_alloc_new wk _) id
        have HBA : Hid (((wk.alloc (.cells #[.int .i64 y.m.proc, .int .i64 y.m.edge, .int .i64 y.m.wth, .int .i64 y.m.wedge, .string y.m.to, .int .i64 y.m.bad, .slice y.ra y.m.reads.length y.rc, .slice y.wa y.m.writes.length y.wc, .int .u64 y.m.turns] 44)).alloc (.cells #[.int .i64 y.m.proc, .int .i64 0, .int .i64 y.m.bad, .slice y.ra y.m.reads.length y.rc, .slice y.wa y.m.writes.length y.wc, .int .u64 y.m.turns] 69)).heap[wk.heap.size + 1]? = some (.cells #[.int .i64 y.m.proc, .int .i64 0, .int .i64 y.m.bad, .slice y.ra y.m.reads.length y.rc, .slice y.wa y.m.writes.length y.wc, .int .u64 y.m.turns] 69 (0, 0))) := by
          have := heap_alloc_new (wk.alloc (.cells #[.int .i64 y.m.proc, .int .i64 y.m.edge, .int .i64 y.m.wth, .int .i64 y.m.wedge, .string y.m.to, .int .i64 y.m.bad, .slice y.ra y.m.reads.length y.rc, .slice y.wa y.m.writes.length y.wc, .int .u64 y.m.turns] 44)) (.cells #[.int .i64 y.m.proc, .int .i64 0, .int .i64 y.m.bad, .slice y.ra y.m.reads.length y.rc, .slice y.wa y.m.writes.length y.wc, .int .u64 y.m.turns] 69)
          rw [World.size_alloc] at this
          exact this
        generalize (wk.alloc (.cells #[.int .i64 y.m.proc, .int .i64 y.m.edge, .int .i64 y.m.wth, .int .i64 y.m.wedge, .string y.m.to, .int .i64 y.m.bad, .slice y.ra y.m.reads.length y.rc, .slice y.wa y.m.writes.length y.wc, .int .u64 y.m.turns] 44)).alloc (.cells #[.int .i64 y.m.proc, .int .i64 0, .int .i64 y.m.bad, .slice y.ra y.m.reads.length y.rc, .slice y.wa y.m.writes.length y.wc, .int .u64 y.m.turns] 69) = W2 at *
        have HE2 : Hid _ := HEM'.out.nu HN2.out
        have HBL : Hid (w.heap.size < wk.heap.size + 1) := by have := (Array.getElem?_eq_some_iff.1 HEM'.out.eo.b4).1; show _ < _; omega
        have HBW : Hid (∀ b, Z' b → b < wk.heap.size) := fun b hz => by
          obtain ⟨_, cs, t, hc, _⟩ := HEM'.out.eo.zt b hz
          exact (Array.getElem?_eq_some_iff.1 hc).1
        have HXB : Hid (bx < wk.heap.size ∧ (∀ b, (Value.slice va u.arcs.length vac).ownBlock = some b → b < wk.heap.size) ∧ (∀ b, (Value.slice vo x.nodes.length vc).ownBlock = some b → b < wk.heap.size) ∧ (∀ b, (Value.slice (some ⟨gm, 0, none⟩) xs.length mc).ownBlock = some b → b < wk.heap.size)) := ⟨(Array.getElem?_eq_some_iff.1 HEM'.out.hx).1, fun b hb => (row_blk HEM'.out.arow hb).2.1, fun b hb => (row_blk HEM'.out.eo.row hb).2.1, fun b hb => (row_blk HEM'.out.ms hb).2.1⟩
        have m4 := cell_blk HBM.out 4
        have m5 := cell_blk HBM.out 5
        simp only [List.size_toArray, List.length_cons, List.length_nil, Nat.reduceAdd, Nat.lt_add_one, Nat.reduceLT, getElem?_pos, List.getElem_toArray, List.getElem_cons_zero, List.getElem_cons_succ, Nat.zero_lt_succ] at m4 m5
        clear y0 y1 y2 y3 y4 y5 y6 y7 y8 HEM' HN2 hzg
        by_cases hbad : y.m.bad = 0
        case neg =>
          have HC4 := cell_blk HE2.out.eo.b4 0
          have HF4 := free_blk HE2.out.eo.b4 0
          simp only [List.size_toArray, List.length_cons, List.length_nil, Nat.reduceAdd, Nat.lt_add_one, Nat.reduceLT, getElem?_pos, List.getElem_toArray, List.getElem_cons_zero, List.getElem_cons_succ, Nat.zero_lt_succ] at HC4
          by_cases hov : 262144 < u.cnt + 1
          · have hov' : (262144 : Int) < (u.cnt : Int) + 1 := by omega
            have HFL : Hid (explored M most.toNat = none) := HER.out.fails HST.out.1 (HIR.out.fails HMK.out (by unfold oneMove; rw [if_neg hbad, if_pos hov]))
            have hc4 := World.cell?_setCell_same' W2 ⟨w.heap.size, 0, none⟩ (.slice none 0 0) (by rw [HC4]; rfl)
            have HNU9 : Hid (Nu w (W2.setCell ⟨w.heap.size, 0, none⟩ (.slice none 0 0))) := Nu.of_below (HE2.out.eo.bel.setCell (p := ⟨w.heap.size, 0, none⟩) (Nat.le_refl _) _)
            clear hov
            go_wp2
            refine bodyPost_ret (v := .tuple #[.agg #[.slice none 0 0], .slice none 0 0, .bool false]) (by simp [results, Try.results14, go_sem, hc4]) rfl ⟨HNU9.out, .inl ⟨HFL.out, rfl⟩⟩
          have hov' : ¬ (262144 : Int) < (u.cnt : Int) + 1 := by omega
          clear HC4 HF4
          have HIR2 : Hid (IR M most.toNat x st ⟨u.states, u.cnt + 1, u.arcs ++ [arcOf y.m 0]⟩ (k + 1)) := HIR.out.step HMK.out (by unfold oneMove; rw [if_neg hbad, if_neg hov]) HSR.out
          have c0 := cell_blk HBA.out 0
          have c1 := cell_blk HBA.out 1
          have c2 := cell_blk HBA.out 2
          have c3 := cell_blk HBA.out 3
          have c4 := cell_blk HBA.out 4
          have c5 := cell_blk HBA.out 5
          have x0 := cell_blk HE2.out.hx 0
          simp only [List.size_toArray, List.length_cons, List.length_nil, Nat.reduceAdd, Nat.lt_add_one, Nat.reduceLT, getElem?_pos, List.getElem_toArray, List.getElem_cons_zero, List.getElem_cons_succ, Nat.zero_lt_succ] at c0 c1 c2 c3 c4 c5 x0
          obtain ⟨i0, hi, hz0, hz1, hz2⟩ := n_info_parts n_infoArc
          have HNX : Hid (Nu W2 (W2.alloc (.cells #[.int .i64 y.m.proc, .int .i64 (0 : Int), .int .i64 y.m.bad, .slice y.ra y.m.reads.length y.rc, .slice y.wa y.m.writes.length y.wc, .int .u64 y.m.turns] 69))) := Mv.alloc _ _ _
          have HNB : Hid (∀ q v, ([.int .i64 y.m.proc, .int .i64 (0 : Int), .int .i64 y.m.bad, .slice y.ra y.m.reads.length y.rc, .slice y.wa y.m.writes.length y.wc, .int .u64 y.m.turns] : List Value)[q]? = some v → (W2.alloc (.cells #[.int .i64 y.m.proc, .int .i64 (0 : Int), .int .i64 y.m.bad, .slice y.ra y.m.reads.length y.rc, .slice y.wa y.m.writes.length y.wc, .int .u64 y.m.turns] 69)).cell? ((⟨W2.heap.size, 0, none⟩ : Addr).add q) = some v) := fun q v hj => by
            rw [add_block, cell_blk (heap_alloc_new W2 _)]; simpa using hj
          have HRW : Hid _ := row_mv HNX.out HE2.out.arow (fun _ _ => id)
          have hsz : w.heap.size + 1 ≤ W2.heap.size := by have := (Array.getElem?_eq_some_iff.1 HE2.out.eo.b4).1; omega
          have hal : (u.arcs.length : Int) ≤ 262144 := by omega
          clear hov huc hua hum
          go_upto_region 27 with fail
          clear hov' hbad m4 m5
          go_wp2_with (at_builtin; refine wpList_append_lies _ rfl _ _ 63 rfl (w.heap.size + 1) 69 i0 (.agg #[.int .i64 0, .int .i64 0, .int .i64 0, .slice none 0 0, .slice none 0 0, .int .u64 0]) 6 80 Try.underlying63 hi hz0 hz1 hz2 rfl (by decide) _ u.arcs.length (axflat axs) rfl HRW.out ⟨W2.heap.size, 0, none⟩ 1 1 [.int .i64 y.m.proc, .int .i64 (0 : Int), .int .i64 y.m.bad, .slice y.ra y.m.reads.length y.rc, .slice y.wa y.m.writes.length y.wc, .int .u64 y.m.turns] rfl rfl HNB.out (by simp [Value.oneCell']) (by decide) (by unfold maxLen; omega) (by omega) (by simp; omega) _ rfl ?_)
          intro g2 vac2 w9 ho9 hg9 hgg _
          have hbx := (Mv.grown hg9).heap (HNX.out.heap HE2.out.hx id) (fun e => by
            obtain ⟨_, _, cs', hc⟩ := row_blk HE2.out.arow e
            rw [HE2.out.hx] at hc
            simp at hc)
          have d0 := cell_blk hbx 0
          have e0 := free_blk hbx 0
          simp only [List.size_toArray, List.length_cons, List.length_nil, Nat.reduceAdd, Nat.lt_add_one, Nat.reduceLT, getElem?_pos, List.getElem_toArray, List.getElem_cons_zero, List.getElem_cons_succ, Nat.zero_lt_succ] at d0
          have HEM2 : Hid _ := HE2.out.arc (ax := ⟨arcOf y.m 0, y.ra, y.rc, y.wa, y.wc⟩) HNX.out hg9 ho9 (hgg.imp id (fun h => h.trans (World.size_alloc _ _).symm)) ⟨(HE2.out.mz y HYM.out).1, (HE2.out.mz y HYM.out).2⟩
          have hlu : (u.arcs ++ [arcOf y.m 0]).length = u.arcs.length + 1 := by simp
          clear hbx ho9 hg9 hgg HNB HRW c0 c1 c2 c3 c4 c5 x0
          go_wp2
          go_roundw
          case rel => exact ⟨k + 1, ⟨u.states, u.cnt + 1, u.arcs ++ [arcOf y.m 0]⟩, _, _, _, _, _, HKL.out, by go_num, (by first | rfl | simp), by go_num, HEM2, HIR2⟩
          case measure => have := HKL.out; simp [intOf]; omega
        have HBD : Hid (y.m.bad = 0) := hbad
        rw [hbad] at m5
        clear hbad
        have hkey : keyOf Try.prog 9 (.string y.m.to) = some (.string y.m.to.data.toList) := WideMaps.keyOf_string_mk Try.underlying9 (by have := HF.out.n st y.m HSR.out (List.mem_of_getElem? HMK.out); unfold Short at this; unfold maxLen; omega)
        obtain ⟨nD, D, hown, hnD, hD⟩ := HE2.out.eo.mp
        have HOW : Hid _ := hown
        have HDD : Hid (nD ≤ u.states.length ∧ ∀ s : ByteArray, D.atKey (.string s.data.toList) (.lit (.int .i64 0)) = .lit (.int .i64 (numOf u.states s))) := ⟨hnD, hD⟩
        clear hown hnD hD
        go_wp2_with (at_lookup; refine wpList_lookup_own_int _ rfl _ _ 76 rfl 9 3 .i64 skey Try.underlying76 Try.underlying3 (n_zeroInt _) mb nD D rfl HOW.out _ _ rfl hkey ?_)
        intro c hc _
        obtain rfl : numOf u.states y.m.to = c := by
          rw [HDD.out.2] at hc
          simpa using hc
        clear hc
        cases hp : plc u.states y.m.to with
        | some j =>
          have hjl := (plc_some hp).2
          have HJ : Hid (plc u.states y.m.to = some j) := hp
          rw [numOf_some hp]
          clear hp
          have hjn : ¬ (j : Int) + 1 = 0 := by omega
          have hj2 : (j : Int) ≤ 20000 := by omega
          have a1 := cell_blk HBA.out 1
          have f1 := free_blk HBA.out 1
          simp only [List.size_toArray, List.length_cons, List.length_nil, Nat.reduceAdd, Nat.lt_add_one, Nat.reduceLT, getElem?_pos, List.getElem_toArray, List.getElem_cons_zero, List.getElem_cons_succ, Nat.zero_lt_succ] at a1
          go_wp2_with (at_lookup; refine wpList_lookup_own_int _ rfl _ _ 76 rfl 9 3 .i64 skey Try.underlying76 Try.underlying3 (n_zeroInt _) mb nD D rfl HOW.out _ _ rfl hkey ?_)
          intro c hc _
          obtain rfl : (j : Int) + 1 = c := by
            rw [HDD.out.2, numOf_some HJ.out] at hc
            simpa using hc
          clear hc
          go_upto_region 24 with fail
          have HS3 : Hid (Mv (· = wk.heap.size + 1) W2 (W2.setCell ⟨wk.heap.size + 1, 1, none⟩ (.int .i64 (j : Int)))) := Mv.setCell W2 ⟨wk.heap.size + 1, 1, none⟩ _
          have HE3 : Hid _ := HE2.out.mv HS3.out (fun b hb => by
            subst hb
            exact ⟨HE2.out.eo.apart HBA.out HBL.out (by decide) (by decide) (fun e => by have := HXB.out.2.2.1 _ e; omega) (fun hz => by have := HBW.out _ hz; omega), by have := HXB.out.1; omega, fun e => by have := HXB.out.2.1 _ e; omega, fun e => by have := HXB.out.2.2.2 _ e; omega⟩)
          have HBA3 : Hid ((W2.setCell ⟨wk.heap.size + 1, 1, none⟩ (.int .i64 (j : Int))).heap[wk.heap.size + 1]? = some (.cells #[.int .i64 y.m.proc, .int .i64 (j : Int), .int .i64 y.m.bad, .slice y.ra y.m.reads.length y.rc, .slice y.wa y.m.writes.length y.wc, .int .u64 y.m.turns] 69 (0, 0))) := by
            rw [setCell_blk HBA.out]; rfl
          generalize W2.setCell ⟨wk.heap.size + 1, 1, none⟩ (.int .i64 (j : Int)) = W3 at *
          clear HS3
          clear a1 f1 hjn
          have hbad := HBD.out
          clear m4 m5
          have m4 := HBD.out
          have m5 := HBD.out
          have HC4 := cell_blk HE3.out.eo.b4 0
          have HF4 := free_blk HE3.out.eo.b4 0
          simp only [List.size_toArray, List.length_cons, List.length_nil, Nat.reduceAdd, Nat.lt_add_one, Nat.reduceLT, getElem?_pos, List.getElem_toArray, List.getElem_cons_zero, List.getElem_cons_succ, Nat.zero_lt_succ] at HC4
          by_cases hov : 262144 < u.cnt + 1
          · have hov' : (262144 : Int) < (u.cnt : Int) + 1 := by omega
            have HFL : Hid (explored M most.toNat = none) := HER.out.fails HST.out.1 (HIR.out.fails HMK.out (by unfold oneMove; rw [if_pos HBD.out, HJ.out]; simp only; rw [if_pos hov]))
            have hc4 := World.cell?_setCell_same' W3 ⟨w.heap.size, 0, none⟩ (.slice none 0 0) (by rw [HC4]; rfl)
            have HNU9 : Hid (Nu w (W3.setCell ⟨w.heap.size, 0, none⟩ (.slice none 0 0))) := Nu.of_below (HE3.out.eo.bel.setCell (p := ⟨w.heap.size, 0, none⟩) (Nat.le_refl _) _)
            clear hov
            go_wp2
            refine bodyPost_ret (v := .tuple #[.agg #[.slice none 0 0], .slice none 0 0, .bool false]) (by simp [results, Try.results14, go_sem, hc4]) rfl ⟨HNU9.out, .inl ⟨HFL.out, rfl⟩⟩
          have hov' : ¬ (262144 : Int) < (u.cnt : Int) + 1 := by omega
          clear HC4 HF4
          have HIR2 : Hid (IR M most.toNat x st ⟨u.states, u.cnt + 1, u.arcs ++ [arcOf y.m j]⟩ (k + 1)) := HIR.out.step HMK.out (by unfold oneMove; rw [if_pos HBD.out, HJ.out]; simp only; rw [if_neg hov]) HSR.out
          have c0 := cell_blk HBA3.out 0
          have c1 := cell_blk HBA3.out 1
          have c2 := cell_blk HBA3.out 2
          have c3 := cell_blk HBA3.out 3
          have c4 := cell_blk HBA3.out 4
          have c5 := cell_blk HBA3.out 5
          have x0 := cell_blk HE3.out.hx 0
          simp only [List.size_toArray, List.length_cons, List.length_nil, Nat.reduceAdd, Nat.lt_add_one, Nat.reduceLT, getElem?_pos, List.getElem_toArray, List.getElem_cons_zero, List.getElem_cons_succ, Nat.zero_lt_succ] at c0 c1 c2 c3 c4 c5 x0
          obtain ⟨i0, hi, hz0, hz1, hz2⟩ := n_info_parts n_infoArc
          have HNX : Hid (Nu W3 (W3.alloc (.cells #[.int .i64 y.m.proc, .int .i64 (j : Int), .int .i64 y.m.bad, .slice y.ra y.m.reads.length y.rc, .slice y.wa y.m.writes.length y.wc, .int .u64 y.m.turns] 69))) := Mv.alloc _ _ _
          have HNB : Hid (∀ q v, ([.int .i64 y.m.proc, .int .i64 (j : Int), .int .i64 y.m.bad, .slice y.ra y.m.reads.length y.rc, .slice y.wa y.m.writes.length y.wc, .int .u64 y.m.turns] : List Value)[q]? = some v → (W3.alloc (.cells #[.int .i64 y.m.proc, .int .i64 (j : Int), .int .i64 y.m.bad, .slice y.ra y.m.reads.length y.rc, .slice y.wa y.m.writes.length y.wc, .int .u64 y.m.turns] 69)).cell? ((⟨W3.heap.size, 0, none⟩ : Addr).add q) = some v) := fun q v hj => by
            rw [add_block, cell_blk (heap_alloc_new W3 _)]; simpa using hj
          have HRW : Hid _ := row_mv HNX.out HE3.out.arow (fun _ _ => id)
          have hsz : w.heap.size + 1 ≤ W3.heap.size := by have := (Array.getElem?_eq_some_iff.1 HE3.out.eo.b4).1; omega
          have hal : (u.arcs.length : Int) ≤ 262144 := by omega
          clear hov huc hua hum
          go_upto_region 27 with fail
          clear hov' hbad m4 m5
          go_wp2_with (at_builtin; refine wpList_append_lies _ rfl _ _ 63 rfl (w.heap.size + 1) 69 i0 (.agg #[.int .i64 0, .int .i64 0, .int .i64 0, .slice none 0 0, .slice none 0 0, .int .u64 0]) 6 80 Try.underlying63 hi hz0 hz1 hz2 rfl (by decide) _ u.arcs.length (axflat axs) rfl HRW.out ⟨W3.heap.size, 0, none⟩ 1 1 [.int .i64 y.m.proc, .int .i64 (j : Int), .int .i64 y.m.bad, .slice y.ra y.m.reads.length y.rc, .slice y.wa y.m.writes.length y.wc, .int .u64 y.m.turns] rfl rfl HNB.out (by simp [Value.oneCell']) (by decide) (by unfold maxLen; omega) (by omega) (by simp; omega) _ rfl ?_)
          intro g2 vac2 w9 ho9 hg9 hgg _
          have hbx := (Mv.grown hg9).heap (HNX.out.heap HE3.out.hx id) (fun e => by
            obtain ⟨_, _, cs', hc⟩ := row_blk HE3.out.arow e
            rw [HE3.out.hx] at hc
            simp at hc)
          have d0 := cell_blk hbx 0
          have e0 := free_blk hbx 0
          simp only [List.size_toArray, List.length_cons, List.length_nil, Nat.reduceAdd, Nat.lt_add_one, Nat.reduceLT, getElem?_pos, List.getElem_toArray, List.getElem_cons_zero, List.getElem_cons_succ, Nat.zero_lt_succ] at d0
          have HEM2 : Hid _ := HE3.out.arc (ax := ⟨arcOf y.m j, y.ra, y.rc, y.wa, y.wc⟩) HNX.out hg9 ho9 (hgg.imp id (fun h => h.trans (World.size_alloc _ _).symm)) ⟨(HE3.out.mz y HYM.out).1, (HE3.out.mz y HYM.out).2⟩
          have hlu : (u.arcs ++ [arcOf y.m j]).length = u.arcs.length + 1 := by simp
          clear hbx ho9 hg9 hgg HNB HRW c0 c1 c2 c3 c4 c5 x0
          go_wp2
          go_roundw
          case rel => exact ⟨k + 1, ⟨u.states, u.cnt + 1, u.arcs ++ [arcOf y.m j]⟩, _, _, _, _, _, HKL.out, by go_num, (by first | rfl | simp), by go_num, HEM2, HIR2⟩
          case measure => have := HKL.out; simp [intOf]; omega
        | none =>
          have HJ : Hid (plc u.states y.m.to = none) := hp
          rw [numOf_none hp]
          clear hp
          by_cases hfull : u.states.length = most.toNat
          · have hf' : (u.states.length : Int) = most := by omega
            have HFL : Hid (explored M most.toNat = none) := HER.out.fails HST.out.1 (HIR.out.fails HMK.out (by unfold oneMove; rw [if_pos HBD.out, HJ.out]; simp only; rw [if_pos hfull]))
            have HC4 := cell_blk HE2.out.eo.b4 0
            have HF4 := free_blk HE2.out.eo.b4 0
            simp only [List.size_toArray, List.length_cons, List.length_nil, Nat.reduceAdd, Nat.lt_add_one, Nat.reduceLT, getElem?_pos, List.getElem_toArray, List.getElem_cons_zero, List.getElem_cons_succ, Nat.zero_lt_succ] at HC4
            have hc4 := World.cell?_setCell_same' W2 ⟨w.heap.size, 0, none⟩ (.slice none 0 0) (by rw [HC4]; rfl)
            have HNU9 : Hid (Nu w (W2.setCell ⟨w.heap.size, 0, none⟩ (.slice none 0 0))) := Nu.of_below (HE2.out.eo.bel.setCell (p := ⟨w.heap.size, 0, none⟩) (Nat.le_refl _) _)
            clear hfull
            go_wp2
            refine bodyPost_ret (v := .tuple #[.agg #[.slice none 0 0], .slice none 0 0, .bool false]) (by simp [results, Try.results14, go_sem, hc4]) rfl ⟨HNU9.out, .inl ⟨HFL.out, rfl⟩⟩
          have hf' : ¬ (u.states.length : Int) = most := by omega
          have HNF : Hid (¬ u.states.length = most.toNat) := hfull
          clear hfull
          obtain ⟨i0, hi, hz0, hz1, hz2⟩ := n_info_parts n_infoStr
          have HNn : Hid (Nu W2 (W2.alloc (.cells #[.string y.m.to] 9))) := Mv.alloc _ _ _
          have HNS : Hid (∀ q v, ([.string y.m.to] : List Value)[q]? = some v → (W2.alloc (.cells #[.string y.m.to] 9)).cell? ((⟨W2.heap.size, 0, none⟩ : Addr).add q) = some v) := fun q v hj => by
            rw [add_block, cell_blk (heap_alloc_new W2 _)]; simpa using hj
          have HRS : Hid _ := row_mv HNn.out HE2.out.eo.st (fun _ _ => id)
          have hsz : w.heap.size + 1 ≤ W2.heap.size := by have := (Array.getElem?_eq_some_iff.1 HE2.out.eo.b4).1; omega
          go_upto_region 21 with fail
          clear hf'
          go_wp2_with (at_builtin; refine wpList_append_lies _ rfl _ _ 51 rfl (w.heap.size + 1) 9 i0 (.string ⟨#[]⟩) 1 16 Try.underlying51 hi hz0 hz1 hz2 rfl (by decide) _ u.states.length (u.states.map Value.string) rfl HRS.out ⟨W2.heap.size, 0, none⟩ 1 1 [.string y.m.to] rfl rfl HNS.out (by simp [Value.oneCell']) (by decide) (by unfold maxLen; omega) (by omega) (by simp; omega) _ rfl ?_)
          intro g3 sc3 wA hoA hgA _ _
          have HEn : Hid _ := HE2.out.nu HNn.out
          have hmA := Mv.grown hgA
          have hnr : ∀ b cs t', (W2.alloc (.cells #[.string y.m.to] 9)).heap[b]? = some (.cells cs t' (0, 0)) → t' ≠ 9 → ¬ ((Value.slice so' u.states.length sc').ownBlock = some b) := fun b cs t' hb ht hx => by
            obtain ⟨_, _, cs', hc⟩ := row_blk HRS.out hx
            rw [hb] at hc
            simp only [Option.some.injEq, Obj.cells.injEq] at hc
            exact ht hc.2.1
          have HOWA : Hid (wA.ownsMap Try.prog 9 (plainElem Try.prog 3) mb nD D) := by
            obtain ⟨es, clock, hb, r⟩ := HOW.out
            refine ⟨es, clock, hmA.heap (HNn.out.heap hb id) (fun e => ?_), r⟩
            obtain ⟨_, _, cs', hc⟩ := row_blk HRS.out e
            rw [HNn.out.heap hb id] at hc
            simp at hc
          have hbmA := hmA.heap (HNn.out.heap HBM.out id) (hnr _ _ _ (HNn.out.heap HBM.out id) (by decide))
          have m4A := cell_blk hbmA 4
          simp only [List.size_toArray, List.length_cons, List.length_nil, Nat.reduceAdd, Nat.lt_add_one, Nat.reduceLT, getElem?_pos, List.getElem_toArray, List.getElem_cons_zero, List.getElem_cons_succ, Nat.zero_lt_succ] at m4A
          have hwf : (Lit.int .i64 ((u.states.length : Int) + 1)).wf = true := by simp [Lit.wf, IntKind.min, IntKind.max, IntKind.signed, IntKind.bits]; omega
          have hnm : nD < maxLen := by have := HDD.out.1; unfold maxLen; omega
          have HGA : Hid _ := hgA
          have HRA : Hid _ := hoA
          clear hgA hoA hbmA m4 m5
          go_wp2_with (at_mapUpdate; refine wpList_mapUpdate_own _ rfl _ _ _ 76 rfl 9 3 skey Try.underlying76 (plainElem Try.prog 3) mb nD D rfl HOWA.out hnm _ _ (.string y.m.to.data.toList) rfl rfl hkey (.lit (.int .i64 ((u.states.length : Int) + 1))) [] (plainElem_int Try.underlying3 hwf) ?_)
          intro wB hownB hgB
          have HMB : Hid (MapIs wB mb (u.states ++ [y.m.to])) := MapIs.put HOWA.out HDD.out.1 HDD.out.2 HJ.out hownB
          obtain ⟨hEB, hmvB⟩ := HEn.out.state HGA.out HRA.out HMB.out hgB
          have HEB : Hid _ := hEB
          have HBAB : Hid (wB.heap[wk.heap.size + 1]? = some (.cells #[.int .i64 y.m.proc, .int .i64 0, .int .i64 y.m.bad, .slice y.ra y.m.reads.length y.rc, .slice y.wa y.m.writes.length y.wc, .int .u64 y.m.turns] 69 (0, 0))) := hmvB.heap (HNn.out.heap HBA.out id) (fun e => by
            rcases e with e | e
            · exact hnr _ _ _ (HNn.out.heap HBA.out id) (by decide) e
            · obtain ⟨es, clock, hc⟩ := HEn.out.eo.mp.blk
              rw [← e, HNn.out.heap HBA.out id] at hc
              simp at hc)
          have m4B : wB.cell? ⟨wk.heap.size, 4, none⟩ = some (.string y.m.to) := by
            have hb := hmvB.heap (HNn.out.heap HBM.out id) (fun e => by
              rcases e with e | e
              · exact hnr _ _ _ (HNn.out.heap HBM.out id) (by decide) e
              · obtain ⟨es, clock, hc⟩ := HEn.out.eo.mp.blk
                rw [← e, HNn.out.heap HBM.out id] at hc
                simp at hc)
            rw [cell_blk hb]; rfl
          obtain ⟨nE, E, hownE, hnE, hE⟩ := HMB.out
          have HOE : Hid _ := hownE
          have HEE : Hid (∀ s : ByteArray, E.atKey (.string s.data.toList) (.lit (.int .i64 0)) = .lit (.int .i64 (numOf (u.states ++ [y.m.to]) s))) := hE
          have a1 := cell_blk HBAB.out 1
          have f1 := free_blk HBAB.out 1
          simp only [List.size_toArray, List.length_cons, List.length_nil, Nat.reduceAdd, Nat.lt_add_one, Nat.reduceLT, getElem?_pos, List.getElem_toArray, List.getElem_cons_zero, List.getElem_cons_succ, Nat.zero_lt_succ] at a1
          clear hownE hnE hE hownB hgB hEB hmvB hmA hnr m4A HOWA HOW HDD HGA HRA HEn HNn HNS HRS hwf hnm
          go_wp2_with (at_lookup; refine wpList_lookup_own_int _ rfl _ _ 76 rfl 9 3 .i64 skey Try.underlying76 Try.underlying3 (n_zeroInt _) mb nE E rfl HOE.out _ _ rfl hkey ?_)
          intro c hc _
          obtain rfl : (u.states.length : Int) + 1 = c := by
            rw [HEE.out, numOf_some (plc_new (plc_none.1 HJ.out))] at hc
            simpa using hc
          clear hc hkey
          go_upto_region 24 with fail
          have HS3 : Hid (Mv (· = wk.heap.size + 1) wB (wB.setCell ⟨wk.heap.size + 1, 1, none⟩ (.int .i64 (u.states.length : Int)))) := Mv.setCell wB ⟨wk.heap.size + 1, 1, none⟩ _
          have HE3 : Hid _ := HEB.out.mv HS3.out (fun b hb => by
            subst hb
            exact ⟨HEB.out.eo.apart HBAB.out HBL.out (by decide) (by decide) (fun e => by have := HXB.out.2.2.1 _ e; omega) (fun hz => by have := HBW.out _ hz; omega), by have := HXB.out.1; omega, fun e => by have := HXB.out.2.1 _ e; omega, fun e => by have := HXB.out.2.2.2 _ e; omega⟩)
          have HBA3 : Hid ((wB.setCell ⟨wk.heap.size + 1, 1, none⟩ (.int .i64 (u.states.length : Int))).heap[wk.heap.size + 1]? = some (.cells #[.int .i64 y.m.proc, .int .i64 (u.states.length : Int), .int .i64 y.m.bad, .slice y.ra y.m.reads.length y.rc, .slice y.wa y.m.writes.length y.wc, .int .u64 y.m.turns] 69 (0, 0))) := by
            rw [setCell_blk HBAB.out]; rfl
          generalize wB.setCell ⟨wk.heap.size + 1, 1, none⟩ (.int .i64 (u.states.length : Int)) = W3 at *
          clear HS3
          clear a1 f1 m4B hsz
          have hbad := HBD.out
          have m4 := HBD.out
          have m5 := HBD.out
          have HC4 := cell_blk HE3.out.eo.b4 0
          have HF4 := free_blk HE3.out.eo.b4 0
          simp only [List.size_toArray, List.length_cons, List.length_nil, Nat.reduceAdd, Nat.lt_add_one, Nat.reduceLT, getElem?_pos, List.getElem_toArray, List.getElem_cons_zero, List.getElem_cons_succ, Nat.zero_lt_succ] at HC4
          by_cases hov : 262144 < u.cnt + 1
          · have hov' : (262144 : Int) < (u.cnt : Int) + 1 := by omega
            have HFL : Hid (explored M most.toNat = none) := HER.out.fails HST.out.1 (HIR.out.fails HMK.out (by unfold oneMove; rw [if_pos HBD.out, HJ.out]; simp only; rw [if_neg HNF.out, if_pos hov]))
            have hc4 := World.cell?_setCell_same' W3 ⟨w.heap.size, 0, none⟩ (.slice none 0 0) (by rw [HC4]; rfl)
            have HNU9 : Hid (Nu w (W3.setCell ⟨w.heap.size, 0, none⟩ (.slice none 0 0))) := Nu.of_below (HE3.out.eo.bel.setCell (p := ⟨w.heap.size, 0, none⟩) (Nat.le_refl _) _)
            clear hov
            go_wp2
            refine bodyPost_ret (v := .tuple #[.agg #[.slice none 0 0], .slice none 0 0, .bool false]) (by simp [results, Try.results14, go_sem, hc4]) rfl ⟨HNU9.out, .inl ⟨HFL.out, rfl⟩⟩
          have hov' : ¬ (262144 : Int) < (u.cnt : Int) + 1 := by omega
          clear HC4 HF4
          have HIR2 : Hid (IR M most.toNat x st ⟨u.states ++ [y.m.to], u.cnt + 1, u.arcs ++ [arcOf y.m u.states.length]⟩ (k + 1)) := HIR.out.step HMK.out (by unfold oneMove; rw [if_pos HBD.out, HJ.out]; simp only; rw [if_neg HNF.out, if_neg hov]) HSR.out
          have c0 := cell_blk HBA3.out 0
          have c1 := cell_blk HBA3.out 1
          have c2 := cell_blk HBA3.out 2
          have c3 := cell_blk HBA3.out 3
          have c4 := cell_blk HBA3.out 4
          have c5 := cell_blk HBA3.out 5
          have x0 := cell_blk HE3.out.hx 0
          simp only [List.size_toArray, List.length_cons, List.length_nil, Nat.reduceAdd, Nat.lt_add_one, Nat.reduceLT, getElem?_pos, List.getElem_toArray, List.getElem_cons_zero, List.getElem_cons_succ, Nat.zero_lt_succ] at c0 c1 c2 c3 c4 c5 x0
          obtain ⟨i0, hi, hz0, hz1, hz2⟩ := n_info_parts n_infoArc
          have HNX : Hid (Nu W3 (W3.alloc (.cells #[.int .i64 y.m.proc, .int .i64 (u.states.length : Int), .int .i64 y.m.bad, .slice y.ra y.m.reads.length y.rc, .slice y.wa y.m.writes.length y.wc, .int .u64 y.m.turns] 69))) := Mv.alloc _ _ _
          have HNB : Hid (∀ q v, ([.int .i64 y.m.proc, .int .i64 (u.states.length : Int), .int .i64 y.m.bad, .slice y.ra y.m.reads.length y.rc, .slice y.wa y.m.writes.length y.wc, .int .u64 y.m.turns] : List Value)[q]? = some v → (W3.alloc (.cells #[.int .i64 y.m.proc, .int .i64 (u.states.length : Int), .int .i64 y.m.bad, .slice y.ra y.m.reads.length y.rc, .slice y.wa y.m.writes.length y.wc, .int .u64 y.m.turns] 69)).cell? ((⟨W3.heap.size, 0, none⟩ : Addr).add q) = some v) := fun q v hj => by
            rw [add_block, cell_blk (heap_alloc_new W3 _)]; simpa using hj
          have HRW : Hid _ := row_mv HNX.out HE3.out.arow (fun _ _ => id)
          have hsz : w.heap.size + 1 ≤ W3.heap.size := by have := (Array.getElem?_eq_some_iff.1 HE3.out.eo.b4).1; omega
          have hal : (u.arcs.length : Int) ≤ 262144 := by omega
          clear hov huc hua hum
          go_upto_region 27 with fail
          clear hov' hbad m4 m5
          go_wp2_with (at_builtin; refine wpList_append_lies _ rfl _ _ 63 rfl (w.heap.size + 1) 69 i0 (.agg #[.int .i64 0, .int .i64 0, .int .i64 0, .slice none 0 0, .slice none 0 0, .int .u64 0]) 6 80 Try.underlying63 hi hz0 hz1 hz2 rfl (by decide) _ u.arcs.length (axflat axs) rfl HRW.out ⟨W3.heap.size, 0, none⟩ 1 1 [.int .i64 y.m.proc, .int .i64 (u.states.length : Int), .int .i64 y.m.bad, .slice y.ra y.m.reads.length y.rc, .slice y.wa y.m.writes.length y.wc, .int .u64 y.m.turns] rfl rfl HNB.out (by simp [Value.oneCell']) (by decide) (by unfold maxLen; omega) (by omega) (by simp; omega) _ rfl ?_)
          intro g2 vac2 w9 ho9 hg9 hgg _
          have hbx := (Mv.grown hg9).heap (HNX.out.heap HE3.out.hx id) (fun e => by
            obtain ⟨_, _, cs', hc⟩ := row_blk HE3.out.arow e
            rw [HE3.out.hx] at hc
            simp at hc)
          have d0 := cell_blk hbx 0
          have e0 := free_blk hbx 0
          simp only [List.size_toArray, List.length_cons, List.length_nil, Nat.reduceAdd, Nat.lt_add_one, Nat.reduceLT, getElem?_pos, List.getElem_toArray, List.getElem_cons_zero, List.getElem_cons_succ, Nat.zero_lt_succ] at d0
          have HEM2 : Hid _ := HE3.out.arc (ax := ⟨arcOf y.m u.states.length, y.ra, y.rc, y.wa, y.wc⟩) HNX.out hg9 ho9 (hgg.imp id (fun h => h.trans (World.size_alloc _ _).symm)) ⟨(HE3.out.mz y HYM.out).1, (HE3.out.mz y HYM.out).2⟩
          have hlu : (u.arcs ++ [arcOf y.m u.states.length]).length = u.arcs.length + 1 := by simp
          clear hbx ho9 hg9 hgg HNB HRW c0 c1 c2 c3 c4 c5 x0
          go_wp2
          go_roundw
          case rel => exact ⟨k + 1, ⟨u.states ++ [y.m.to], u.cnt + 1, u.arcs ++ [arcOf y.m u.states.length]⟩, _, _, _, _, _, HKL.out, by go_num, (by first | rfl | simp), by go_num, HEM2, HIR2⟩
          case measure => have := HKL.out; simp [intOf]; omega

theorem explore_any (w : World) (F : Nat → Prop) (T : TypeId) (r0 : Value) (M : Sem) (most : Int) (hs : SysAt F w T r0 M) (hf : M.Fine) (h1 : 1 ≤ most) (h2 : most ≤ 20000) :
    Calls Try.prog 14 #[.iface T r0, .int .i64 most] w (EOut w M most.toNat) := explore_anyR w F T r0 M most hs hf.r h1 h2

end Go.Proofs.Ytcpgpiokjghcnaa
