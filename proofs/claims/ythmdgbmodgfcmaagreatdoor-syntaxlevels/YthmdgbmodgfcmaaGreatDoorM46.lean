/-
  SReadUnits, SVals, SValsB0, SValsB1, SValsE0.
-/
import Derived.Test.YthmdgbmodgfcmaaGreatDoorM45
/-
  What reading a text as units does.
-/
namespace Go.Proofs.YthmdgbmodgfcmaaGreatDoor
open Go.RowKit

def shUnits : List D → Bool
  | [.row .unit _] => true
  | _ => false
theorem shUnits_some {ds : List D} (h : shUnits ds = true) : ∃ els, ds = [.row .unit els] := by
  unfold shUnits at h
  split at h
  · exact ⟨_, rfl⟩
  · cases h

def UnitsOut (w : World) (r : Except Mis (List D)) (e : Ending) (w' : World) : Prop := Mv (fun _ => False) w w' ∧ match r with
  | .error m => e = .returned (.tuple #[S0, misV m])
  | .ok ds => ∃ v els, ds = [.row .unit els] ∧ e = .returned (.tuple #[v, misV (0, 0)]) ∧ DIs ty w' (fun x => w.heap.size ≤ x) v (.row .unit els)

/-- The mishap's cells. -/
structure Tu (w W : World) (ms : Array Value) : Prop where
  m : W.heap[w.heap.size]? = some (.cells ms 26 (0, 0))
  mv : Mv (fun _ => False) w W
theorem Tu.setM {w W : World} {ms : Array Value} (h : Tu w W ms) (i : Nat) (u : Value) : Tu w (W.setCell ⟨w.heap.size, i, none⟩ u) (ms.setIfInBounds i u) := ⟨setCell_blk h.m, h.mv.old _ _ (Nat.le_refl _)⟩
theorem Tu.drew {w W : World} {ms : Array Value} (h : Tu w W ms) : Tu w W.drew ms := ⟨h.m, h.mv.trans (Mv.drew (fun _ => False) W) (fun _ h => h.elim)⟩
theorem Tu.go {S : Nat → Prop} {w W W' : World} {ms : Array Value} (h : Tu w W ms) (hm : Mv S W W') (ha : ¬ S w.heap.size) (hs : ∀ x, S x → w.heap.size ≤ x) : Tu w W' ms := ⟨hm.heap h.m ha, h.mv.trans hm (fun x hx => .inr (hs x hx))⟩

theorem resUnits {w W : World} {x y v : Value} (h : Tu w W #[x, y]) {T : Array Value} (h6 : T[6]?.getD undef = v) (h7 : T[7]?.getD undef = .pointer (some ⟨w.heap.size, 0, none⟩)) :
    (results Tryz.f13 T).run Tryz.prog W = .ok (.tuple #[v, .agg #[x, y]]) W := by
  obtain ⟨d0, d1, _⟩ := facts2 h.m
  simp only [results, Tryz.results13]
  simp [h6, h7, go_sem, d0, d1]

theorem leaveU_panic {w w4 : World} {x y : Value} (h : Tu w w4 #[x, y]) (m : Mis) {T : Array Value} (h6 : T[6]?.getD undef = S0) (h7 : T[7]?.getD undef = .pointer (some ⟨w.heap.size, 0, none⟩)) :
    bodyPostD Tryz.prog Tryz.f13 (UnitsOut w (.error m)) (.panic (thrown m)) { tmps := T, defers := [{ target := .fn (.func 29) #[.pointer (some ⟨w.heap.size, 0, none⟩)], args := #[] }] } w4 := by
  refine leaves_cons (f := 29) (args := #[.pointer (some ⟨w.heap.size, 0, none⟩)]) (by simp) (by simp [go_sem]) ?_
  refine (catchUnits_panicking w.heap.size m w4 _ _ h.m).mono ?_
  rintro e u' w5 ⟨rfl, rfl, hb, hmv⟩
  have h5 : Tu w w5 #[.int .i64 (m.1 : Int), .int .i64 (m.2 : Int)] := ⟨hb, h.mv.trans hmv (fun x hx => .inr (by subst hx; omega))⟩
  exact ⟨_, resUnits h5 h6 h7, h5.mv, rfl⟩

theorem leaveU_ret {w w4 : World} {x y v : Value} (h : Tu w w4 #[x, y]) {R : Ending → World → Prop} {T : Array Value} (h6 : T[6]?.getD undef = v) (h7 : T[7]?.getD undef = .pointer (some ⟨w.heap.size, 0, none⟩))
    (hR : R (.returned (.tuple #[v, .agg #[x, y]])) w4) :
    bodyPostD Tryz.prog Tryz.f13 R .ret { tmps := T, defers := [{ target := .fn (.func 29) #[.pointer (some ⟨w.heap.size, 0, none⟩)], args := #[] }] } w4 := by
  refine leaves_cons (f := 29) (args := #[.pointer (some ⟨w.heap.size, 0, none⟩)]) (by simp) (by simp [go_sem]) ?_
  refine (catchUnits_idle ⟨w.heap.size, 0, none⟩ w4).mono ?_
  rintro e u' w5 ⟨rfl, rfl, rfl⟩
  exact ⟨_, resUnits h h6 h7, hR⟩

theorem DIs.sliceU {w : World} {F : Nat → Prop} {v : Value} {t : Ty} {els : List (List D)} (h : DIs ty w F v (.row t els)) : ∃ ao l c, v = .slice ao l c := by
  cases h with
  | nil => exact ⟨_, _, _, rfl⟩
  | row => exact ⟨_, _, _, rfl⟩

set_option maxHeartbeats 4000000 in
theorem readUnits_bad (s : ByteArray) (m : Mis) (ht : tokens (bytesOf s) = .error m) (w : World) (hG : G w) (g1 g2 : Value) :
    Calls Tryz.prog 13 #[.string s, g1, g2] w (UnitsOut w (.error m)) := by
  have HT : Hid (∀ w, G w → Calls Tryz.prog 28 #[.string s] w (TokOut 104 w (.error m))) := fun w hG => by rw [← ht]; exact Tokens_any s w hG
  obtain ⟨c, k⟩ := m
  have hc : ((c : Int) == 0) = false := by have := tokens_code ht; simpa using this
  clear ht
  have HG : Hid (G (w.alloc M0)) := hG.kept (Kept.alloc [] w M0)
  clear hG
  go_enter_defers Tryz.func13, Tryz.ntmps13
  go_wp2_with fail
  refine (HT.out _ HG.out).mono ?_
  intro e w2 ho
  obtain ⟨rfl, hk⟩ := ho
  have ht : Tu w w2 #[.int .i64 0, .int .i64 0] := ⟨hk.heap (heap_alloc_new w M0) (by simp), (Mv.alloc (fun _ => False) w M0).trans (Mv.of_kept hk) (by simp)⟩
  obtain ⟨m0, m1, f0, f1⟩ := facts2 ht.m
  have HW : Hid (Tu w w2 #[.int .i64 0, .int .i64 0]) := ht
  clear hk ht
  go_wp2_with fail
  go_region
  all_goals go_wp2_with fail
  have hT := ((((HW.out.setM 0 (.int .i64 (c : Int))).setM 1 (.int .i64 (k : Int))).setM 0 (.int .i64 (c : Int))).setM 1 (.int .i64 (k : Int))).drew
  exact ⟨_, resUnits hT rfl rfl, hT.mv, rfl⟩

set_option maxHeartbeats 8000000 in
theorem readUnits_good (s : ByteArray) (T : List Tok) (ht : tokens (bytesOf s) = .ok T) (hpl : plain T = true) (f : Nat) (hf : f ≤ 1000000) (r : Except Mis (List D)) (hr : readV (.program []) shUnits (depUnits f) f (bytesOf s) = some r) (w : World) (hG : G w) (hTN : TN w) :
    Calls Tryz.prog 13 #[.string s, .func (.func 14) #[] #[], .func (.func 15) #[] #[]] w (UnitsOut w r) := by
  have HT : Hid (∀ w, G w → Calls Tryz.prog 28 #[.string s] w (TokOut 104 w (.ok T))) := fun w hG => by rw [← ht]; exact Tokens_any s w hG
  have hmf : ∀ (fn : Fn) (first cap : Array Value) (w : World), (Instr.makeFunc fn first cap).run Tryz.prog w = .ok (.func fn first cap) w := fun _ _ _ _ => rfl
  have HG : Hid (G (w.alloc M0)) := hG.kept (Kept.alloc [] w M0)
  have HR : Hid (readV (.program []) shUnits (depUnits f) f (bytesOf s) = some r) := hr
  have HTK : Hid (tokens (bytesOf s) = .ok T) := ht
  have HP : Hid (plain T = true ∧ TN w ∧ f ≤ 1000000) := ⟨hpl, hTN, hf⟩
  clear hG hr ht hpl hTN hf
  go_enter_defers Tryz.func13, Tryz.ntmps13
  go_wp2_with fail
  refine (HT.out _ HG.out).mono ?_
  intro e w2 ho
  obtain ⟨v, rfl, hrow, hk⟩ := ho
  have ht : Tu w w2 #[.int .i64 0, .int .i64 0] := ⟨hk.heap (heap_alloc_new w M0) (by simp), (Mv.alloc (fun _ => False) w M0).trans (Mv.of_kept hk) (by simp)⟩
  have hlt1 : w.heap.size < w2.heap.size := lt_of_block ht.m
  obtain ⟨ao, cap, wb, rfl, hwd, hwb⟩ := wds_of hrow (by omega)
  obtain ⟨m0, m1, f0, f1⟩ := facts2 ht.m
  have HW : Hid (Tu w w2 #[.int .i64 0, .int .i64 0]) := ht
  have hw1 : 1 < w.heap.size := HP.out.2.1.lt
  have hwb1 : ¬ wb = w.heap.size := by
    have hz : (w.alloc M0).heap.size = w.heap.size + 1 := by simp
    rw [hz] at hwb
    rcases hwb with h | h <;> omega
  have hwlt := hwd.lt
  have HX : Hid (∃ E : Env, E.c = ⟨s.size, bytesOf s, T⟩ ∧ E.rb = w2.heap.size ∧ ∀ W3, (((w2.setCell ⟨w.heap.size, 0, none⟩ (.int .i64 0)).setCell ⟨w.heap.size, 1, none⟩ (.int .i64 0)).alloc (.cells #[.string s, .slice ao T.length cap, .int .i64 0] 86)).alloc (.cells #[S0] 23) = W3 →
      Tu w W3 #[.int .i64 0, .int .i64 0] ∧ Rd E W3 0 ∧ At ty W3 (fun _ => False) (w2.heap.size + 1) 23 1 0 [.row .unit []] ∧ ¬ E.own (w2.heap.size + 1) ∧ W3.heap.size = w2.heap.size + 2) := by
    refine ⟨envOf s T HTK.out w2.heap.size wb ao cap (by omega) (by omega) hwd.ao, rfl, rfl, ?_⟩
    rintro W3 rfl
    have hm1 : Mv (· = w.heap.size) w2 ((w2.setCell ⟨w.heap.size, 0, none⟩ (.int .i64 0)).setCell ⟨w.heap.size, 1, none⟩ (.int .i64 0)) := (Mv.setCell w2 ⟨w.heap.size, 0, none⟩ _).trans (Mv.setCell _ ⟨w.heap.size, 1, none⟩ _) (fun x hx => .inl hx)
    have hm2 := hm1.trans (Mv.alloc (fun _ => False) _ (.cells #[.string s, .slice ao T.length cap, .int .i64 0] 86)) (fun _ h => h.elim)
    have hm3 := hm2.trans (Mv.alloc (fun _ => False) _ (.cells #[S0] 23)) (fun _ h => h.elim)
    have hsz : ((w2.setCell ⟨w.heap.size, 0, none⟩ (.int .i64 0)).setCell ⟨w.heap.size, 1, none⟩ (.int .i64 0)).heap.size = w2.heap.size := by simp [World.setCell]
    have hsz2 : (((w2.setCell ⟨w.heap.size, 0, none⟩ (.int .i64 0)).setCell ⟨w.heap.size, 1, none⟩ (.int .i64 0)).alloc (.cells #[.string s, .slice ao T.length cap, .int .i64 0] 86)).heap.size = w2.heap.size + 1 := by simp [hsz]
    have hTN3 : TN w2 := HP.out.2.1.mv HW.out.mv id
    have hwd3 := hwd.mv hm3 hwb1
    refine ⟨((HW.out.setM 0 _).setM 1 _).go (S := fun _ => False) ((Mv.alloc (fun _ => False) _ _).trans (Mv.alloc (fun _ => False) _ _) (fun _ h => h.elim)) id (fun _ h => h.elim), ⟨?_, hwd3.words, Nat.zero_le _, hwd3.lt, hTN3.mv hm3 (by omega)⟩, ?_, ?_, by simp [hsz2]⟩
    · exact (Mv.alloc (fun _ => False) _ _).heap (new_at _ _ _ hsz) id
    · refine ⟨⟨#[S0], fun _ _ => False, new_at _ _ _ hsz2, rfl, fun i d hd => ?_, fun _ _ h => h, fun _ _ _ h => h.elim⟩, by simp, fun h => h, fun _ h => h.elim⟩
      cases i with
      | zero => cases hd; exact ⟨S0, rfl, .nil _ _⟩
      | succ i => cases hd
    · rintro (h | h | h)
      · have h' : w2.heap.size + 1 = w2.heap.size := h
        omega
      · have h' : w2.heap.size + 1 = wb := h
        omega
      · omega
  clear hk ht hrow hwd hwb hwb1 hwlt hw1
  go_wp2_with fail
  obtain ⟨E, hc, hrb, hE⟩ := HX.out
  obtain ⟨hT3, hrd, hat, hown, hs3⟩ := hE _ rfl
  have hsp := (sp_all E (by rw [hc]; exact plain_key HP.out.1 _ _ _ (.inl rfl)) (by rw [hc]; exact plain_key HP.out.1 _ _ _ (.inr rfl)) f HP.out.2.2).program 0
  have hr := HR.out
  unfold readV at hr
  rw [HTK.out] at hr
  simp only [HP.out.1, if_true] at hr
  rw [bytesOf_length, ← hc] at hr
  have hne : ¬ OOF (run E.c f (.program []) 0) := by
    intro h
    rw [h] at hr
    simp at hr
  have hX := hsp hne _ (fun _ => False) (w2.heap.size + 1) 23 1 0 hrd hat hown (fun _ h => h.elim)
  rw [hrb] at hX
  refine hX.mono ?_
  clear hX hsp hne
  intro e w4 hp
  have go4 : ∀ {W : World}, Mv (fun x => x = E.rb ∨ x = w2.heap.size + 1 ∨ False) ((((w2.setCell ⟨w.heap.size, 0, none⟩ (.int .i64 0)).setCell ⟨w.heap.size, 1, none⟩ (.int .i64 0)).alloc (.cells #[.string s, .slice ao T.length cap, .int .i64 0] 86)).alloc (.cells #[S0] 23)) W → Tu w W #[.int .i64 0, .int .i64 0] := fun hm =>
    hT3.go hm (by rw [hrb]; rintro (h | h | h) <;> omega) (fun x h => by
      rcases h with h | h | h
      · rw [hrb] at h; omega
      · omega
      · exact h.elim)
  cases hrun : run E.c f (.program []) 0 with
  | error m =>
    rw [hrun] at hp hr
    simp only at hr
    split at hr
    · cases hr
    · cases hr
      obtain ⟨rfl, hm⟩ := hp
      exact leaveU_panic (go4 hm) m rfl rfl
  | ok x =>
    obtain ⟨ds, i⟩ := x
    rw [hrun] at hp hr
    simp only at hr
    obtain ⟨rfl, hrd4, hlen, ⟨F', hat4, hF'⟩, hm, ho⟩ := hp
    have h4 := go4 hm
    have HF' : Hid (∀ x, F' x → w.heap.size < x) := fun x hx => by have := (hF' x hx).resolve_left id; omega
    have HE : Hid (∀ w5, Mv (fun _ => False) w4 w5 → Tu w w5 #[.int .i64 0, .int .i64 0] ∧ Rd E w5 i ∧ At ty w5 F' (w2.heap.size + 1) 23 1 0 ds) := fun w5 h => ⟨h4.go h id (fun _ h => h.elim), hrd4.same h, hat4.kept h id (fun _ _ => id)⟩
    have HN : Hid (∀ w5, Rd E w5 i → Calls Tryz.prog 30 #[.pointer (some ⟨w2.heap.size, 0, none⟩)] w5 fun e w' => e = .returned (.bool (decide (T.length ≤ i))) ∧ Mv (fun _ => False) w5 w') := fun w5 h => by
      have := ended_any E i w5 h
      rwa [hrb, hc] at this
    have HF : Hid (∀ w5, Rd E w5 i → Calls Tryz.prog 31 #[.pointer (some ⟨w2.heap.size, 0, none⟩)] w5 fun e w' => e = .panicked (thrown (E.c.refuse i)) ∧ Mv (fun _ => False) w5 w') := fun w5 h => by
      have := refuse_any E i w5 h
      rwa [hrb] at this
    have HRr : Hid ((if i < T.length then some (.error (Cx.refuse E.c i)) else if shUnits ds then match depUnits f ds with
        | none => none
        | some n => some (if 60 < n then .error (3, 0) else .ok ds) else none) = some r) := hr
    have HRd4 : Hid (Rd E w4 i) := hrd4
    clear hr hrd4 hat4 h4 hm ho go4 hrun hT3 hrd hat hown hs3 hE HX HR HTK HG HT HW hF' hlen hc hrb
    go_wp2_with fail
    refine (HN.out _ HRd4.out).mono ?_
    rintro e w5 ⟨rfl, hm5⟩
    obtain ⟨h5, hrd5, hat5⟩ := HE.out w5 hm5
    have HE5 : Hid (∀ w6, Mv (fun _ => False) w5 w6 → Tu w w6 #[.int .i64 0, .int .i64 0] ∧ Rd E w6 i ∧ At ty w6 F' (w2.heap.size + 1) 23 1 0 ds) := fun w6 h => HE.out w6 (hm5.trans h (fun _ h => h.elim))
    by_cases hi : i < T.length
    · have hd : decide (T.length ≤ i) = false := by simp; omega
      have hr := HRr.out
      rw [if_pos hi] at hr
      cases hr
      have HRd5 : Hid (Rd E w5 i) := hrd5
      rw [hd]
      clear hat5 hrd5 h5 hm5 hd hi HE HRr
      go_wp2_with fail
      refine (HF.out _ HRd5.out).mono ?_
      rintro e w6 ⟨rfl, hm6⟩
      exact leaveU_panic (HE5.out w6 hm6).1 (E.c.refuse i) rfl rfl
    · have hd : decide (T.length ≤ i) = true := by simp; omega
      have hr := HRr.out
      rw [if_neg hi] at hr
      split at hr
      · rename_i hsh
        cases hdp : depUnits f ds with
        | none => rw [hdp] at hr; cases hr
        | some n =>
          rw [hdp] at hr
          simp only [Option.some.injEq] at hr
          obtain ⟨els, rfl⟩ := shUnits_some hsh
          have HDp : Hid (Gives 15 w5 (w2.heap.size + 1) 0 n) := units_depth f HP.out.2.2 _ n hdp w5 _ _ hat5.ro
          have HR' : Hid ((if 60 < n then .error (3, 0) else .ok [.row .unit els]) = r) := hr
          rw [hd]
          clear hat5 hrd5 h5 hm5 hd hi HE HRr hdp hr hsh
          go_wp2_with fail
          refine HDp.out.mono ?_
          rintro e w6 ⟨rfl, kd, hw6⟩
          have hm6 : Mv (fun _ => False) w5 w6 := by rw [hw6]; exact Mv.drewN _ _ _
          obtain ⟨h6, _, hat6⟩ := HE5.out w6 hm6
          clear hw6 hm6
          obtain ⟨m0, m1, f0, f1⟩ := facts2 h6.m
          have HW6 : Hid (Tu w w6 #[.int .i64 0, .int .i64 0]) := h6
          have HA6 : Hid (At ty w6 F' (w2.heap.size + 1) 23 1 0 [.row .unit els]) := hat6
          clear h6 hat6 HE5 HDp
          by_cases hn : 60 < n
          · have hn' : (60 : Int) < (n : Int) := by omega
            have hr := HR'.out
            rw [if_pos hn] at hr
            subst hr
            clear HR' hn
            go_wp2_with fail
            have hT := (HW6.out.setM 0 (.int .i64 3)).setM 1 (.int .i64 0)
            exact leaveU_ret hT rfl rfl ⟨hT.mv, rfl⟩
          · have hn' : ¬ (60 : Int) < (n : Int) := by omega
            have hr := HR'.out
            rw [if_neg hn] at hr
            subst hr
            clear HR' hn
            have hnb : ¬ w2.heap.size + 1 = w.heap.size := by omega
            obtain ⟨v, b0, e0⟩ := HA6.out.cell 0 _ rfl
            obtain ⟨o4, l4, c4, rfl⟩ := e0.sliceU
            have HV : Hid (∀ W, (∀ x, w.heap.size < x → W.heap[x]? = w6.heap[x]?) → DIs ty W (fun x => w.heap.size ≤ x) (.slice o4 l4 c4) (.row .unit els)) := fun W hW => (e0.kept (fun g hg _ => hW g (HF'.out g hg))).mono (fun x hx => by have := HF'.out x hx; omega)
            clear HA6 e0 HF'
            go_wp2_with fail
            have hT := (HW6.out.setM 0 (.int .i64 0)).setM 1 (.int .i64 0)
            exact leaveU_ret hT rfl rfl ⟨hT.mv, _, els, rfl, rfl, HV.out _ (fun x hx => (set_other (by omega)).trans (set_other (by omega)))⟩
      · cases hr

theorem readUnits_any (s : ByteArray) (f : Nat) (hf : f ≤ 1000000) (r : Except Mis (List D)) (hr : readV (.program []) shUnits (depUnits f) f (bytesOf s) = some r) (w : World) (hG : G w) (hTN : TN w) :
    Calls Tryz.prog 13 #[.string s, .func (.func 14) #[] #[], .func (.func 15) #[] #[]] w (UnitsOut w r) := by
  cases ht : tokens (bytesOf s) with
  | error m =>
    have h := hr
    unfold readV at h
    rw [ht] at h
    cases h
    exact readUnits_bad s m ht w hG _ _
  | ok T =>
    have hpl : plain T = true := by
      have h := hr
      unfold readV at h
      rw [ht] at h
      simp only at h
      split at h
      · assumption
      · cases h
    exact readUnits_good s T ht hpl f hf r hr w hG hTN

end Go.Proofs.YthmdgbmodgfcmaaGreatDoor
/-
  What is read of the texts that the statements lay down: by reckoning.
-/
namespace Go.Proofs.YthmdgbmodgfcmaaGreatDoor
open Go.RowKit

def unitsV (l : List UInt8) : Option (Except Mis (List D)) := readV (.program []) shUnits (depUnits 2000) 2000 l
def exprV (l : List UInt8) : Option (Except Mis (List D)) := readV .expr shAst (dep 2000 .ast) 2000 l

def chk1 : Option (Except Mis (List D)) → Bool
  | some (.ok [.row .unit [_, u]]) => match u with
    | .num k :: _ => k == 5 && (match (u[20]? : Option D) with
      | some (D.row .stmt [st]) => (match (st[26]? : Option D) with | some (D.row .stmts o) => o.length == 2 | _ => false)
      | _ => false)
    | _ => false
  | _ => false
def isErr (m : Mis) : Option (Except Mis (List D)) → Bool
  | some (.error n) => decide (n = m)
  | _ => false
def isOk : Option (Except Mis (List D)) → Bool
  | some (.ok _) => true
  | _ => false

/-- The texts of SyntaxDeep. -/
def heads (b : Bool) : Nat → List UInt8
  | 0 => []
  | n + 1 => heads b n ++ (if b then [123, 32] else [33, 32])
def tails : Nat → List UInt8
  | 0 => []
  | n + 1 => tails n ++ [32, 125]
def deepB (n : Nat) : List UInt8 := [105, 110, 105, 116, 32, 123, 32] ++ heads true n ++ [115, 107, 105, 112] ++ tails n ++ [32, 125]
def deepE (n : Nat) : List UInt8 := heads false n ++ [120]

set_option maxRecDepth 1000000
theorem v1 : chk1 (unitsV [98, 121, 116, 101, 32, 120, 59, 32, 105, 110, 105, 116, 32, 123, 32, 105, 102, 32, 58, 58, 32, 120, 32, 62, 32, 48, 32, 45, 62, 32, 120, 45, 45, 59, 32, 58, 58, 32, 101, 108, 115, 101, 32, 102, 105, 32, 125]) = true := by kernel_rfl
theorem v2 : isErr (30, 11) (unitsV [105, 110, 105, 116, 32, 123, 32, 120, 32, 61, 32, 125]) = true := by kernel_rfl
def chk3 : Option (Except Mis (List D)) → Bool
  | some (.ok [_, _, .str s, _, _, _, _, _, _]) => s == [43]
  | _ => false
theorem v3 : chk3 (exprV [49, 32, 43, 32, 50, 32, 42, 32, 51]) = true := by kernel_rfl
def okB (n : Nat) : Bool := if n < 60 then isOk (unitsV (deepB n)) else isErr (3, 0) (unitsV (deepB n))
def okE (n : Nat) : Bool := if n < 60 then isOk (exprV (deepE n)) else isErr (3, 0) (exprV (deepE n))

end Go.Proofs.YthmdgbmodgfcmaaGreatDoor
/-
  Texts that lie deep: by reckoning.
-/
namespace Go.Proofs.YthmdgbmodgfcmaaGreatDoor

set_option maxRecDepth 1000000
theorem vB0 : okB 0 = true := by kernel_rfl
theorem vB1 : okB 1 = true := by kernel_rfl
theorem vB2 : okB 2 = true := by kernel_rfl
theorem vB3 : okB 3 = true := by kernel_rfl
theorem vB4 : okB 4 = true := by kernel_rfl
theorem vB5 : okB 5 = true := by kernel_rfl
theorem vB6 : okB 6 = true := by kernel_rfl
theorem vB7 : okB 7 = true := by kernel_rfl
theorem vB8 : okB 8 = true := by kernel_rfl
theorem vB9 : okB 9 = true := by kernel_rfl
theorem vB10 : okB 10 = true := by kernel_rfl
theorem vB11 : okB 11 = true := by kernel_rfl
theorem vB12 : okB 12 = true := by kernel_rfl
theorem vB13 : okB 13 = true := by kernel_rfl
theorem vB14 : okB 14 = true := by kernel_rfl
theorem vB15 : okB 15 = true := by kernel_rfl
theorem vB16 : okB 16 = true := by kernel_rfl
theorem vB17 : okB 17 = true := by kernel_rfl
theorem vB18 : okB 18 = true := by kernel_rfl
theorem vB19 : okB 19 = true := by kernel_rfl
theorem vB20 : okB 20 = true := by kernel_rfl
theorem vB21 : okB 21 = true := by kernel_rfl
theorem vB22 : okB 22 = true := by kernel_rfl
theorem vB23 : okB 23 = true := by kernel_rfl
theorem vB24 : okB 24 = true := by kernel_rfl
theorem vB25 : okB 25 = true := by kernel_rfl
theorem vB26 : okB 26 = true := by kernel_rfl
theorem vB27 : okB 27 = true := by kernel_rfl
theorem vB28 : okB 28 = true := by kernel_rfl
theorem vB29 : okB 29 = true := by kernel_rfl
theorem vB30 : okB 30 = true := by kernel_rfl
theorem vB31 : okB 31 = true := by kernel_rfl
theorem vB32 : okB 32 = true := by kernel_rfl
theorem vB33 : okB 33 = true := by kernel_rfl
theorem vB34 : okB 34 = true := by kernel_rfl
theorem vB35 : okB 35 = true := by kernel_rfl
theorem vB36 : okB 36 = true := by kernel_rfl
theorem vB37 : okB 37 = true := by kernel_rfl
theorem vB38 : okB 38 = true := by kernel_rfl
theorem vB39 : okB 39 = true := by kernel_rfl
theorem vB40 : okB 40 = true := by kernel_rfl
theorem vB41 : okB 41 = true := by kernel_rfl
theorem vB42 : okB 42 = true := by kernel_rfl
theorem vB43 : okB 43 = true := by kernel_rfl
theorem vB44 : okB 44 = true := by kernel_rfl
theorem vB45 : okB 45 = true := by kernel_rfl
theorem vB46 : okB 46 = true := by kernel_rfl
theorem vB47 : okB 47 = true := by kernel_rfl
theorem vB48 : okB 48 = true := by kernel_rfl
theorem vB49 : okB 49 = true := by kernel_rfl
theorem vB50 : okB 50 = true := by kernel_rfl
theorem vB51 : okB 51 = true := by kernel_rfl
theorem vB52 : okB 52 = true := by kernel_rfl
theorem vB53 : okB 53 = true := by kernel_rfl
theorem vB54 : okB 54 = true := by kernel_rfl
theorem vB55 : okB 55 = true := by kernel_rfl
theorem vB56 : okB 56 = true := by kernel_rfl
theorem vB57 : okB 57 = true := by kernel_rfl
theorem vB58 : okB 58 = true := by kernel_rfl
theorem vB59 : okB 59 = true := by kernel_rfl

end Go.Proofs.YthmdgbmodgfcmaaGreatDoor
/-
  Texts that lie deep: by reckoning.
-/
namespace Go.Proofs.YthmdgbmodgfcmaaGreatDoor

set_option maxRecDepth 1000000
theorem vB60 : okB 60 = true := by kernel_rfl
theorem vB61 : okB 61 = true := by kernel_rfl
theorem vB62 : okB 62 = true := by kernel_rfl
theorem vB63 : okB 63 = true := by kernel_rfl
theorem vB64 : okB 64 = true := by kernel_rfl
theorem vB65 : okB 65 = true := by kernel_rfl
theorem vB66 : okB 66 = true := by kernel_rfl
theorem vB67 : okB 67 = true := by kernel_rfl
theorem vB68 : okB 68 = true := by kernel_rfl
theorem vB69 : okB 69 = true := by kernel_rfl
theorem vB70 : okB 70 = true := by kernel_rfl
theorem vB71 : okB 71 = true := by kernel_rfl
theorem vB72 : okB 72 = true := by kernel_rfl
theorem vB73 : okB 73 = true := by kernel_rfl
theorem vB74 : okB 74 = true := by kernel_rfl
theorem vB75 : okB 75 = true := by kernel_rfl
theorem vB76 : okB 76 = true := by kernel_rfl
theorem vB77 : okB 77 = true := by kernel_rfl
theorem vB78 : okB 78 = true := by kernel_rfl
theorem vB79 : okB 79 = true := by kernel_rfl
theorem vB80 : okB 80 = true := by kernel_rfl
theorem vB81 : okB 81 = true := by kernel_rfl
theorem vB82 : okB 82 = true := by kernel_rfl
theorem vB83 : okB 83 = true := by kernel_rfl
theorem vB84 : okB 84 = true := by kernel_rfl
theorem vB85 : okB 85 = true := by kernel_rfl
theorem vB86 : okB 86 = true := by kernel_rfl
theorem vB87 : okB 87 = true := by kernel_rfl
theorem vB88 : okB 88 = true := by kernel_rfl
theorem vB89 : okB 89 = true := by kernel_rfl
theorem vB90 : okB 90 = true := by kernel_rfl
theorem vB91 : okB 91 = true := by kernel_rfl
theorem vB92 : okB 92 = true := by kernel_rfl
theorem vB93 : okB 93 = true := by kernel_rfl
theorem vB94 : okB 94 = true := by kernel_rfl
theorem vB95 : okB 95 = true := by kernel_rfl
theorem vB96 : okB 96 = true := by kernel_rfl
theorem vB97 : okB 97 = true := by kernel_rfl
theorem vB98 : okB 98 = true := by kernel_rfl
theorem vB99 : okB 99 = true := by kernel_rfl
theorem vB100 : okB 100 = true := by kernel_rfl
theorem vB101 : okB 101 = true := by kernel_rfl
theorem vB102 : okB 102 = true := by kernel_rfl
theorem vB103 : okB 103 = true := by kernel_rfl
theorem vB104 : okB 104 = true := by kernel_rfl
theorem vB105 : okB 105 = true := by kernel_rfl
theorem vB106 : okB 106 = true := by kernel_rfl
theorem vB107 : okB 107 = true := by kernel_rfl
theorem vB108 : okB 108 = true := by kernel_rfl
theorem vB109 : okB 109 = true := by kernel_rfl
theorem vB110 : okB 110 = true := by kernel_rfl
theorem vB111 : okB 111 = true := by kernel_rfl
theorem vB112 : okB 112 = true := by kernel_rfl
theorem vB113 : okB 113 = true := by kernel_rfl
theorem vB114 : okB 114 = true := by kernel_rfl
theorem vB115 : okB 115 = true := by kernel_rfl
theorem vB116 : okB 116 = true := by kernel_rfl
theorem vB117 : okB 117 = true := by kernel_rfl
theorem vB118 : okB 118 = true := by kernel_rfl
theorem vB119 : okB 119 = true := by kernel_rfl

end Go.Proofs.YthmdgbmodgfcmaaGreatDoor
/-
  Texts that lie deep: by reckoning.
-/
namespace Go.Proofs.YthmdgbmodgfcmaaGreatDoor

set_option maxRecDepth 1000000
theorem vE0 : okE 0 = true := by kernel_rfl
theorem vE1 : okE 1 = true := by kernel_rfl
theorem vE2 : okE 2 = true := by kernel_rfl
theorem vE3 : okE 3 = true := by kernel_rfl
theorem vE4 : okE 4 = true := by kernel_rfl
theorem vE5 : okE 5 = true := by kernel_rfl
theorem vE6 : okE 6 = true := by kernel_rfl
theorem vE7 : okE 7 = true := by kernel_rfl
theorem vE8 : okE 8 = true := by kernel_rfl
theorem vE9 : okE 9 = true := by kernel_rfl
theorem vE10 : okE 10 = true := by kernel_rfl
theorem vE11 : okE 11 = true := by kernel_rfl
theorem vE12 : okE 12 = true := by kernel_rfl
theorem vE13 : okE 13 = true := by kernel_rfl
theorem vE14 : okE 14 = true := by kernel_rfl
theorem vE15 : okE 15 = true := by kernel_rfl
theorem vE16 : okE 16 = true := by kernel_rfl
theorem vE17 : okE 17 = true := by kernel_rfl
theorem vE18 : okE 18 = true := by kernel_rfl
theorem vE19 : okE 19 = true := by kernel_rfl
theorem vE20 : okE 20 = true := by kernel_rfl
theorem vE21 : okE 21 = true := by kernel_rfl
theorem vE22 : okE 22 = true := by kernel_rfl
theorem vE23 : okE 23 = true := by kernel_rfl
theorem vE24 : okE 24 = true := by kernel_rfl
theorem vE25 : okE 25 = true := by kernel_rfl
theorem vE26 : okE 26 = true := by kernel_rfl
theorem vE27 : okE 27 = true := by kernel_rfl
theorem vE28 : okE 28 = true := by kernel_rfl
theorem vE29 : okE 29 = true := by kernel_rfl
theorem vE30 : okE 30 = true := by kernel_rfl
theorem vE31 : okE 31 = true := by kernel_rfl
theorem vE32 : okE 32 = true := by kernel_rfl
theorem vE33 : okE 33 = true := by kernel_rfl
theorem vE34 : okE 34 = true := by kernel_rfl
theorem vE35 : okE 35 = true := by kernel_rfl
theorem vE36 : okE 36 = true := by kernel_rfl
theorem vE37 : okE 37 = true := by kernel_rfl
theorem vE38 : okE 38 = true := by kernel_rfl
theorem vE39 : okE 39 = true := by kernel_rfl
theorem vE40 : okE 40 = true := by kernel_rfl
theorem vE41 : okE 41 = true := by kernel_rfl
theorem vE42 : okE 42 = true := by kernel_rfl
theorem vE43 : okE 43 = true := by kernel_rfl
theorem vE44 : okE 44 = true := by kernel_rfl
theorem vE45 : okE 45 = true := by kernel_rfl
theorem vE46 : okE 46 = true := by kernel_rfl
theorem vE47 : okE 47 = true := by kernel_rfl
theorem vE48 : okE 48 = true := by kernel_rfl
theorem vE49 : okE 49 = true := by kernel_rfl
theorem vE50 : okE 50 = true := by kernel_rfl
theorem vE51 : okE 51 = true := by kernel_rfl
theorem vE52 : okE 52 = true := by kernel_rfl
theorem vE53 : okE 53 = true := by kernel_rfl
theorem vE54 : okE 54 = true := by kernel_rfl
theorem vE55 : okE 55 = true := by kernel_rfl
theorem vE56 : okE 56 = true := by kernel_rfl
theorem vE57 : okE 57 = true := by kernel_rfl
theorem vE58 : okE 58 = true := by kernel_rfl
theorem vE59 : okE 59 = true := by kernel_rfl

end Go.Proofs.YthmdgbmodgfcmaaGreatDoor
