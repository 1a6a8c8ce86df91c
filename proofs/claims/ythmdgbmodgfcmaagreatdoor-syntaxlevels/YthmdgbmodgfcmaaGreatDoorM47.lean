/-
  SReadAst2, SParse.
-/
import Derived.Test.YthmdgbmodgfcmaaGreatDoorM45
import Derived.Test.YthmdgbmodgfcmaaGreatDoorM46
/-
  What reading a text as an expression does: its words are read.
-/
namespace Go.Proofs.YthmdgbmodgfcmaaGreatDoor
open Go.RowKit

/-- Blocks behind the answers' are as they were. -/
def Far (w W0 W : World) : Prop := ∀ x, w.heap.size + 1 < x → W.heap[x]? = W0.heap[x]?
theorem Far.refl (w W : World) : Far w W W := fun _ _ => rfl
theorem Far.setA {w W0 W : World} (h : Far w W0 W) (i : Nat) (u : Value) : Far w W0 (W.setCell ⟨w.heap.size, i, none⟩ u) := fun x hx => (set_other (by omega)).trans (h x hx)
theorem Far.setM {w W0 W : World} (h : Far w W0 W) (i : Nat) (u : Value) : Far w W0 (W.setCell ⟨w.heap.size + 1, i, none⟩ u) := fun x hx => (set_other (by omega)).trans (h x hx)

theorem DIs.slice {w : World} {F : Nat → Prop} {v : Value} {t : Ty} {els : List (List D)} (h : DIs ty w F v (.row t els)) : ∃ ao l c, v = .slice ao l c := by
  cases h with
  | nil => exact ⟨_, _, _, rfl⟩
  | row => exact ⟨_, _, _, rfl⟩

set_option maxHeartbeats 8000000 in
theorem readAst_good (s : ByteArray) (T : List Tok) (ht : tokens (bytesOf s) = .ok T) (hpl : plain T = true) (f : Nat) (hf : f ≤ 1000000) (r : Except Mis (List D)) (hr : readV .expr shAst (dep f .ast) f (bytesOf s) = some r) (w : World) (hG : G w) (hTN : TN w) :
    Calls Tryz.prog 22 #[.string s, .func (.func 23) #[] #[], .func (.func 24) #[] #[]] w (AstOut w r) := by
  have HT : Hid (∀ w, G w → Calls Tryz.prog 28 #[.string s] w (TokOut 104 w (.ok T))) := fun w hG => by rw [← ht]; exact Tokens_any s w hG
  have hmf : ∀ (fn : Fn) (first cap : Array Value) (w : World), (Instr.makeFunc fn first cap).run Tryz.prog w = .ok (.func fn first cap) w := fun _ _ _ _ => rfl
  have hG1 : G ((w.alloc A0).alloc M0) := (hG.kept (Kept.alloc [] w A0)).kept (Kept.alloc [] _ M0)
  have HG : Hid (G ((w.alloc A0).alloc M0)) := hG1
  have HR : Hid (readV .expr shAst (dep f .ast) f (bytesOf s) = some r) := hr
  have HTK : Hid (tokens (bytesOf s) = .ok T) := ht
  have HP : Hid (plain T = true ∧ TN w ∧ f ≤ 1000000) := ⟨hpl, hTN, hf⟩
  clear hG hG1 hr ht hpl hTN hf
  go_enter_defers Tryz.func22, Tryz.ntmps22
  go_wp2_with fail
  refine (HT.out _ HG.out).mono ?_
  intro e w2 ho
  obtain ⟨v, rfl, hrow, hk⟩ := ho
  have ht : Tw w w2 #[.int .i64 0, .int .i64 0, .string ⟨#[]⟩, .string ⟨#[]⟩, S0, S0, S0, S0, S0] #[.int .i64 0, .int .i64 0] :=
    ⟨hk.heap ((Kept.alloc [] (w.alloc A0) M0).heap (heap_alloc_new w A0) (by simp)) (by simp), hk.heap (new_at (w.alloc A0) M0 _ (by simp)) (by simp), ((Mv.alloc (fun _ => False) w A0).trans (Mv.alloc (fun _ => False) _ M0) (fun _ h => h.elim)).trans (Mv.of_kept hk) (by simp)⟩
  have hlt1 : w.heap.size + 1 < w2.heap.size := lt_of_block ht.m
  obtain ⟨ao, cap, wb, rfl, hwd, hwb⟩ := wds_of hrow (by omega)
  obtain ⟨m0, m1, f0, f1⟩ := facts2 ht.m
  have HW : Hid (Tw w w2 #[.int .i64 0, .int .i64 0, .string ⟨#[]⟩, .string ⟨#[]⟩, S0, S0, S0, S0, S0] #[.int .i64 0, .int .i64 0]) := ht
  have HD : Hid (Wds w2 T ao wb cap ∧ wb < w2.heap.size) := ⟨hwd, hwd.lt⟩
  have hwb1 : ¬ wb = w.heap.size + 1 := by
    have hz : ((w.alloc A0).alloc M0).heap.size = w.heap.size + 2 := by simp
    rw [hz] at hwb
    rcases hwb with h | h <;> omega
  have hwlt := hwd.lt
  have hw1 : 1 < w.heap.size := HP.out.2.1.lt
  -- the reader, and what it reads into
  have HX : Hid (∃ E : Env, E.c = ⟨s.size, bytesOf s, T⟩ ∧ E.rb = w2.heap.size ∧ ∀ W3, (((w2.setCell ⟨w.heap.size + 1, 0, none⟩ (.int .i64 0)).setCell ⟨w.heap.size + 1, 1, none⟩ (.int .i64 0)).alloc (.cells #[.string s, .slice ao T.length cap, .int .i64 0] 86)).alloc A0 = W3 →
      Tw w W3 zc #[.int .i64 0, .int .i64 0] ∧ Rd E W3 0 ∧ At ty W3 (fun _ => False) (w2.heap.size + 1) 41 9 0 zAst ∧ ¬ E.own (w2.heap.size + 1) ∧ W3.heap.size = w2.heap.size + 2) := by
    refine ⟨envOf s T HTK.out w2.heap.size wb ao cap (by omega) (by omega) hwd.ao, rfl, rfl, ?_⟩
    rintro W3 rfl
    have hm1 : Mv (· = w.heap.size + 1) w2 ((w2.setCell ⟨w.heap.size + 1, 0, none⟩ (.int .i64 0)).setCell ⟨w.heap.size + 1, 1, none⟩ (.int .i64 0)) := (Mv.setCell w2 ⟨w.heap.size + 1, 0, none⟩ _).trans (Mv.setCell _ ⟨w.heap.size + 1, 1, none⟩ _) (fun x hx => .inl hx)
    have hm2 := hm1.trans (Mv.alloc (fun _ => False) _ (.cells #[.string s, .slice ao T.length cap, .int .i64 0] 86)) (fun _ h => h.elim)
    have hm3 := hm2.trans (Mv.alloc (fun _ => False) _ A0) (fun _ h => h.elim)
    have hsz : ((w2.setCell ⟨w.heap.size + 1, 0, none⟩ (.int .i64 0)).setCell ⟨w.heap.size + 1, 1, none⟩ (.int .i64 0)).heap.size = w2.heap.size := by simp [World.setCell]
    have hsz2 : (((w2.setCell ⟨w.heap.size + 1, 0, none⟩ (.int .i64 0)).setCell ⟨w.heap.size + 1, 1, none⟩ (.int .i64 0)).alloc (.cells #[.string s, .slice ao T.length cap, .int .i64 0] 86)).heap.size = w2.heap.size + 1 := by simp [hsz]
    have hTN3 : TN w2 := HP.out.2.1.mv HW.out.mv id
    have hat := At.new (((w2.setCell ⟨w.heap.size + 1, 0, none⟩ (.int .i64 0)).setCell ⟨w.heap.size + 1, 1, none⟩ (.int .i64 0)).alloc (.cells #[.string s, .slice ao T.length cap, .int .i64 0] 86)) 41 .ast
    rw [hsz2] at hat
    have hwd3 := hwd.mv hm3 hwb1
    refine ⟨((HW.out.setM 0 _).setM 1 _).go (S := fun _ => False) ((Mv.alloc (fun _ => False) _ _).trans (Mv.alloc (fun _ => False) _ _) (fun _ h => h.elim)) id id (fun _ h => h.elim), ⟨?_, hwd3.words, Nat.zero_le _, hwd3.lt, hTN3.mv hm3 (by omega)⟩, hat, ?_, by simp [hsz2]⟩
    · exact (Mv.alloc (fun _ => False) _ A0).heap (new_at _ _ _ hsz) id
    · rintro (h | h | h)
      · have h' : w2.heap.size + 1 = w2.heap.size := h
        omega
      · have h' : w2.heap.size + 1 = wb := h
        omega
      · omega
  clear hk ht hrow hwd hwb hwb1 hwlt hw1
  go_wp2_with fail
  obtain ⟨E, hc, hrb, hE⟩ := HX.out
  obtain ⟨hT3, hrd, hat, hown, hs3⟩ := hE _ rfl
  have hsp := (sp_all E (by rw [hc]; exact plain_key HP.out.1 _ _ _ (.inl rfl)) (by rw [hc]; exact plain_key HP.out.1 _ _ _ (.inr rfl)) f HP.out.2.2).expr 0
  have hr := HR.out
  unfold readV at hr
  rw [HTK.out] at hr
  simp only [HP.out.1, if_true] at hr
  rw [bytesOf_length, ← hc] at hr
  have hne : ¬ OOF (run E.c f .expr 0) := by
    intro h
    rw [h] at hr
    simp at hr
  have hX := hsp hne _ (fun _ => False) (w2.heap.size + 1) 41 9 0 hrd hat hown (fun _ h => h.elim)
  rw [hrb] at hX
  refine hX.mono ?_
  clear hX hsp hne
  intro e w4 hp
  have go4 : ∀ {W : World}, Mv (fun x => x = E.rb ∨ x = w2.heap.size + 1 ∨ False) ((((w2.setCell ⟨w.heap.size + 1, 0, none⟩ (.int .i64 0)).setCell ⟨w.heap.size + 1, 1, none⟩ (.int .i64 0)).alloc (.cells #[.string s, .slice ao T.length cap, .int .i64 0] 86)).alloc A0) W → Tw w W zc #[.int .i64 0, .int .i64 0] := fun hm =>
    hT3.go hm (by rw [hrb]; rintro (h | h | h) <;> omega) (by rw [hrb]; rintro (h | h | h) <;> omega) (fun x h => by
      rcases h with h | h | h
      · rw [hrb] at h; omega
      · omega
      · exact h.elim)
  cases hrun : run E.c f .expr 0 with
  | error m =>
    rw [hrun] at hp hr
    simp only at hr
    split at hr
    · cases hr
    · cases hr
      obtain ⟨rfl, hm⟩ := hp
      exact leave_panic (go4 hm) m rfl rfl
  | ok x =>
    obtain ⟨ds, i⟩ := x
    rw [hrun] at hp hr
    simp only at hr
    obtain ⟨rfl, hrd4, hlen, ⟨F', hat4, hF'⟩, hm, ho⟩ := hp
    have h4 := go4 hm
    have HF' : Hid (∀ x, F' x → w.heap.size + 1 < x) := fun x hx => by have := (hF' x hx).resolve_left id; omega
    have HE : Hid (∀ w5, Mv (fun _ => False) w4 w5 → Tw w w5 zc #[.int .i64 0, .int .i64 0] ∧ Rd E w5 i ∧ At ty w5 F' (w2.heap.size + 1) 41 9 0 ds) := fun w5 h => ⟨h4.go h id id (fun _ h => h.elim), hrd4.same h, hat4.kept h id (fun _ _ => id)⟩
    have HN : Hid (∀ w5, Rd E w5 i → Calls Tryz.prog 30 #[.pointer (some ⟨w2.heap.size, 0, none⟩)] w5 fun e w' => e = .returned (.bool (decide (T.length ≤ i))) ∧ Mv (fun _ => False) w5 w') := fun w5 h => by
      have := ended_any E i w5 h
      rwa [hrb, hc] at this
    have HF : Hid (∀ w5, Rd E w5 i → Calls Tryz.prog 31 #[.pointer (some ⟨w2.heap.size, 0, none⟩)] w5 fun e w' => e = .panicked (thrown (E.c.refuse i)) ∧ Mv (fun _ => False) w5 w') := fun w5 h => by
      have := refuse_any E i w5 h
      rwa [hrb] at this
    have HRr : Hid ((if i < T.length then some (.error (Cx.refuse E.c i)) else if shAst ds then match dep f .ast ds with
        | none => none
        | some n => some (if 60 < n then .error (3, 0) else .ok ds) else none) = some r) := hr
    have HRd4 : Hid (Rd E w4 i) := hrd4
    clear hr hrd4 hat4 h4 hm ho go4 hrun hT3 hrd hat hown hs3 hE HX HR HTK HG HT HW HD hF' hlen hc hrb
    go_wp2_with fail
    refine (HN.out _ HRd4.out).mono ?_
    rintro e w5 ⟨rfl, hm5⟩
    obtain ⟨h5, hrd5, hat5⟩ := HE.out w5 hm5
    have HE5 : Hid (∀ w6, Mv (fun _ => False) w5 w6 → Tw w w6 zc #[.int .i64 0, .int .i64 0] ∧ Rd E w6 i ∧ At ty w6 F' (w2.heap.size + 1) 41 9 0 ds) := fun w6 h => HE.out w6 (hm5.trans h (fun _ h => h.elim))
    by_cases hi : i < T.length
    · have hd : decide (T.length ≤ i) = false := by simp; omega
      have hr := HRr.out
      rw [if_pos hi] at hr
      cases hr
      have HRd5 : Hid (Rd E w5 i) := hrd5
      rw [hd]
      clear hat5 hrd5 h5 hm5 hd hi HE HRr
      go_wp2_with fail
      refine (HF.out _ HRd5.out).mono ?_
      rintro e w6 ⟨rfl, hm6⟩
      exact leave_panic (HE5.out w6 hm6).1 (E.c.refuse i) rfl rfl
    · have hd : decide (T.length ≤ i) = true := by simp; omega
      have hr := HRr.out
      rw [if_neg hi] at hr
      split at hr
      · rename_i hsh
        cases hdp : dep f .ast ds with
        | none => rw [hdp] at hr; cases hr
        | some n =>
          rw [hdp] at hr
          simp only [Option.some.injEq] at hr
          obtain ⟨n0, n1, s2, s3, r4, r5, r6, r7, r8, rfl⟩ := shAst_some hsh
          have HDp : Hid (Gives 24 w5 (w2.heap.size + 1) 0 n) := (dp_all f HP.out.2.2).ast _ n hdp w5 _ _ hat5.ro
          have HR' : Hid ((if 60 < n then .error (3, 0) else .ok [.num n0, .num n1, .str s2, .str s3, .row .str r4, .row .ast r5, .row .bool r6, .row .ast r7, .row .arg r8]) = r) := hr
          have HA5 : Hid (At ty w5 F' (w2.heap.size + 1) 41 9 0 [.num n0, .num n1, .str s2, .str s3, .row .str r4, .row .ast r5, .row .bool r6, .row .ast r7, .row .arg r8]) := hat5
          rw [hd]
          clear hat5 hrd5 h5 hm5 hd hi HE HRr hdp hr hsh
          go_wp2_with fail
          refine HDp.out.mono ?_
          rintro e w6 ⟨rfl, kd, hw6⟩
          have hm6 : Mv (fun _ => False) w5 w6 := by rw [hw6]; exact Mv.drewN _ _ _
          obtain ⟨h6, _, hat6⟩ := HE5.out w6 hm6
          clear hw6 hm6
          obtain ⟨⟨a0, a1, a2, a3, a4, a5, a6, a7, a8⟩, af⟩ := facts9 h6.a
          obtain ⟨m0, m1, f0, f1⟩ := facts2 h6.m
          have f2 := af 0; have f3 := af 1; have f4 := af 2; have f5 := af 3; have f6 := af 4; have f7 := af 5; have f8 := af 6; have f9 := af 7; have f10 := af 8
          have HW6 : Hid (Tw w w6 zc #[.int .i64 0, .int .i64 0]) := h6
          have HA6 : Hid (At ty w6 F' (w2.heap.size + 1) 41 9 0 [.num n0, .num n1, .str s2, .str s3, .row .str r4, .row .ast r5, .row .bool r6, .row .ast r7, .row .arg r8]) := hat6
          clear h6 hat6 af HE5 HA5 HDp
          by_cases hn : 60 < n
          · have hn' : (60 : Int) < (n : Int) := by omega
            have hr := HR'.out
            rw [if_pos hn] at hr
            subst hr
            clear HR' hn
            go_wp2_with fail
            have hT := (((((((((((HW6.out.setA 0 (.int .i64 0)).setA 1 (.int .i64 0)).setA 2 (.string ⟨#[]⟩)).setA 3 (.string ⟨#[]⟩)).setA 4 S0).setA 5 S0).setA 6 S0).setA 7 S0).setA 8 S0).setM 0 (.int .i64 3)).setM 1 (.int .i64 0))
            exact leave_ret hT rfl rfl ⟨hT.mv, rfl⟩
          · have hn' : ¬ (60 : Int) < (n : Int) := by omega
            have hr := HR'.out
            rw [if_neg hn] at hr
            subst hr
            clear HR' hn a0 a1 a2 a3 a4 a5 a6 a7 a8
            have hnb : ¬ w2.heap.size + 1 = w.heap.size := by omega
            have hnb2 : ¬ w2.heap.size + 1 = w.heap.size + 1 := by omega
            have b0 := HA6.out.num 0 (n := n0) rfl
            have b1 := HA6.out.num 1 (n := n1) rfl
            have b2 := HA6.out.str 2 (n := s2) rfl
            have b3 := HA6.out.str 3 (n := s3) rfl
            obtain ⟨v4, b4, e4⟩ := HA6.out.cell 4 _ rfl
            obtain ⟨v5, b5, e5⟩ := HA6.out.cell 5 _ rfl
            obtain ⟨v6, b6, e6⟩ := HA6.out.cell 6 _ rfl
            obtain ⟨v7, b7, e7⟩ := HA6.out.cell 7 _ rfl
            obtain ⟨v8, b8, e8⟩ := HA6.out.cell 8 _ rfl
            simp only [Nat.zero_add] at b0 b1 b2 b3 b4 b5 b6 b7 b8
            obtain ⟨o4, l4, c4, rfl⟩ := e4.slice
            obtain ⟨o5, l5, c5, rfl⟩ := e5.slice
            obtain ⟨o6, l6, c6, rfl⟩ := e6.slice
            obtain ⟨o7, l7, c7, rfl⟩ := e7.slice
            obtain ⟨o8, l8, c8, rfl⟩ := e8.slice
            have HV : Hid (∀ W, Far w w6 W → AstV W w.heap.size (.agg #[.int .i64 n0, .int .i64 n1, .string (strOfL s2), .string (strOfL s3), .slice o4 l4 c4, .slice o5 l5 c5, .slice o6 l6 c6, .slice o7 l7 c7, .slice o8 l8 c8])
                [.num n0, .num n1, .str s2, .str s3, .row .str r4, .row .ast r5, .row .bool r6, .row .ast r7, .row .arg r8]) := fun W hW => by
              have hk : ∀ {v : Value} {d : D}, DIs ty w6 F' v d → DIs ty W (fun x => w.heap.size ≤ x) v d := fun h => (h.kept (fun g hg _ => hW g (HF'.out g hg))).mono (fun x hx => by have := HF'.out x hx; omega)
              refine ⟨n0, n1, strOfL s2, strOfL s3, .slice o4 l4 c4, .slice o5 l5 c5, .slice o6 l6 c6, .slice o7 l7 c7, .slice o8 l8 c8, rfl, rfl, fun i d hd => ?_⟩
              rcases i with _ | _ | _ | _ | _ | _ | _ | _ | _ | i
              · cases hd; exact ⟨_, rfl, .num _ _⟩
              · cases hd; exact ⟨_, rfl, .num _ _⟩
              · cases hd; exact ⟨_, rfl, .str _ _⟩
              · cases hd; exact ⟨_, rfl, .str _ _⟩
              · cases hd; exact ⟨_, rfl, hk e4⟩
              · cases hd; exact ⟨_, rfl, hk e5⟩
              · cases hd; exact ⟨_, rfl, hk e6⟩
              · cases hd; exact ⟨_, rfl, hk e7⟩
              · cases hd; exact ⟨_, rfl, hk e8⟩
              · cases hd
            obtain ⟨⟨a0, a1, a2, a3, a4, a5, a6, a7, a8⟩, _⟩ := facts9 HW6.out.a
            clear HA6 e4 e5 e6 e7 e8 HF'
            generalize strOfL s2 = t2 at *
            generalize strOfL s3 = t3 at *
            go_wp2_with fail
            have hT := (((((((((((HW6.out.setA 0 (.int .i64 n0)).setA 1 (.int .i64 n1)).setA 2 (.string t2)).setA 3 (.string t3)).setA 4 (.slice o4 l4 c4)).setA 5 (.slice o5 l5 c5)).setA 6 (.slice o6 l6 c6)).setA 7 (.slice o7 l7 c7)).setA 8 (.slice o8 l8 c8)).setM 0 (.int .i64 0)).setM 1 (.int .i64 0))
            have hF := ((((((((((((Far.refl w w6).setA 0 (.int .i64 n0)).setA 1 (.int .i64 n1)).setA 2 (.string t2)).setA 3 (.string t3)).setA 4 (.slice o4 l4 c4)).setA 5 (.slice o5 l5 c5)).setA 6 (.slice o6 l6 c6)).setA 7 (.slice o7 l7 c7)).setA 8 (.slice o8 l8 c8)).setM 0 (.int .i64 0)).setM 1 (.int .i64 0))
            exact leave_ret hT rfl rfl ⟨hT.mv, _, rfl, HV.out _ hF⟩
      · cases hr

/-- Expr's read, whatever the text, where the specification tells. -/
theorem readAst_any (s : ByteArray) (f : Nat) (hf : f ≤ 1000000) (r : Except Mis (List D)) (hr : readV .expr shAst (dep f .ast) f (bytesOf s) = some r) (w : World) (hG : G w) (hTN : TN w) :
    Calls Tryz.prog 22 #[.string s, .func (.func 23) #[] #[], .func (.func 24) #[] #[]] w (AstOut w r) := by
  cases ht : tokens (bytesOf s) with
  | error m =>
    have h := hr
    unfold readV at h
    rw [ht] at h
    cases h
    exact readAst_bad s m ht w hG _ _
  | ok T =>
    have hpl : plain T = true := by
      have h := hr
      unfold readV at h
      rw [ht] at h
      simp only at h
      split at h
      · assumption
      · cases h
    exact readAst_good s T ht hpl f hf r hr w hG hTN

end Go.Proofs.YthmdgbmodgfcmaaGreatDoor
/-
  What Parse and Expr do.
-/
namespace Go.Proofs.YthmdgbmodgfcmaaGreatDoor
open Go.RowKit

theorem Tw.all {w W : World} {b0 b1 b2 b3 b4 b5 b6 b7 b8 y0 y1 : Value} (h : Tw w W #[b0, b1, b2, b3, b4, b5, b6, b7, b8] #[y0, y1]) (a0 a1 a2 a3 a4 a5 a6 a7 a8 x0 x1 : Value) : Tw w (((((((((((W.setCell ⟨w.heap.size, 0, none⟩ a0).setCell ⟨w.heap.size, 1, none⟩ a1).setCell ⟨w.heap.size, 2, none⟩ a2).setCell ⟨w.heap.size, 3, none⟩ a3).setCell ⟨w.heap.size, 4, none⟩ a4).setCell ⟨w.heap.size, 5, none⟩ a5).setCell ⟨w.heap.size, 6, none⟩ a6).setCell ⟨w.heap.size, 7, none⟩ a7).setCell ⟨w.heap.size, 8, none⟩ a8).setCell ⟨w.heap.size + 1, 0, none⟩ x0).setCell ⟨w.heap.size + 1, 1, none⟩ x1) #[a0, a1, a2, a3, a4, a5, a6, a7, a8] #[x0, x1] := by
  have := (((((((((((h.setA 0 a0).setA 1 a1).setA 2 a2).setA 3 a3).setA 4 a4).setA 5 a5).setA 6 a6).setA 7 a7).setA 8 a8).setM 0 x0).setM 1 x1)
  simpa using this
theorem Far.all {w W0 W : World} (h : Far w W0 W) (a0 a1 a2 a3 a4 a5 a6 a7 a8 x0 x1 : Value) : Far w W0 (((((((((((W.setCell ⟨w.heap.size, 0, none⟩ a0).setCell ⟨w.heap.size, 1, none⟩ a1).setCell ⟨w.heap.size, 2, none⟩ a2).setCell ⟨w.heap.size, 3, none⟩ a3).setCell ⟨w.heap.size, 4, none⟩ a4).setCell ⟨w.heap.size, 5, none⟩ a5).setCell ⟨w.heap.size, 6, none⟩ a6).setCell ⟨w.heap.size, 7, none⟩ a7).setCell ⟨w.heap.size, 8, none⟩ a8).setCell ⟨w.heap.size + 1, 0, none⟩ x0).setCell ⟨w.heap.size + 1, 1, none⟩ x1) := (((((((((((h.setA 0 a0).setA 1 a1).setA 2 a2).setA 3 a3).setA 4 a4).setA 5 a5).setA 6 a6).setA 7 a7).setA 8 a8).setM 0 x0).setM 1 x1)

theorem resExpr {w W : World} {a0 a1 a2 a3 a4 a5 a6 a7 a8 x y : Value} (h : Tw w W #[a0, a1, a2, a3, a4, a5, a6, a7, a8] #[x, y]) {T : Array Value} (h6 : T[2]?.getD undef = .pointer (some ⟨w.heap.size, 0, none⟩)) (h7 : T[3]?.getD undef = .pointer (some ⟨w.heap.size + 1, 0, none⟩)) :
    (results Tryz.f11 T).run Tryz.prog W = .ok (.tuple #[.agg #[a0, a1, a2, a3, a4, a5, a6, a7, a8], .agg #[x, y]]) W := by
  obtain ⟨⟨c0, c1, c2, c3, c4, c5, c6, c7, c8⟩, _⟩ := facts9 h.a
  obtain ⟨d0, d1, _⟩ := facts2 h.m
  simp only [results, Tryz.results11]
  simp [h6, h7, go_sem, c0, c1, c2, c3, c4, c5, c6, c7, c8, d0, d1]

set_option maxHeartbeats 2000000 in
theorem Parse_any (s : ByteArray) (f : Nat) (hf : f ≤ 1000000) (r : Except Mis (List D)) (hr : readV (.program []) shUnits (depUnits f) f (bytesOf s) = some r) (w : World) (hG : G w) (hTN : TN w) :
    Calls Tryz.prog 8 #[.string s] w (UnitsOut w r) := by
  have hG1 : G (w.alloc M0) := hG.kept (Kept.alloc [] w M0)
  have hT1 : TN (w.alloc M0) := hTN.mv (Mv.alloc (fun _ => False) w M0) id
  have HC : Hid (Calls Tryz.prog 13 #[.string s, .func (.func 14) #[] #[], .func (.func 15) #[] #[]] (w.alloc M0) (UnitsOut (w.alloc M0) r)) := readUnits_any s f hf r hr _ hG1 hT1
  clear hG hTN hG1 hT1 hr hf
  go_enter Tryz.func8, Tryz.ntmps8
  go_wp2_with fail
  refine HC.out.mono ?_
  intro e w2 ho
  obtain ⟨hmv, hr⟩ := ho
  have hm : w2.heap[w.heap.size]? = some M0 := hmv.heap (heap_alloc_new w M0) id
  have hT : Tu w w2 #[.int .i64 0, .int .i64 0] := ⟨hm, (Mv.alloc (fun _ => False) w M0).trans hmv (fun _ h => h.elim)⟩
  obtain ⟨m0, m1, f0, f1⟩ := facts2 hm
  have HT : Hid (Tu w w2 #[.int .i64 0, .int .i64 0]) := hT
  clear hm hT hmv
  cases r with
  | error m =>
    obtain rfl := hr
    go_wp2_with fail
    have hT := (HT.out.setM 0 (.int .i64 (m.1 : Int))).setM 1 (.int .i64 (m.2 : Int))
    obtain ⟨d0, d1, _⟩ := facts2 hT.m
    refine bodyPost_ret (v := .tuple #[S0, misV m]) ?_ rfl ⟨hT.mv, rfl⟩
    simp only [results, Tryz.results8]
    simp [go_sem, d0, d1]
  | ok ds =>
    obtain ⟨v, els, rfl, rfl, hd⟩ := hr
    obtain ⟨o4, l4, c4, rfl⟩ := hd.sliceU
    have HD : Hid (∀ W, (∀ x, w.heap.size < x → W.heap[x]? = w2.heap[x]?) → DIs ty W (fun x => w.heap.size ≤ x) (.slice o4 l4 c4) (.row .unit els)) := fun W hW =>
      (hd.kept (fun g hg _ => hW g (by have hz : (w.alloc M0).heap.size = w.heap.size + 1 := (by simp); omega))).mono (fun x hx => by have hz : (w.alloc M0).heap.size = w.heap.size + 1 := (by simp); omega)
    clear hd
    go_wp2_with fail
    have hT := (HT.out.setM 0 (.int .i64 0)).setM 1 (.int .i64 0)
    obtain ⟨d0, d1, _⟩ := facts2 hT.m
    refine bodyPost_ret (v := .tuple #[.slice o4 l4 c4, misV (0, 0)]) ?_ rfl ⟨hT.mv, _, els, rfl, rfl, HD.out _ (fun x hx => (set_other (by omega)).trans (set_other (by omega)))⟩
    simp only [results, Tryz.results8]
    simp [go_sem, d0, d1]

set_option maxHeartbeats 2000000 in
theorem Expr_any (s : ByteArray) (f : Nat) (hf : f ≤ 1000000) (r : Except Mis (List D)) (hr : readV .expr shAst (dep f .ast) f (bytesOf s) = some r) (w : World) (hG : G w) (hTN : TN w) :
    Calls Tryz.prog 11 #[.string s] w (AstOut w r) := by
  have hG1 : G ((w.alloc A0).alloc M0) := (hG.kept (Kept.alloc [] w A0)).kept (Kept.alloc [] _ M0)
  have hT1 : TN ((w.alloc A0).alloc M0) := (hTN.mv (Mv.alloc (fun _ => False) w A0) id).mv (Mv.alloc (fun _ => False) _ M0) id
  have HC : Hid (Calls Tryz.prog 22 #[.string s, .func (.func 23) #[] #[], .func (.func 24) #[] #[]] ((w.alloc A0).alloc M0) (AstOut ((w.alloc A0).alloc M0) r)) := readAst_any s f hf r hr _ hG1 hT1
  clear hG hTN hG1 hT1 hr hf
  go_enter Tryz.func11, Tryz.ntmps11
  go_wp2_with fail
  refine HC.out.mono ?_
  intro e w2 ho
  obtain ⟨hmv, hr⟩ := ho
  have hT : Tw w w2 zc #[.int .i64 0, .int .i64 0] := ⟨hmv.heap ((Mv.alloc (fun _ => False) (w.alloc A0) M0).heap (heap_alloc_new w A0) id) id, hmv.heap (new_at (w.alloc A0) M0 _ (by simp)) id, ((Mv.alloc (fun _ => False) w A0).trans (Mv.alloc (fun _ => False) _ M0) (fun _ h => h.elim)).trans hmv (fun _ h => h.elim)⟩
  obtain ⟨⟨a0, a1, a2, a3, a4, a5, a6, a7, a8⟩, af⟩ := facts9 hT.a
  obtain ⟨m0, m1, f0, f1⟩ := facts2 hT.m
  have f2 := af 0; have f3 := af 1; have f4 := af 2; have f5 := af 3; have f6 := af 4; have f7 := af 5; have f8 := af 6; have f9 := af 7; have f10 := af 8
  have HT : Hid (Tw w w2 zc #[.int .i64 0, .int .i64 0]) := hT
  clear hT hmv af
  cases r with
  | error m =>
    obtain rfl := hr
    go_wp2_with fail
    have hT := (((((((((((HT.out.setA 0 (.int .i64 0)).setA 1 (.int .i64 0)).setA 2 (.string ⟨#[]⟩)).setA 3 (.string ⟨#[]⟩)).setA 4 S0).setA 5 S0).setA 6 S0).setA 7 S0).setA 8 S0).setM 0 (.int .i64 (m.1 : Int))).setM 1 (.int .i64 (m.2 : Int)))
    refine bodyPost_ret (v := .tuple #[zAstV, misV m]) (resExpr hT rfl rfl) rfl ⟨hT.mv, rfl⟩
  | ok ds =>
    obtain ⟨v, rfl, n0, n1, s2, s3, v4, v5, v6, v7, v8, rfl, hsh, hd⟩ := hr
    have HV : Hid (∀ W, Far w w2 W → AstV W w.heap.size (.agg #[.int .i64 n0, .int .i64 n1, .string s2, .string s3, v4, v5, v6, v7, v8]) ds) := fun W hW =>
      ⟨n0, n1, s2, s3, v4, v5, v6, v7, v8, rfl, hsh, fun i d hi => by
        obtain ⟨u, h1, h2⟩ := hd i d hi
        have hz : ((w.alloc A0).alloc M0).heap.size = w.heap.size + 2 := by simp
        exact ⟨u, h1, (h2.kept (fun g hg _ => hW g (by omega))).mono (fun x hx => by omega)⟩⟩
    obtain ⟨k0, k1, k2, k3, r4, r5, r6, r7, r8, rfl⟩ := shAst_some hsh
    obtain ⟨u4, h4, e4⟩ := hd 4 _ rfl
    obtain ⟨u5, h5, e5⟩ := hd 5 _ rfl
    obtain ⟨u6, h6, e6⟩ := hd 6 _ rfl
    obtain ⟨u7, h7, e7⟩ := hd 7 _ rfl
    obtain ⟨u8, h8, e8⟩ := hd 8 _ rfl
    cases h4; cases h5; cases h6; cases h7; cases h8
    obtain ⟨o4, l4, c4, rfl⟩ := e4.slice
    obtain ⟨o5, l5, c5, rfl⟩ := e5.slice
    obtain ⟨o6, l6, c6, rfl⟩ := e6.slice
    obtain ⟨o7, l7, c7, rfl⟩ := e7.slice
    obtain ⟨o8, l8, c8, rfl⟩ := e8.slice
    clear hd hsh e4 e5 e6 e7 e8
    go_wp2_with fail
    have hT := HT.out.all (.int .i64 n0) (.int .i64 n1) (.string s2) (.string s3) (.slice o4 l4 c4) (.slice o5 l5 c5) (.slice o6 l6 c6) (.slice o7 l7 c7) (.slice o8 l8 c8) (.int .i64 0) (.int .i64 0)
    have hF := (Far.refl w w2).all (.int .i64 n0) (.int .i64 n1) (.string s2) (.string s3) (.slice o4 l4 c4) (.slice o5 l5 c5) (.slice o6 l6 c6) (.slice o7 l7 c7) (.slice o8 l8 c8) (.int .i64 0) (.int .i64 0)
    have hV := HV.out _ hF
    clear hF HV HC
    refine bodyPost_ret (resExpr hT rfl rfl) rfl ?_
    exact ⟨hT.mv, _, rfl, hV⟩

end Go.Proofs.YthmdgbmodgfcmaaGreatDoor
