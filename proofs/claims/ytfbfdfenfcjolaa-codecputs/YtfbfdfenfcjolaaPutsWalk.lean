/-
  The walk of the statement sextantlaw01.CodecPuts: whatever is put into whatever room, it answers true, and what was there is as it was. What a step does is given.
-/
import Derived.Test.YtfbfdfenfcjolaaRows
import Derived.Test.YtfbfdfenfcjolaaDoes
import Derived.Test.YtfbfdfenfcjolaaFrame
namespace Go.Proofs.Ytfbfdfenfcjolaa.codecPuts
open Go.RowKit

theorem xNew_at (room : Int) (w : World) (n : Nat) (hn : w.heap.size = n) :
    Calls Try.prog 10 #[.int .i64 room] w fun e w' => e = .returned (.pointer (some ⟨n, 0, none⟩)) ∧ w' = w.alloc (.cells #[.string ⟨#[]⟩, .int .i64 ((roomOf room : Nat) : Int)] 34) := by
  subst hn
  exact xNew_any room w

theorem pair_new (w : World) (room : Int) : Pair ((w.alloc (.cells #[.slice none 0 0, .int .i64 ((roomOf room : Nat) : Int)] 70)).alloc (.cells #[.string ⟨#[]⟩, .int .i64 ((roomOf room : Nat) : Int)] 34)) w.heap.size (w.heap.size + 1) none 0 [] (roomOf room) := by
  have hx := xbuf_new (w.alloc (.cells #[.slice none 0 0, .int .i64 ((roomOf room : Nat) : Int)] 70)) room
  rw [show (w.alloc (.cells #[.slice none 0 0, .int .i64 ((roomOf room : Nat) : Int)] 70)).heap.size = w.heap.size + 1 by simp] at hx
  exact ⟨(buf_new w room).kept (Kept.alloc [] _ _) (by simp) (by simp), hx, by omega, by simp⟩

/-- What is seen of both. -/
structure Seen (W : World) (bb xb : Nat) (T : ByteArray) (R : Nat) : Prop where
  str : Calls Try.prog 13 #[.pointer (some ⟨bb, 0, none⟩)] W fun e w' => e = .returned (.string T) ∧ w' = W
  len : Calls Try.prog 14 #[.pointer (some ⟨bb, 0, none⟩)] W fun e w' => e = .returned (.int .i64 (T.size : Int)) ∧ w' = W
  left : Calls Try.prog 15 #[.pointer (some ⟨bb, 0, none⟩)] W fun e w' => e = .returned (.int .i64 ((R : Int) - (T.size : Int))) ∧ ∃ n, w' = W.drewN n
  c0 : W.cell? ⟨xb, 0, none⟩ = some (.string T)
  c1 : W.cell? ⟨xb, 1, none⟩ = some (.int .i64 (R : Int))
  le : T.size ≤ R

theorem Pair.seen {W : World} {bb xb : Nat} {ab : Option Addr} {cb : Nat} {bs : List UInt8} {room : Nat} (h : Pair W bb xb ab cb bs room) : ∃ T, ∀ W', Kept [] W W' → Seen W' bb xb T room := by
  refine ⟨⟨bs.toArray⟩, fun W' hk => ?_⟩
  have hp := h.kept hk
  have hsz : (⟨bs.toArray⟩ : ByteArray).size = bs.length := by show bs.toArray.size = _; simp
  refine ⟨String_any _ hp.b, by rw [hsz]; exact Len_any _ hp.b, by rw [hsz]; exact Left_any _ hp.b, ?_, ?_, by rw [hsz]; exact hp.b.le⟩
  · have := cell_blk hp.x.blk 0; simpa using this
  · have := cell_blk hp.x.blk 1; simpa using this

/-- From the eighth operation on a region that only reads, but for draws: one walk in the order of the text. -/
theorem wpAny_quiet7 {P : Program} {md : Region.Mode} {C : World → Prop} {Q' : Exit → Act → World → Prop} {o0 o1 o2 o3 o4 o5 o6 : Oper} {l : List Oper} {fuel : Nat} {listed : Array Bool} {a : Act} {w : World}
    (hs : Region.noSelect (o0 :: o1 :: o2 :: o3 :: o4 :: o5 :: o6 :: l).toArray = true) (hB : Region.lexFrom md (o0 :: o1 :: o2 :: o3 :: o4 :: o5 :: o6 :: l).toArray l.length 7 listed = true) (hf : fuel = l.length) (hC : C w)
    (h : wpQuiet P (o0 :: o1 :: o2 :: o3 :: o4 :: o5 :: o6 :: l).toArray C (fun a' => ∀ w', C w' → Q' .normal a' w') l a) :
    wpAny P md (o0 :: o1 :: o2 :: o3 :: o4 :: o5 :: o6 :: l).toArray Q' fuel listed a w := by
  subst hf
  exact wpAny_of_quiet (fun _ w' hw' h => h w' hw') _ _ _ _ hC (wpAnyQ_lex hs l 7 listed a (fun j => by simp [Nat.add_comm 7 j]) hB h)

/-- A step that is done. -/
def DoesAll : Prop := ∀ (W : World) {bb xb B : Nat} {ab : Option Addr} {cb : Nat} {bs : List UInt8} {room : Nat}, Pair W bb xb ab cb bs room → B ≤ bb → ∀ (x : Item), x.Ok →
    Calls Try.prog 12 #[.pointer (some ⟨bb, 0, none⟩), .pointer (some ⟨xb, 0, none⟩), .agg #[.int .i64 x.kind, .int .u64 (x.n : Int), .int .i64 x.size, .string x.text]] W (DidOk B W bb xb room)

set_option maxHeartbeats 8000000 in
set_option maxRecDepth 100000 in
theorem walk_of (room : Int) (ao : Option Addr) (len cap : Nat) (I : Nat → Item) (w : World) (hI : ItemsAt w w.heap.size ao len I) (hd0 : DoesAll) :
    Calls Try.prog 3 #[.int .i64 room, .slice ao len cap] w fun e w' => e = .returned (.bool true) ∧ Below w.heap.size w w' := by
  have HD : Hid DoesAll := hd0
  clear hd0
  have hlim := hI.lim
  have HN : Hid _ := pair_new w room
  go_enter Try.func3, Try.ntmps3
  go_wp2_with fail
  refine (New_any room w).mono ?_
  rintro e w1 ⟨rfl, rfl⟩
  go_wp2_with fail
  refine (xNew_at room _ (w.heap.size + 1) (by simp)).mono ?_
  rintro e w2 ⟨rfl, rfl⟩
  go_wp2_with fail
  refine (known_any _).mono ?_
  rintro e w2 ⟨rfl, hk⟩
  have hP := HN.out.kept hk
  have hB : Below w.heap.size w w2 := (((Below.refl _ w).alloc (Nat.le_refl _) _).alloc (by simp) _).trans (hk.from (by simp; omega) (by simp))
  clear hk HN
  obtain ⟨R, hR⟩ : ∃ R, roomOf room = R := ⟨_, rfl⟩
  have hR1 := roomOf_le room
  rw [hR] at hP hR1
  clear hR
  have HR1 : Hid _ := hR1
  clear hR1
  go_wp2
  go_loopw [7] (fun iv wr => ∃ (i : Nat) (ab : Option Addr) (cb : Nat) (bs : List UInt8), i ≤ len ∧ iv = .int .i64 (i : Int) ∧ Pair wr w.heap.size (w.heap.size + 1) ab cb bs R ∧ Below w.heap.size w wr)
    (fun iv _ => len - (intOf iv).toNat)
  case atStart => exact ⟨0, _, _, _, Nat.zero_le _, rfl, hP, hB⟩
  case round =>
    obtain ⟨i, ab, cb, bs, hil, rfl, hPr, hBr⟩ := hrel
    clear hP hB
    by_cases hlt : i < len
    · have hlt' : (i : Int) < (len : Int) := by omega
      rcases (hI.below hBr).at' with h0 | ⟨b, off, rfl, hbB, hit⟩
      · omega
      have hx := hit i hlt
      have c0 := hx.c0
      have c1 := hx.c1
      have c2 := hx.c2
      have c3 := hx.c3
      have HX : Hid _ := hx.ok
      have HPr : Hid _ := hPr
      have HBr : Hid _ := hBr
      clear hx hit hPr hBr
      go_wp2
      refine wp_region_any (by kernel_rfl) ?_
      change wpAny _ _ _ _ _ _ _ (World.drew _)
      refine wpAny_take (i := 0) (v := ?_) rfl (by kernel_rfl) (by kernel_rfl) (by kernel_rfl) (fun _ _ _ h => h) (Or.inl ⟨by rfl, fun w => by rfl⟩) ?_
      refine wpAny_take (i := 1) (v := ?_) rfl (by kernel_rfl) (by kernel_rfl) (by kernel_rfl) (fun _ _ _ h => h) (Or.inl ⟨by rfl, fun w => by rfl⟩) ?_
      refine wpAny_take (i := 2) (v := ?_) rfl (by kernel_rfl) (by kernel_rfl) (by kernel_rfl) (fun _ _ _ h => h) (Or.inl ⟨by rfl, fun w => by rfl⟩) ?_
      refine wpAny_take (i := 3) (v := ?_) rfl (by kernel_rfl) (by kernel_rfl) (by kernel_rfl) (fun _ _ _ h => h) (Or.inl ⟨by rfl, fun w => by rfl⟩) ?_
      try simp only [Act.put, List.getElem_toArray, List.getElem_cons_zero, List.getElem_cons_succ, List.setIfInBounds_toArray, List.set_cons_zero, List.set_cons_succ]
      refine wpAny_take (i := 4) (v := .pointer (some ⟨b, off + i * 4, none⟩)) rfl (by kernel_rfl) (by kernel_rfl) (by kernel_rfl) (fun _ _ _ h => h) (Or.inl ⟨by rfl, fun w => by go_simp⟩) ?_
      try simp only [Act.put, List.getElem_toArray, List.getElem_cons_zero, List.getElem_cons_succ, List.setIfInBounds_toArray, List.set_cons_zero, List.set_cons_succ]
      refine wpAny_ready (rs := [5]) (by kernel_rfl) (by simp) ?_
      refine AllReady.cons rfl (fun K hK => ?_) AllReady.nil
      go_simp
      refine hK _ _ ?_
      clear hK K
      try simp only [Act.put, List.getElem_toArray, List.getElem_cons_zero, List.getElem_cons_succ, List.setIfInBounds_toArray, List.set_cons_zero, List.set_cons_succ]
      refine wpAny_ready (rs := [6]) (by kernel_rfl) (by simp) ?_
      refine AllReady.cons rfl (fun K hK => ?_) AllReady.nil
      go_simp
      refine (HD.out _ (B := w.heap.size) (bb := w.heap.size) (xb := w.heap.size + 1) (ab := ab) (cb := cb) (bs := bs) (room := R) (HPr.out.kept (Kept.drew [] _)) (Nat.le_refl _) (I i) HX.out).mono ?_
      rintro e w3 ⟨rfl, ab', cb', bs', hP3, hB3⟩
      obtain ⟨T, hT⟩ := Pair.seen hP3
      have HT : Hid _ := hT
      have HB3 : Hid _ := hB3
      have HP3 : Hid _ := hP3
      have hTT := hT w3 (Kept.refl _ _)
      have d0 := hTT.c0
      have d1 := hTT.c1
      have hle := hTT.le
      clear hTT hT hB3 hP3 c0 c1 c2 c3
      refine hK _ _ ?_
      clear hK K
      try simp only [Act.put, List.getElem_toArray, List.getElem_cons_zero, List.getElem_cons_succ, List.setIfInBounds_toArray, List.set_cons_zero, List.set_cons_succ]
      refine wpAny_quiet7 (C := fun w' => ∃ n, w' = w3.drewN n) (by kernel_rfl) (by kernel_rfl) rfl ⟨0, rfl⟩ ?_
      have hR1 := HR1.out
      repeat (go_big_quiet_step (first
        | (go_at_call 13; exact Calls.quiet_of_same ((HT.out _ (Kept.drewN [] _ _)).str))
        | (go_at_call 14; exact Calls.quiet_of_same ((HT.out _ (Kept.drewN [] _ _)).len))
        | (go_at_call 15; exact Calls.quiet_of ((HT.out _ (Kept.drewN [] _ _)).left))))
      refine wpQuiet_nil ?_
      rintro _ ⟨nq, rfl⟩
      clear hR1 hle d0 d1
      go_wp2
      go_roundw
      case rel => exact ⟨i + 1, ab', cb', bs', hlt, by congr 1, HP3.out.kept (Kept.drewN [] _ _), (HBr.out.trans ((Kept.drew [] wr).from (by have := HBr.out.size; omega) (by simp))).trans (HB3.out.trans ((Kept.drewN [] w3 nq).from (by have := HB3.out.size; have := HBr.out.size; simp at *; omega) (by simp)))⟩
      case measure => simp [intOf]; omega
    · have hge : ¬ (i : Int) < (len : Int) := by omega
      obtain ⟨T, hT⟩ := Pair.seen hPr
      have HT : Hid _ := hT
      have d0 := (hT wr (Kept.refl _ _)).c0
      have HBr : Hid _ := hBr
      clear hT hPr hBr
      go_wp2
      go_quiet (first
        | (go_at_call 13; exact Calls.quiet_of_same ((HT.out _ (Kept.drewN [] _ _)).str)))
      go_wp2
      go_ret
      exact ⟨rfl, HBr.out.trans ((Kept.drewN [] wr nq).from (by have := HBr.out.size; omega) (by simp))⟩
end Go.Proofs.Ytfbfdfenfcjolaa.codecPuts
