/-
  SDeepAst, SDeepArg, SDeepStmt, SDeepStmts, SDeepDecl, SDeepDeclVar, SDeepUnit.
-/
import Derived.Deep.RegionWith
import Derived.Test.YthmdgbmodgfcmaaGreatDoorM27
/-
  How deep a row of Ast is.
-/
namespace Go.Proofs.YthmdgbmodgfcmaaGreatDoor
open Go.RowKit

set_option maxHeartbeats 2000000 in
theorem deepestAst_any (g : List D → Option Nat) (hK : DepIs 24 g) : RowIs 46 24 g .ast := by
  intro d n h w0 b p hd
  obtain ⟨els, rfl, hlen, hdeps⟩ := rows_some h
  obtain ⟨v, hv, hdv⟩ := hd _ rfl
  clear hd h
  have hform : ∃ ao cap, v = .slice ao els.length cap ∧ ∀ (j : Nat) (e : List D), els[j]? = some e → ∃ g, ao = some ⟨g, 0, none⟩ ∧ Ro w0 g (j * 9) e := by
    rcases hdv.els with ⟨rfl, rfl⟩ | ⟨g, cap, _, rfl, hj⟩
    · exact ⟨none, 0, rfl, fun j e h => by simp at h⟩
    · exact ⟨_, cap, rfl, fun j e he => ⟨g, rfl, hj j e he⟩⟩
  obtain ⟨ao, cap, rfl, hels⟩ := hform
  refine ⟨_, hv, ⟨_, _, _, rfl⟩, fun m => ?_⟩
  have HC : Hid (∀ (j : Nat) (e : List D) (q : Nat), els[j]? = some e → g e = some q → ∃ gb, ao = some ⟨gb, 0, none⟩ ∧ ∀ nd, Calls Tryz.prog 24 #[.pointer (some ⟨gb, j * 9, none⟩)] ((w0.drewN m).drewN nd) fun e w' => e = .returned (.int .i64 (q : Int)) ∧ ∃ k, w' = ((w0.drewN m).drewN nd).drewN k) := fun j e q hj hq => by
    obtain ⟨gb, h1, h2⟩ := hels j e hj
    exact ⟨gb, h1, fun nd => hK e q hq _ _ _ ((h2.drewN m).drewN nd)⟩
  have HP : Hid (deps g 0 els = some n) := hdeps
  clear hels hdv hv hK hdeps
  obtain ⟨N, hN⟩ : ∃ N : Nat, els.length = N := ⟨_, rfl⟩
  rw [hN] at hlen ⊢
  have HL : Hid (els.length = N) := hN
  have hle : (N : Int) ≤ 1000000 := by omega
  clear hN hlen
  generalize w0.drewN m = w at *
  go_enter Tryz.func46, Tryz.ntmps46
  go_wp2_with fail
  go_loopw [5, 9] (fun mv iv wr => ∃ i q nd : Nat, i ≤ N ∧ mv = .int .i64 (q : Int) ∧ iv = .int .i64 (i : Int) ∧ Hid (deps g q (els.drop i) = some n) ∧ wr = w.drewN nd) (fun _ iv _ => N - (intOf iv).toNat)
  case atStart => exact ⟨0, 0, 0, Nat.zero_le _, rfl, rfl, HP, rfl⟩
  case round =>
    obtain ⟨i, q, nd, hi, rfl, rfl, HD, rfl⟩ := hrel
    by_cases hj : i < N
    · have hj' : (i : Int) < (N : Int) := by omega
      have hil : i < els.length := by have := HL.out; omega
      have hdr : els.drop i = els[i] :: els.drop (i + 1) := List.drop_eq_getElem_cons hil
      have hD := HD.out
      rw [hdr] at hD
      unfold deps at hD
      cases hx : g els[i] with
      | none => rw [hx] at hD; cases hD
      | some x =>
        rw [hx] at hD
        obtain ⟨gb, rfl, hc⟩ := HC.out i els[i] x (List.getElem?_eq_getElem hil) hx
        have HX : Hid (∀ nd : Nat, Calls Tryz.prog 24 #[.pointer (some ⟨gb, i * 9, none⟩)] (w.drewN nd) fun e w' => e = .returned (.int .i64 (x : Int)) ∧ ∃ k, w' = (w.drewN nd).drewN k) := hc
        have HD' : Hid (deps g (max q x) (els.drop (i + 1)) = some n) := hD
        clear hc hx hD hdr hil HD
        clear HP HC HL
        go_wp2_with fail
        refine (HX.out nd).mono ?_
        rintro e w1 ⟨rfl, k, rfl⟩
        go_wp2_with fail
        go_roundw
        case rel => exact ⟨i + 1, max q x, nd + k, hj, by rw [mxi_nat], by go_num, HD', by first | rfl | rw [World.drewN_drewN]⟩
        case measure => simp [intOf]; omega
    · have hj' : ¬ (i : Int) < (N : Int) := by omega
      have hD := HD.out
      rw [List.drop_eq_nil_of_le (by have := HL.out; omega)] at hD
      simp only [deps, Option.some.injEq] at hD
      subst hD
      clear HD
      go_wp2_with fail
      go_ret
      exact ⟨rfl, nd, rfl⟩

end Go.Proofs.YthmdgbmodgfcmaaGreatDoor
/-
  How deep a row of Arg is.
-/
namespace Go.Proofs.YthmdgbmodgfcmaaGreatDoor
open Go.RowKit

set_option maxHeartbeats 2000000 in
theorem deepestArg_any (g : List D → Option Nat) (hK : DepIs 48 g) : RowIs 47 48 g .arg := by
  intro d n h w0 b p hd
  obtain ⟨els, rfl, hlen, hdeps⟩ := rows_some h
  obtain ⟨v, hv, hdv⟩ := hd _ rfl
  clear hd h
  have hform : ∃ ao cap, v = .slice ao els.length cap ∧ ∀ (j : Nat) (e : List D), els[j]? = some e → ∃ g, ao = some ⟨g, 0, none⟩ ∧ Ro w0 g (j * 11) e := by
    rcases hdv.els with ⟨rfl, rfl⟩ | ⟨g, cap, _, rfl, hj⟩
    · exact ⟨none, 0, rfl, fun j e h => by simp at h⟩
    · exact ⟨_, cap, rfl, fun j e he => ⟨g, rfl, hj j e he⟩⟩
  obtain ⟨ao, cap, rfl, hels⟩ := hform
  refine ⟨_, hv, ⟨_, _, _, rfl⟩, fun m => ?_⟩
  have HC : Hid (∀ (j : Nat) (e : List D) (q : Nat), els[j]? = some e → g e = some q → ∃ gb, ao = some ⟨gb, 0, none⟩ ∧ ∀ nd, Calls Tryz.prog 48 #[.pointer (some ⟨gb, j * 11, none⟩)] ((w0.drewN m).drewN nd) fun e w' => e = .returned (.int .i64 (q : Int)) ∧ ∃ k, w' = ((w0.drewN m).drewN nd).drewN k) := fun j e q hj hq => by
    obtain ⟨gb, h1, h2⟩ := hels j e hj
    exact ⟨gb, h1, fun nd => hK e q hq _ _ _ ((h2.drewN m).drewN nd)⟩
  have HP : Hid (deps g 0 els = some n) := hdeps
  clear hels hdv hv hK hdeps
  obtain ⟨N, hN⟩ : ∃ N : Nat, els.length = N := ⟨_, rfl⟩
  rw [hN] at hlen ⊢
  have HL : Hid (els.length = N) := hN
  have hle : (N : Int) ≤ 1000000 := by omega
  clear hN hlen
  generalize w0.drewN m = w at *
  go_enter Tryz.func47, Tryz.ntmps47
  go_wp2_with fail
  go_loopw [5, 9] (fun mv iv wr => ∃ i q nd : Nat, i ≤ N ∧ mv = .int .i64 (q : Int) ∧ iv = .int .i64 (i : Int) ∧ Hid (deps g q (els.drop i) = some n) ∧ wr = w.drewN nd) (fun _ iv _ => N - (intOf iv).toNat)
  case atStart => exact ⟨0, 0, 0, Nat.zero_le _, rfl, rfl, HP, rfl⟩
  case round =>
    obtain ⟨i, q, nd, hi, rfl, rfl, HD, rfl⟩ := hrel
    by_cases hj : i < N
    · have hj' : (i : Int) < (N : Int) := by omega
      have hil : i < els.length := by have := HL.out; omega
      have hdr : els.drop i = els[i] :: els.drop (i + 1) := List.drop_eq_getElem_cons hil
      have hD := HD.out
      rw [hdr] at hD
      unfold deps at hD
      cases hx : g els[i] with
      | none => rw [hx] at hD; cases hD
      | some x =>
        rw [hx] at hD
        obtain ⟨gb, rfl, hc⟩ := HC.out i els[i] x (List.getElem?_eq_getElem hil) hx
        have HX : Hid (∀ nd : Nat, Calls Tryz.prog 48 #[.pointer (some ⟨gb, i * 11, none⟩)] (w.drewN nd) fun e w' => e = .returned (.int .i64 (x : Int)) ∧ ∃ k, w' = (w.drewN nd).drewN k) := hc
        have HD' : Hid (deps g (max q x) (els.drop (i + 1)) = some n) := hD
        clear hc hx hD hdr hil HD
        clear HP HC HL
        go_wp2_with fail
        refine (HX.out nd).mono ?_
        rintro e w1 ⟨rfl, k, rfl⟩
        go_wp2_with fail
        go_roundw
        case rel => exact ⟨i + 1, max q x, nd + k, hj, by rw [mxi_nat], by go_num, HD', by first | rfl | rw [World.drewN_drewN]⟩
        case measure => simp [intOf]; omega
    · have hj' : ¬ (i : Int) < (N : Int) := by omega
      have hD := HD.out
      rw [List.drop_eq_nil_of_le (by have := HL.out; omega)] at hD
      simp only [deps, Option.some.injEq] at hD
      subst hD
      clear HD
      go_wp2_with fail
      go_ret
      exact ⟨rfl, nd, rfl⟩

end Go.Proofs.YthmdgbmodgfcmaaGreatDoor
/-
  How deep a row of Stmt is.
-/
namespace Go.Proofs.YthmdgbmodgfcmaaGreatDoor
open Go.RowKit

set_option maxHeartbeats 2000000 in
theorem deepestStmt_any (g : List D → Option Nat) (hK : DepIs 89 g) : RowIs 88 89 g .stmt := by
  intro d n h w0 b p hd
  obtain ⟨els, rfl, hlen, hdeps⟩ := rows_some h
  obtain ⟨v, hv, hdv⟩ := hd _ rfl
  clear hd h
  have hform : ∃ ao cap, v = .slice ao els.length cap ∧ ∀ (j : Nat) (e : List D), els[j]? = some e → ∃ g, ao = some ⟨g, 0, none⟩ ∧ Ro w0 g (j * 28) e := by
    rcases hdv.els with ⟨rfl, rfl⟩ | ⟨g, cap, _, rfl, hj⟩
    · exact ⟨none, 0, rfl, fun j e h => by simp at h⟩
    · exact ⟨_, cap, rfl, fun j e he => ⟨g, rfl, hj j e he⟩⟩
  obtain ⟨ao, cap, rfl, hels⟩ := hform
  refine ⟨_, hv, ⟨_, _, _, rfl⟩, fun m => ?_⟩
  have HC : Hid (∀ (j : Nat) (e : List D) (q : Nat), els[j]? = some e → g e = some q → ∃ gb, ao = some ⟨gb, 0, none⟩ ∧ ∀ nd, Calls Tryz.prog 89 #[.pointer (some ⟨gb, j * 28, none⟩)] ((w0.drewN m).drewN nd) fun e w' => e = .returned (.int .i64 (q : Int)) ∧ ∃ k, w' = ((w0.drewN m).drewN nd).drewN k) := fun j e q hj hq => by
    obtain ⟨gb, h1, h2⟩ := hels j e hj
    exact ⟨gb, h1, fun nd => hK e q hq _ _ _ ((h2.drewN m).drewN nd)⟩
  have HP : Hid (deps g 0 els = some n) := hdeps
  clear hels hdv hv hK hdeps
  obtain ⟨N, hN⟩ : ∃ N : Nat, els.length = N := ⟨_, rfl⟩
  rw [hN] at hlen ⊢
  have HL : Hid (els.length = N) := hN
  have hle : (N : Int) ≤ 1000000 := by omega
  clear hN hlen
  generalize w0.drewN m = w at *
  go_enter Tryz.func88, Tryz.ntmps88
  go_wp2_with fail
  go_loopw [5, 9] (fun mv iv wr => ∃ i q nd : Nat, i ≤ N ∧ mv = .int .i64 (q : Int) ∧ iv = .int .i64 (i : Int) ∧ Hid (deps g q (els.drop i) = some n) ∧ wr = w.drewN nd) (fun _ iv _ => N - (intOf iv).toNat)
  case atStart => exact ⟨0, 0, 0, Nat.zero_le _, rfl, rfl, HP, rfl⟩
  case round =>
    obtain ⟨i, q, nd, hi, rfl, rfl, HD, rfl⟩ := hrel
    by_cases hj : i < N
    · have hj' : (i : Int) < (N : Int) := by omega
      have hil : i < els.length := by have := HL.out; omega
      have hdr : els.drop i = els[i] :: els.drop (i + 1) := List.drop_eq_getElem_cons hil
      have hD := HD.out
      rw [hdr] at hD
      unfold deps at hD
      cases hx : g els[i] with
      | none => rw [hx] at hD; cases hD
      | some x =>
        rw [hx] at hD
        obtain ⟨gb, rfl, hc⟩ := HC.out i els[i] x (List.getElem?_eq_getElem hil) hx
        have HX : Hid (∀ nd : Nat, Calls Tryz.prog 89 #[.pointer (some ⟨gb, i * 28, none⟩)] (w.drewN nd) fun e w' => e = .returned (.int .i64 (x : Int)) ∧ ∃ k, w' = (w.drewN nd).drewN k) := hc
        have HD' : Hid (deps g (max q x) (els.drop (i + 1)) = some n) := hD
        clear hc hx hD hdr hil HD
        clear HP HC HL
        go_wp2_with fail
        refine (HX.out nd).mono ?_
        rintro e w1 ⟨rfl, k, rfl⟩
        go_wp2_with fail
        go_roundw
        case rel => exact ⟨i + 1, max q x, nd + k, hj, by rw [mxi_nat], by go_num, HD', by first | rfl | rw [World.drewN_drewN]⟩
        case measure => simp [intOf]; omega
    · have hj' : ¬ (i : Int) < (N : Int) := by omega
      have hD := HD.out
      rw [List.drop_eq_nil_of_le (by have := HL.out; omega)] at hD
      simp only [deps, Option.some.injEq] at hD
      subst hD
      clear HD
      go_wp2_with fail
      go_ret
      exact ⟨rfl, nd, rfl⟩

end Go.Proofs.YthmdgbmodgfcmaaGreatDoor
/-
  How deep a row of Stmts is.
-/
namespace Go.Proofs.YthmdgbmodgfcmaaGreatDoor
open Go.RowKit

set_option maxHeartbeats 2000000 in
theorem deepestStmts_any (g : List D → Option Nat) (hK : DepIs 63 g) : RowIs 115 63 g .stmts := by
  intro d n h w0 b p hd
  obtain ⟨els, rfl, hlen, hdeps⟩ := rows_some h
  obtain ⟨v, hv, hdv⟩ := hd _ rfl
  clear hd h
  have hform : ∃ ao cap, v = .slice ao els.length cap ∧ ∀ (j : Nat) (e : List D), els[j]? = some e → ∃ g, ao = some ⟨g, 0, none⟩ ∧ Ro w0 g j e := by
    rcases hdv.els with ⟨rfl, rfl⟩ | ⟨g, cap, _, rfl, hj⟩
    · exact ⟨none, 0, rfl, fun j e h => by simp at h⟩
    · exact ⟨_, cap, rfl, fun j e he => ⟨g, rfl, by have := hj j e he; rwa [show j * ty.size .stmts = j from Nat.mul_one j] at this⟩⟩
  obtain ⟨ao, cap, rfl, hels⟩ := hform
  refine ⟨_, hv, ⟨_, _, _, rfl⟩, fun m => ?_⟩
  have HC : Hid (∀ (j : Nat) (e : List D) (q : Nat), els[j]? = some e → g e = some q → ∃ gb, ao = some ⟨gb, 0, none⟩ ∧ ∀ nd, Calls Tryz.prog 63 #[.pointer (some ⟨gb, j, none⟩)] ((w0.drewN m).drewN nd) fun e w' => e = .returned (.int .i64 (q : Int)) ∧ ∃ k, w' = ((w0.drewN m).drewN nd).drewN k) := fun j e q hj hq => by
    obtain ⟨gb, h1, h2⟩ := hels j e hj
    exact ⟨gb, h1, fun nd => hK e q hq _ _ _ ((h2.drewN m).drewN nd)⟩
  have HP : Hid (deps g 0 els = some n) := hdeps
  clear hels hdv hv hK hdeps
  obtain ⟨N, hN⟩ : ∃ N : Nat, els.length = N := ⟨_, rfl⟩
  rw [hN] at hlen ⊢
  have HL : Hid (els.length = N) := hN
  have hle : (N : Int) ≤ 1000000 := by omega
  clear hN hlen
  generalize w0.drewN m = w at *
  go_enter Tryz.func115, Tryz.ntmps115
  go_wp2_with fail
  go_loopw [5, 9] (fun mv iv wr => ∃ i q nd : Nat, i ≤ N ∧ mv = .int .i64 (q : Int) ∧ iv = .int .i64 (i : Int) ∧ Hid (deps g q (els.drop i) = some n) ∧ wr = w.drewN nd) (fun _ iv _ => N - (intOf iv).toNat)
  case atStart => exact ⟨0, 0, 0, Nat.zero_le _, rfl, rfl, HP, rfl⟩
  case round =>
    obtain ⟨i, q, nd, hi, rfl, rfl, HD, rfl⟩ := hrel
    by_cases hj : i < N
    · have hj' : (i : Int) < (N : Int) := by omega
      have hil : i < els.length := by have := HL.out; omega
      have hdr : els.drop i = els[i] :: els.drop (i + 1) := List.drop_eq_getElem_cons hil
      have hD := HD.out
      rw [hdr] at hD
      unfold deps at hD
      cases hx : g els[i] with
      | none => rw [hx] at hD; cases hD
      | some x =>
        rw [hx] at hD
        obtain ⟨gb, rfl, hc⟩ := HC.out i els[i] x (List.getElem?_eq_getElem hil) hx
        have HX : Hid (∀ nd : Nat, Calls Tryz.prog 63 #[.pointer (some ⟨gb, i, none⟩)] (w.drewN nd) fun e w' => e = .returned (.int .i64 (x : Int)) ∧ ∃ k, w' = (w.drewN nd).drewN k) := hc
        have HD' : Hid (deps g (max q x) (els.drop (i + 1)) = some n) := hD
        clear hc hx hD hdr hil HD
        clear HP HC HL
        go_wp2_with fail
        refine (HX.out nd).mono ?_
        rintro e w1 ⟨rfl, k, rfl⟩
        go_wp2_with fail
        go_roundw
        case rel => exact ⟨i + 1, max q x, nd + k, hj, by rw [mxi_nat], by go_num, HD', by first | rfl | rw [World.drewN_drewN]⟩
        case measure => simp [intOf]; omega
    · have hj' : ¬ (i : Int) < (N : Int) := by omega
      have hD := HD.out
      rw [List.drop_eq_nil_of_le (by have := HL.out; omega)] at hD
      simp only [deps, Option.some.injEq] at hD
      subst hD
      clear HD
      go_wp2_with fail
      go_ret
      exact ⟨rfl, nd, rfl⟩

end Go.Proofs.YthmdgbmodgfcmaaGreatDoor
/-
  How deep a row of Decl is.
-/
namespace Go.Proofs.YthmdgbmodgfcmaaGreatDoor
open Go.RowKit

set_option maxHeartbeats 2000000 in
theorem deepestDecl_any (g : List D → Option Nat) (hK : DepIs 61 g) : RowIs 62 61 g .decl := by
  intro d n h w0 b p hd
  obtain ⟨els, rfl, hlen, hdeps⟩ := rows_some h
  obtain ⟨v, hv, hdv⟩ := hd _ rfl
  clear hd h
  have hform : ∃ ao cap, v = .slice ao els.length cap ∧ ∀ (j : Nat) (e : List D), els[j]? = some e → ∃ g, ao = some ⟨g, 0, none⟩ ∧ Ro w0 g (j * 4) e := by
    rcases hdv.els with ⟨rfl, rfl⟩ | ⟨g, cap, _, rfl, hj⟩
    · exact ⟨none, 0, rfl, fun j e h => by simp at h⟩
    · exact ⟨_, cap, rfl, fun j e he => ⟨g, rfl, hj j e he⟩⟩
  obtain ⟨ao, cap, rfl, hels⟩ := hform
  refine ⟨_, hv, ⟨_, _, _, rfl⟩, fun m => ?_⟩
  have HC : Hid (∀ (j : Nat) (e : List D) (q : Nat), els[j]? = some e → g e = some q → ∃ gb, ao = some ⟨gb, 0, none⟩ ∧ ∀ nd, Calls Tryz.prog 61 #[.pointer (some ⟨gb, j * 4, none⟩)] ((w0.drewN m).drewN nd) fun e w' => e = .returned (.int .i64 (q : Int)) ∧ ∃ k, w' = ((w0.drewN m).drewN nd).drewN k) := fun j e q hj hq => by
    obtain ⟨gb, h1, h2⟩ := hels j e hj
    exact ⟨gb, h1, fun nd => hK e q hq _ _ _ ((h2.drewN m).drewN nd)⟩
  have HP : Hid (deps g 0 els = some n) := hdeps
  clear hels hdv hv hK hdeps
  obtain ⟨N, hN⟩ : ∃ N : Nat, els.length = N := ⟨_, rfl⟩
  rw [hN] at hlen ⊢
  have HL : Hid (els.length = N) := hN
  have hle : (N : Int) ≤ 1000000 := by omega
  clear hN hlen
  generalize w0.drewN m = w at *
  go_enter Tryz.func62, Tryz.ntmps62
  go_wp2_with fail
  go_loopw [5, 9] (fun mv iv wr => ∃ i q nd : Nat, i ≤ N ∧ mv = .int .i64 (q : Int) ∧ iv = .int .i64 (i : Int) ∧ Hid (deps g q (els.drop i) = some n) ∧ wr = w.drewN nd) (fun _ iv _ => N - (intOf iv).toNat)
  case atStart => exact ⟨0, 0, 0, Nat.zero_le _, rfl, rfl, HP, rfl⟩
  case round =>
    obtain ⟨i, q, nd, hi, rfl, rfl, HD, rfl⟩ := hrel
    by_cases hj : i < N
    · have hj' : (i : Int) < (N : Int) := by omega
      have hil : i < els.length := by have := HL.out; omega
      have hdr : els.drop i = els[i] :: els.drop (i + 1) := List.drop_eq_getElem_cons hil
      have hD := HD.out
      rw [hdr] at hD
      unfold deps at hD
      cases hx : g els[i] with
      | none => rw [hx] at hD; cases hD
      | some x =>
        rw [hx] at hD
        obtain ⟨gb, rfl, hc⟩ := HC.out i els[i] x (List.getElem?_eq_getElem hil) hx
        have HX : Hid (∀ nd : Nat, Calls Tryz.prog 61 #[.pointer (some ⟨gb, i * 4, none⟩)] (w.drewN nd) fun e w' => e = .returned (.int .i64 (x : Int)) ∧ ∃ k, w' = (w.drewN nd).drewN k) := hc
        have HD' : Hid (deps g (max q x) (els.drop (i + 1)) = some n) := hD
        clear hc hx hD hdr hil HD
        clear HP HC HL
        go_wp2_with fail
        refine (HX.out nd).mono ?_
        rintro e w1 ⟨rfl, k, rfl⟩
        go_wp2_with fail
        go_roundw
        case rel => exact ⟨i + 1, max q x, nd + k, hj, by rw [mxi_nat], by go_num, HD', by first | rfl | rw [World.drewN_drewN]⟩
        case measure => simp [intOf]; omega
    · have hj' : ¬ (i : Int) < (N : Int) := by omega
      have hD := HD.out
      rw [List.drop_eq_nil_of_le (by have := HL.out; omega)] at hD
      simp only [deps, Option.some.injEq] at hD
      subst hD
      clear HD
      go_wp2_with fail
      go_ret
      exact ⟨rfl, nd, rfl⟩

end Go.Proofs.YthmdgbmodgfcmaaGreatDoor
/-
  How deep a row of DeclVar is.
-/
namespace Go.Proofs.YthmdgbmodgfcmaaGreatDoor
open Go.RowKit

set_option maxHeartbeats 2000000 in
theorem deepestDeclVar_any (g : List D → Option Nat) (hK : DepIs 87 g) : RowIs 86 87 g .var := by
  intro d n h w0 b p hd
  obtain ⟨els, rfl, hlen, hdeps⟩ := rows_some h
  obtain ⟨v, hv, hdv⟩ := hd _ rfl
  clear hd h
  have hform : ∃ ao cap, v = .slice ao els.length cap ∧ ∀ (j : Nat) (e : List D), els[j]? = some e → ∃ g, ao = some ⟨g, 0, none⟩ ∧ Ro w0 g (j * 23) e := by
    rcases hdv.els with ⟨rfl, rfl⟩ | ⟨g, cap, _, rfl, hj⟩
    · exact ⟨none, 0, rfl, fun j e h => by simp at h⟩
    · exact ⟨_, cap, rfl, fun j e he => ⟨g, rfl, hj j e he⟩⟩
  obtain ⟨ao, cap, rfl, hels⟩ := hform
  refine ⟨_, hv, ⟨_, _, _, rfl⟩, fun m => ?_⟩
  have HC : Hid (∀ (j : Nat) (e : List D) (q : Nat), els[j]? = some e → g e = some q → ∃ gb, ao = some ⟨gb, 0, none⟩ ∧ ∀ nd, Calls Tryz.prog 87 #[.pointer (some ⟨gb, j * 23, none⟩)] ((w0.drewN m).drewN nd) fun e w' => e = .returned (.int .i64 (q : Int)) ∧ ∃ k, w' = ((w0.drewN m).drewN nd).drewN k) := fun j e q hj hq => by
    obtain ⟨gb, h1, h2⟩ := hels j e hj
    exact ⟨gb, h1, fun nd => hK e q hq _ _ _ ((h2.drewN m).drewN nd)⟩
  have HP : Hid (deps g 0 els = some n) := hdeps
  clear hels hdv hv hK hdeps
  obtain ⟨N, hN⟩ : ∃ N : Nat, els.length = N := ⟨_, rfl⟩
  rw [hN] at hlen ⊢
  have HL : Hid (els.length = N) := hN
  have hle : (N : Int) ≤ 1000000 := by omega
  clear hN hlen
  generalize w0.drewN m = w at *
  go_enter Tryz.func86, Tryz.ntmps86
  go_wp2_with fail
  go_loopw [5, 9] (fun mv iv wr => ∃ i q nd : Nat, i ≤ N ∧ mv = .int .i64 (q : Int) ∧ iv = .int .i64 (i : Int) ∧ Hid (deps g q (els.drop i) = some n) ∧ wr = w.drewN nd) (fun _ iv _ => N - (intOf iv).toNat)
  case atStart => exact ⟨0, 0, 0, Nat.zero_le _, rfl, rfl, HP, rfl⟩
  case round =>
    obtain ⟨i, q, nd, hi, rfl, rfl, HD, rfl⟩ := hrel
    by_cases hj : i < N
    · have hj' : (i : Int) < (N : Int) := by omega
      have hil : i < els.length := by have := HL.out; omega
      have hdr : els.drop i = els[i] :: els.drop (i + 1) := List.drop_eq_getElem_cons hil
      have hD := HD.out
      rw [hdr] at hD
      unfold deps at hD
      cases hx : g els[i] with
      | none => rw [hx] at hD; cases hD
      | some x =>
        rw [hx] at hD
        obtain ⟨gb, rfl, hc⟩ := HC.out i els[i] x (List.getElem?_eq_getElem hil) hx
        have HX : Hid (∀ nd : Nat, Calls Tryz.prog 87 #[.pointer (some ⟨gb, i * 23, none⟩)] (w.drewN nd) fun e w' => e = .returned (.int .i64 (x : Int)) ∧ ∃ k, w' = (w.drewN nd).drewN k) := hc
        have HD' : Hid (deps g (max q x) (els.drop (i + 1)) = some n) := hD
        clear hc hx hD hdr hil HD
        clear HP HC HL
        go_wp2_with fail
        refine (HX.out nd).mono ?_
        rintro e w1 ⟨rfl, k, rfl⟩
        go_wp2_with fail
        go_roundw
        case rel => exact ⟨i + 1, max q x, nd + k, hj, by rw [mxi_nat], by go_num, HD', by first | rfl | rw [World.drewN_drewN]⟩
        case measure => simp [intOf]; omega
    · have hj' : ¬ (i : Int) < (N : Int) := by omega
      have hD := HD.out
      rw [List.drop_eq_nil_of_le (by have := HL.out; omega)] at hD
      simp only [deps, Option.some.injEq] at hD
      subst hD
      clear HD
      go_wp2_with fail
      go_ret
      exact ⟨rfl, nd, rfl⟩

end Go.Proofs.YthmdgbmodgfcmaaGreatDoor
/-
  How deep a row of Unit is.
-/
namespace Go.Proofs.YthmdgbmodgfcmaaGreatDoor
open Go.RowKit

set_option maxHeartbeats 2000000 in
theorem deepestUnit_any (g : List D → Option Nat) (hK : DepIs 36 g) : RowIs 35 36 g .unit := by
  intro d n h w0 b p hd
  obtain ⟨els, rfl, hlen, hdeps⟩ := rows_some h
  obtain ⟨v, hv, hdv⟩ := hd _ rfl
  clear hd h
  have hform : ∃ ao cap, v = .slice ao els.length cap ∧ ∀ (j : Nat) (e : List D), els[j]? = some e → ∃ g, ao = some ⟨g, 0, none⟩ ∧ Ro w0 g (j * 21) e := by
    rcases hdv.els with ⟨rfl, rfl⟩ | ⟨g, cap, _, rfl, hj⟩
    · exact ⟨none, 0, rfl, fun j e h => by simp at h⟩
    · exact ⟨_, cap, rfl, fun j e he => ⟨g, rfl, hj j e he⟩⟩
  obtain ⟨ao, cap, rfl, hels⟩ := hform
  refine ⟨_, hv, ⟨_, _, _, rfl⟩, fun m => ?_⟩
  have HC : Hid (∀ (j : Nat) (e : List D) (q : Nat), els[j]? = some e → g e = some q → ∃ gb, ao = some ⟨gb, 0, none⟩ ∧ ∀ nd, Calls Tryz.prog 36 #[.pointer (some ⟨gb, j * 21, none⟩)] ((w0.drewN m).drewN nd) fun e w' => e = .returned (.int .i64 (q : Int)) ∧ ∃ k, w' = ((w0.drewN m).drewN nd).drewN k) := fun j e q hj hq => by
    obtain ⟨gb, h1, h2⟩ := hels j e hj
    exact ⟨gb, h1, fun nd => hK e q hq _ _ _ ((h2.drewN m).drewN nd)⟩
  have HP : Hid (deps g 0 els = some n) := hdeps
  clear hels hdv hv hK hdeps
  obtain ⟨N, hN⟩ : ∃ N : Nat, els.length = N := ⟨_, rfl⟩
  rw [hN] at hlen ⊢
  have HL : Hid (els.length = N) := hN
  have hle : (N : Int) ≤ 1000000 := by omega
  clear hN hlen
  generalize w0.drewN m = w at *
  go_enter Tryz.func35, Tryz.ntmps35
  go_wp2_with fail
  go_loopw [5, 9] (fun mv iv wr => ∃ i q nd : Nat, i ≤ N ∧ mv = .int .i64 (q : Int) ∧ iv = .int .i64 (i : Int) ∧ Hid (deps g q (els.drop i) = some n) ∧ wr = w.drewN nd) (fun _ iv _ => N - (intOf iv).toNat)
  case atStart => exact ⟨0, 0, 0, Nat.zero_le _, rfl, rfl, HP, rfl⟩
  case round =>
    obtain ⟨i, q, nd, hi, rfl, rfl, HD, rfl⟩ := hrel
    by_cases hj : i < N
    · have hj' : (i : Int) < (N : Int) := by omega
      have hil : i < els.length := by have := HL.out; omega
      have hdr : els.drop i = els[i] :: els.drop (i + 1) := List.drop_eq_getElem_cons hil
      have hD := HD.out
      rw [hdr] at hD
      unfold deps at hD
      cases hx : g els[i] with
      | none => rw [hx] at hD; cases hD
      | some x =>
        rw [hx] at hD
        obtain ⟨gb, rfl, hc⟩ := HC.out i els[i] x (List.getElem?_eq_getElem hil) hx
        have HX : Hid (∀ nd : Nat, Calls Tryz.prog 36 #[.pointer (some ⟨gb, i * 21, none⟩)] (w.drewN nd) fun e w' => e = .returned (.int .i64 (x : Int)) ∧ ∃ k, w' = (w.drewN nd).drewN k) := hc
        have HD' : Hid (deps g (max q x) (els.drop (i + 1)) = some n) := hD
        clear hc hx hD hdr hil HD
        clear HP HC HL
        go_wp2_with fail
        refine (HX.out nd).mono ?_
        rintro e w1 ⟨rfl, k, rfl⟩
        go_wp2_with fail
        go_roundw
        case rel => exact ⟨i + 1, max q x, nd + k, hj, by rw [mxi_nat], by go_num, HD', by first | rfl | rw [World.drewN_drewN]⟩
        case measure => simp [intOf]; omega
    · have hj' : ¬ (i : Int) < (N : Int) := by omega
      have hD := HD.out
      rw [List.drop_eq_nil_of_le (by have := HL.out; omega)] at hD
      simp only [deps, Option.some.injEq] at hD
      subst hD
      clear HD
      go_wp2_with fail
      go_ret
      exact ⟨rfl, nd, rfl⟩

end Go.Proofs.YthmdgbmodgfcmaaGreatDoor
