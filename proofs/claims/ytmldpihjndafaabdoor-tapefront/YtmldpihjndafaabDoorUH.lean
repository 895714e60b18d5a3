/- The tape: hold where there is a sign; Sync, Crash. -/
import Derived.Test.YtmldpihjndafaabDoorUG
namespace Go.Proofs.YtmldpihjndafaabDoor
open Go.RowKit
set_option linter.unusedSimpArgs false
set_option linter.unusedVariables false

set_option maxRecDepth 100000 in
set_option maxHeartbeats 4000000 in
theorem hold_yes (w : World) (T : Nat) (v : Value) (R : List TC) (n : Int) (A k q m : Nat) (h : IsTape w T v R) (hat : lastS R R.length = A) (hA : A < R.length) (hk : (k : Int) = min (max n 0) ((R.length : Int) - A - 1)) (hq : q = A + 1 + k) (hm : m = A + k) (hB : R.length < 1000000) (hn : -9223372036854775808 ≤ n ∧ n ≤ 9223372036854775807) :
    Calls Tryd.prog 21 #[.pointer (some ⟨T, 0, none⟩), .int .i64 n] w fun e w' => e = .returned (.tuple #[]) ∧ ∃ v', IsTape w' T v' ((R.take q).take A ++ (R.take q).drop (A + 1) ++ [.sgn]) ∧ KT T v w w' ∧ NewOr w v v' := by
  obtain ⟨a, c, rfl, hcs⟩ := h.cs
  have ka := signAt_any a c _ w hcs
  rw [hat] at ka
  have hX := h.box
  have hrow := h.row
  have hne := h.ne
  have hTw := hX.lt
  have hkR : q ≤ R.length := by omega
  have kd := fun W hW => delete_own 0 (.slice a R.length c) R q R.length W hW hkR (Nat.le_refl _) (by omega)
  rw [List.drop_length, List.append_nil] at kd
  have hlk : (R.take q).length = q := by simp; omega
  rw [hlk] at kd
  obtain ⟨len, hlen⟩ : ∃ len, R.length = len := ⟨_, rfl⟩
  rw [hlen] at hk hB hA ka hrow hkR kd hX hne ⊢
  have hlen' : Hid (R.length = len) := hlen
  have hmB : m < 1000000 := by omega
  have hwz : Hid (IntKind.i64.wrap (IntKind.i64.wrap ((A : Int) + 1) + (k : Int)) = q) := by show _ = _; rw [w64 ((A : Int) + 1) (by omega) (by omega), w64 _ (by omega) (by omega)]; omega
  have hk1 : k ≤ 1000000 := by omega
  have hA1 : A ≤ 1000000 := by omega
  have hq1 : q ≤ 1000000 := by omega
  have hq' : Hid (q = A + 1 + k) := hq
  have hm' : Hid (m = A + k) := hm
  have hkR' : Hid (q ≤ len) := hkR
  have hlo : Hid ((k : Int) = min (max n 0) ((len : Int) - A - 1)) := hk
  clear hq hm hlk hkR hk
  clear h hcs hlen
  have c0 : w.cell? ⟨T, 0, none⟩ = some (.slice a len c) := hX.cell rfl
  go_enter Tryd.func21, Tryd.ntmps21
  go_upto_region 2 with (first
    | (go_at_call 23; refine ka.mono ?_; rintro e w1 ⟨rfl, rfl⟩))
  go_cut [6] (fun s6 wx => s6 = .int .i64 k ∧ wx = w1)
  case first =>
    go_wp2
    all_goals
      go_meet
      case rel => exact ⟨by congr 1; have := hlo.out; omega, rfl⟩
  case rest =>
    obtain ⟨rfl, hq⟩ := hcut
    rw [hq]
    clear hq
    have hrow' := hrow.drew
    have c0' : w1.drew.cell? ⟨T, 0, none⟩ = some (.slice a len c) := c0
    have f0' : w1.drew.frozen? ⟨T, 0, none⟩ = false := hX.frozen 0
    clear ka
    have hw := hwz.out
    clear hn
    go_upto_region 3 with fail
    go_cut [] (fun wx => ∃ a2 c2, Box wx T #[.slice a2 q c2] 47 ∧ wx.ownsRow 0 20 1 (.slice a2 q c2) q ((R.take q).map encC) ∧ (Value.slice a2 q c2).ownBlock = (Value.slice a len c).ownBlock ∧ KT T (.slice a len c) w1 wx)
    case first =>
      go_region_with (first
        | (go_at_call 34; try rw [hw]
           refine (kd _ hrow').mono ?_
           rintro e w2 ⟨v2, rfl, ho2, hb2, hg2⟩
           have hX2 := hX.drew.grown hg2 (fun e => hne e.symm)
           obtain ⟨a2, c2, rfl⟩ := slice_of_own ho2
           have d0 : w2.cell? ⟨T, 0, none⟩ = some (.slice a len c) := hX2.cell rfl
           have f0 := hX2.frozen 0)
        | fail)
      all_goals
        go_wp2
        go_meet
        case rel =>
          have hg3 : w1.grownBy w2 (Value.slice a len c).ownBlock := ⟨hg2.os, hg2.tape, hg2.output, hg2.size, hg2.block⟩
          refine ⟨a2, c2, hX2.set 0 _, ownsRow_setCell_other ho2 (by rw [hb2]; exact hne) _, hb2, ?_⟩
          exact (KT.of_grown hg3).trans (fun g hg => .inl (hb2 ▸ hg)) (KT.set T _ _ _ _)
    case rest =>
      obtain ⟨a2, c2, hX3, ho3, hb3, hK3⟩ := hcut
      have c3 : wc.cell? ⟨T, 0, none⟩ = some (.slice a2 q c2) := hX3.cell rfl
      have f3 := hX3.frozen 0
      have hkR : q ≤ R.length := by rw [hlen'.out]; exact hkR'.out
      have hqo := hq'.out
      have hmo := hm'.out
      have hlq : (R.take q).length = q := by simp; omega
      have kd2 := delete_own 0 (.slice a2 q c2) (R.take q) A (A + 1) wc (by rw [hlq]; exact ho3) (Nat.le_succ _) (by rw [hlq]; omega) (by rw [hlq]; omega)
      have hlm : ((R.take q).take A ++ (R.take q).drop (A + 1)).length = m := by rw [List.length_append, List.length_take, List.length_drop, hlq]; omega
      rw [hlm] at kd2
      have hne3 : (Value.slice a2 q c2).ownBlock ≠ some T := by rw [hb3]; exact hne
      obtain ⟨R2, hR2⟩ : ∃ R2, (R.take q).take A ++ (R.take q).drop (A + 1) = R2 := ⟨_, rfl⟩
      rw [hR2] at kd2 hlm
      have hlm' : Hid (R2.length = m) := hlm
      have hR2' : Hid ((R.take q).take A ++ (R.take q).drop (A + 1) = R2) := hR2
      have ha1 : ((A + 1 : Nat) : Int) = (A : Int) + 1 := by omega
      rw [ha1] at kd2
      clear kd hrow' c0' f0' hw hlq hR2 hlm ha1 hkR hqo hmo
      go_upto_region 6 with (first
        | (go_at_call 34; refine kd2.mono ?_
           rintro e w5 ⟨v5, rfl, ho5, hb5, hg5⟩
           have hX5 := hX3.grown hg5 (fun e => hne3 e.symm)
           obtain ⟨a5, c5, rfl⟩ := slice_of_own ho5
           have d5 : w5.cell? ⟨T, 0, none⟩ = some (.slice a2 q c2) := hX5.cell rfl
           have f5 := hX5.frozen 0))
      have hn5 : NewOr w1 (.slice a len c) (.slice a5 m c5) := fun g hg => .inl (by rw [hb5, hb3] at hg; exact hg)
      have hne5 : (Value.slice a5 m c5).ownBlock ≠ some T := by rw [hb5]; exact hne3
      have hK6 : KT T (.slice a len c) w1 (w5.setCell ⟨T, 0, none⟩ (.slice a5 m c5)) := hK3.trans (fun g hg => .inl (hb3 ▸ hg)) ((KT.of_grown hg5).trans (NewOr.refl _ _) (KT.set T _ _ _ _))
      have hX6 : Box (w5.setCell ⟨T, 0, none⟩ (.slice a5 m c5)) T #[.slice a5 m c5] 47 := hX5.set 0 _
      have ho6 := ownsRow_setCell_other ho5 (a := ⟨T, 0, none⟩) hne5 (.slice a5 m c5)
      generalize w5.setCell ⟨T, 0, none⟩ (.slice a5 m c5) = w6 at *
      have d6 : w6.cell? ⟨T, 0, none⟩ = some (.slice a5 m c5) := hX6.cell rfl
      have hm1 : m ≤ 1000000 := by have := ho6.1; have h9 := hlm'.out; omega
      clear kd2 ho5 d5 f5 hg5 hX5 hX3 c3 f3 ho3
      go_wp2_with (first
        | (at_builtin; refine wpList_append_any rfl _ _ rfl 0 _ _ _ rfl (ho6.alloc _) ⟨_, 0, none⟩ (encC .sgn) rfl (cell_first _ _ _) rfl (by omega) (by omega) ?_
           intro v4 w4 ho4 hg4 hn4
           have hX4 := (hX6.up _).grown hg4 (fun e => hne5 e.symm)
           obtain ⟨a4, c4, rfl⟩ := slice_of_own ho4
           have f4 := hX4.frozen 0
           have d4 : w4.cell? ⟨T, 0, none⟩ = some (.slice a5 m c5) := hX4.cell rfl))
      go_end0
      have e2 := hR2'.out
      subst e2
      have hz := tape_put hK6 hn5 hX6 hne5 hX4 ho4 hlm'.out hmB hg4 hn4
      exact ⟨rfl, _, hz.1, hz.2.1, hz.2.2⟩

end Go.Proofs.YtmldpihjndafaabDoor
