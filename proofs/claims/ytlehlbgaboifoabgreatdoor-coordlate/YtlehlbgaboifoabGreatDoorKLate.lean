/- The walk of CoordLate. -/
import Derived.Test.YtlehlbgaboifoabGreatDoorKDK
import Derived.Deep.CutBlock
namespace Go.Proofs.YtlehlbgaboifoabGreatDoor
open Go.RowKit Go.Maps Go.Shelf
set_option linter.unusedSimpArgs false
set_option linter.unusedVariables false

/-- Decided. -/
def DS (n d : Nat) (x : CoS) : Prop := ∃ b, x.M = [(((5 : Nat) : Int), ⟨b, pr n, pr n, .dec d⟩)]
theorem VS.done {n : Nat} {x : CoS} (h : VS n (n + 1) x) : DS n 3 x := by
  obtain ⟨h1, h2, h3, ⟨h4, _⟩ | ⟨_, b, h⟩⟩ := h
  · omega
  · exact ⟨b, h⟩
theorem VS.cancel {B : Nat} {w0 w : World} {C T : Nat} {l : List (Nat × Array Value × TypeId)} {x : CoS} {fp : Nat → Prop} {n : Nat} (h : CSite B w0 C T l x fp w) (hx : VS n 1 x) (hn : 1 ≤ n) :
    Calls Tryz.prog 16 #[ptr C, .int .i64 5] w fun e w' => ∃ v2 fp' x', e = .returned (.tuple #[v2, .int .i64 0]) ∧ CSite B w0 C T l x' fp' w' ∧ DS n 4 x' := by
  have e5 : ((5 : Nat) : Int) = 5 := rfl
  obtain ⟨h1, h2, h3, ⟨_, h0, b, hM⟩ | ⟨h4, _⟩⟩ := hx
  · have k := cancel_one h 5 (by decide) hM rfl
    rw [e5] at k
    exact k.mono fun e w' ⟨v2, fp', e1, _, h5⟩ => ⟨v2, fp', _, e1, h5, b, rfl⟩
  · omega

abbrev lW (W C T X Y : Nat) : List (Nat × Array Value × TypeId) := [(W, #[ptr C, ptr T, ptr X, ptr Y], 35)]

set_option maxRecDepth 100000 in
set_option maxHeartbeats 16000000 in
theorem coordLate_walk (shards : Int) (commit : Bool) (who kind : Int) (yes : Bool) (w : World) (hB : TabB w.heap.size w) :
    Calls Tryz.prog 8 #[.int .i64 shards, .bool commit, .int .i64 who, .int .i64 kind, .bool yes] w fun e w' => e = .returned (.bool true) ∧ Below w.heap.size w w' := by
  obtain ⟨B, hB0⟩ : ∃ B, w.heap.size = B := ⟨_, rfl⟩
  have kk := known11_any w hB
  have hBw : B ≤ w.heap.size := Nat.le_of_eq hB0.symm
  rw [hB0] at hB kk ⊢
  clear hB0
  go_enter Tryz.func8, Tryz.ntmps8
  go_upto_region 3 with (go_at_call 9; refine kk.mono ?_; rintro e w1 ⟨rfl, hb1⟩)
  clear kk
  go_cut [11] (fun v wx => ∃ n : Nat, v = .int .i64 n ∧ 1 ≤ n ∧ n ≤ 3 ∧ wx = w1)
  case first =>
    obtain ⟨k, hk, hk3⟩ : ∃ k : Nat, shards % 3 = k ∧ k < 3 := ⟨(shards % 3).toNat, by omega, by omega⟩
    go_wp2_with (go_at_call 10; refine (within_any _ _ _ (by decide) (by decide) hk _).mono ?_; rintro e wq ⟨rfl, rfl⟩)
    go_meet
    case rel => exact ⟨k + 1, by go_num, by omega, by omega, rfl⟩
  case rest =>
  obtain ⟨n, rfl, hn1, hn3, rfl⟩ := hcut
  go_upto_region 7 with (go_at_call 11; refine (open11 _).mono ?_; rintro e w2 ⟨W, rfl, hO⟩)
  obtain ⟨C, T, X, Y, fp, hs2⟩ := open_csite (hB.on hb1) (Nat.le_trans hBw hb1.size) hb1 hO
  have hG : ∀ U, Below w2.heap.size w2 U → Calls Tryz.prog 13 #[.int .i64 5, .int .i64 n] U fun e w' => ∃ a cap, e = .returned (.agg #[.int .i64 5, .slice a n cap]) ∧ Below w2.heap.size w2 w' ∧ ∀ U2, Below w'.heap.size w' U2 → Calls Tryz.prog 12 #[ptr C, .agg #[.int .i64 5, .slice a n cap]] U2 fun e w' => ∃ v2 fp' x', e = .returned v2 ∧ CSite B w C T (lW W C T X Y) x' fp' w' ∧ HS n 1 x' := fun U hU =>
    (gangN_any 5 n (by omega) U).mono fun e w' ⟨a, cap, e1, hc, hP, hPi, hb⟩ => by
      have hb2 := fin hb hU
      refine ⟨a, cap, e1, hb2, fun U2 hU2 => ?_⟩
      have hs3 := (hs2.later hb2).later hU2
      exact (gang_submit hs3 a cap hn1 hn3 hc (hP.later hU2) (hPi.wide fun k hk => ⟨Nat.lt_of_lt_of_le hk.2 hU2.size, fun hc => by have := hs2.c.lt _ hc; have := hU.size; have := hk.1; omega⟩)).mono fun e w' ⟨v2, pods, fp', x', e1, _, h5, h6, _, _⟩ => ⟨_, fp', x', e1, h5, h6⟩
  have bW := hs2.head
  have r2 := Below.refl w2.heap.size w2
  have hd : Below w2.heap.size w2 w2.drew := r2.drew
  obtain ⟨d0, d1, d2, d3⟩ := bW.cells4
  clear hO hb1
  go_cut [] (fun wx => ∃ fp x, CSite B w C T (lW W C T X Y) x fp wx ∧ HS n 1 x)
  case first =>
    clear hs2
    go_region_with (first
      | (go_at_call 13; refine (hG _ (by assumption)).mono ?_; rintro e w3 ⟨a, cap, rfl, hb3, kS⟩; have bW3 := bW.later hb3; have r3 := Below.refl w3.heap.size w3; have dd3 : Below w3.heap.size w3 w3.drew := r3.drew; obtain ⟨s0, s1, s2, s3⟩ := bW3.cells4)
      | (go_at_call 12; refine (kS _ (by assumption)).mono ?_; rintro e w4 ⟨v2, fp', x', rfl, h4, hx4⟩))
    all_goals
      go_wp2
      go_meet
      case rel => exact ⟨fp', x', h4, hx4⟩
  case rest =>
  obtain ⟨fp1, x1, h1, hx1⟩ := hcut
  clear hs2 hG bW r2 hd d0 d1 d2 d3
  go_wp2
  go_loopw [13] (fun v wr => ∃ (s : Nat) (fp : Nat → Prop) (x : CoS), v = .int .i64 s ∧ CSite B w C T (lW W C T X Y) x fp wr ∧ HS n s x) (fun v _ => n + 1 - (intOf v).toNat)
  case atStart => exact ⟨1, fp1, x1, rfl, h1, hx1⟩
  case round =>
    obtain ⟨s, fp2, x2, rfl, h2, hx2⟩ := hrel
    clear h1 hx1
    have hs1 := hx2.2.1
    have hs2 := hx2.2.2.1
    have cW := h2.head.cell (i := 0) (v := ptr C) rfl
    by_cases hs : s ≤ n
    · have kg := HS.get h2 hx2 (by omega) hs
      clear h2 hx2
      go_wp2_with (go_at_call 17; refine kg.mono ?_; rintro e w5 ⟨v, fp5, x5, rfl, h5, hx5⟩)
      go_roundw
      case rel => exact ⟨s + 1, fp5, x5, by go_num, h5, hx5⟩
      case measure => simp [intOf]; omega
    · have es : s = n + 1 := by omega
      subst es
      have hv2 := hx2.votes hn1
      clear hs hs1 hs2 hx2
      go_upto_block 2 with fail
      go_cut [] (fun wx => ∃ fp x, CSite B w C T (lW W C T X Y) x fp wx ∧ ((commit = true ∧ DS n 3 x) ∨ (commit = false ∧ VS n 1 x)))
      case first =>
        go_wp2_with fail
        go_loopw [14] (fun v wr => ∃ (s : Nat) (fp : Nat → Prop) (x : CoS), v = .int .i64 s ∧ CSite B w C T (lW W C T X Y) x fp wr ∧ VS n s x ∧ Hid (commit = false → s = 1)) (fun v _ => n + 1 - (intOf v).toNat)
        case atStart => exact ⟨1, fp2, x2, rfl, h2, hv2, fun _ => rfl⟩
        case round =>
          obtain ⟨s, fp3, x3, rfl, h3, hx3, hc3⟩ := hrel
          clear h2 hv2
          have hs1 := hx3.2.1
          have hs2 := hx3.2.2.1
          have cW := h3.head.cell (i := 0) (v := ptr C) rfl
          by_cases hs : s ≤ n
          · cases commit
            · have hq : CSite B w C T (lW W C T X Y) x3 fp3 wr ∧ VS n 1 x3 := ⟨h3, by have := hc3.out rfl; rw [← this]; exact hx3⟩
              clear h3 hx3 hc3
              go_wp2
              go_meet
              case rel => exact ⟨fp3, x3, hq.1, .inr ⟨by first | trivial | rfl, hq.2⟩⟩
            · have kg := VS.get h3 hx3 (by omega) hs
              clear h3 hx3 hc3
              go_wp2_with (go_at_call 17; refine kg.mono ?_; rintro e w5 ⟨v, fp5, x5, rfl, h5, hx5⟩)
              go_roundw
              case rel =>
                iterate 16 (apply Exists.intro)
                exact ⟨⟨s + 1, fp5, x5, by go_num, h5, hx5, (show _ from fun h => by cases h)⟩, rfl⟩
              case measure => simp [intOf]; omega
          · have es : s = n + 1 := by omega
            have ec : commit = true := by
              cases commit
              · have := hc3.out rfl; omega
              · rfl
            have hd := (show VS n (n + 1) x3 by rw [← es]; exact hx3).done
            clear hx3 hc3 es
            subst ec
            go_wp2
            go_meet
            case rel => exact ⟨fp3, x3, h3, .inl ⟨by first | trivial | rfl, hd⟩⟩
      case rest =>
      obtain ⟨fp3, x3, h3, hx3⟩ := hcut
      clear h2 hv2
      have cW := h3.head.cell (i := 0) (v := ptr C) rfl
      go_upto_if 62 with fail
      go_cut [] (fun wx => ∃ fp x, CSite B w C T (lW W C T X Y) x fp wx ∧ DS n (if commit then 3 else 4) x)
      case first =>
        rcases hx3 with ⟨rfl, hd⟩ | ⟨rfl, hv⟩
        · go_wp2
          go_meet
          case rel => exact ⟨fp3, x3, h3, hd⟩
        · have kc := VS.cancel h3 hv hn1
          clear h3 hv
          go_wp2_with (go_at_call 16; refine kc.mono ?_; rintro e w6 ⟨v6, fp6, x6, rfl, h6, hx6⟩)
          go_meet
          case rel => exact ⟨fp6, x6, h6, hx6⟩
      case rest =>
      obtain ⟨fp4, x4, h4, b4, hM4⟩ := hcut
      clear h3 hx3 cW
      obtain ⟨D, hD⟩ : ∃ D : Nat, (if commit then 3 else 4) = D := ⟨_, rfl⟩
      rw [hD] at hM4
      have HD : Hid ((if commit then 3 else 4) = D) := hD
      clear hD
      have cW := h4.head.cell (i := 0) (v := ptr C) rfl
      have e5 : ((5 : Nat) : Int) = 5 := rfl
      have kst := fun (U : World) (hU : CSite B w C T (lW W C T X Y) x4 fp4 U) => state_one hU 5 (by decide) hM4 (by intro e; cases e)
      rw [e5] at kst
      go_upto_region 19 with (go_at_call 21; refine (kst _ h4).mono ?_; rintro e w7 ⟨rfl, rfl⟩)
      go_cut [16] (fun v wx => ∃ f : Nat, v = .int .i64 f ∧ 1 ≤ f ∧ f ≤ n ∧ CSite B w C T (lW W C T X Y) x4 fp4 wx)
      case first =>
        clear kst
        obtain ⟨k, hk, hkn⟩ : ∃ k : Nat, who % (n : Int) = k ∧ k < n := ⟨(who % (n : Int)).toNat, by have := Int.emod_nonneg who (b := (n : Int)) (by omega); omega, by have := Int.emod_lt_of_pos who (b := (n : Int)) (by omega); have := Int.emod_nonneg who (b := (n : Int)) (by omega); omega⟩
        go_wp2_with (go_at_call 10; refine (within_any _ _ _ (by omega) (by omega) hk _).mono ?_; rintro e wq ⟨rfl, rfl⟩)
        go_meet
        case rel => exact ⟨k + 1, by go_num, by omega, by omega, h4⟩
      case rest =>
      clear h4 cW
      obtain ⟨f, rfl, hf1, hfn, h7⟩ := hcut
      go_upto_region 20 with fail
      go_cut [17] (fun v wx => ∃ k : Nat, v = .int .i64 k ∧ (k = 2 ∨ k = 4 ∨ k = 10) ∧ CSite B w C T (lW W C T X Y) x4 fp4 wx)
      case first =>
        clear kst
        rcases (by omega : kind % 3 = 0 ∨ kind % 3 = 1 ∨ kind % 3 = 2) with hk | hk | hk
        · go_wp2_with (go_at_call 10; refine (within_any _ _ _ (by decide) (by decide) hk _).mono ?_; rintro e wq ⟨rfl, rfl⟩)
          go_meet
          case rel => exact ⟨2, rfl, by decide, h7.later (up (Below.refl _ _) _)⟩
        · go_wp2_with (go_at_call 10; refine (within_any _ _ _ (by decide) (by decide) hk _).mono ?_; rintro e wq ⟨rfl, rfl⟩)
          go_meet
          case rel => exact ⟨4, rfl, by decide, h7.later (up (Below.refl _ _) _)⟩
        · go_wp2_with (go_at_call 10; refine (within_any _ _ _ (by decide) (by decide) hk _).mono ?_; rintro e wq ⟨rfl, rfl⟩)
          go_meet
          case rel => exact ⟨10, rfl, by decide, h7.later (up (Below.refl _ _) _)⟩
      case rest =>
      clear h7
      obtain ⟨k, rfl, hk, h8⟩ := hcut
      have cW8 := h8.head.cell (i := 0) (v := ptr C) rfl
      go_upto_region 21 with fail
      go_cut [18] (fun v wx => ∃ a m c, v = .slice a m c ∧ CSite B w C T (lW W C T X Y) x4 fp4 wx ∧ ((k ≠ 4 ∧ m = 0) ∨ (k = 4 ∧ m = 1 ∧ MsgAt wx a 0 (wordS (pr n) 5 f (.dec D)))))
      case first =>
        by_cases h4 : k = 4
        · subst h4
          have kg := get_vote h8 5 (by decide) hM4 rfl (by rw [← HD.out]; cases commit <;> decide) f yes hf1 (by omega) (mem_pr hf1 hfn)
          go_wp2_with (go_at_call 17; refine kg.mono ?_; rintro e w9 ⟨v9, rfl, hM9, hb9⟩; obtain ⟨a9, c9, rfl, _, hat9⟩ := hM9.cut)
          go_meet
          case rel => exact ⟨a9, _, c9, rfl, h8.later hb9, .inr ⟨by first | trivial | rfl, by first | trivial | rfl, hat9 0 _ rfl⟩⟩
        · have kg := get_late h8 5 (by decide) hM4 rfl k f (by omega) (by rw [Ph.ends]; rw [← HD.out]; cases commit <;> simp <;> omega) h4 yes hf1 (by omega) (mem_pr hf1 hfn)
          go_wp2_with (go_at_call 17; refine kg.mono ?_; rintro e w9 ⟨rfl, hb9⟩)
          go_meet
          case rel => exact ⟨none, 0, 0, rfl, h8.later hb9, .inl ⟨h4, rfl⟩⟩
      case rest =>
      obtain ⟨a, m, c, rfl, h10, hr⟩ := hcut
      clear h8 cW8
      go_upto_region 22 with fail
      go_cut [129] (fun v wx => v = .bool false ∧ CSite B w C T (lW W C T X Y) x4 fp4 wx)
      case first =>
        clear kst
        rcases hr with ⟨hk4, rfl⟩ | ⟨rfl, rfl, g, rfl, d0, d1, d2, d3, d6⟩
        · rcases hk with rfl | rfl | rfl
          · go_wp2
            go_meet
            case rel => exact ⟨rfl, h10⟩
          · exact absurd rfl hk4
          · go_wp2
            go_meet
            case rel => exact ⟨rfl, h10⟩
        · have hDD := HD.out
          cases commit
          · have e : D = 4 := hDD.symm
            subst e
            simp only [Nat.zero_mul, Nat.zero_add] at d0 d2 d6
            change _ = some (Value.int .i64 5) at d0
            change _ = some (Value.int .i64 f) at d2
            change _ = some (Value.bool false) at d6
            clear d1 d3 hDD HD
            go_wp2
            go_meet
            case rel => exact ⟨rfl, h10⟩
          · have e : D = 3 := hDD.symm
            subst e
            simp only [Nat.zero_mul, Nat.zero_add] at d0 d2 d6
            change _ = some (Value.int .i64 5) at d0
            change _ = some (Value.int .i64 f) at d2
            change _ = some (Value.bool true) at d6
            clear d1 d3 hDD HD
            go_wp2
            go_meet
            case rel => exact ⟨rfl, h10⟩
      case rest =>
      clear h10
      obtain ⟨rfl, h10⟩ := hcut
      have cW10 := h10.head.cell (i := 0) (v := ptr C) rfl
      have k9 := kst _ h10
      have kw := waits_one h10 5 (by decide) hM4
      rw [e5] at kw
      have hlen : (pr n).length = n := by simp
      simp only [hlen] at kw
      have hend := h10.below
      have hle := h10.le
      clear kst h10 hr hk HD
      go_wp2_with (first
        | (go_at_call 21; refine k9.mono ?_; rintro e w11 ⟨rfl, rfl⟩)
        | (go_at_call 23; refine kw.mono ?_; rintro e w12 ⟨a12, c12, rfl, hb12⟩))
      go_ret
      exact ⟨rfl, hend.trans (hb12.mono hle)⟩

end Go.Proofs.YtlehlbgaboifoabGreatDoor
