/- The walk of TapeSyncs. -/
import Derived.Test.YtmldpihjndafaaaDoorUL
namespace Go.Proofs.YtmldpihjndafaaaDoor
open Go.RowKit
set_option linter.unusedSimpArgs false
set_option linter.unusedVariables false

/-- The lines of aborts. -/
abbrev ab (l : List Nat) : List ByteArray := l.map fun g => bs (oneT 5 g)
/-- Gangs' numbers. -/
def Gs (l : List Nat) : Prop := ∀ g ∈ l, 1 ≤ g ∧ g ≤ 999999

theorem okA (gs hs : List Nat) (h : Gs (gs ++ hs)) : ∀ i r, ((gs ++ hs).map (oneR 5))[i]? = some r → ParseOK ((ab gs ++ ab hs).getD i ByteArray.empty) r := by
  intro i r hr
  rw [← List.map_append]
  rw [List.getElem?_map] at hr
  cases hi : (gs ++ hs)[i]? with
  | none => rw [hi] at hr; cases hr
  | some g =>
    rw [hi] at hr
    have hr' : oneR 5 g = r := by simpa using hr
    subst hr'
    have hm := h g (List.mem_of_getElem? hi)
    have : ((gs ++ hs).map fun g => bs (oneT 5 g)).getD i ByteArray.empty = bs (oneT 5 g) := by rw [List.getD_eq_getElem?_getD, List.getElem?_map, hi]; rfl
    rw [this]
    exact parseOK_five g hm.1 hm.2

theorem onB {B : Nat} {w w1 w2 : World} (h : Below B w w1) (h2 : Below w1.heap.size w1 w2) (hB : B ≤ w1.heap.size) : Below B w w2 := h.trans (h2.mono hB)

theorem ab_len (gs hs : List Nat) (n : Nat) (h : gs.length + hs.length = n) : (ab gs ++ ab hs).length = n := by simp [ab, h]
theorem ab_all (gs hs : List Nat) (n : Nat) (h : gs.length + hs.length = n) : ((gs ++ hs).map (oneR 5)).length = n := by simp [h]

set_option maxRecDepth 100000 in
set_option maxHeartbeats 8000000 in
theorem tapeSyncs_walk (a0 : Option Addr) (len0 cap0 : Nat) (z0 : List Int) (w : World) (w0 : IsRow .i64 w a0 len0 cap0 z0) (hT : TabB w.heap.size w) :
    Calls Tryd.prog 4 #[.slice a0 len0 cap0] w fun e w' => e = .returned (.bool true) ∧ Below w.heap.size w w' := by
  have hrow := w0.has
  clear w0
  have hlen0 := hrow.1
  have kk := known9_any w hT
  obtain ⟨B, hB0⟩ : ∃ B, w.heap.size = B := ⟨_, rfl⟩
  rw [hB0] at hT kk ⊢
  have hBw : B ≤ w.heap.size := by omega
  have hB0' : Hid (w.heap.size = B) := hB0
  clear hB0
  go_enter Tryd.func4, Tryd.ntmps4
  go_wp2_with (first
    | (go_at_call 5; refine kk.mono ?_; rintro e w1 ⟨rfl, hb1⟩)
    | (go_at_call 6; refine (new_st B _ (Nat.le_trans hBw hb1.size)).mono ?_; rintro e w2 ⟨rfl, hS2, hb2⟩; have hb2w := onB hb1 hb2 (Nat.le_trans hBw hb1.size)))
  generalize w1.heap.size = T at *
  clear kk hb2
  go_loopw [4, 5, 6] (fun v4 v5 v6 wr => ∃ (n l i : Nat) (gs hs : List Nat) (s : Bool), v4 = .int .i64 n ∧ v5 = .int .i64 l ∧ v6 = .int .i64 i ∧ St B wr T (ab gs) (ab hs) s ∧ Hid (Gs (gs ++ hs)) ∧ Hid (gs.length = l) ∧ Hid (gs.length + hs.length = n) ∧ n ≤ i ∧ l ≤ n ∧ i ≤ len0 ∧ i ≤ 60 ∧ Below B w wr) (fun _ _ v6 _ => len0 - (intOf v6).toNat)
  case atStart => exact ⟨0, 0, 0, [], [], false, rfl, rfl, rfl, hS2, (by show Gs _; intro g hg; simp at hg), rfl, rfl, Nat.le_refl _, Nat.le_refl _, Nat.zero_le _, by decide, hb2w⟩
  case round =>
    obtain ⟨n, l, i, gs, hs, s, rfl, rfl, rfl, hS, hG, hgl, hgn, hni, hln, hil, hi60, hbw⟩ := hrel
    clear hS2 hb2w
    have hBr : B ≤ wr.heap.size := Nat.le_trans hBw hbw.size
    by_cases hlt : i < len0 ∧ i < 60
    · obtain ⟨hi1, hi2⟩ := hlt
      obtain ⟨x, z, rfl, hc⟩ := hrow.at hbw (by rw [hB0'.out]; exact Nat.le_refl _) i hi1
      obtain ⟨r, hr⟩ : ∃ r : Nat, z % 5 = r := ⟨(z % 5).toNat, by omega⟩
      have hr5 : r < 5 := by omega
      have kw := fun W => within_any z 5 r (by decide) (by decide) hr W
      have hTr : TabB B wr := hT.on hbw
      rcases (by omega : r = 0 ∨ r = 1 ∨ 2 ≤ r) with rfl | rfl | h2
      · clear hr
        have ks := sync_st B T wr (ab gs) (ab hs) s hS hBr (by have := hgl.out; have := hgn.out; simp [ab]; omega)
        go_wp2_with (first
          | (go_at_call 8; refine (kw _).mono ?_; rintro e wq ⟨rfl, rfl⟩)
          | (go_at_call 12; refine ks.mono ?_
             rintro e w3 ⟨rfl, hS3', hb3'⟩
             have hb3 := hbw.trans hb3'
             have hB3 := Nat.le_trans hBw hb3.size
             obtain ⟨gs3, hs3, s3, hS3, hG3, hgl3, hgn3⟩ : ∃ gs3 hs3 s3, St B w3 T (ab gs3) (ab hs3) s3 ∧ Hid (Gs (gs3 ++ hs3)) ∧ Hid (gs3.length = n) ∧ Hid (gs3.length + hs3.length = n) := ⟨gs ++ hs, [], true, (by simpa [ab] using hS3'), (by show Gs _; rw [List.append_nil]; exact hG.out), (by show _ = _; rw [List.length_append]; exact hgn.out), (by show _ = _; rw [List.length_append]; exact hgn.out)⟩)
          | (go_at_call 11; refine (lasting_st _ _ w3 _ _ s3 n hS3 (by simpa using hgl3.out)).mono ?_; rintro e w6 ⟨rfl, rfl⟩)
          | (go_at_call 13; refine (lines_st _ _ w6 _ _ s3 n _ hS3 rfl (ab_len gs3 hs3 _ hgn3.out)).mono ?_; rintro e w7 ⟨a7, c7, rfl, _, hb7⟩; have hS7 := hS3.later hb7; have hb7w := onB hb3 hb7 hB3)
          | (go_at_call 10; refine (all_st _ _ w7 _ _ s3 n ((gs3 ++ hs3).map (oneR 5)) hS7 (ab_all gs3 hs3 _ hgn3.out) (ab_len gs3 hs3 _ hgn3.out).symm (okA gs3 hs3 hG3.out)).mono ?_; rintro e w8 ⟨a8, c8, l8, rfl, _, _, _, hb8⟩; have hS8 := hS7.later hb8; have hb8w := onB hb7w hb8 (Nat.le_trans hBw hb7w.size)))
        go_roundw
        case rel => exact ⟨n, n, i + 1, gs3, hs3, s3, rfl, rfl, by go_num, hS8, hG3, hgl3, hgn3, by omega, by omega, by omega, by omega, hb8w⟩
        case measure => simp [intOf]; omega
      · have hr0 : z % 5 = 1 := hr
        clear hr
        obtain ⟨k, hk⟩ : ∃ k : Nat, wrap64 (z.tdiv 5) % 4 = k := ⟨(wrap64 (z.tdiv 5) % 4).toNat, by omega⟩
        have hk4 : k < 4 := by omega
        obtain ⟨q, hq⟩ : ∃ q, hs.length = q := ⟨_, rfl⟩
        have hqn : n = l + q := by have := hgl.out; have := hgn.out; omega
        obtain ⟨st, hst⟩ : ∃ st, min k q = st := ⟨_, rfl⟩
        obtain ⟨m, hm⟩ : ∃ m, l + st = m := ⟨_, rfl⟩
        have hmq : m ≤ n := by omega
        have hml : l ≤ m := by omega
        have kc := crash_st B T wr (ab gs) (ab hs) s k st hS hBr (by simp only [ab, List.length_map]; omega) (by have := hgl.out; simp only [ab, List.length_map]; omega) (by omega)
        have hm' : Hid (m = l + min k (n - l)) := by show _ = _; omega
        have hst' : Hid (st ≤ hs.length ∧ gs.length + st = m) := by have := hgl.out; exact ⟨by omega, by omega⟩
        clear hq hqn hst hm kw
        go_upto_region 19 with (first
          | (go_at_call 8; refine (within_any _ _ _ (by decide) (by decide) (by assumption) _).mono ?_; rintro e wq ⟨rfl, rfl⟩)
          | (go_at_call 9; refine kc.mono ?_
             rintro e w3 ⟨rfl, hS3', hb3'⟩
             have hb3 := hbw.trans hb3'
             have hB3 := Nat.le_trans hBw hb3.size
             obtain ⟨gs3, hs3, s3, hS3, hG3, hgl3, hgn3⟩ : ∃ gs3 hs3 s3, St B w3 T (ab gs3) (ab hs3) s3 ∧ Hid (Gs (gs3 ++ hs3)) ∧ Hid (gs3.length = m) ∧ Hid (gs3.length + hs3.length = m) := ⟨gs ++ hs.take st, [], true, (by simpa [ab, List.map_take] using hS3'), (by show Gs _; rw [List.append_nil]; intro g hg; rcases List.mem_append.1 hg with hg | hg; exact hG.out g (List.mem_append_left _ hg); exact hG.out g (List.mem_append_right _ (List.mem_of_mem_take hg))), (by show _ = _; rw [List.length_append, List.length_take]; have := hst'.out; omega), (by show _ = _; rw [List.length_append, List.length_take]; have := hst'.out; simp; omega)⟩))
        go_cut [4] (fun v4 wx => v4 = .int .i64 m ∧ wx = w3)
        case first =>
          go_wp2
          all_goals
            go_meet
            case rel => exact ⟨by congr 1; have := hm'.out; omega, rfl⟩
        case rest =>
          obtain ⟨rfl, hq⟩ := hcut
          rw [hq]
          clear hq kc hk hr0
          go_wp2_with (first
            | (go_at_call 11; refine (lasting_st _ _ w3 _ _ s3 m hS3 (by simpa using hgl3.out)).mono ?_; rintro e w6 ⟨rfl, rfl⟩)
            | (go_at_call 13; refine (lines_st _ _ w6 _ _ s3 m _ hS3 rfl (ab_len gs3 hs3 _ hgn3.out)).mono ?_; rintro e w7 ⟨a7, c7, rfl, _, hb7⟩; have hS7 := hS3.later hb7; have hb7w := onB hb3 hb7 hB3)
            | (go_at_call 10; refine (all_st _ _ w7 _ _ s3 m ((gs3 ++ hs3).map (oneR 5)) hS7 (ab_all gs3 hs3 _ hgn3.out) (ab_len gs3 hs3 _ hgn3.out).symm (okA gs3 hs3 hG3.out)).mono ?_; rintro e w8 ⟨a8, c8, l8, rfl, _, _, _, hb8⟩; have hS8 := hS7.later hb8; have hb8w := onB hb7w hb8 (Nat.le_trans hBw hb7w.size)))
          go_roundw
          case rel => exact ⟨m, m, i + 1, gs3, hs3, s3, rfl, rfl, by go_num, hS8, hG3, hgl3, hgn3, by omega, by omega, by omega, by omega, hb8w⟩
          case measure => simp [intOf]; omega
      · clear hr
        have kp := write5 B T wr (ab gs) (ab hs) s (1 + i) (1 + (i : Int)) (by omega) (by omega) (by omega) hS hBr (by have := hgl.out; have := hgn.out; simp [ab]; omega) hTr
        have e0 : ((r : Int) == 0) = false := by simp; omega
        have e1 : ((r : Int) == 1) = false := by simp; omega
        go_wp2_with (first
          | (go_at_call 8; refine (kw _).mono ?_; rintro e wq ⟨rfl, rfl⟩)
          | (go_at_call 7; refine kp.mono ?_
             rintro e w3 ⟨rfl, hS3', hb3'⟩
             have hb3 := hbw.trans hb3'
             have hB3 := Nat.le_trans hBw hb3.size
             obtain ⟨gs3, hs3, s3, hS3, hG3, hgl3, hgn3⟩ : ∃ gs3 hs3 s3, St B w3 T (ab gs3) (ab hs3) s3 ∧ Hid (Gs (gs3 ++ hs3)) ∧ Hid (gs3.length = l) ∧ Hid (gs3.length + hs3.length = n + 1) := ⟨gs, hs ++ [1 + i], s, (by simpa [ab] using hS3'), (by show Gs _; intro g hg; rw [← List.append_assoc] at hg; rcases List.mem_append.1 hg with hg | hg; exact hG.out g hg; simp at hg; omega), hgl, (by show _ = _; rw [List.length_append, ← Nat.add_assoc, hgn.out]; rfl)⟩)
          | (go_at_call 11; refine (lasting_st _ _ w3 _ _ s3 l hS3 (by simpa using hgl3.out)).mono ?_; rintro e w6 ⟨rfl, rfl⟩)
          | (go_at_call 13; refine (lines_st _ _ w6 _ _ s3 (n + 1) _ hS3 rfl (ab_len gs3 hs3 _ hgn3.out)).mono ?_; rintro e w7 ⟨a7, c7, rfl, _, hb7⟩; have hS7 := hS3.later hb7; have hb7w := onB hb3 hb7 hB3)
          | (go_at_call 10; refine (all_st _ _ w7 _ _ s3 (n + 1) ((gs3 ++ hs3).map (oneR 5)) hS7 (ab_all gs3 hs3 _ hgn3.out) (ab_len gs3 hs3 _ hgn3.out).symm (okA gs3 hs3 hG3.out)).mono ?_; rintro e w8 ⟨a8, c8, l8, rfl, _, _, _, hb8⟩; have hS8 := hS7.later hb8; have hb8w := onB hb7w hb8 (Nat.le_trans hBw hb7w.size)))
        go_roundw
        case rel => exact ⟨n + 1, l, i + 1, gs3, hs3, s3, by go_num, rfl, by go_num, hS8, hG3, hgl3, hgn3, by omega, by omega, by omega, by omega, hb8w⟩
        case measure => simp [intOf]; omega
    · clear hrow
      by_cases h1 : i < len0
      · have h60 : i = 60 := by omega
        subst h60
        have d1 : (60 : Int) < len0 := by omega
        go_wp2
        go_ret
        exact ⟨rfl, hbw⟩
      · have hl0 : i = len0 := by omega
        subst hl0
        go_wp2
        go_ret
        exact ⟨rfl, hbw⟩

end Go.Proofs.YtmldpihjndafaaaDoor
