/- The walk of TapeAgain. -/
import Derived.Test.YtmldpihjndafaaaDoorUL
namespace Go.Proofs.YtmldpihjndafaaaDoor
open Go.RowKit
set_option linter.unusedSimpArgs false
set_option linter.unusedVariables false

/-- The lines of commits. -/
abbrev co (l : List Nat) : List ByteArray := l.map fun g => bs (oneT 4 g)
/-- Gangs' numbers. -/
def Gc (l : List Nat) : Prop := ∀ g ∈ l, 1 ≤ g ∧ g ≤ 999999

theorem okC (gs hs : List Nat) (h : Gc (gs ++ hs)) : ∀ i r, ((gs ++ hs).map (oneR 4))[i]? = some r → ParseOK ((co gs ++ co hs).getD i ByteArray.empty) r := by
  intro i r hr
  rw [← List.map_append]
  rw [List.getElem?_map] at hr
  cases hi : (gs ++ hs)[i]? with
  | none => rw [hi] at hr; cases hr
  | some g =>
    rw [hi] at hr
    have hr' : oneR 4 g = r := by simpa using hr
    subst hr'
    have hm := h g (List.mem_of_getElem? hi)
    have : ((gs ++ hs).map fun g => bs (oneT 4 g)).getD i ByteArray.empty = bs (oneT 4 g) := by rw [List.getD_eq_getElem?_getD, List.getElem?_map, hi]; rfl
    rw [this]
    exact parseOK_four g hm.1 hm.2

theorem onC {B : Nat} {w w1 w2 : World} (h : Below B w w1) (h2 : Below w1.heap.size w1 w2) (hB : B ≤ w1.heap.size) : Below B w w2 := h.trans (h2.mono hB)
theorem co_len (gs hs : List Nat) (n : Nat) (h : gs.length + hs.length = n) : (co gs ++ co hs).length = n := by simp [co, h]
theorem co_all (gs hs : List Nat) (n : Nat) (h : gs.length + hs.length = n) : ((gs ++ hs).map (oneR 4)).length = n := by simp [h]

set_option maxRecDepth 100000 in
set_option maxHeartbeats 8000000 in
theorem tapeAgain_walk (a0 : Option Addr) (len0 cap0 : Nat) (z0 : List Int) (f s : Int) (w : World) (w0 : IsRow .i64 w a0 len0 cap0 z0) (hT : TabB w.heap.size w) :
    Calls Tryd.prog 3 #[.slice a0 len0 cap0, .int .i64 f, .int .i64 s] w fun e w' => e = .returned (.bool true) ∧ Below w.heap.size w w' := by
  have hrow := w0.has
  clear w0
  have hlen0 := hrow.1
  have kk := known9_any w hT
  obtain ⟨B, hB0⟩ : ∃ B, w.heap.size = B := ⟨_, rfl⟩
  rw [hB0] at hT kk ⊢
  have hBw : B ≤ w.heap.size := by omega
  have hB0' : Hid (w.heap.size = B) := hB0
  clear hB0
  obtain ⟨n, hn⟩ : ∃ n, min len0 15 = n := ⟨_, rfl⟩
  have hn' : Hid (n = min len0 15) := hn.symm
  have hn15 : n ≤ 15 := by omega
  have hnl : n ≤ len0 := by omega
  clear hn
  obtain ⟨k, hk⟩ : ∃ k : Nat, f % 20 = k := ⟨(f % 20).toNat, by omega⟩
  have hk20 : k < 20 := by omega
  obtain ⟨j, hj⟩ : ∃ j : Nat, s % 9 = j := ⟨(s % 9).toNat, by omega⟩
  have hj9 : j < 9 := by omega
  go_enter Tryd.func3, Tryd.ntmps3
  go_upto_region 6 with (first
    | (go_at_call 5; refine kk.mono ?_; rintro e w1 ⟨rfl, hb1⟩)
    | (go_at_call 6; refine (new_st B _ (Nat.le_trans hBw hb1.size)).mono ?_; rintro e w2 ⟨rfl, hS2, hb2⟩; have hb2w := onC hb1 hb2 (Nat.le_trans hBw hb1.size)))
  generalize w1.heap.size = T at *
  clear kk hb2
  go_cut [8] (fun s8 wx => s8 = .int .i64 n ∧ wx = w2)
  case first =>
    go_wp2
    all_goals
      go_meet
      case rel => exact ⟨by congr 1; have := hn'.out; omega, rfl⟩
  case rest =>
    obtain ⟨rfl, hq⟩ := hcut
    rw [hq]
    clear hq
    go_wp2
    go_loopw [9] (fun v9 wr => ∃ (i : Nat) (hs : List Nat), v9 = .int .i64 i ∧ St B wr T (co []) (co hs) false ∧ Hid (Gc ([] ++ hs)) ∧ Hid (hs.length = i) ∧ i ≤ n ∧ Below B w wr) (fun v9 _ => n - (intOf v9).toNat)
    case atStart => exact ⟨0, [], rfl, hS2, (by show Gc _; intro g hg; simp at hg), rfl, Nat.zero_le _, hb2w⟩
    case round =>
      obtain ⟨i, hs, rfl, hS, hG, hl, hin, hbw⟩ := hrel
      clear hS2 hb2w
      have hBr : B ≤ wr.heap.size := Nat.le_trans hBw hbw.size
      by_cases hlt : i < n
      · obtain ⟨x, z, rfl, hc⟩ := hrow.at hbw (by rw [hB0'.out]; exact Nat.le_refl _) i (by omega)
        obtain ⟨g, hg⟩ : ∃ g : Nat, z % 999999 = g := ⟨(z % 999999).toNat, by omega⟩
        have hg9 : g < 999999 := by omega
        have hTr : TabB B wr := hT.on hbw
        have kp := write4 B T wr (co []) (co hs) false (1 + g) (1 + (g : Int)) (by omega) (by omega) (by omega) hS hBr (by have := hl.out; simp [co]; omega) hTr
        go_wp2_with (first
          | (go_at_call 8; refine (within_any _ _ _ (by decide) (by decide) hg _).mono ?_; rintro e wq ⟨rfl, rfl⟩)
          | (go_at_call 7; refine kp.mono ?_
             rintro e w3 ⟨rfl, hS3', hb3'⟩
             have hb3 := hbw.trans hb3'))
        go_roundw
        case rel => exact ⟨i + 1, hs ++ [1 + g], by go_num, (by simpa [co] using hS3'), (by show Gc _; intro y hy; rw [List.nil_append] at hy; rcases List.mem_append.1 hy with hy | hy; exact hG.out y (by simpa using hy); simp at hy; omega), (by show _ = _; rw [List.length_append, hl.out]; rfl), hlt, hb3⟩
        case measure => simp [intOf]; omega
      · have hin' : i = n := by omega
        subst hin'
        obtain ⟨m, hm⟩ : ∃ m, min k i = m := ⟨_, rfl⟩
        have hm' : Hid (m = min k i) := hm.symm
        have hmi : m ≤ i := by omega
        have hsl : Hid (hs.length = i) := hl
        have kc := crash_st B T wr (co []) (co hs) false k m hS hBr (by have := hl.out; simp only [co, List.length_map]; omega) (by have := hl.out; simp only [co, List.length_map, List.length_nil]; omega) (by omega)
        clear hm
        go_upto_region 15 with (first
          | (go_at_call 8; refine (within_any _ _ _ (by decide) (by decide) (by first | exact hk | exact hj) _).mono ?_; rintro e wq ⟨rfl, hwq⟩; rw [hwq]; clear hwq)
          | (go_at_call 9; refine kc.mono ?_
             rintro e w3 ⟨rfl, hS3', hb3'⟩
             have hb3 := hbw.trans hb3'
             have hB3 := Nat.le_trans hBw hb3.size
             obtain ⟨gs3, hS3, hG3, hgl3⟩ : ∃ gs3, St B w3 T (co gs3) (co []) true ∧ Hid (Gc (gs3 ++ [])) ∧ Hid (gs3.length + ([] : List Nat).length = m) := ⟨hs.take m, (by simpa [co, List.map_take] using hS3'), (by show Gc _; rw [List.append_nil]; intro g hg; exact hG.out g (by simpa using List.mem_of_mem_take hg)), (by show _ = _; have := hsl.out; simp; omega)⟩
             clear kc)
          | (go_at_call 10; refine (all_st _ _ w3 _ _ true m ((gs3 ++ []).map (oneR 4)) hS3 (co_all gs3 [] _ hgl3.out) (co_len gs3 [] _ hgl3.out).symm (okC gs3 [] hG3.out)).mono ?_; rintro e w4 ⟨a4, c4, l4, rfl, _, _, _, hb4⟩; have hS4 := hS3.later hb4; have hb4w := onC hb3 hb4 hB3; have hB4 := Nat.le_trans hBw hb4w.size)
          | (go_at_call 9; refine (crash_st B T w4 (co gs3) (co []) true (-(j : Int)) 0 hS4 hB4 (by simp only [co, List.map_nil, List.length_nil]; omega) (by have := hgl3.out; simp only [List.length_nil] at this; simp only [co, List.length_map, List.map_nil, List.length_nil]; omega) (by omega)).mono ?_
             rintro e w5 ⟨rfl, hS5', hb5'⟩
             have hb5 := hb4w.trans hb5'
             have hB5 := Nat.le_trans hBw hb5.size
             have hS5 : St B w5 T (co gs3) (co []) true := by simpa [co] using hS5'))
        have hmm : min (k : Int) (i : Int) = (m : Int) := by have := hm'.out; omega
        clear hm' hk hj hrow hT hsl hl hG hS hbw
        go_wp2_with (first
          | (go_at_call 10; refine (all_st _ _ w5 _ _ true m ((gs3 ++ []).map (oneR 4)) hS5 (co_all gs3 [] _ hgl3.out) (co_len gs3 [] _ hgl3.out).symm (okC gs3 [] hG3.out)).mono ?_; rintro e w6 ⟨a6, c6, l6, rfl, _, _, _, hb6⟩; have hS6 := hS5.later hb6; have hb6w := onC hb5 hb6 hB5)
          | (go_at_call 11; refine (lasting_st _ _ w6 _ _ true m hS6 (by simpa using hgl3.out)).mono ?_; rintro e w7 ⟨rfl, rfl⟩))
        go_ret
        exact ⟨rfl, hb6w⟩

end Go.Proofs.YtmldpihjndafaaaDoor
