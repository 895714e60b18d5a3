/- The walk of TapeFront. -/
import Derived.Test.YtmldpihjndafaabDoorVA
import Derived.Test.YtmldpihjndafaabDoorVB
namespace Go.Proofs.YtmldpihjndafaabDoor
open Go.RowKit
set_option linter.unusedSimpArgs false
set_option linter.unusedVariables false

/-- A row of bools that came in. -/
def HasB (w : World) (a : Option Addr) (len : Nat) (f : Nat → Bool) : Prop := len ≤ 9223372036854775807 ∧ ∀ i, i < len → ∃ x, a = some x ∧ w.cell? (x.add i) = some (.bool (f i))
theorem HasB.at {B : Nat} {w w1 : World} {a : Option Addr} {len : Nat} {f : Nat → Bool} (h : HasB w a len f) (hb : Below B w w1) (hB : w.heap.size ≤ B) (i : Nat) (hi : i < len) : ∃ x, a = some x ∧ w1.cell? (x.add i) = some (.bool (f i)) := by
  obtain ⟨x, hx, hc⟩ := h.2 i hi
  exact ⟨x, hx, cell_below hb hc (Nat.lt_of_lt_of_le (block_lt hc) hB)⟩

theorem HasRow.on {B : Nat} {w w1 : World} {a : Option Addr} {len : Nat} {zs : List Int} (h : HasRow w a len zs) (hB : w.heap.size ≤ B) (hb : Below B w w1) : HasRow w1 a len zs :=
  ⟨h.1, fun i hi => by
    obtain ⟨x, hx, hc⟩ := h.2 i hi
    exact ⟨x, hx, cell_below hb hc (Nat.lt_of_lt_of_le (block_lt hc) hB)⟩⟩
theorem strs_of_own {w : World} {base n c : Nat} {a : Option Addr} {ss : List ByteArray} (h : w.ownsRow base 9 1 (.slice a n c) n (ss.map Value.string)) (hl : ss.length ≤ 1000) : Strs w a ss ∧ (∀ x, a = some x → base ≤ x.block) ∧ n ≤ c ∧ (a = none ∧ n = 0 ∧ c = 0 ∨ ∃ g, a = some ⟨g, 0, none⟩) := by
  obtain ⟨a', c', hv, hN⟩ := newStrs_of_own h hl
  have hn : ss.length = n := by have := h.1; simpa using this
  injection hv with e1 e2 e3
  subst e1 e3
  have h4 := hN.2.2.2
  refine ⟨hN.1, fun x hx => (hN.2.1 x hx).1, by omega, ?_⟩
  rcases h.2 with ⟨h0, h1⟩ | ⟨g, cap, cur, h0, _⟩
  · injection h0 with e1 e2 e3
    exact .inl ⟨e1, h1, e3⟩
  · injection h0 with e1 e2 e3
    exact .inr ⟨g, e1⟩

theorem onB' {B : Nat} {w w1 w2 : World} (h : Below B w w1) (h2 : Below w1.heap.size w1 w2) (hB : B ≤ w1.heap.size) : Below B w w2 := h.trans (h2.mono hB)

theorem strs_take {w : World} {a : Option Addr} {ss : List ByteArray} (h : Strs w a ss) (n : Nat) : Strs w a (ss.take n) :=
  ⟨Nat.le_trans (List.length_take_le' _ _) h.1, fun i hi => by
    rw [List.length_take] at hi
    obtain ⟨x, hx, hc⟩ := h.2 i (by omega)
    refine ⟨x, hx, ?_⟩
    rw [hc]
    simp only [List.getD, List.getElem?_take]
    rw [if_pos (by omega)]⟩

theorem front_take (A L : List ByteArray) (k : Nat) : (A ++ L).take (A.length + k) = A ++ L.take k := by
  rw [List.take_append, List.take_of_length_le (by omega)]
  congr 2
  omega

theorem own_lt {w : World} {base n : Nat} {t : TypeId} {z : Nat} {v : Value} {xs : List Value} (h : w.ownsRow base t z v n xs) : ∀ g, v.ownBlock = some g → g < w.heap.size := by
  intro g hg
  rcases h.2 with ⟨rfl, _⟩ | ⟨g', cap, cur, rfl, _, hh, _⟩
  · cases hg
  · have : g' = g := by simpa [Value.ownBlock] using hg
    subst this
    exact (Array.getElem?_eq_some_iff.1 hh).1

theorem crash_keep (B T : Nat) (w0 w : World) (A L : List ByteArray) (s : Bool) (n : Int) (k : Nat) (a : Option Addr) (ss : List ByteArray) (h : St B w0 T A L s) (hb : Below w0.heap.size w0 w) (hB : B ≤ w0.heap.size) (hk : (k : Int) = min (max n 0) L.length) (hl : A.length + L.length < 999990) (hn : -9223372036854775808 ≤ n ∧ n ≤ 9223372036854775807) (hs : Strs w a ss) (ha : ∀ x, a = some x → w0.heap.size ≤ x.block) :
    Calls Tryd.prog 11 #[.pointer (some ⟨T, 0, none⟩), .int .i64 n] w fun e w' => e = .returned (.tuple #[]) ∧ St B w' T (A ++ L.take k) [] true ∧ Below B w w' ∧ Strs w' a ss := by
  obtain ⟨v, h1, h2, h3, h4⟩ := h
  have t0 := Box.lt h1.box
  have t1 := own_lt h1.row
  refine (crash_any w T v A L s n k (h1.later hb) h4 hk (by omega) hn).mono ?_
  rintro e w' ⟨he, v', h5, h6, h7⟩
  have := St.put (Nat.le_trans hB hb.size) h2 h3 h5 h6 h7 (fun e => by cases e)
  refine ⟨he, this.1, this.2, hs.1, fun i hi => ?_⟩
  obtain ⟨x, hx, hc⟩ := hs.2 i hi
  have hx1 := ha x hx
  have hbl : (x.add i).block = x.block := by unfold Addr.add; split <;> rfl
  have hlt := block_lt hc
  have e1 := h6.block (x.add i).block hlt (by rw [hbl]; omega) (fun e => by have := t1 _ e; rw [hbl] at this; omega)
  refine ⟨x, hx, ?_⟩
  unfold World.cell? at hc ⊢
  rw [e1]
  exact hc

set_option maxRecDepth 100000 in
set_option maxHeartbeats 8000000 in
theorem tapeFront_walk (a0 : Option Addr) (len0 cap0 : Nat) (z0 : List Int) (a1 : Option Addr) (len1 cap1 : Nat) (f1 : Nat → Bool) (keep : Int) (w : World) (w0 : IsRow .i64 w a0 len0 cap0 z0) (w1 : HasB w a1 len1 f1) (hT : TabB w.heap.size w) :
    Calls Tryd.prog 3 #[.slice a0 len0 cap0, .slice a1 len1 cap1, .int .i64 keep] w fun e w' => e = .returned (.bool true) ∧ Below w.heap.size w w' := by
  have hrow := w0.has
  clear w0
  have hlen0 := hrow.1
  have hrow1 := w1
  clear w1
  have hlen1 := hrow1.1
  have kk := known9_any w hT
  obtain ⟨B, hB0⟩ : ∃ B, w.heap.size = B := ⟨_, rfl⟩
  rw [hB0] at hT kk ⊢
  have hBw : B ≤ w.heap.size := by omega
  have hB0' : Hid (w.heap.size = B) := hB0
  clear hB0
  go_enter Tryd.func3, Tryd.ntmps3
  go_wp2_with (first
    | (go_at_call 4; refine kk.mono ?_; rintro e w1 ⟨rfl, hb1⟩)
    | (go_at_call 5; refine (new_st B _ (Nat.le_trans hBw hb1.size)).mono ?_; rintro e w2 ⟨rfl, hS2, hb2⟩; have hb2w := onB' hb1 hb2 (Nat.le_trans hBw hb1.size)))
  generalize w1.heap.size = T at *
  clear kk hb2
  go_loopw [8] (fun v8 wr => ∃ (i : Nat) (A L : List ByteArray) (s : Bool), v8 = .int .i64 i ∧ St B wr T A L s ∧ Hid (A.length + L.length = i) ∧ i ≤ len0 ∧ i ≤ 30 ∧ Below B w wr) (fun v8 _ => 30 - (intOf v8).toNat)
  case atStart => exact ⟨0, [], [], false, rfl, hS2, rfl, Nat.zero_le _, Nat.zero_le _, hb2w⟩
  case round =>
    obtain ⟨i, A, L, s, rfl, hS, hAL, hi0, hi30, hbw⟩ := hrel
    clear hS2 hb2w
    have hBr : B ≤ wr.heap.size := Nat.le_trans hBw hbw.size
    by_cases hlt : i < len0 ∧ i < 30
    · obtain ⟨hi1, hi2⟩ := hlt
      obtain ⟨x, z, hx, hc⟩ := hrow.at hbw (by rw [hB0'.out]; exact Nat.le_refl _) i hi1
      subst hx
      have hTr : TabB B wr := hT.on hbw
      have kM := fun nm W (hb : Below wr.heap.size wr W) => (made z i nm (some x) len0 cap0 z0 W (HasRow.on hrow (by rw [hB0'.out]; exact Nat.le_refl B) (onB' hbw hb hBr)) ((hTr.later hb hBr).up (Nat.le_trans hBr hb.size))).mono fun e W' h => (by
        obtain ⟨v, t, he, hC, hb3⟩ := h
        exact (⟨v, t, he, hC, hS.later (fin hb3 hb), onB' hbw (fin hb3 hb) hBr⟩ : ∃ v t, e = .returned v ∧ CanWrite W.heap.size W' v t ∧ St B W' T A L s ∧ Below B w W'))
      go_upto_region 9 with fail
      go_cut [] (fun wx => ∃ L3, St B wx T A L3 s ∧ Hid (A.length + L3.length = i + 1) ∧ Below B w wx)
      case first =>
        go_region_with (first
          | (go_at_call 7; refine (kM _ _ (by repeat (first | exact Below.refl _ _ | apply Below.drew))).mono ?_; rintro e w3 ⟨v, t, rfl, hC, hS3, hb3⟩)
          | (go_at_call 6; refine (write_made B _ T _ A L s v t (by first | exact hS3 | exact hS3.drew) (Nat.le_trans hBw (show w.heap.size ≤ w3.heap.size from hb3.size)) (by have := hAL.out; omega) (by first | exact hC | exact hC.later (Below.refl _ _).drew)).mono ?_; rintro e w4 ⟨rfl, hS4, hb4⟩))
        all_goals
          go_wp2
          go_meet
          case rel => exact ⟨L ++ [t], hS4, (by show _ = _; rw [List.length_append, ← Nat.add_assoc, hAL.out]; rfl), hb3.trans hb4⟩
      case rest =>
        obtain ⟨L3, hS3, hAL3, hb3⟩ := hcut
        clear kM hS hc
        have hB3 : B ≤ wc.heap.size := Nat.le_trans hBw hb3.size
        have ks := sync_st B T wc A L3 s hS3 hB3 (by have := hAL3.out; omega)
        by_cases hl1 : i < len1
        · obtain ⟨y, hy, hcy⟩ := hrow1.at hb3 (by rw [hB0'.out]; exact Nat.le_refl _) i hl1
          subst hy
          obtain ⟨b, hb⟩ : ∃ b, f1 i = b := ⟨_, rfl⟩
          rw [hb] at hcy
          clear hb
          cases b
          · go_wp2
            go_roundw
            case rel => exact ⟨i + 1, A, L3, s, by go_num, hS3, hAL3, by omega, by omega, hb3⟩
            case measure => simp [intOf]; omega
          · go_wp2_with (go_at_call 8; refine ks.mono ?_; rintro e w5 ⟨rfl, hS5, hb5⟩)
            go_roundw
            case rel => exact ⟨i + 1, A ++ L3, [], true, by go_num, hS5, (by show _ = _; rw [List.length_append]; exact hAL3.out), by omega, by omega, hb3.trans hb5⟩
            case measure => simp [intOf]; omega
        · go_wp2
          go_roundw
          case rel => exact ⟨i + 1, A, L3, s, by go_num, hS3, hAL3, by omega, by omega, hb3⟩
          case measure => simp [intOf]; omega
    · have hcase : (i < len0 ∧ i = 30) ∨ ¬ i < len0 := by omega
      have hlen : (A ++ L).length = i := by rw [List.length_append]; exact hAL.out
      obtain ⟨l, hl⟩ : ∃ l, A.length = l := ⟨_, rfl⟩
      have hl' : Hid (A.length = l) := hl
      obtain ⟨kz, hkz⟩ : ∃ kz, keep % 40 = kz := ⟨_, rfl⟩
      have kw := fun W => within_any keep 40 kz (by decide) (by decide) hkz W
      have hz0 : 0 ≤ kz ∧ kz < 40 := by omega
      obtain ⟨k, hk⟩ : ∃ k : Nat, (k : Int) = min (max (kz - 5) 0) (L.length : Int) := ⟨(min (max (kz - 5) 0) (L.length : Int)).toNat, by omega⟩
      have hk' : Hid ((k : Int) = min (max (kz - 5) 0) (L.length : Int)) := hk
      have hkL : k ≤ L.length := by omega
      obtain ⟨m, hm⟩ : ∃ m, l + k = m := ⟨_, rfl⟩
      have hAk : (A ++ L.take k).length = m := by rw [List.length_append, List.length_take]; omega
      have htk : (A ++ L).take m = A ++ L.take k := by rw [← hm, ← hl]; exact front_take A L k
      have hlm : l ≤ m := by omega
      have hmi : m ≤ i := by have := hAL.out; omega
      have hlen' : Hid ((A ++ L).length = i) := hlen
      have hAk' : Hid ((A ++ L.take k).length = m) := hAk
      have htk' : Hid ((A ++ L).take m = A ++ L.take k) := htk
      have hm' : Hid (l + k = m) := hm
      have hkL' : Hid (k ≤ L.length) := hkL
      clear hrow hrow1 hkz hk hm hAk htk hlen hl hkL
      rcases hcase with ⟨h1, h30⟩ | h1
      all_goals
        try have d1 : (i : Int) < len0 := by omega
        try have d1 : ¬ (i : Int) < len0 := by omega
        try have d2 : ¬ (i : Int) < 30 := by omega
        clear hlt
        try clear h30
        go_upto_region 13 with (first
          | (go_at_call 9; refine (lines_st B T _ A L s i (A ++ L) hS rfl hlen'.out).mono ?_; rintro e w2 ⟨a7, c7, rfl, ho7, hb7⟩; have hS7 := hS.later hb7; have hb7w := onB' hbw hb7 hBr)
          | (go_at_call 10; refine (lasting_st B T _ A L s l hS7 hl'.out).mono ?_; rintro e w6 ⟨rfl, rfl⟩))
        obtain ⟨hs7, hbase, hic, hnil⟩ := strs_of_own ho7 (by rw [hlen'.out]; omega)
        have hs7' := strs_take hs7 m
        rw [htk'.out] at hs7'
        have kc := crash_keep B T wr _ A L s (kz - 5) k a7 _ hS hb7 hBr hk'.out (by have := hAL.out; omega) (by omega) hs7' hbase
        have hBk := Nat.le_trans hBw hb7w.size
        clear ho7 hs7 hS hs7' hS7
        go_upto_region 14 with (first
          | (go_at_call 12; refine (kw _).mono ?_; rintro e wq ⟨rfl, rfl⟩)
          | (go_at_call 11; refine kc.mono ?_; rintro e w8 ⟨rfl, hS8, hb8, hs8⟩))
        have hb8w := hb7w.trans hb8
        have hB8 : B ≤ w8.heap.size := Nat.le_trans hBw hb8w.size
        clear kc kw hb8 hb7 hb7w
        go_upto_region 15 with (first
          | (go_at_call 9; refine (lines_st B T _ (A ++ L.take k) [] true m (A ++ L.take k) hS8 (List.append_nil _) hAk'.out).mono ?_; rintro e w9 ⟨a9, c9, rfl, ho9, hb9⟩; have hS9 := hS8.later hb9; have hb9w := onB' hb8w hb9 hB8))
        have hs9 := (strs_of_own ho9 (by rw [hAk'.out]; omega)).1
        have hs9' := hs8.later hb9
        have ksm := fun c d W (h : Below w9.heap.size w9 W) => rSame_strs a9 a7 m c d (A ++ L.take k) W hAk'.out (hs9.later h) (hs9'.later h)
        have klt := fun W (h : Below w9.heap.size w9 W) => lasting_st B T W (A ++ L.take k) [] true m (hS9.later h) hAk'.out
        have hB9 : B ≤ w9.heap.size := Nat.le_trans hBw hb9w.size
        clear hs9 hs9' hs8 hS8 hS9 ho9 hb9 hb8w
        have hmc : m ≤ c7 := by omega
        rcases hnil with ⟨rfl, hi00, hc00⟩ | ⟨g, rfl⟩
        · obtain rfl : m = 0 := by omega
          obtain rfl : l = 0 := by omega
          subst hi00 hc00
          go_wp2_with (first
            | (go_at_call 13; refine (ksm _ _ _ (by repeat (first | exact Below.refl _ _ | apply Below.drew))).mono ?_; rintro e w10 ⟨rfl, hb10⟩)
            | (go_at_call 10; refine (klt _ hb10).mono ?_; rintro e w11 ⟨rfl, rfl⟩))
          go_ret
          exact ⟨rfl, onB' hb9w hb10 hB9⟩
        · go_wp2_with (first
            | (go_at_call 13; refine (ksm _ _ _ (by repeat (first | exact Below.refl _ _ | apply Below.drew))).mono ?_; rintro e w10 ⟨rfl, hb10⟩)
            | (go_at_call 10; refine (klt _ hb10).mono ?_; rintro e w11 ⟨rfl, rfl⟩))
          go_ret
          exact ⟨rfl, onB' hb9w hb10 hB9⟩

end Go.Proofs.YtmldpihjndafaabDoor
