/- The contracts of places, node of package line's writer. -/
import Derived.Test.YtmldpihjndafaabDoorUM
namespace Go.Proofs.YtmldpihjndafaabDoor
open Go.RowKit
set_option linter.unusedSimpArgs false
set_option linter.unusedVariables false

/-- A place that is not too much. -/
def FewP (p : PlaceB) : Prop := p.pod.size ≤ 10000 ∧ p.node.size ≤ 10000 ∧ p.cpu ≤ 9223372036854775807 ∧ p.mem ≤ 9223372036854775807

theorem vecT_len (c m : Nat) (hc : c ≤ 9223372036854775807) (hm : m ≤ 9223372036854775807) : (vecT c m).length ≤ 44 := by
  have h1 := numT_len 58 c hc
  have h2 := numT_len 44 m hm
  simp only [vecT, List.length_append]
  omega
theorem flagT_len (y : Bool) : (flagT y).length ≤ 1 := by cases y <;> simp [flagT]

theorem placeT_len (p : PlaceB) (h : FewP p) : (placeT p).length ≤ 20050 := by
  have h1 := vecT_len p.cpu p.mem h.2.2.1 h.2.2.2
  have h2 := flagT_len p.alone
  have h3 := h.1
  have h4 := h.2.1
  simp only [placeT, List.length_append, wordT_len]
  omega

theorem Box.cells5' {w : World} {B : Nat} {t : TypeId} {x0 x1 x2 x3 x4 : Value} (h : Box w B #[x0, x1, x2, x3, x4] t) : w.cell? ⟨B, 0, none⟩ = some x0 ∧ w.cell? ⟨B, 1, none⟩ = some x1 ∧ w.cell? ⟨B, 2, none⟩ = some x2 ∧ w.cell? ⟨B, 3, none⟩ = some x3 ∧ w.cell? ⟨B, 4, none⟩ = some x4 := ⟨h.cell rfl, h.cell rfl, h.cell rfl, h.cell rfl, h.cell rfl⟩

set_option maxRecDepth 100000 in
set_option maxHeartbeats 4000000 in
theorem places_l (B b : Nat) (l : List UInt8) (a : Option Addr) (n cp : Nat) (qs : List PlaceB) (w : World) (h : AtW B b (Lib.byteCells l) w) (hS : Pls w a qs) (hn : qs.length = n) (hn1 : n ≤ 1000) (hlo : Low B a) (hz : ∀ p ∈ qs, FewP p) (hlen : l.length ≤ 100000000) (hBw : B ≤ w.heap.size) (hT : TabB B w) :
    Calls Tryd.prog 49 #[.pointer (some ⟨b, 0, none⟩), .slice a n cp] w fun e w' => e = .returned (.tuple #[]) ∧ AtW B b (Lib.byteCells (l ++ placesT qs)) w' ∧ Below B w w' ∧ Soft b w w' := by
  subst hn
  go_enter Tryd.func49, Tryd.ntmps49
  go_wp2
  go_loopw [8] (fun i wr => ∃ k : Nat, k ≤ qs.length ∧ i = .int .i64 k ∧ AtW B b (Lib.byteCells (l ++ placesT (qs.take k))) wr ∧ Below B w wr ∧ Soft b w wr) (fun i _ => qs.length - (intOf i).toNat)
  case atStart => exact ⟨0, Nat.zero_le _, rfl, (by simpa [placesT] using h), Below.refl _ _, Soft.refl _ _⟩
  case round =>
    obtain ⟨k, hk, rfl, hA, hb, hf⟩ := hrel
    by_cases hlt : k < qs.length
    · have hget : qs[k]? = some qs[k] := List.getElem?_eq_getElem hlt
      obtain ⟨p, hp⟩ : ∃ p, qs[k] = p := ⟨_, rfl⟩
      rw [hp] at hget
      obtain ⟨g, o, rfl, hc0, hc1, hc2, hc3, hc4⟩ := (hS.on hlo hb) k p hget
      have hst : Hid (placesT (qs.take (k + 1)) = placesT (qs.take k) ++ placeT p) := flat_take _ _ _ _ hget
      have hfp := hz p (List.mem_of_getElem? hget)
      have hL : (l ++ placesT (qs.take k)).length ≤ 200000000 := by
        have h1 := flat_len placeT (qs.take k) 20050 (fun y hy => placeT_len y (hz y (List.mem_of_mem_take hy)))
        have h2 : (qs.take k).length ≤ 1000 := by rw [List.length_take]; omega
        rw [List.length_append]
        show l.length + ((qs.take k).flatMap placeT).length ≤ _
        omega
      obtain ⟨pod, node, cpu, mem, al⟩ := p
      obtain ⟨f1, f2, f3, f4⟩ := hfp
      simp only at f1 f2 f3 f4 hc0 hc1 hc2 hc3 hc4
      obtain ⟨lk, hlk⟩ : ∃ lk, l ++ placesT (qs.take k) = lk := ⟨_, rfl⟩
      rw [hlk] at hA hL
      have hBr := Nat.le_trans hBw hb.size
      have hTr := hT.on hb
      have q := Box.new wr #[.string pod, .string node, .int .i64 cpu, .int .i64 mem, .bool al] 56 rfl
      have hA1 := InW.later hA (up (Below.refl wr.heap.size wr) (.cells #[.string pod, .string node, .int .i64 cpu, .int .i64 mem, .bool al] 56))
      have hb1 : Below B wr (wr.alloc (.cells #[.string pod, .string node, .int .i64 cpu, .int .i64 mem, .bool al] 56)) := (up (Below.refl _ _) _).mono hBr
      have hf1 : Soft b wr (wr.alloc (.cells #[.string pod, .string node, .int .i64 cpu, .int .i64 mem, .bool al] 56)) := Soft.of_below (up (Below.refl _ _) _)
      have hTa := hTr.on hb1
      have hqb : wr.heap.size ≠ b := by have := hA.lt; omega
      have v1 := vecT_len cpu mem f3 f4
      have hst' : Hid (l ++ placesT (qs.take (k + 1)) = (((lk ++ wordT 32 pod) ++ wordT 62 node) ++ vecT cpu mem) ++ flagT al) := by
        show _ = _
        rw [hst.out, ← hlk]
        simp [placeT, List.append_assoc]
      have w1l := wordT_len 32 pod
      have w2l := wordT_len 62 node
      clear hget hp hS hz hst hlk hA hT
      go_upto_region 3 with fail
      generalize wr.alloc (.cells #[.string pod, .string node, .int .i64 cpu, .int .i64 mem, .bool al] 56) = W at *
      have hBW := Nat.le_trans hBr hb1.size
      obtain ⟨x0, x1, x2, x3, x4⟩ := q.cells5'
      have k1 := word_l B b lk 32 32 pod W (by decide) (by decide) hA1 (by omega) hBW
      clear hc0 hc1 hc2 hc3 hc4
      go_upto_region 4 with (go_at_call 46; refine k1.mono ?_; rintro e w2 ⟨rfl, hA2, hb2, hf2⟩)
      have q2 := hf2.box q (by decide) hqb
      have hB2 := Nat.le_trans hBW hb2.size
      clear x0 x1 x2 x3 x4 k1
      obtain ⟨x0, x1, x2, x3, x4⟩ := q2.cells5'
      have k2 := word_l B b (lk ++ wordT 32 pod) 62 62 node w2 (by decide) (by decide) hA2 (by rw [List.length_append]; omega) hB2
      go_upto_region 5 with (go_at_call 46; refine k2.mono ?_; rintro e w3 ⟨rfl, hA3, hb3, hf3⟩)
      have q3 := hf3.box q2 (by decide) hqb
      have hB3 := Nat.le_trans hB2 hb3.size
      clear x0 x1 x2 x3 x4 k2
      obtain ⟨x0, x1, x2, x3, x4⟩ := q3.cells5'
      have k3 := vec_l B b (lk ++ wordT 32 pod ++ wordT 62 node) cpu mem w3 f3 f4 hA3 (by rw [List.length_append, List.length_append]; omega) hB3 ((hTa.on hb2).on hb3)
      go_upto_region 6 with (go_at_call 64; refine k3.mono ?_; rintro e w4 ⟨rfl, hA4, hb4, hf4⟩)
      have q4 := hf4.box q3 (by decide) hqb
      have hB4 := Nat.le_trans hB3 hb4.size
      clear x0 x1 x2 x3 x4 k3
      obtain ⟨x0, x1, x2, x3, x4⟩ := q4.cells5'
      have k4 := flag_l B b (lk ++ wordT 32 pod ++ wordT 62 node ++ vecT cpu mem) al w4 hA4 (by rw [List.length_append, List.length_append, List.length_append]; omega) hB4
      go_wp2_with (go_at_call 66; refine k4.mono ?_; rintro e w5 ⟨rfl, hA5, hb5, hf5⟩)
      go_roundw
      case rel => exact ⟨k + 1, hlt, by go_num, (by rw [hst'.out]; exact hA5), ((((hb.trans hb1).trans hb2).trans hb3).trans hb4).trans hb5, ((((hf.trans hf1).trans hf2).trans hf3).trans hf4).trans hf5⟩
      case measure => simp [intOf]; omega
    · have e1 : k = qs.length := by omega
      rw [e1, List.take_length] at hA
      subst e1
      clear hS hz
      go_wp2
      go_end0
      exact ⟨rfl, hA, hb, hf⟩

set_option maxRecDepth 100000 in
set_option maxHeartbeats 4000000 in
theorem node_l (B b : Nat) (l : List UInt8) (nm : ByteArray) (cpu mem : Nat) (a1 a2 : Option Addr) (n1 c1 n2 c2 : Nat) (xs ys : List ByteArray) (cl : Bool) (w : World) (h : AtW B b (Lib.byteCells l) w) (h1 : Strs w a1 xs) (h2 : Strs w a2 ys) (e1 : xs.length = n1) (e2 : ys.length = n2) (l1 : Low B a1) (l2 : Low B a2)
    (z1 : ∀ s ∈ xs, s.size ≤ 10000) (z2 : ∀ s ∈ ys, s.size ≤ 10000) (zn : nm.size ≤ 10000) (zc : cpu ≤ 9223372036854775807) (zm : mem ≤ 9223372036854775807) (hlen : l.length ≤ 10000) (hBw : B ≤ w.heap.size) (hT : TabB B w) :
    Calls Tryd.prog 45 #[.pointer (some ⟨b, 0, none⟩), .agg #[.string nm, .int .i64 cpu, .int .i64 mem, .slice a1 n1 c1, .slice a2 n2 c2, .bool cl]] w fun e w' => e = .returned (.tuple #[]) ∧ AtW B b (Lib.byteCells (l ++ nodeT ⟨nm, cpu, mem, xs, ys, cl⟩)) w' ∧ Below B w w' ∧ Soft b w w' := by
  have q := Box.new w #[.string nm, .int .i64 cpu, .int .i64 mem, .slice a1 n1 c1, .slice a2 n2 c2, .bool cl] 33 rfl
  have hb1 : Below B w (w.alloc (.cells #[.string nm, .int .i64 cpu, .int .i64 mem, .slice a1 n1 c1, .slice a2 n2 c2, .bool cl] 33)) := (up (Below.refl _ _) _).mono hBw
  have hf1 : Soft b w (w.alloc (.cells #[.string nm, .int .i64 cpu, .int .i64 mem, .slice a1 n1 c1, .slice a2 n2 c2, .bool cl] 33)) := Soft.of_below (up (Below.refl _ _) _)
  have hA1 := InW.later h (up (Below.refl w.heap.size w) (.cells #[.string nm, .int .i64 cpu, .int .i64 mem, .slice a1 n1 c1, .slice a2 n2 c2, .bool cl] 33))
  have hqb : w.heap.size ≠ b := by have := h.lt; omega
  have hTa := hT.on hb1
  have v1 := vecT_len cpu mem zc zm
  have w1l := wordT_len 32 nm
  have hx1 := h1.1
  have hx2 := h2.1
  have m1 : (namesT 43 xs).length ≤ xs.length * 10001 := flat_len (wordT 43) xs 10001 (fun y hy => by rw [wordT_len]; have := z1 y hy; omega)
  have m2 : (namesT 126 ys).length ≤ ys.length * 10001 := flat_len (wordT 126) ys 10001 (fun y hy => by rw [wordT_len]; have := z2 y hy; omega)
  have s1 := h1.on l1 hb1
  have s2 := h2.on l2 hb1
  have e1' : Hid (xs.length = n1) := e1
  have e2' : Hid (ys.length = n2) := e2
  have hst : Hid (l ++ nodeT ⟨nm, cpu, mem, xs, ys, cl⟩ = l ++ wordT 32 nm ++ vecT cpu mem ++ namesT 43 xs ++ namesT 126 ys ++ flagT cl) := by
    show _ = _
    simp [nodeT, List.append_assoc]
  rw [hst.out]
  clear e1 e2 h hT
  go_enter Tryd.func45, Tryd.ntmps45
  go_upto_region 1 with fail
  generalize w.alloc (.cells #[.string nm, .int .i64 cpu, .int .i64 mem, .slice a1 n1 c1, .slice a2 n2 c2, .bool cl] 33) = W at *
  have hBW := Nat.le_trans hBw hb1.size
  obtain ⟨x0, x1, x2, x3, x4, x5⟩ := q.cells6
  have k1 := word_l B b l 32 32 nm W (by decide) (by decide) hA1 (by omega) hBW
  go_upto_region 2 with (go_at_call 46; refine k1.mono ?_; rintro e w2 ⟨rfl, hA2, hb2, hf2⟩)
  have q2 := hf2.box q (by decide) hqb
  have hB2 := Nat.le_trans hBW hb2.size
  clear x0 x1 x2 x3 x4 x5 k1
  obtain ⟨x0, x1, x2, x3, x4, x5⟩ := q2.cells6
  have k2 := vec_l B b (l ++ wordT 32 nm) cpu mem w2 zc zm hA2 (by rw [List.length_append]; omega) hB2 (hTa.on hb2)
  go_upto_region 3 with (go_at_call 64; refine k2.mono ?_; rintro e w3 ⟨rfl, hA3, hb3, hf3⟩)
  have q3 := hf3.box q2 (by decide) hqb
  have hB3 := Nat.le_trans hB2 hb3.size
  clear x0 x1 x2 x3 x4 x5 k2
  obtain ⟨x0, x1, x2, x3, x4, x5⟩ := q3.cells6
  have k3 := words_l B b (l ++ wordT 32 nm ++ vecT cpu mem) 43 a1 n1 c1 xs w3 (by decide) hA3 ((s1.on l1 hb2).on l1 hb3) e1'.out l1 z1 (by rw [List.length_append, List.length_append]; omega) hB3
  go_upto_region 4 with (go_at_call 65; refine k3.mono ?_; rintro e w4 ⟨rfl, hA4, hb4, hf4⟩)
  have q4 := hf4.box q3 (by decide) hqb
  have hB4 := Nat.le_trans hB3 hb4.size
  clear x0 x1 x2 x3 x4 x5 k3
  obtain ⟨x0, x1, x2, x3, x4, x5⟩ := q4.cells6
  have k4 := words_l B b (l ++ wordT 32 nm ++ vecT cpu mem ++ namesT 43 xs) 126 a2 n2 c2 ys w4 (by decide) hA4 (((s2.on l2 hb2).on l2 hb3).on l2 hb4) e2'.out l2 z2 (by rw [List.length_append, List.length_append, List.length_append]; omega) hB4
  go_upto_region 5 with (go_at_call 65; refine k4.mono ?_; rintro e w5 ⟨rfl, hA5, hb5, hf5⟩)
  have q5 := hf5.box q4 (by decide) hqb
  have hB5 := Nat.le_trans hB4 hb5.size
  clear x0 x1 x2 x3 x4 x5 k4
  obtain ⟨x0, x1, x2, x3, x4, x5⟩ := q5.cells6
  have k5 := flag_l B b (l ++ wordT 32 nm ++ vecT cpu mem ++ namesT 43 xs ++ namesT 126 ys) cl w5 hA5 (by rw [List.length_append, List.length_append, List.length_append, List.length_append]; omega) hB5
  go_wp2_with (go_at_call 66; refine k5.mono ?_; rintro e w6 ⟨rfl, hA6, hb6, hf6⟩)
  go_end0
  exact ⟨rfl, hA6, ((((hb1.trans hb2).trans hb3).trans hb4).trans hb5).trans hb6, ((((hf1.trans hf2).trans hf3).trans hf4).trans hf5).trans hf6⟩

end Go.Proofs.YtmldpihjndafaabDoor
