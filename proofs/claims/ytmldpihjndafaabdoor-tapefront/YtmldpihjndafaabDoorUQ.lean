/- Check of package line, where a record may be: twice, checkPlaces, checkGang, Check of kinds 1, 2, 3, 7. -/
import Derived.Test.YtmldpihjndafaabDoorUO
namespace Go.Proofs.YtmldpihjndafaabDoor
open Go.RowKit
set_option linter.unusedSimpArgs false
set_option linter.unusedVariables false

theorem Nats.later {w w' : World} {a : Option Addr} {ps : List Nat} (h : Nats w a ps) (hb : Below w.heap.size w w') : Nats w' a ps := fun i hi => by
  obtain ⟨x, hx, hc⟩ := h i hi
  exact ⟨x, hx, cell_below hb hc (block_lt hc)⟩

theorem bytes_list_ne {a b : ByteArray} (h : a ≠ b) : (a.toList == b.toList) = false := bytes_ne h

/-- No two places of one pod. -/
def Apart (qs : List PlaceB) : Prop := ∀ (i j : Nat) (p q : PlaceB), j < i → qs[i]? = some p → qs[j]? = some q → p.pod ≠ q.pod

set_option maxRecDepth 100000 in
set_option maxHeartbeats 4000000 in
theorem twice_ok (a : Option Addr) (n cp : Nat) (qs : List PlaceB) (w : World) (h : Pls w a qs) (hn : qs.length = n) (hn1 : n ≤ 1000) (hcp : n ≤ cp) (ha : Apart qs) :
    Calls Tryd.prog 62 #[.slice a n cp] w fun e w' => e = .returned (.bool false) ∧ Below w.heap.size w w' := by
  subst hn
  go_enter Tryd.func62, Tryd.ntmps62
  go_wp2
  go_loopw [9] (fun i wr => ∃ k : Nat, k ≤ qs.length ∧ i = .int .i64 k ∧ Below w.heap.size w wr) (fun i _ => qs.length - (intOf i).toNat)
  case atStart => exact ⟨0, Nat.zero_le _, rfl, Below.refl _ _⟩
  case round =>
    obtain ⟨k, hk, rfl, hb⟩ := hrel
    by_cases hlt : k < qs.length
    · have hget : qs[k]? = some qs[k] := List.getElem?_eq_getElem hlt
      obtain ⟨p, hp⟩ : ∃ p, qs[k] = p := ⟨_, rfl⟩
      rw [hp] at hget
      have hr := h.later hb
      obtain ⟨g, o, rfl, hc0, hc1, hc2, hc3, hc4⟩ := hr k p hget
      have hap : ∀ j q, j < k → qs[j]? = some q → p.pod ≠ q.pod := fun j q hj hq => ha k j p q hj hget hq
      obtain ⟨pod, node, cpu, mem, al⟩ := p
      simp only at hc0 hc1 hc2 hc3 hc4 hap
      have q0 := Box.new wr #[.string pod, .string node, .int .i64 cpu, .int .i64 mem, .bool al] 56 rfl
      have hb0 := up (Below.refl wr.heap.size wr) (.cells #[.string pod, .string node, .int .i64 cpu, .int .i64 mem, .bool al] 56)
      have hbw0 := fin hb0 hb
      have hap' : Hid (∀ j q, j < k → qs[j]? = some q → pod ≠ q.pod) := hap
      have hr0 := hr.later hb0
      clear hget hp hap h hr ha
      go_upto_region 4 with fail
      generalize hRn : wr.heap.size = R at *
      generalize wr.alloc (.cells #[.string pod, .string node, .int .i64 cpu, .int .i64 mem, .bool al] 56) = W at *
      clear hc0 hc1 hc2 hc3 hc4
      have hkc : (k : Int) ≤ cp := by omega
      go_wp2
      go_loopw [18] (fun i wx => ∃ j : Nat, j ≤ k ∧ i = .int .i64 j ∧ Below W.heap.size W wx) (fun i _ => k - (intOf i).toNat)
      case atStart => exact ⟨0, Nat.zero_le _, rfl, Below.refl _ _⟩
      case round =>
        obtain ⟨j, hj, rfl, hbx⟩ := hrel
        have qx := q0.later hbx
        obtain ⟨y0, y1, y2, y3, y4⟩ := qx.cells5'
        by_cases hjk : j < k
        · obtain ⟨q, hq⟩ : ∃ q, qs[j]? = some q := ⟨_, List.getElem?_eq_getElem (by omega)⟩
          obtain ⟨g', o', he, hd0, hd1, hd2, hd3, hd4⟩ := (hr0.later hbx) j q hq
          injection he with he
          injection he with he1 he2
          subst he1 he2
          have hne := hap'.out j q hjk hq
          obtain ⟨pod2, node2, cpu2, mem2, al2⟩ := q
          simp only at hd0 hd1 hd2 hd3 hd4 hne
          have hbe := bytes_ne hne
          have q1 := Box.new wr #[.string pod2, .string node2, .int .i64 cpu2, .int .i64 mem2, .bool al2] 56 rfl
          have qq := qx.up (.cells #[.string pod2, .string node2, .int .i64 cpu2, .int .i64 mem2, .bool al2] 56)
          have hb2 := up hbx (.cells #[.string pod2, .string node2, .int .i64 cpu2, .int .i64 mem2, .bool al2] 56)
          clear hq hr0 hap'
          go_upto_region 7 with fail
          generalize wr.alloc (.cells #[.string pod2, .string node2, .int .i64 cpu2, .int .i64 mem2, .bool al2] 56) = W2 at *
          obtain ⟨z0, z1, z2, z3, z4⟩ := q1.cells5'
          obtain ⟨t0, t1, t2, t3, t4⟩ := qq.cells5'
          clear y0 y1 y2 y3 y4 hd0 hd1 hd2 hd3 hd4 hne
          go_wp2
          go_roundw
          case rel => exact ⟨j + 1, hjk, by go_num, hb2⟩
          case measure => simp [intOf]; omega
        · have hjk' : j = k := by omega
          subst hjk'
          clear hap' hr0
          go_wp2
          go_roundw
          case rel => exact ⟨j + 1, hlt, by go_num, fin hbx hbw0⟩
          case measure => simp [intOf]; omega
    · have e1 : k = qs.length := by omega
      subst e1
      clear h ha
      go_wp2
      go_ret
      exact ⟨rfl, hb⟩

end Go.Proofs.YtmldpihjndafaabDoor
