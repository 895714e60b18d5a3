/- The contract of copyCheck of strings.Builder, where the builder lies in a writer. -/
import Derived.Test.YtmldpihjndafaabDoorTL
import Derived.Shelf.Strings.Builder1
namespace Go.Proofs.YtmldpihjndafaabDoor
open Go.RowKit
set_option linter.unusedSimpArgs false
set_option linter.unusedVariables false


/-- All but block b and rows of bytes is as it was. -/
structure Soft (b : Nat) (w w' : World) : Prop where
  os : w'.os = w.os
  tape : w'.tape = w.tape
  output : w'.output = w.output
  size : w.heap.size ≤ w'.heap.size
  block : ∀ k, k < w.heap.size → k ≠ b → (∀ cur fz, w.heap[k]? ≠ some (.cells cur 5 fz)) → w'.heap[k]? = w.heap[k]?

theorem Soft.refl (b : Nat) (w : World) : Soft b w w := ⟨rfl, rfl, rfl, Nat.le_refl _, fun _ _ _ _ => rfl⟩
theorem Soft.trans {b : Nat} {w w1 w2 : World} (h : Soft b w w1) (h2 : Soft b w1 w2) : Soft b w w2 :=
  ⟨h2.os.trans h.os, h2.tape.trans h.tape, h2.output.trans h.output, Nat.le_trans h.size h2.size, fun k hk hb hn => by
    have e := h.block k hk hb hn
    rw [h2.block k (Nat.lt_of_lt_of_le hk h.size) hb (by rw [e]; exact hn), e]⟩
theorem Soft.of_below {b : Nat} {w w' : World} (h : Below w.heap.size w w') : Soft b w w' := ⟨h.os, h.tape, h.output, h.size, fun k hk _ _ => h.block k hk⟩
theorem Soft.set (b i : Nat) (v : Value) (w : World) : Soft b w (w.setCell ⟨b, i, none⟩ v) :=
  ⟨rfl, rfl, rfl, by simp [World.setCell], fun k _ hk _ => Below.heap_setCell _ _ _ _ (fun e => hk (by simp [e]))⟩
theorem Soft.grown {b B n : Nat} {v : Value} {xs : List Value} {w w' : World} (hg : w.grownBy w' v.ownBlock) (ho : w.ownsRow B 5 1 v n xs) : Soft b w w' :=
  ⟨hg.os, hg.tape, hg.output, hg.size, fun k hk _ hn => hg.block k hk (by
    rcases ho.2 with ⟨rfl, _⟩ | ⟨g, cap, cur, rfl, _, hh, _⟩
    · simp [Value.ownBlock]
    · intro e
      have : k = g := by simpa [Value.ownBlock] using e
      subst this
      exact hn _ _ hh)⟩
theorem Soft.box {b k : Nat} {w w' : World} {cs : Array Value} {t : TypeId} (h : Soft b w w') (hk : Box w k cs t) (ht : t ≠ 5) (hb : k ≠ b) : Box w' k cs t := by
  unfold Box at hk ⊢
  rw [h.block k (Box.lt hk) hb (fun cur fz e => by rw [hk] at e; simp at e; exact ht e.2.1), hk]

theorem sizeBld : (Tryd.prog.info? 80).map (·.size) = some 2 := by kernel_rfl

set_option maxRecDepth 100000 in
theorem copyCheck_used (b : Nat) (w : World) (h0 : w.cell? ⟨b, 0, none⟩ = some (.pointer (some ⟨b, 0, none⟩))) :
    Calls Tryd.prog 63 #[.pointer (some ⟨b, 0, none⟩)] w fun e w' => e = .returned (.tuple #[]) ∧ w' = w := by
  obtain ⟨j, hj, _⟩ := Option.map_eq_some_iff.1 sizeBld
  go_enter Tryd.func63, Tryd.ntmps63
  go_wp2
  rw [Lib.run_neq_ptr_same w _ Tryd.underlying78 hj]
  go_wp2
  go_end0
  exact ⟨rfl, rfl⟩

set_option maxRecDepth 100000 in
theorem copyCheck_fresh (b : Nat) (w : World) (h0 : w.cell? ⟨b, 0, none⟩ = some (.pointer none)) (hsh : w.shape? b = some (82, 2)) (hfz : w.frozen? ⟨b, 0, none⟩ = false) :
    Calls Tryd.prog 63 #[.pointer (some ⟨b, 0, none⟩)] w fun e w' => e = .returned (.tuple #[]) ∧ w' = w.setCell ⟨b, 0, none⟩ (.pointer (some ⟨b, 0, none⟩)) := by
  obtain ⟨j, hj, hjs⟩ := Option.map_eq_some_iff.1 sizeBld
  have lies : liesAt Tryd.prog Tryd.prog.depth 82 (2 / Tryd.prog.cellsOf 82) 0 80 1 = true := by kernel_rfl
  go_enter Tryd.func63, Tryd.ntmps63
  go_wp2
  rw [Lib.run_to_unsafe w ⟨b, 0, none⟩ Tryd.underlying78 Tryd.underlying120 hj (by rw [hjs]; decide) hsh (Nat.zero_lt_succ 1)]
  simp only [Result.andThen]
  rw [Oper.upon_value]
  go_wp2
  rw [run_callFunc_extern Tryd.func79 (by kernel_rfl) (by kernel_rfl) (by kernel_rfl) (e := Extern.AbiNoEscape.same) (by kernel_rfl)]
  rw [Lib.run_noEscape]
  simp only [Result.andThen]
  rw [Oper.upon_value]
  go_wp2
  rw [Lib.run_from_unsafe w ⟨b, 0, none⟩ Tryd.underlying120 Tryd.underlying78 hj hsh lies]
  simp only [Result.andThen]
  rw [Oper.upon_value]
  go_wp2
  go_end0
  exact ⟨rfl, rfl⟩

/-- A builder in a writer's block, that holds these bytes. -/
abbrev InW (B b : Nat) (bs : List Value) (w : World) : Prop := Lib.IsBuilder 82 5 B b bs w
abbrev AtW (B b : Nat) (bs : List Value) (w : World) : Prop := Lib.BuilderAt 82 5 B b (.pointer (some ⟨b, 0, none⟩)) bs w

theorem copyCheck_any (B b : Nat) (bs : List Value) (w : World) (h : InW B b bs w) :
    Calls Tryd.prog 63 #[.pointer (some ⟨b, 0, none⟩)] w fun e w' => e = .returned (.tuple #[]) ∧ AtW B b bs w' ∧ Below B w w' ∧ Soft b w w' := by
  cases h with
  | inl h => exact (copyCheck_fresh b w h.cell0 h.shape h.frozen0).mono fun e w' k => ⟨k.1, k.2 ▸ h.used _, k.2 ▸ (Below.refl B w).setCell (p := ⟨b, 0, none⟩) h.1 _, k.2 ▸ Soft.set b 0 _ w⟩
  | inr h => exact (copyCheck_used b w h.cell0).mono fun e w' k => ⟨k.1, k.2 ▸ h, k.2 ▸ Below.refl B _, k.2 ▸ Soft.refl b _⟩

theorem infoByte : (Tryd.prog.info? 5).map (fun i => (i.zero, i.size, i.bytes)) = some (some (.int .u8 0), 1, 1) := by kernel_rfl

set_option maxRecDepth 100000 in
set_option maxHeartbeats 2000000 in
theorem writeString_any (B b : Nat) (bs : List Value) (s : ByteArray) (w : World) (h : InW B b bs w) (hlen : bs.length + s.size ≤ 1000000000) (hBw : B ≤ w.heap.size) :
    Calls Tryd.prog 43 #[.pointer (some ⟨b, 0, none⟩), .string s] w fun e w' => e = .returned (.tuple #[.int .i64 s.size, .nilIface]) ∧ AtW B b (bs ++ Lib.strCells s) w' ∧ Below B w w' ∧ Soft b w w' := by
  obtain ⟨i0, hi, hz0, hz1, hz2⟩ := info_parts infoByte
  go_enter Tryd.func43, Tryd.ntmps43
  go_wp2_with (first
    | (at_builtin; refine Lib.wpList_append_own_string _ rfl _ _ 54 9 rfl B 5 i0 Tryd.underlying54 Tryd.underlying9 hi hz0 hz1 hz2 _ _ _ rfl hown s rfl (by unfold maxLen; omega) (by omega) (by have := hb1.size; omega) ?_
       intro v2 w2 hown2 hg2 hnil
       have hX2 := hX.grown hg2 (fun e => hne e.symm)
       obtain ⟨d0, d1⟩ := hX2.cells2
       have f1 := hX2.frozen 1
       obtain ⟨ao, n', cap, rfl⟩ : ∃ ao n' cap, v2 = .slice ao n' cap := by
         rcases hown2.2 with ⟨hv, _⟩ | ⟨g, cap, cur, hv, _⟩
         · exact ⟨_, _, _, hv⟩
         · exact ⟨_, _, _, hv⟩)
    | (go_at_call 63; refine (copyCheck_any B b bs _ h).mono ?_
       rintro e w1 ⟨rfl, ⟨hB, v, hX', hown, hne⟩, hb1, hf1⟩
       have hX : Box w1 b #[.pointer (some ⟨b, 0, none⟩), v] 82 := hX'
       obtain ⟨c0, c1⟩ := hX.cells2))
  go_ret2
  refine ⟨rfl, ?_, (hb1.grown hg2 (by have := hb1.size; omega) (fun k hk => (hown.lt k hk).1)).setCell (p := ⟨b, 1, none⟩) hB _, (hf1.trans (Soft.grown hg2 hown)).trans (Soft.set b 1 _ _)⟩
  exact Lib.BuilderAt.put (T := 82) (e := 5) hB hX2 (bs' := bs ++ Lib.strCells s) (by simpa [Lib.strCells_length] using hown2) (by decide)

end Go.Proofs.YtmldpihjndafaabDoor
