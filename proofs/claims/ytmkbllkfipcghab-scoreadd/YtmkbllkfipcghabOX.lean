/- Single operations under the law of memory that does not overlap. -/
import Derived.Test.YtmkbllkfipcghabRW
import Derived.Test.YtmkbllkfipcghabOW
namespace Go.Proofs.Ytmkbllkfipcghab
open Go.RowKit Go.Maps

section
variable {o : Oper} {b : Act} {ops : Array Oper} {i : Nat} {d : Tmp} {own : Nat → Bool} {used : Nat → Option Nat} {R : World → Prop} {F : Nat → Value → World → Prop}

/-- What the law asks behind an operation. -/
def Sep (ops : Array Oper) (i : Nat) (o : Oper) (b : Act) (w1 : World) (own : Nat → Bool) (used : Nat → Option Nat) (R : World → Prop) (F : Nat → Value → World → Prop) (b' : Act) (w2 : World) : Prop :=
  ∃ v, b' = b.put o.dst v ∧ (o.dst = none → v = undef) ∧ R w2 ∧
    (Below w1.heap.size w1 w2 ∨ ∃ c q, used c = some i ∧ own c = true ∧ waits o c = true ∧ (vals ops b c).ownBlock = some q ∧ w1.grownBy w2 (some q)) ∧
    ((own i = true → ∀ g, v.ownBlock = some g → w1.heap.size ≤ g ∨ ∃ c, used c = some i ∧ own c = true ∧ waits o c = true ∧ (vals ops b c).ownBlock = some g) ∧ F i v w2)

theorem okS_val {P : Program} {v : Value} {w1 w2 : World} (ho : ops[i]? = some o) (hd : o.dst = some d) (hw : Region.wanted o (yielded ops b.tmps) = true)
    (hrun : (execOp b.eval o).run P w1 = .ok (.value v) w2) (hR : R w2) (hB : Below w1.heap.size w1 w2) (hn : own i = true → ∀ g, v.ownBlock = some g → w1.heap.size ≤ g) (hF : F i v w2) : okOp P ops i (Sep ops i o b w1 own used R F) b w1 :=
  okZ_val (S := fun w1 w2 => Below w1.heap.size w1 w2 ∨ ∃ c q, used c = some i ∧ own c = true ∧ waits o c = true ∧ (vals ops b c).ownBlock = some q ∧ w1.grownBy w2 (some q))
    (F := fun i v w2 => (own i = true → ∀ g, v.ownBlock = some g → w1.heap.size ≤ g ∨ ∃ c, used c = some i ∧ own c = true ∧ waits o c = true ∧ (vals ops b c).ownBlock = some g) ∧ F i v w2)
    ho hd hw hrun hR (.inl hB) ⟨fun h g hg => .inl (hn h g hg), hF⟩

theorem okS_copy {w1 : World} (ho : ops[i]? = some o) (hd : o.dst = some d) (hgd : o.guard = none) (s x : Operand)
    (hop : o.op = .call { callee := .builtin .append, args := #[s, x], argTypes := #[31, 31] })
    (base D : Nat) (hs : b.eval s = .slice (some ⟨D, 0, none⟩) 0 0) (hD : Box w1 D #[] 3) (hbD : base ≤ D) (g8 m c8 : Nat) (zs : List Int) (hx : b.eval x = .slice (some ⟨g8, 0, none⟩) m c8) (hl : zs.length = m)
    (hc : ∀ j u, (zs.map (Value.int .i64))[j]? = some u → w1.cell? ((⟨g8, 0, none⟩ : Addr).add j) = some u)
    (hm : 0 < m) (hn : m ≤ 1000) (hbase : base ≤ w1.heap.size)
    (h : ∀ v' w2, w2.ownsRow base 3 1 v' m (zs.map (Value.int .i64)) → Below w1.heap.size w1 w2 → R w2 ∧ F i v' w2) :
    okOp Try.prog ops i (Sep ops i o b w1 own used R F) b w1 := by
  obtain ⟨i0, hi, hz0, hz1, hz2⟩ := info_parts info3
  have hown : w1.ownsRow base 3 1 (.slice (some ⟨D, 0, none⟩) 0 0) 0 [] := ⟨rfl, .inr ⟨D, 0, #[], rfl, hbD, hD, Nat.le_refl _, Nat.zero_le _, rfl, rfl⟩⟩
  obtain ⟨v', w2, hr, h2, h3, h4⟩ := run_append_own (P := Try.prog) w1 base 31 o.type 3 i0 (.int .i64 0) 1 8 Try.underlying31 hi hz0 hz1 hz2 rfl (by decide) (.slice (some ⟨D, 0, none⟩) 0 0) 0 [] hown ⟨g8, 0, none⟩ m c8 (zs.map (Value.int .i64)) (by simp [hl]) hc (by
    intro u hu
    obtain ⟨k, _, rfl⟩ := List.mem_map.1 hu
    rfl) (by unfold maxLen; omega) (by omega) hbase
  have hr2 := run_append_grow (P := Try.prog) w1 31 o.type 3 i0 (.int .i64 0) Try.underlying31 hi hz0 ⟨D, 0, none⟩ 0 0 [] (by simp) (fun j u hu => by simp at hu) ⟨g8, 0, none⟩ m c8 (zs.map (Value.int .i64)) (by rw [hz1]; simp [hl]) hc (by omega) (by omega) (growslice_fits (by omega) (by rw [hz2]; omega))
  rw [hr] at hr2
  have he := hr2
  simp only [Result.ok.injEq] at he
  obtain ⟨hv, hw2⟩ := he
  have hB : Below w1.heap.size w1 w2 := by
    rw [hw2]
    exact ((Below.refl _ _).drew).alloc (Nat.le_refl _) _
  have hb : v'.ownBlock = some w1.heap.size := by rw [hv]; rfl
  have hq := h v' w2 (by simpa using h2) hB
  refine okS_val ho hd (want_none hgd b) ?_ hq.1 hB (fun _ g hg => by rw [hb] at hg; cases hg; exact Nat.le_refl _) hq.2
  unfold execOp
  simp only [hop, resolve, invoke, builtin, Sem.run_bind, Sem.run_pure, Result.andThen_ok, List.map_toArray, List.map_cons, List.map_nil, hs, hx, hr]

/-- One more number, behind a row that another operation has left. -/
theorem okS_num {w1 : World} (ho : ops[i]? = some o) (hd : o.dst = some d) (hgd : o.guard = none) (s x : Operand)
    (hop : o.op = .call { callee := .builtin .append, args := #[s, x], argTypes := #[31, 31] })
    (base : Nat) (v : Value) (n : Nat) (xs : List Int) (hs : b.eval s = v) (hown : w1.ownsRow base 3 1 v n (xs.map (Value.int .i64))) (D : Nat) (t : Int) (hx : b.eval x = .slice (some ⟨D, 0, none⟩) 1 1) (hc : w1.cell? ⟨D, 0, none⟩ = some (.int .i64 t))
    (hn : n ≤ 1000) (h0 : 0 < n) (hbase : base ≤ w1.heap.size) (c : Nat) (hu : used c = some i) (hoc : own c = true) (hwc : waits o c = true) (hvc : vals ops b c = v)
    (h : ∀ v' w2 q, w2.ownsRow base 3 1 v' (n + 1) ((xs ++ [t]).map (Value.int .i64)) → w1.grownBy w2 (some q) → base ≤ q → R w2 ∧ F i v' w2) :
    okOp Try.prog ops i (Sep ops i o b w1 own used R F) b w1 := by
  obtain ⟨i0, hi, hz0, hz1, hz2⟩ := info_parts info3
  obtain ⟨v', w2, hr, h2, h3, h4, h5⟩ := run_append_own_at (P := Try.prog) w1 base 31 o.type 3 i0 (.int .i64 0) 1 8 Try.underlying31 hi hz0 hz1 hz2 rfl (by decide) v n (xs.map (Value.int .i64)) hown ⟨D, 0, none⟩ 1 1 [.int .i64 t] rfl (fun j u hu => by
    rcases j with _ | j
    · simp at hu; subst hu; simpa [Addr.add] using hc
    · simp at hu) (by intro u hu; simp only [List.mem_singleton] at hu; subst hu; rfl) (by unfold maxLen; omega) (by omega) hbase
  obtain ⟨q, hq, hqb⟩ : ∃ q, v.ownBlock = some q ∧ base ≤ q := by
    rcases hown.2 with ⟨_, e⟩ | ⟨g, cap, cur, rfl, hbg, _⟩
    · omega
    · exact ⟨g, rfl, hbg⟩
  rw [hq] at h3 h5
  have hk := h v' w2 q (by simpa using h2) h3 hqb
  refine okZ_val (S := fun w1 w2 => Below w1.heap.size w1 w2 ∨ ∃ c q, used c = some i ∧ own c = true ∧ waits o c = true ∧ (vals ops b c).ownBlock = some q ∧ w1.grownBy w2 (some q))
    (F := fun i v w2 => (own i = true → ∀ g, v.ownBlock = some g → w1.heap.size ≤ g ∨ ∃ c, used c = some i ∧ own c = true ∧ waits o c = true ∧ (vals ops b c).ownBlock = some g) ∧ F i v w2)
    ho hd (want_none hgd b) ?_ hk.1 (.inr ⟨c, q, hu, hoc, hwc, by rw [hvc, hq], h3⟩) ⟨fun _ g hg => ?_, hk.2⟩
  · unfold execOp
    simp only [hop, resolve, invoke, builtin, Sem.run_bind, Sem.run_pure, Result.andThen_ok, List.map_toArray, List.map_cons, List.map_nil, hs, hx, hr]
  · rcases h5 with h5 | h5
    · exact .inr ⟨c, hu, hoc, hwc, by rw [hvc, hq, ← h5, hg]⟩
    · rw [h5] at hg; cases hg; exact .inl (Nat.le_refl _)
end

end Go.Proofs.Ytmkbllkfipcghab
