/- Single operations at the end of a drawn region; cells of a block just made. -/
import Derived.Test.YthneemgpifbehaaGreatDoorMg21
import Derived.Test.YthneemgpifbehaaGreatDoorMg13
namespace Go.Proofs.YthneemgpifbehaaGreatDoor
open Go.RowKit Go.Maps

section
variable {P : Program} {o : Oper} {a : Act} {w w2 : World} {K : Value → World → Prop}
theorem okAt_val {v : Value} (hrun : (execOp a.eval o).run P w = .ok (.value v) w2) (h : K v w2) : okAt P o a w K := by
  unfold okAt
  rw [hrun]
  exact h
theorem okAt_skip (hrun : (execOp a.eval o).run P w = .ok .skip w2) (h : K undef w2) : okAt P o a w K := by
  unfold okAt
  rw [hrun]
  exact h
theorem okAt_append (s x : Operand) (t : TypeId) (ho : o.op = .call { callee := .builtin .append, args := #[s, x], argTypes := #[t, t] })
    (base : Nat) (e : TypeId) (i : TypeInfo) (z : Value) (size bytes : Nat) (ht : P.underlying t = some (.slice e)) (hi : P.info? e = some i) (hz : i.zero = some z)
    (hsize : i.size = size) (hby : i.bytes = bytes) (hzs : z.cells.size = size) (hsz : 0 < size)
    (v : Value) (n : Nat) (xs : List Value) (hs : a.eval s = v) (hown : w.ownsRow base e size v n xs)
    (ad : Addr) (m c : Nat) (news : List Value) (hx : a.eval x = .slice (some ad) m c) (hl : news.length = m * size) (hnews : ∀ j u, news[j]? = some u → w.cell? (ad.add j) = some u) (h1 : ∀ u ∈ news, u.oneCell' = true)
    (h63 : n + m ≤ maxLen) (hbytes : (n + m) * bytes ≤ 140737488355328) (hbase : base ≤ w.heap.size)
    (h : ∀ v' w', w'.ownsRow base e size v' (n + m) (xs ++ news) → w.grownBy w' v.ownBlock → (v'.ownBlock = v.ownBlock ∨ v'.ownBlock = some w.heap.size) → K v' w') : okAt P o a w K := by
  obtain ⟨v', w', hr, h2, h3, h4, h5⟩ := run_append_own_at (P := P) w base t o.type e i z size bytes ht hi hz hsize hby hzs hsz v n xs hown ad m c news hl hnews h1 h63 hbytes hbase
  unfold okAt execOp
  simp only [ho, resolve, invoke, builtin, Sem.run_bind, Sem.run_pure, Result.andThen_ok, List.map_toArray, List.map_cons, List.map_nil, hs, hx, hr, okUpon]
  exact h v' w' h2 h3 h5
end

/-- A block's cells. -/
def NewCells (w : World) (D : Nat) (l : List Value) : Prop := ∀ j y, l[j]? = some y → w.cell? ((⟨D, 0, none⟩ : Addr).add j) = some y
theorem NewCells.later {w w' : World} {D : Nat} {l : List Value} (h : NewCells w D l) (hb : Below w.heap.size w w') : NewCells w' D l := fun j y hj => cell_below hb (h j y hj) (block_lt (h j y hj))

end Go.Proofs.YthneemgpifbehaaGreatDoor
