/- The contract of the statements' own beside: places by numbers. -/
import Derived.Test.YtdgeigkdplbdbaaFY
import Derived.Test.YtdgeigkdplbdbaaLN
import Derived.Test.YtdgeigkdplbdbaaRU
import Derived.Maps.AppendAt
import Derived.Deep.Cut
import Derived.Laws.IdiomStrings
namespace Go.Proofs.Ytdgeigkdplbdbaa
open Go.RowKit Go.Maps
set_option linter.unusedSimpArgs false
set_option linter.unusedVariables false

section
variable {P : Program} {o : Oper} {a : Act} {w w2 : World} {K : Value → World → Prop}
theorem okAt_val {v : Value} (hrun : (execOp a.eval o).run P w = .ok (.value v) w2) (h : K v w2) : okAt P o a w K := by
  unfold okAt
  rw [hrun]
  exact h
theorem okAt_skip (hrun : (execOp a.eval o).run P w = .ok .skip w2) (h : K undef w2) : okAt P o a w K := by
  unfold okAt
  rw [hrun]
  exact h
theorem okAt_append (s x : Operand) (t : TypeId) (ho : o.op = .call { callee := .builtin .append, args := #[s, x], argTypes := #[t, t] })
    (base : Nat) (e : TypeId) (i : TypeInfo) (z : Value) (size bytes : Nat) (ht : P.underlying t = some (.slice e)) (hi : P.info? e = some i) (hz : i.zero = some z)
    (hsize : i.size = size) (hby : i.bytes = bytes) (hzs : z.cells.size = size) (hsz : 0 < size)
    (v : Value) (n : Nat) (xs : List Value) (hs : a.eval s = v) (hown : w.ownsRow base e size v n xs)
    (ad : Addr) (m c : Nat) (news : List Value) (hx : a.eval x = .slice (some ad) m c) (hl : news.length = m * size) (hnews : ∀ j u, news[j]? = some u → w.cell? (ad.add j) = some u) (h1 : ∀ u ∈ news, u.oneCell' = true)
    (h63 : n + m ≤ maxLen) (hbytes : (n + m) * bytes ≤ 140737488355328) (hbase : base ≤ w.heap.size)
    (h : ∀ v' w', w'.ownsRow base e size v' (n + m) (xs ++ news) → w.grownBy w' v.ownBlock → (v'.ownBlock = v.ownBlock ∨ v'.ownBlock = some w.heap.size) → K v' w') : okAt P o a w K := by
  obtain ⟨v', w', hr, h2, h3, h4, h5⟩ := run_append_own_at (P := P) w base t o.type e i z size bytes ht hi hz hsize hby hzs hsz v n xs hown ad m c news hl hnews h1 h63 hbytes hbase
  unfold okAt execOp
  simp only [ho, resolve, invoke, builtin, Sem.run_bind, Sem.run_pure, Result.andThen_ok, List.map_toArray, List.map_cons, List.map_nil, hs, hx, hr, okUpon]
  exact h v' w' h2 h3 h5
end

theorem own_cell {w : World} {base g n cap : Nat} {e : TypeId} {size : Nat} {xs : List Value} (h : w.ownsRow base e size (.slice (some ⟨g, 0, none⟩) n cap) n xs) (j : Nat) (u : Value) (hu : xs[j]? = some u) : w.cell? ⟨g, j, none⟩ = some u := by
  have := h.cells (g := g) rfl j u hu
  rcases Nat.eq_zero_or_pos j with rfl | hi
  · simpa [Addr.add] using this
  · simpa [Addr.add, show j ≠ 0 by omega] using this

theorem own_keep {w w' : World} {base : Nat} {e : TypeId} {size : Nat} {v : Value} {n : Nat} {xs : List Value} (h : w.ownsRow base e size v n xs) (hb : Below w.heap.size w w') : w'.ownsRow base e size v n xs := by
  refine ⟨h.1, ?_⟩
  rcases h.2 with h2 | ⟨g, cap, cur, hv, hg, hh, hrest⟩
  · exact .inl h2
  · refine .inr ⟨g, cap, cur, hv, hg, ?_, hrest⟩
    rw [← hh]
    exact hb.block g (Array.getElem?_eq_some_iff.1 hh).1

/-- The name of a place. -/
def besName (k : Nat) : ByteArray := ⟨#[113, 97 + UInt8.ofNat k]⟩
theorem pre_q (x : UInt8) : (⟨#[113]⟩ : ByteArray) ++ ⟨#[x]⟩ = ⟨#[113, x]⟩ := by
  apply ByteArray.ext
  simp
theorem cfwithin5 (args : Array Value) (w : World) : (callFunc 12 args).run Try.prog w = .ok (.enter 12 args) w := by kernel_rfl
/-- The place of a number. -/
def besOf (k : Nat) (z : Int) : PlaceT := ⟨besName k, ⟨#[110, 49]⟩, 0, 0, z % 4 == 0⟩
/-- The first k of them. -/
def besTo (zs : List Int) : Nat → List PlaceT
  | 0 => []
  | k + 1 => besTo zs k ++ [besOf k (zs.getD k 0)]
theorem besTo_len (zs : List Int) : ∀ k, (besTo zs k).length = k
  | 0 => rfl
  | k + 1 => by simp [besTo, besTo_len zs k]
def PlaceT.cells (p : PlaceT) : List Value := [.string p.pod, .string p.node, .int .i64 p.cpu, .int .i64 p.mem, .bool p.al]
def flatP : List PlaceT → List Value
  | [] => []
  | p :: l => p.cells ++ flatP l
theorem flatP_length : ∀ l, (flatP l).length = l.length * 5
  | [] => rfl
  | p :: l => by simp [flatP, PlaceT.cells, flatP_length l]; omega
theorem flatP_append : ∀ l r, flatP (l ++ r) = flatP l ++ flatP r
  | [], r => rfl
  | p :: l, r => by simp [flatP, flatP_append l r]
theorem flatP_one (p : PlaceT) : flatP [p] = p.cells := by simp [flatP]
theorem flatP_get : ∀ (l : List PlaceT) (i j : Nat) (p : PlaceT), l[i]? = some p → j < 5 → (flatP l)[i * 5 + j]? = p.cells[j]?
  | [], i, j, p, h, _ => by simp at h
  | q :: l, 0, j, p, h, hj => by
    simp at h
    subst h
    have : j < q.cells.length := by simpa [PlaceT.cells] using hj
    simp [flatP, List.getElem?_append_left this]
  | q :: l, i + 1, j, p, h, hj => by
    have e : (i + 1) * 5 + j = q.cells.length + (i * 5 + j) := by simp [PlaceT.cells]; omega
    rw [flatP, e, List.getElem?_append_right (by omega), Nat.add_sub_cancel_left]
    exact flatP_get l i j p (by simpa using h) hj
theorem infoPlace : (Try.prog.info? 41).map (fun i => (i.zero, i.size, i.bytes)) = some (some (.agg #[.string ⟨#[]⟩, .string ⟨#[]⟩, .int .i64 0, .int .i64 0, .bool false]), 5, 56) := by kernel_rfl
/-- From a row of the call's own to a row of places. -/
theorem places_of_own {w : World} {base : Nat} {v : Value} {n : Nat} {l : List PlaceT} (h : w.ownsRow base 41 5 v n (flatP l)) (hn : l.length = n) (hl : l.length ≤ 1000) :
    ∃ a cap, v = .slice a n cap ∧ Places w a l ∧ (a = none → cap = 0) := by
  rcases h.2 with ⟨rfl, h0⟩ | ⟨g, cap, cur, rfl, hb, hh, hncap, hrest⟩
  · refine ⟨none, 0, by rw [h0], ⟨hl, fun i p hp => ?_⟩, fun _ => rfl⟩
    have : l = [] := List.length_eq_zero_iff.1 (by omega)
    subst this
    simp at hp
  · refine ⟨some ⟨g, 0, none⟩, cap, rfl, ⟨hl, fun i p hp => ⟨g, 0, rfl, ?_⟩⟩, fun e => by cases e⟩
    have hc : ∀ j, j < 5 → ∀ u, p.cells[j]? = some u → w.cell? ⟨g, i * 5 + j, none⟩ = some u := fun j hj u hu => own_cell h _ _ (by rw [flatP_get l i j p hp hj]; exact hu)
    simp only [Nat.zero_add]
    exact ⟨hc 0 (by omega) _ rfl, hc 1 (by omega) _ rfl, hc 2 (by omega) _ rfl, hc 3 (by omega) _ rfl, hc 4 (by omega) _ rfl⟩
/-- A block's cells. -/
def NewCells (w : World) (D : Nat) (l : List Value) : Prop := ∀ j y, l[j]? = some y → w.cell? ((⟨D, 0, none⟩ : Addr).add j) = some y
theorem NewCells.later {w w' : World} {D : Nat} {l : List Value} (h : NewCells w D l) (hb : Below w.heap.size w w') : NewCells w' D l := fun j y hj => cell_below hb (h j y hj) (block_lt (h j y hj))
def besF (k len cap : Nat) (x : Addr) (z : Int) (v : Value) : Nat → Value → World → Prop
  | 0, u, _ => u = v
  | 1, u, _ => u = .int .i64 k
  | 2, u, _ => u = .int .i64 (97 + k)
  | 3, u, _ => u = .int .u8 (97 + k)
  | 4, u, w => ∃ B, u = .slice (some ⟨B, 0, none⟩) 1 1 ∧ w.cell? ⟨B, 0, none⟩ = some (.int .u8 (97 + k))
  | 5, u, _ => u = .string ⟨#[UInt8.ofNat (97 + k)]⟩
  | 6, u, _ => u = .string (besName k)
  | 7, u, _ => u = .slice (some x) len cap
  | 8, u, _ => u = .int .i64 k
  | 9, u, _ => u = .pointer (some (x.add k))
  | 10, u, _ => u = .int .i64 z
  | 11, u, _ => u = .int .i64 (z % 4)
  | 12, u, _ => u = .bool (z % 4 == 0)
  | 13, u, _ => u = .agg #[.string (besName k), .string ⟨#[110, 49]⟩, .int .i64 0, .int .i64 0, .bool (z % 4 == 0)]
  | 14, u, w => ∃ D, u = .slice (some ⟨D, 0, none⟩) 1 1 ∧ NewCells w D [.string (besName k), .string ⟨#[110, 49]⟩, .int .i64 0, .int .i64 0, .bool (z % 4 == 0)]
  | _, _, _ => True

set_option maxRecDepth 100000 in
set_option maxHeartbeats 8000000 in
theorem beside_is (a : Option Addr) (len cap : Nat) (zs : List Int) (w : World) (hrow : HasRow w a len zs) :
    Calls Try.prog 15 #[.slice a len cap] w fun e w' => ∃ g c, e = .returned (.slice g (min 4 len) c) ∧ Places w' g (besTo zs (min 4 len)) ∧ (g = none → c = 0) ∧ Below w.heap.size w w' := by
  obtain ⟨i0, hi, hz0, hz1, hz2⟩ := info_parts infoPlace
  have l0 : len ≤ 9223372036854775807 := hrow.1
  go_enter Try.func15, Try.ntmps15
  go_wp2
  go_loopw [3, 4] (fun v i wr => ∃ k : Nat, k ≤ min 4 len ∧ i = .int .i64 k ∧ wr.ownsRow w.heap.size 41 5 v k (flatP (besTo zs k)) ∧ Below w.heap.size w wr) (fun _ i _ => 4 - (intOf i).toNat)
  case atStart => exact ⟨0, by omega, rfl, World.ownsRow_nil _ _ _ _, Below.refl _ _⟩
  case round =>
    obtain ⟨k, hk, rfl, hP, hbw⟩ := hrel
    by_cases hlt : k < 4 ∧ k < len
    · obtain ⟨hm8, hml⟩ := hlt
      obtain ⟨x, rfl, hcz⟩ := (hrow.later hbw).2 k hml
      obtain ⟨z, hz⟩ : ∃ z, zs.getD k 0 = z := ⟨_, rfl⟩
      rw [hz] at hcz
      obtain ⟨v, hv⟩ : ∃ v, u3 = v := ⟨_, rfl⟩
      rw [hv] at hP ⊢
      clear hv
      go_wp2
      refine wp_region_rely_upto 15 2 (fun w1 => Below wr.heap.size wr w1) (fun w1 w2 => Below w1.heap.size w1 w2) (besF k len cap x z v) (by kernel_rfl) (by kernel_rfl) (by kernel_rfl) (Below.refl _ _).drew ?keep ?step ?rest
      case keep =>
        intro i v w1 w2 hS hF
        unfold besF at *
        split at hF <;> try exact hF
        · obtain ⟨B, hv, hc⟩ := hF
          exact ⟨B, hv, cell_below hS hc (block_lt hc)⟩
        · obtain ⟨D, hv, hc⟩ := hF
          exact ⟨D, hv, hc.later hS⟩
      case step =>
        intro i o d hi ho hd b w1 hR hold hdep
        have o0 : sl b 0 = .slice (some x) len cap := hold 0 (by kernel_rfl)
        have o3 : sl b 3 = v := hold 3 (by kernel_rfl)
        have o4 : sl b 4 = .int .i64 k := hold 4 (by kernel_rfl)
        have hb0 := Below.refl w1.heap.size w1
        have cz := cell_below hR hcz (block_lt hcz)
        have hlt2 : (k : Int) < len := by omega
        have k1 : IntKind.i64.wrap (97 + k) = 97 + k := IntWalk.i64_in _ (by omega)
        have k2 : IntKind.u8.wrap (97 + k) = 97 + k := (show ∀ q : Fin 4, IntKind.u8.wrap (97 + (q.val : Int)) = 97 + (q.val : Int) by decide) ⟨k, hm8⟩
        have hcn : ((UInt8.ofNat (97 + k)).toNat : Int) = 97 + k := (show ∀ q : Fin 4, ((UInt8.ofNat (97 + q.val)).toNat : Int) = 97 + (q.val : Int) by decide) ⟨k, hm8⟩
        rcases i with _ | _ | _ | _ | _ | _ | _ | _ | _ | _ | _ | _ | _ | _ | _ | i
        all_goals try (cases ho; cases hd)
        · exact ok_val' rfl rfl (want_none rfl b) (by simp [go_sem, o3]) hR hb0 rfl
        · exact ok_val' rfl rfl (want_none rfl b) (by simp [go_sem, o4]) hR hb0 rfl
        · have f16 : sl b 16 = .int .i64 k := hdep 1 _ _ rfl rfl (by kernel_rfl)
          exact ok_val' rfl rfl (want_none rfl b) (by simp [go_sem, f16, k1]) hR hb0 rfl
        · have f17 : sl b 17 = .int .i64 (97 + k) := hdep 2 _ _ rfl rfl (by kernel_rfl)
          exact ok_val' rfl rfl (want_none rfl b) (by simp [go_sem, f17, k2]) hR hb0 rfl
        · have f18 : sl b 18 = .int .u8 (97 + k) := hdep 3 _ _ rfl rfl (by kernel_rfl)
          exact ok_val' rfl rfl (want_none rfl b) (by simp [go_sem, f18]; exact ⟨rfl, rfl⟩) (hR.alloc hR.size _) (hb0.alloc (Nat.le_refl _) _) ⟨_, rfl, by simp⟩
        · obtain ⟨B, f19, hc⟩ : ∃ B, sl b 19 = .slice (some ⟨B, 0, none⟩) 1 1 ∧ w1.cell? ⟨B, 0, none⟩ = some (.int .u8 (97 + k)) := hdep 4 _ _ rfl rfl (by kernel_rfl)
          have hconv := run_convert_bytes_back (P := Try.prog) w1 49 9 5 ⟨B, 0, none⟩ 1 [UInt8.ofNat (97 + k)] (by kernel_rfl) (by kernel_rfl) (by kernel_rfl) (fun j hj => by
            have : j = 0 := by simpa using hj
            subst this
            simp only [List.getElem_cons_zero]
            rw [hcn]
            exact hc)
          rw [List.length_singleton] at hconv
          exact ok_val' rfl rfl (want_none rfl b) (by simp only [go_sem, f19, hconv]; simp [go_sem, f19, hconv]) hR hb0 rfl
        · have f20 : sl b 20 = .string ⟨#[UInt8.ofNat (97 + k)]⟩ := hdep 5 _ _ rfl rfl (by kernel_rfl)
          exact ok_val' rfl rfl (want_none rfl b) (by simp [go_sem, f20, pre_q, besName]) hR hb0 rfl
        · exact ok_val' rfl rfl (want_none rfl b) (by simp [go_sem, o0]) hR hb0 rfl
        · exact ok_val' rfl rfl (want_none rfl b) (by simp [go_sem, o4]) hR hb0 rfl
        · have f22 : sl b 22 = .slice (some x) len cap := hdep 7 _ _ rfl rfl (by kernel_rfl)
          have f23 : sl b 23 = .int .i64 k := hdep 8 _ _ rfl rfl (by kernel_rfl)
          exact ok_val' rfl rfl (want_none rfl b) (by simp [go_sem, f22, f23, hlt2]) hR hb0 rfl
        · have f24 : sl b 24 = .pointer (some (x.add k)) := hdep 9 _ _ rfl rfl (by kernel_rfl)
          exact ok_val' rfl rfl (want_none rfl b) (by simp [go_sem, f24, cz]) hR hb0 rfl
        · have f25 : sl b 25 = .int .i64 z := hdep 10 _ _ rfl rfl (by kernel_rfl)
          refine ok_enter' rfl rfl (want_none rfl b) (by simp [go_sem, f25, cfwithin5]; exact ⟨rfl, rfl⟩) ((within5_any _ _ _ (by decide) (by decide) rfl _).mono ?_)
          rintro e w2 ⟨rfl, rfl⟩
          exact ⟨_, rfl, hR, hb0, rfl⟩
        · have f26 : sl b 26 = .int .i64 (z % 4) := hdep 11 _ _ rfl rfl (by kernel_rfl)
          exact ok_val' rfl rfl (want_none rfl b) (by simp [go_sem, f26]) hR hb0 rfl
        · have f21 : sl b 21 = .string (besName k) := hdep 6 _ _ rfl rfl (by kernel_rfl)
          have f27 : sl b 27 = .bool (z % 4 == 0) := hdep 12 _ _ rfl rfl (by kernel_rfl)
          exact ok_val' rfl rfl (want_none rfl b) (by simp [go_sem, f21, f27]) hR hb0 rfl
        · have f28 : sl b 28 = .agg #[.string (besName k), .string ⟨#[110, 49]⟩, .int .i64 0, .int .i64 0, .bool (z % 4 == 0)] := hdep 13 _ _ rfl rfl (by kernel_rfl)
          exact ok_val' rfl rfl (want_none rfl b) (by simp [go_sem, f28] <;> first | rfl | exact ⟨rfl, rfl⟩) (hR.alloc hR.size _) (hb0.alloc (Nat.le_refl _) _) ⟨_, rfl, cells_new _ _ _ _ rfl⟩
        · omega
      case rest =>
        intro b w1 hR hsz hdf hold hF
        obtain ⟨D, f29, gc⟩ : ∃ D, sl b 29 = .slice (some ⟨D, 0, none⟩) 1 1 ∧ NewCells w1 D [.string (besName k), .string ⟨#[110, 49]⟩, .int .i64 0, .int .i64 0, .bool (z % 4 == 0)] := hF 14 _ _ (by decide) rfl rfl
        have f15 : sl b 15 = v := hF 0 _ _ (by decide) rfl rfl
        have hsz' : b.tmps.size = 32 := hsz
        refine wpK_one 15 _ (by kernel_rfl) rfl (want_none rfl b) ?_
        have hP1 := own_keep hP hR
        refine okAt_append (.tmp 15) (.tmp 29) 37 rfl w.heap.size 41 i0 _ 5 56 Try.underlying37 hi hz0 hz1 hz2 rfl (by decide) v k (flatP (besTo zs k)) (by simpa [go_sem] using f15) hP1 ⟨D, 0, none⟩ 1 1 _ (by simpa [go_sem] using f29) rfl gc (by intro u hu; simp only [List.mem_cons, List.not_mem_nil, or_false] at hu; rcases hu with rfl | rfl | rfl | rfl | rfl <;> rfl) (by unfold maxLen; omega) (by omega) (by have := hR.size; have := hbw.size; omega) ?_
        intro v' w2 hown' hgrow hat
        have hB2 : Below w.heap.size w w2 := (hbw.trans (hR.mono hbw.size)).grown hgrow (hbw.trans (hR.mono hbw.size)).size (fun j hj => (hP.lt j hj).1)
        refine ⟨trivial, wpK_one 16 _ (by kernel_rfl) rfl (want_none rfl _) ?_⟩
        refine okAt_val (w2 := w2) (v := v') (by
          rcases hown'.2 with ⟨e, _⟩ | ⟨_, _, _, e, _⟩ <;> subst e <;> simp [go_sem, hsz']) ?_
        refine ⟨trivial, wpK_end (by kernel_rfl) ?_⟩
        generalize hb9 : Act.put (Act.put b _ _) _ _ = b9
        have hb8 : (b.put (some 30) v').put (some 3) v' = b9 := hb9
        have e3 : sl b9 3 = v' := sl_same hb8.symm (n := 32) (by rw [put_size]; exact hsz) (by decide)
        have e0 := sl_ne hb8.symm (by decide) (sl_ne rfl (by decide) (hold 0 (by kernel_rfl)))
        have e1 := sl_ne hb8.symm (by decide) (sl_ne rfl (by decide) (hold 1 (by kernel_rfl)))
        have e2 := sl_ne hb8.symm (by decide) (sl_ne rfl (by decide) (hold 2 (by kernel_rfl)))
        have e4 := sl_ne hb8.symm (by decide) (sl_ne rfl (by decide) (hold 4 (by kernel_rfl)))
        have e5 := sl_ne hb8.symm (by decide) (sl_ne rfl (by decide) (hold 5 (by kernel_rfl)))
        have e6 := sl_ne hb8.symm (by decide) (sl_ne rfl (by decide) (hold 6 (by kernel_rfl)))
        have e7 := sl_ne hb8.symm (by decide) (sl_ne rfl (by decide) (hold 7 (by kernel_rfl)))
        have e8 := sl_ne hb8.symm (by decide) (sl_ne rfl (by decide) (hold 8 (by kernel_rfl)))
        have e9 := sl_ne hb8.symm (by decide) (sl_ne rfl (by decide) (hold 9 (by kernel_rfl)))
        have e10 := sl_ne hb8.symm (by decide) (sl_ne rfl (by decide) (hold 10 (by kernel_rfl)))
        have e11 := sl_ne hb8.symm (by decide) (sl_ne rfl (by decide) (hold 11 (by kernel_rfl)))
        have e12 := sl_ne hb8.symm (by decide) (sl_ne rfl (by decide) (hold 12 (by kernel_rfl)))
        have e13 := sl_ne hb8.symm (by decide) (sl_ne rfl (by decide) (hold 13 (by kernel_rfl)))
        have e14 := sl_ne hb8.symm (by decide) (sl_ne rfl (by decide) (hold 14 (by kernel_rfl)))
        have e31 := sl_ne hb8.symm (by decide) (sl_ne rfl (by decide) (hold 31 (by kernel_rfl)))
        have hB : b9 = _ := act_list b9 (show b9.tmps.size = 32 by rw [← hb8, put_size, put_size]; exact hsz) (show b9.defers = [] by rw [← hb8]; exact hdf)
        rw [hB]
        simp only [List.range, List.range.loop, List.map_cons, List.map_nil, e3, e0, e1, e2, e4, e5, e6, e7, e8, e9, e10, e11, e12, e13, e14, e31]
        generalize sl b9 15 = v15, sl b9 16 = v16, sl b9 17 = v17, sl b9 18 = v18, sl b9 19 = v19, sl b9 20 = v20, sl b9 21 = v21, sl b9 22 = v22, sl b9 23 = v23, sl b9 24 = v24, sl b9 25 = v25, sl b9 26 = v26, sl b9 27 = v27, sl b9 28 = v28, sl b9 29 = v29, sl b9 30 = v30
        simp only [sl, List.getElem?_toArray, List.getElem?_cons_succ, List.getElem?_cons_zero, Option.getD_some]
        clear e3 e0 e1 e2 e4 e5 e6 e7 e8 e9 e10 e11 e12 e13 e14 e31
        have hdm : Hid (flatP (besTo zs (k + 1)) = flatP (besTo zs k) ++ [.string (besName k), .string ⟨#[110, 49]⟩, .int .i64 0, .int .i64 0, .bool (z % 4 == 0)]) := by
          show _ = _
          rw [besTo, flatP_append, flatP_one, hz]
          rfl
        clear hB hb9 hb8 hF hold hdf hsz f15 f29 hgrow hat hP1 hP
        go_wp2
        go_roundw
        case rel => exact ⟨k + 1, by omega, by go_num, by rw [hdm.out]; exact hown', hB2⟩
        case measure => simp [intOf]; omega
    · have ek : k = min 4 len := by omega
      obtain ⟨g, c, rfl, hpl, hnil⟩ := places_of_own hP (besTo_len zs k) (by rw [besTo_len]; omega)
      rcases (by omega : ¬ k < len ∨ (k < len ∧ ¬ k < 4)) with h1 | ⟨h1, h2⟩
      all_goals
        clear hlt hP
        go_wp2
        go_ret
        rw [ek] at hpl
        exact ⟨g, c, by rw [← ek]; rfl, hpl, hnil, hbw⟩

end Go.Proofs.Ytdgeigkdplbdbaa
