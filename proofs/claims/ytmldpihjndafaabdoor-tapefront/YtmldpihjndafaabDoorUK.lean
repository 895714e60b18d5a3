/- Records told in full; the tape: All. -/
import Derived.Test.YtmldpihjndafaabDoorUJ
namespace Go.Proofs.YtmldpihjndafaabDoor
open Go.RowKit
set_option linter.unusedSimpArgs false
set_option linter.unusedVariables false

/-- A record. -/
structure RecB where
  kind : Nat
  gang : Nat
  peers : List Nat
  places : List PlaceB
  node : NodeB

def noNodeB : NodeB := ⟨⟨#[]⟩, 0, 0, [], [], false⟩
/-- A record of a number alone. -/
def oneR (k g : Nat) : RecB := ⟨k, g, [], [], noNodeB⟩

/-- These cells are that record's; its rows lie in blocks from base on. -/
def RecC (w : World) (base : Nat) (r : RecB) (c : List Value) : Prop :=
  ∃ pv qv mv tv, c = [.int .i64 r.kind, .int .i64 r.gang, pv, qv, .string r.node.name, .int .i64 r.node.cpu, .int .i64 r.node.mem, mv, tv, .bool r.node.closed] ∧
    w.ownsRow base 3 1 pv r.peers.length (r.peers.map natV) ∧ w.ownsRow base 56 5 qv r.places.length (r.places.flatMap placeCells) ∧
    w.ownsRow base 9 1 mv r.node.marks.length (r.node.marks.map Value.string) ∧ w.ownsRow base 9 1 tv r.node.taints.length (r.node.taints.map Value.string)

theorem RecC.len {w : World} {base : Nat} {r : RecB} {c : List Value} (h : RecC w base r c) : c.length = 10 := by
  obtain ⟨_, _, _, _, rfl, _⟩ := h
  rfl
theorem RecC.later {w w' : World} {base : Nat} {r : RecB} {c : List Value} (h : RecC w base r c) (hb : Below w.heap.size w w') : RecC w' base r c := by
  obtain ⟨pv, qv, mv, tv, e, h1, h2, h3, h4⟩ := h
  exact ⟨pv, qv, mv, tv, e, own_later h1 hb, own_later h2 hb, own_later h3 hb, own_later h4 hb⟩
theorem RecC.low {w : World} {base base' : Nat} {r : RecB} {c : List Value} (h : RecC w base r c) (hb : base' ≤ base) : RecC w base' r c := by
  obtain ⟨pv, qv, mv, tv, e, h1, h2, h3, h4⟩ := h
  exact ⟨pv, qv, mv, tv, e, own_low h1 hb, own_low h2 hb, own_low h3 hb, own_low h4 hb⟩

/-- Rows of two types do not share a block. -/
theorem own_apart {w : World} {b1 b2 : Nat} {t1 t2 : TypeId} {z1 z2 : Nat} {v1 v2 : Value} {n1 n2 : Nat} {xs1 xs2 : List Value} (h1 : w.ownsRow b1 t1 z1 v1 n1 xs1) (h2 : w.ownsRow b2 t2 z2 v2 n2 xs2) (ht : t1 ≠ t2) : v1.ownBlock = none ∨ v1.ownBlock ≠ v2.ownBlock := by
  rcases h1.2 with ⟨rfl, _⟩ | ⟨g1, c1, u1, rfl, _, hh1, _⟩
  · exact .inl rfl
  · right
    rcases h2.2 with ⟨rfl, _⟩ | ⟨g2, c2, u2, rfl, _, hh2, _⟩
    · simp [Value.ownBlock]
    · intro e
      have : g1 = g2 := by simpa [Value.ownBlock] using e
      subst this
      rw [hh1] at hh2
      simp at hh2
      exact ht hh2.2

theorem RecC.grown {w w' : World} {base b : Nat} {r : RecB} {c : List Value} {v : Value} {n : Nat} {xs : List Value} (h : RecC w base r c) (ho : w.ownsRow b 35 10 v n xs) (hg : w.grownBy w' v.ownBlock) : RecC w' base r c := by
  obtain ⟨pv, qv, mv, tv, e, h1, h2, h3, h4⟩ := h
  exact ⟨pv, qv, mv, tv, e, h1.kept hg (own_apart h1 ho (by decide)), h2.kept hg (own_apart h2 ho (by decide)), h3.kept hg (own_apart h3 ho (by decide)), h4.kept hg (own_apart h4 ho (by decide))⟩

/-- A text that is read as this record. -/
def ParseOK (t : ByteArray) (r : RecB) : Prop :=
  ∀ W : World, Calls Tryd.prog 24 #[.string t] W fun e W' => ∃ x0 x1 x2 x3 x4 x5 x6 x7 x8 x9, e = .returned (.tuple #[.agg #[x0, x1, x2, x3, x4, x5, x6, x7, x8, x9], .int .i64 0]) ∧ RecC W' W.heap.size r [x0, x1, x2, x3, x4, x5, x6, x7, x8, x9] ∧ Below W.heap.size W W'

theorem oneR_C (w : World) (base k g : Nat) : RecC w base (oneR k g) [.int .i64 k, .int .i64 g, .slice none 0 0, .slice none 0 0, .string ⟨#[]⟩, .int .i64 0, .int .i64 0, .slice none 0 0, .slice none 0 0, .bool false] :=
  ⟨.slice none 0 0, .slice none 0 0, .slice none 0 0, .slice none 0 0, rfl, by simp [World.ownsRow, oneR], by simp [World.ownsRow, oneR], by simp [World.ownsRow, oneR, noNodeB], by simp [World.ownsRow, oneR, noNodeB]⟩

theorem parseOK_four (g : Nat) (h1 : 1 ≤ g) (h2 : g ≤ 999999) : ParseOK (bs (oneT 4 g)) (oneR 4 g) := fun W => (parse_one_four g W h1 h2).mono fun e W' h => ⟨_, _, _, _, _, _, _, _, _, _, h.1, oneR_C W' W.heap.size 4 g, h.2⟩
theorem parseOK_five (g : Nat) (h1 : 1 ≤ g) (h2 : g ≤ 999999) : ParseOK (bs (oneT 5 g)) (oneR 5 g) := fun W => (parse_one_five g W h1 h2).mono fun e W' h => ⟨_, _, _, _, _, _, _, _, _, _, h.1, oneR_C W' W.heap.size 5 g, h.2⟩
theorem parseOK_six (g : Nat) (h1 : 1 ≤ g) (h2 : g ≤ 999999) : ParseOK (bs (oneT 6 g)) (oneR 6 g) := fun W => (parse_one_six g W h1 h2).mono fun e W' h => ⟨_, _, _, _, _, _, _, _, _, _, h.1, oneR_C W' W.heap.size 6 g, h.2⟩

theorem infoRec : (Tryd.prog.info? 35).map (fun i => (i.zero, i.size, i.bytes)) = some (some (.agg #[.int .i64 0, .int .i64 0, .slice none 0 0, .slice none 0 0, .string ⟨#[]⟩, .int .i64 0, .int .i64 0, .slice none 0 0, .slice none 0 0, .bool false]), 10, 152) := by kernel_rfl
theorem mk_recs (n : Nat) (hn : n ≤ 1000000) (w : World) :
    ∃ cur : Array Value, cur.size = n * 10 ∧ (Instr.makeSlice 43 (.int .i64 0) (.int .i64 n)).run Tryd.prog w = .ok (.slice (some ⟨w.heap.size, 0, none⟩) 0 n) (w.alloc (.cells cur 35)) := by
  obtain ⟨i0, hi, hz0, hz1, hz2⟩ := info_parts infoRec
  have h := run_make (P := Tryd.prog) w 43 35 i0 _ Tryd.underlying43 hi hz0 .i64 .i64 0 n (by omega) (by omega) (by rw [hz2]; omega) (by omega)
  refine ⟨_, ?_, by simpa using h⟩
  rw [hz1]
  simp [madeCells, Value.cells]

/-- A row of lines. -/
def Ln (w : World) (a : Option Addr) (ss : List ByteArray) : Prop := ∀ i, i < ss.length → ∃ x, a = some x ∧ w.cell? (x.add i) = some (.string (ss.getD i ByteArray.empty))
theorem Ln.later {w w1 : World} {a : Option Addr} {ss : List ByteArray} (h : Ln w a ss) (hb : Below w.heap.size w w1) : Ln w1 a ss := fun i hi => by
  obtain ⟨x, hx, hc⟩ := h i hi
  exact ⟨x, hx, cell_below hb hc (block_lt hc)⟩
theorem Ln.of {w : World} {base n c : Nat} {a : Option Addr} {ss : List ByteArray} (h : w.ownsRow base 9 1 (.slice a n c) n (ss.map Value.string)) (hn : ss.length = n) : Ln w a ss := fun i hi => by
  rcases h.2 with ⟨h0, h1⟩ | ⟨g, cap, cur, h0, _⟩
  · omega
  · injection h0 with e1 e2 e3
    exact ⟨⟨g, 0, none⟩, e1, h.cells (g := g) (by rw [e1]; rfl) i _ (by simp [List.getD, List.getElem?_eq_getElem hi])⟩

theorem rec_cells (w : World) (x0 x1 x2 x3 x4 x5 x6 x7 x8 x9 : Value) (t : TypeId) : ∀ j z, [x0, x1, x2, x3, x4, x5, x6, x7, x8, x9][j]? = some z → (w.alloc (.cells #[x0, x1, x2, x3, x4, x5, x6, x7, x8, x9] t)).cell? ((⟨w.heap.size, 0, none⟩ : Addr).add j) = some z := by
  intro j z hj
  have := (Box.new w #[x0, x1, x2, x3, x4, x5, x6, x7, x8, x9] t rfl).cell (i := j) (v := z) (by simpa using hj)
  rcases j with _ | j
  · simpa [Addr.add] using this
  · simpa [Addr.add] using this

theorem RecC.one {w : World} {base : Nat} {r : RecB} {c : List Value} (h : RecC w base r c) : ∀ u ∈ c, u.oneCell' = true := by
  obtain ⟨pv, qv, mv, tv, rfl, h1, h2, h3, h4⟩ := h
  obtain ⟨a1, c1, rfl⟩ := slice_of_own h1
  obtain ⟨a2, c2, rfl⟩ := slice_of_own h2
  obtain ⟨a3, c3, rfl⟩ := slice_of_own h3
  obtain ⟨a4, c4, rfl⟩ := slice_of_own h4
  intro u hu
  simp at hu
  rcases hu with rfl | rfl | rfl | rfl | rfl | rfl | rfl | rfl | rfl | rfl <;> rfl

set_option maxRecDepth 100000 in
set_option maxHeartbeats 4000000 in
theorem all_any (w : World) (T : Nat) (v : Value) (A B : List ByteArray) (s : Bool) (rs : List RecB) (h : IsTape w T v (rowOf A B s)) (hn : rs.length = (A ++ B).length) (hp : ∀ i r, rs[i]? = some r → ParseOK ((A ++ B).getD i ByteArray.empty) r) :
    Calls Tryd.prog 14 #[.pointer (some ⟨T, 0, none⟩)] w fun e w' => ∃ a c, ∃ l : List (List Value), e = .returned (.slice a rs.length c) ∧ w'.ownsRow w.heap.size 35 10 (.slice a rs.length c) rs.length l.flatten ∧ l.length = rs.length ∧ (∀ (i : Nat) (r : RecB) (u : List Value), rs[i]? = some r → l[i]? = some u → RecC w' w.heap.size r u) ∧ Below w.heap.size w w' := by
  obtain ⟨a, c, rfl, hcs⟩ := h.cs
  have hlR := hcs.1
  obtain ⟨L, hL⟩ : ∃ L, A ++ B = L := ⟨_, rfl⟩
  have hlL : L.length ≤ 1000000 := by have := rowOf_len A B s; rw [← hL, List.length_append]; omega
  have hX := h.box
  generalize hR : rowOf A B s = R at *
  obtain ⟨cur, hcur, hmk⟩ := mk_recs R.length hlR w
  have hb1 : Below w.heap.size w (w.alloc (.cells cur 35)) := up (Below.refl _ _) _
  have kl := lines_any a c R _ (hcs.later hb1)
  have hlR2 : linesC R = L := by rw [← hR, lines_rowOf, hL]
  rw [hlR2] at kl
  rw [hL] at hn hp
  have hrow0 : (w.alloc (.cells cur 35)).ownsRow w.heap.size 35 10 (.slice (some ⟨w.heap.size, 0, none⟩) 0 R.length) 0 [] := World.ownsRow_made w cur R.length (Nat.le_refl _) (by unfold maxLen; omega) hcur
  have c0 : w.cell? ⟨T, 0, none⟩ = some (.slice a R.length c) := hX.cell rfl
  have c0a : (w.alloc (.cells cur 35)).cell? ⟨T, 0, none⟩ = some (.slice a R.length c) := cell_alloc c0 _
  simp only [World.size_alloc] at kl
  obtain ⟨len, hlen⟩ : ∃ len, L.length = len := ⟨_, rfl⟩
  rw [hlen] at kl hlL hn
  have hn' : Hid (rs.length = len) := hn
  have hlen' : Hid (L.length = len) := hlen
  clear hn hlen hlR2 hL hR h hcs
  go_enter Tryd.func14, Tryd.ntmps14
  go_wp2_with (go_at_call 22; refine kl.mono ?_; rintro e w1 ⟨v1, rfl, ho1, hb2⟩; obtain ⟨a1, c1, rfl⟩ := slice_of_own ho1)
  have hrow1 := own_later hrow0 (by simpa using hb2)
  have hbw1 : Below w.heap.size w w1 := hb1.trans (hb2.mono (by simp))
  obtain ⟨i0, hi, hz0, hz1, hz2⟩ := info_parts infoRec
  have ho1' := own_low ho1 (Nat.zero_le _)
  clear hmk kl hrow0 c0 c0a hb2 hb1 hX hcur ho1
  go_loopw [3, 20] (fun v i wr => ∃ (k : Nat) (l : List (List Value)), k ≤ len ∧ i = .int .i64 k ∧ Hid (l.length = k) ∧ wr.ownsRow w.heap.size 35 10 v k l.flatten ∧ Hid (∀ (i : Nat) (r : RecB) (u : List Value), rs[i]? = some r → l[i]? = some u → RecC wr w.heap.size r u) ∧ wr.ownsRow 0 9 1 (.slice a1 len c1) len (L.map Value.string) ∧ Below w.heap.size w wr) (fun _ i _ => len - (intOf i).toNat)
  case atStart => exact ⟨0, [], Nat.zero_le _, rfl, rfl, hrow1, (by show ∀ _ _ _, _; intro i r u _ hu; simp at hu), ho1', hbw1⟩
  case round =>
    obtain ⟨k, l, hk, rfl, hlk, hrow, hrc, hlo, hbw⟩ := hrel
    clear hrow1 ho1' hbw1
    by_cases hlt : k < len
    · obtain ⟨x, rfl, hc⟩ := Ln.of hlo hlen'.out k (by rw [hlen'.out]; exact hlt)
      obtain ⟨t, ht⟩ : ∃ t, L.getD k ByteArray.empty = t := ⟨_, rfl⟩
      rw [ht] at hc
      obtain ⟨r, hr⟩ : ∃ r, rs[k]? = some r := ⟨_, List.getElem?_eq_getElem (by rw [hn'.out]; exact hlt)⟩
      have kp := hp k r hr wr
      rw [ht] at kp
      have hsz : w.heap.size ≤ wr.heap.size := hbw.size
      have hr' : Hid (rs[k]? = some r) := hr
      clear ht hr
      obtain ⟨kd, gg, ps, qs, nm, cpu, mem, ms, ts, cl⟩ := r
      go_upto_region 6 with (go_at_call 24; refine kp.mono ?_
                             rintro e w2 ⟨x0, x1, x2, x3, x4, x5, x6, x7, x8, x9, rfl, ⟨pv, qv, mv, tv, he, h1, h2, h3, h4⟩, hb2⟩
                             simp only [List.cons.injEq, and_true] at he
                             obtain ⟨rfl, rfl, rfl, rfl, rfl, rfl, rfl, rfl, rfl, rfl⟩ := he
                             obtain ⟨b1, d1, rfl⟩ := slice_of_own h1
                             obtain ⟨b2, d2, rfl⟩ := slice_of_own h2
                             obtain ⟨b3, d3, rfl⟩ := slice_of_own h3
                             obtain ⟨b4, d4, rfl⟩ := slice_of_own h4)
      have hC2 : RecC w2 w.heap.size ⟨kd, gg, ps, qs, nm, cpu, mem, ms, ts, cl⟩ [.int .i64 kd, .int .i64 gg, .slice b1 ps.length d1, .slice b2 qs.length d2, .string nm, .int .i64 cpu, .int .i64 mem, .slice b3 ms.length d3, .slice b4 ts.length d4, .bool cl] := RecC.low ⟨_, _, _, _, rfl, h1, h2, h3, h4⟩ hsz
      have hbW : Below wr.heap.size wr (w2.alloc (.cells #[.int .i64 kd, .int .i64 gg, .slice b1 ps.length d1, .slice b2 qs.length d2, .string nm, .int .i64 cpu, .int .i64 mem, .slice b3 ms.length d3, .slice b4 ts.length d4, .bool cl] 35)) := up hb2 _
      have hCW := hC2.later (up (Below.refl w2.heap.size w2) (.cells #[.int .i64 kd, .int .i64 gg, .slice b1 ps.length d1, .slice b2 qs.length d2, .string nm, .int .i64 cpu, .int .i64 mem, .slice b3 ms.length d3, .slice b4 ts.length d4, .bool cl] 35))
      have hrowW := own_later hrow hbW
      have hloW := own_later hlo hbW
      have hbwW := fin hbW hbw
      have q := Box.new w2 #[.int .i64 kd, .int .i64 gg, .slice b1 ps.length d1, .slice b2 qs.length d2, .string nm, .int .i64 cpu, .int .i64 mem, .slice b3 ms.length d3, .slice b4 ts.length d4, .bool cl] 35 rfl
      generalize w2.alloc (.cells #[.int .i64 kd, .int .i64 gg, .slice b1 ps.length d1, .slice b2 qs.length d2, .string nm, .int .i64 cpu, .int .i64 mem, .slice b3 ms.length d3, .slice b4 ts.length d4, .bool cl] 35) = W at *
      obtain ⟨y0, y1, y2, y3, y4, y5, y6, y7, y8, y9⟩ := RecBox.cells q
      have hszW : w.heap.size ≤ W.heap.size := hbwW.size
      have hone := hCW.one
      clear kp h1 h2 h3 h4 hb2 hC2 hc
      go_wp2_with (first
        | (at_builtin; refine wpList_append_own _ rfl _ _ 43 rfl w.heap.size 35 i0 _ 10 152 Tryd.underlying43 hi hz0 hz1 hz2 rfl (by decide) _ _ _ rfl (hrowW.alloc _) ⟨_, 0, none⟩ 1 1 [.int .i64 kd, .int .i64 gg, .slice b1 ps.length d1, .slice b2 qs.length d2, .string nm, .int .i64 cpu, .int .i64 mem, .slice b3 ms.length d3, .slice b4 ts.length d4, .bool cl] rfl rfl (rec_cells _ _ _ _ _ _ _ _ _ _ _ _) hone (by unfold maxLen; omega) (by omega) (by simp; omega) ?_
           intro v4 w4 ho4 hg4 hnil))
      go_roundw
      case rel =>
        refine ⟨k + 1, l ++ [[.int .i64 kd, .int .i64 gg, .slice b1 ps.length d1, .slice b2 qs.length d2, .string nm, .int .i64 cpu, .int .i64 mem, .slice b3 ms.length d3, .slice b4 ts.length d4, .bool cl]], hlt, by go_num, (by show _ = _; rw [List.length_append, hlk.out]; rfl), by simpa using ho4, ?_, ((hloW.alloc _).kept hg4 (own_apart hloW hrowW (by decide))), (hbwW.alloc hszW _).grown hg4 (by simp; omega) (fun j hj => (hrowW.lt j hj).1)⟩
        show ∀ (i : Nat) (r : RecB) (u : List Value), _
        intro i r u hri hui
        have hgr : ∀ {r : RecB} {u : List Value}, RecC W w.heap.size r u → RecC w4 w.heap.size r u := fun h => (h.later (up (Below.refl W.heap.size W) _)).grown (hrowW.alloc _) hg4
        by_cases hik : i < k
        · rw [List.getElem?_append_left (by rw [hlk.out]; exact hik)] at hui
          exact hgr ((hrc.out i r u hri hui).later hbW)
        · have : i = k := by
            have := (List.getElem?_eq_some_iff.1 hui).1
            rw [List.length_append, hlk.out] at this
            simp at this
            omega
          subst this
          rw [List.getElem?_append_right (by rw [hlk.out]; omega), hlk.out] at hui
          simp at hui
          subst hui
          have e := hr'.out
          rw [hri] at e
          injection e with e
          subst e
          exact hgr hCW
      case measure => simp [intOf]; omega
    · have e1 : k = len := by omega
      subst e1
      obtain ⟨ar, cr, rfl⟩ := slice_of_own hrow
      go_wp2
      go_ret
      exact ⟨ar, cr, l, by rw [hn'.out]; rfl, by rw [hn'.out]; exact hrow, by rw [hlk.out, hn'.out], hrc.out, hbw⟩

end Go.Proofs.YtmldpihjndafaabDoor
