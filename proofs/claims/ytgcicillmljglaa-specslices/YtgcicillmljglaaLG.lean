/- The contract of the statements' own Gang: one that may be. -/
import Derived.Test.YtgcicillmljglaaLP
import Derived.Test.YtgcicillmljglaaRU
import Derived.Maps.AppendAt
namespace Go.Proofs.Ytgcicillmljglaa
open Go.RowKit Go.Maps
set_option linter.unusedSimpArgs false
set_option linter.unusedVariables false

section
variable {P : Program} {o : Oper} {a : Act} {w w2 : World} {K : Value → World → Prop}
theorem okAt_val {v : Value} (hrun : (execOp a.eval o).run P w = .ok (.value v) w2) (h : K v w2) : okAt P o a w K := by
  unfold okAt
  rw [hrun]
  exact h
theorem okAt_skip (hrun : (execOp a.eval o).run P w = .ok .skip w2) (h : K undef w2) : okAt P o a w K := by
  unfold okAt
  rw [hrun]
  exact h
theorem okAt_append (s x : Operand) (t : TypeId) (ho : o.op = .call { callee := .builtin .append, args := #[s, x], argTypes := #[t, t] })
    (base : Nat) (e : TypeId) (i : TypeInfo) (z : Value) (size bytes : Nat) (ht : P.underlying t = some (.slice e)) (hi : P.info? e = some i) (hz : i.zero = some z)
    (hsize : i.size = size) (hby : i.bytes = bytes) (hzs : z.cells.size = size) (hsz : 0 < size)
    (v : Value) (n : Nat) (xs : List Value) (hs : a.eval s = v) (hown : w.ownsRow base e size v n xs)
    (ad : Addr) (m c : Nat) (news : List Value) (hx : a.eval x = .slice (some ad) m c) (hl : news.length = m * size) (hnews : ∀ j u, news[j]? = some u → w.cell? (ad.add j) = some u) (h1 : ∀ u ∈ news, u.oneCell' = true)
    (h63 : n + m ≤ maxLen) (hbytes : (n + m) * bytes ≤ 140737488355328) (hbase : base ≤ w.heap.size)
    (h : ∀ v' w', w'.ownsRow base e size v' (n + m) (xs ++ news) → w.grownBy w' v.ownBlock → (v'.ownBlock = v.ownBlock ∨ v'.ownBlock = some w.heap.size) → K v' w') : okAt P o a w K := by
  obtain ⟨v', w', hr, h2, h3, h4, h5⟩ := run_append_own_at (P := P) w base t o.type e i z size bytes ht hi hz hsize hby hzs hsz v n xs hown ad m c news hl hnews h1 h63 hbytes hbase
  unfold okAt execOp
  simp only [ho, resolve, invoke, builtin, Sem.run_bind, Sem.run_pure, Result.andThen_ok, List.map_toArray, List.map_cons, List.map_nil, hs, hx, hr, okUpon]
  exact h v' w' h2 h3 h5
end

theorem cfPod (args : Array Value) (w : World) : (callFunc 12 args).run Try.prog w = .ok (.enter 12 args) w := by kernel_rfl

abbrev PodD := ByteArray × Int × Int × Int × List ByteArray × List ByteArray × Bool
/-- The pod of a number, at a place. -/
def podOf (sh : Int) (k : Nat) (n : Int) : PodD := (podName k, 1 + n % sh, wrap64 (n.tdiv 4) % 5, wrap64 (n.tdiv 20) % 5, podPicks n, podBears n, wrap64 (n.tdiv 13) % 6 == 0)
/-- The first k of them. -/
def podsTo (sh : Int) (zs : List Int) : Nat → List PodD
  | 0 => []
  | k + 1 => podsTo sh zs k ++ [podOf sh k (zs.getD k 0)]
/-- The pods of the gang that the statements make. -/
def gangOf (id sh : Int) (zs : List Int) (len : Nat) : List PodD := if len = 0 then [podOf sh 0 id] else podsTo sh zs (min 8 len)
theorem podsTo_len (sh : Int) (zs : List Int) : ∀ k, (podsTo sh zs k).length = k
  | 0 => rfl
  | k + 1 => by simp [podsTo, podsTo_len sh zs k]

/-- A row of pods of the call's own. -/
structure OwnPods (B : Nat) (w : World) (v : Value) (l : List PodT) : Prop where
  row : w.ownsRow B 26 7 v l.length (flat l)
  new : ∀ p ∈ l, p.New B w
  off : ∀ p ∈ l, p.Off v.ownBlock

section
variable {B : Nat} {w w' : World} {v : Value} {l : List PodT}
theorem OwnPods.nil (B : Nat) (w : World) : OwnPods B w (.slice none 0 0) [] := ⟨World.ownsRow_nil _ _ _ _, by simp, by simp⟩
theorem OwnPods.later (h : OwnPods B w v l) (hb : Below w.heap.size w w') : OwnPods B w' v l := ⟨own_keep h.row hb, fun p hp => (h.new p hp).later hb, h.off⟩
theorem OwnPods.grown {q : Option Nat} (h : OwnPods B w v l) (hg : w.grownBy w' q) (h1 : v.ownBlock = none ∨ v.ownBlock ≠ q) (h2 : ∀ p ∈ l, p.Off q) : OwnPods B w' v l :=
  ⟨h.row.kept hg h1, fun p hp => (h.new p hp).grown hg (h2 p hp), h.off⟩
theorem OwnPods.low {B' : Nat} (h : OwnPods B w v l) (hB : B' ≤ B) : OwnPods B' w v l := by
  refine ⟨⟨h.row.1, ?_⟩, fun p hp => ⟨(h.new p hp).1.low hB, (h.new p hp).2.low hB⟩, h.off⟩
  rcases h.row.2 with h1 | ⟨g, cap, cur, h1, h2, h3⟩
  · exact .inl h1
  · exact .inr ⟨g, cap, cur, h1, by omega, h3⟩
/-- A block below the base is no part of it. -/
theorem OwnPods.offLow (h : OwnPods B w v l) {b : Nat} (hb : b < B) : v.ownBlock ≠ some b ∧ ∀ p ∈ l, p.Off (some b) :=
  ⟨fun e => by have := (h.row.lt b e).1; omega, fun p hp => ⟨fun x hx e => by have := ((h.new p hp).1.2.1 x hx).1; cases e; omega, fun x hx e => by have := ((h.new p hp).2.2.1 x hx).1; cases e; omega⟩⟩
theorem OwnPods.pods (h : OwnPods B w v l) (hl : l.length ≤ 1000) : ∃ a cap, v = .slice a l.length cap ∧ l.length ≤ cap ∧ Pods w a l := by
  obtain ⟨a, cap, h1, _, h2, h3, _⟩ := pods_of_own h.row (fun p hp => (h.new p hp).ok) hl
  exact ⟨a, cap, h1, h2, h3⟩
/-- One more, of rows that are newer than the row. -/
theorem OwnPods.more {w1 : World} {v' : Value} {p : PodT} (h : OwnPods B w v l) (hN : p.New B w) (hoff : p.Off v.ownBlock)
    (hown : w1.ownsRow B 26 7 v' (l.length + 1) (flat l ++ p.cells)) (hg : w.grownBy w1 v.ownBlock) (hat : v'.ownBlock = v.ownBlock ∨ v'.ownBlock = some w.heap.size) : OwnPods B w1 v' (l ++ [p]) := by
  have hall : ∀ r ∈ l ++ [p], r.New B w ∧ r.Off v.ownBlock := fun r hr => by
    rcases List.mem_append.1 hr with hr | hr
    · exact ⟨h.new r hr, h.off r hr⟩
    · simp only [List.mem_singleton] at hr
      subst hr
      exact ⟨hN, hoff⟩
  refine ⟨?_, fun r hr => (hall r hr).1.grown hg (hall r hr).2, fun r hr => ?_⟩
  · rw [flat_append, flat_one]
    simpa using hown
  · rcases hat with e | e
    · rw [e]; exact (hall r hr).2
    · rw [e]; exact off_new (hall r hr).1 (Nat.le_refl _)
end

/-- A block's cells. -/
def NewCells (w : World) (D : Nat) (l : List Value) : Prop := ∀ j y, l[j]? = some y → w.cell? ((⟨D, 0, none⟩ : Addr).add j) = some y
theorem NewCells.later {w w' : World} {D : Nat} {l : List Value} (h : NewCells w D l) (hb : Below w.heap.size w w') : NewCells w' D l := fun j y hj => cell_below hb (h j y hj) (block_lt (h j y hj))
def gangF (N G m len cap : Nat) (x : Addr) (z sh : Int) (v : Value) : Nat → Value → World → Prop
  | 0, u, _ => u = .pointer (some ⟨G, 1, none⟩)
  | 1, u, _ => u = v
  | 2, u, _ => u = .int .i64 m
  | 3, u, _ => u = .slice (some x) len cap
  | 4, u, _ => u = .int .i64 m
  | 5, u, _ => u = .pointer (some (x.add m))
  | 6, u, _ => u = .int .i64 z
  | 7, u, _ => u = .int .i64 sh
  | 8, u, w => ∃ p1 q1 p2 q2, u = .agg #[.string (podName m), .int .i64 (1 + z % sh), .int .i64 (wrap64 (z.tdiv 4) % 5), .int .i64 (wrap64 (z.tdiv 20) % 5), .slice p1 (podPicks z).length q1, .slice p2 (podBears z).length q2, .bool (wrap64 (z.tdiv 13) % 6 == 0)] ∧ (GoodSet N w p1 q1 (podPicks z) ∧ GoodSet N w p2 q2 (podBears z))
  | 9, u, w => ∃ p1 q1 p2 q2 D, u = .slice (some ⟨D, 0, none⟩) 1 1 ∧ (GoodSet N w p1 q1 (podPicks z) ∧ GoodSet N w p2 q2 (podBears z)) ∧ NewCells w D [.string (podName m), .int .i64 (1 + z % sh), .int .i64 (wrap64 (z.tdiv 4) % 5), .int .i64 (wrap64 (z.tdiv 20) % 5), .slice p1 (podPicks z).length q1, .slice p2 (podBears z).length q2, .bool (wrap64 (z.tdiv 13) % 6 == 0)]
  | _, _, _ => True

def gangG (N G : Nat) (z sh : Int) (v : Value) : Nat → Value → World → Prop
  | 0, u, _ => u = .pointer (some ⟨G, 1, none⟩)
  | 1, u, _ => u = v
  | 2, u, _ => u = .int .i64 z
  | 3, u, _ => u = .int .i64 sh
  | 4, u, w => ∃ p1 q1 p2 q2, u = .agg #[.string (podName 0), .int .i64 (1 + z % sh), .int .i64 (wrap64 (z.tdiv 4) % 5), .int .i64 (wrap64 (z.tdiv 20) % 5), .slice p1 (podPicks z).length q1, .slice p2 (podBears z).length q2, .bool (wrap64 (z.tdiv 13) % 6 == 0)] ∧ (GoodSet N w p1 q1 (podPicks z) ∧ GoodSet N w p2 q2 (podBears z))
  | 5, u, w => ∃ p1 q1 p2 q2 D, u = .slice (some ⟨D, 0, none⟩) 1 1 ∧ (GoodSet N w p1 q1 (podPicks z) ∧ GoodSet N w p2 q2 (podBears z)) ∧ NewCells w D [.string (podName 0), .int .i64 (1 + z % sh), .int .i64 (wrap64 (z.tdiv 4) % 5), .int .i64 (wrap64 (z.tdiv 20) % 5), .slice p1 (podPicks z).length q1, .slice p2 (podBears z).length q2, .bool (wrap64 (z.tdiv 13) % 6 == 0)]
  | _, _, _ => True

set_option maxRecDepth 100000 in
set_option maxHeartbeats 8000000 in
theorem lGang_is (id sh : Int) (a : Option Addr) (len cap : Nat) (zs : List Int) (w : World) (h0 : 0 < sh) (h4 : sh ≤ 4) (hrow : HasRow w a len zs) :
    Calls Try.prog 22 #[.int .i64 id, .slice a len cap, .int .i64 sh] w fun e w' => ∃ v l, e = .returned (.agg #[.int .i64 (1 + id % 999999), v]) ∧ OwnPods w.heap.size w' v l ∧ l.map PodT.data = gangOf id sh zs len ∧ Below w.heap.size w w' := by
  obtain ⟨i0, hi, hz0, hz1, hz2⟩ := info_parts infoPod
  have l0 : len ≤ 9223372036854775807 := hrow.1
  obtain ⟨q, hq⟩ : ∃ q, id % 999999 = q := ⟨_, rfl⟩
  have hqb : 0 ≤ q ∧ q < 999999 := by omega
  have kq := fun W => within_any id 999999 q (by decide) (by decide) hq W
  rw [hq]
  obtain ⟨D, hD⟩ : ∃ D, gangOf id sh zs len = D := ⟨_, rfl⟩
  rw [hD]
  clear hq
  go_enter Try.func22, Try.ntmps22
  go_wp2_with (first
    | (go_at_call 11; refine (kq _).mono ?_; rintro e w1 ⟨rfl, rfl⟩))
  go_loopw [8] (fun i wr => ∃ m : Nat, m ≤ min 8 len ∧ i = .int .i64 m ∧ ∃ v l, GBox wr (w.heap.size + 1) (1 + q) v ∧ GBox wr w.heap.size 0 (.slice none 0 0) ∧ OwnPods (w.heap.size + 2) wr v l ∧ l.map PodT.data = podsTo sh zs m ∧ Below w.heap.size w wr) (fun i _ => 8 - (intOf i).toNat)
  case atStart => exact ⟨0, by omega, rfl, _, [], by simpa using GBox.new (w.alloc (.cells #[.int .i64 0, .slice none 0 0] 47)) (1 + q) (.slice none 0 0), (GBox.new w 0 (.slice none 0 0)).later (up (Below.refl _ _) _), OwnPods.nil _ _, rfl, up (up (Below.refl _ _) _) _⟩
  case round =>
    obtain ⟨m, hm, rfl, v, l, hG, hr, hP, hd, hbw⟩ := hrel
    have hlen : l.length = m := by have := congrArg List.length hd; rw [podsTo_len] at this; simpa using this
    have hGlt := hG.lt
    by_cases hlt : m < 8 ∧ m < len
    · obtain ⟨hm8, hml⟩ := hlt
      obtain ⟨x, rfl, hcz⟩ := (hrow.later hbw).2 m hml
      obtain ⟨z, hz⟩ : ∃ z, zs.getD m 0 = z := ⟨_, rfl⟩
      rw [hz] at hcz
      go_wp2
      obtain ⟨G, hGe⟩ : ∃ G, w.heap.size + 1 = G := ⟨_, rfl⟩
      rw [hGe] at hG hGlt ⊢
      have hWs : w.heap.size + 2 ≤ wr.heap.size := by omega
      refine wp_region_rely_upto 10 3 (fun w1 => Below wr.heap.size wr w1) (fun w1 w2 => Below w1.heap.size w1 w2) (gangF wr.heap.size G m len cap x z sh v) (by kernel_rfl) (by kernel_rfl) (by kernel_rfl) (Below.refl _ _).drew ?keep ?step ?rest
      case keep =>
        intro i v w1 w2 hS hF
        unfold gangF at *
        split at hF <;> try exact hF
        · obtain ⟨p1, q1, p2, q2, hv, h1, h2⟩ := hF
          exact ⟨p1, q1, p2, q2, hv, h1.later hS, h2.later hS⟩
        · obtain ⟨p1, q1, p2, q2, D, hv, ⟨h1, h2⟩, h3⟩ := hF
          exact ⟨p1, q1, p2, q2, D, hv, ⟨h1.later hS, h2.later hS⟩, h3.later hS⟩
      case step =>
        intro i o d hi ho hd b w1 hR hold hdep
        have o0 : sl b 0 = .int .i64 id := hold 0 (by kernel_rfl)
        have o1 : sl b 1 = .slice (some x) len cap := hold 1 (by kernel_rfl)
        have o2 : sl b 2 = .int .i64 sh := hold 2 (by kernel_rfl)
        have o6 : sl b 6 = .pointer (some ⟨w.heap.size, 0, none⟩) := hold 6 (by kernel_rfl)
        have o7 : sl b 7 = .pointer (some ⟨G, 0, none⟩) := hold 7 (by kernel_rfl)
        have o8 : sl b 8 = .int .i64 m := hold 8 (by kernel_rfl)
        have hb0 := Below.refl w1.heap.size w1
        have c1 := (hG.later hR).cell1
        have cz := cell_below hR hcz (block_lt hcz)
        have hlt2 : (m : Int) < len := by omega
        rcases i with _ | _ | _ | _ | _ | _ | _ | _ | _ | _ | i
        all_goals try (cases ho; cases hd)
        · exact ok_val' rfl rfl (want_none rfl b) (by simp [go_sem, o7]) hR hb0 rfl
        · have f23 : sl b 23 = .pointer (some ⟨G, 1, none⟩) := hdep 0 _ _ rfl rfl (by kernel_rfl)
          exact ok_val' rfl rfl (want_none rfl b) (by simp [go_sem, f23, c1]) hR hb0 rfl
        · exact ok_val' rfl rfl (want_none rfl b) (by simp [go_sem, o8]) hR hb0 rfl
        · exact ok_val' rfl rfl (want_none rfl b) (by simp [go_sem, o1]) hR hb0 rfl
        · exact ok_val' rfl rfl (want_none rfl b) (by simp [go_sem, o8]) hR hb0 rfl
        · have f26 : sl b 26 = .slice (some x) len cap := hdep 3 _ _ rfl rfl (by kernel_rfl)
          have f27 : sl b 27 = .int .i64 m := hdep 4 _ _ rfl rfl (by kernel_rfl)
          exact ok_val' rfl rfl (want_none rfl b) (by simp [go_sem, f26, f27, hlt2]) hR hb0 rfl
        · have f28 : sl b 28 = .pointer (some (x.add m)) := hdep 5 _ _ rfl rfl (by kernel_rfl)
          exact ok_val' rfl rfl (want_none rfl b) (by simp [go_sem, f28, cz]) hR hb0 rfl
        · exact ok_val' rfl rfl (want_none rfl b) (by simp [go_sem, o2]) hR hb0 rfl
        · have f25 : sl b 25 = .int .i64 m := hdep 2 _ _ rfl rfl (by kernel_rfl)
          have f29 : sl b 29 = .int .i64 z := hdep 6 _ _ rfl rfl (by kernel_rfl)
          have f30 : sl b 30 = .int .i64 sh := hdep 7 _ _ rfl rfl (by kernel_rfl)
          refine ok_enter' rfl rfl (want_none rfl b) ?_ ((lPod_is m z sh w1 hm8 h0 h4).mono ?_)
          · simp [go_sem, f25, f29, f30, cfPod]
          rintro e w2 ⟨p1, q1, p2, q2, rfl, g1, g2, hb2⟩
          exact ⟨_, rfl, hR.trans (hb2.mono hR.size), hb2, p1, q1, p2, q2, rfl, g1.low hR.size, g2.low hR.size⟩
        · obtain ⟨p18, q18, p28, q28, f31, g31⟩ : ∃ p1 q1 p2 q2, sl b 31 = .agg #[.string (podName m), .int .i64 (1 + z % sh), .int .i64 (wrap64 (z.tdiv 4) % 5), .int .i64 (wrap64 (z.tdiv 20) % 5), .slice p1 (podPicks z).length q1, .slice p2 (podBears z).length q2, .bool (wrap64 (z.tdiv 13) % 6 == 0)] ∧ (GoodSet wr.heap.size w1 p1 q1 (podPicks z) ∧ GoodSet wr.heap.size w1 p2 q2 (podBears z)) := hdep 8 _ _ rfl rfl (by kernel_rfl)
          exact ok_val' rfl rfl (want_none rfl b) (by simp [go_sem, f31] <;> first | rfl | exact ⟨rfl, rfl⟩) (hR.alloc hR.size _) (hb0.alloc (Nat.le_refl _) _) ⟨p18, q18, p28, q28, _, rfl, ⟨g31.1.later (hb0.alloc (Nat.le_refl _) _), g31.2.later (hb0.alloc (Nat.le_refl _) _)⟩, cells_new _ _ _ _ rfl⟩
        · omega
      case rest =>
        intro b w1 hR hsz hdf hold hF
        have f0 : sl b 0 = .int .i64 id := hold 0 (by kernel_rfl)
        have f1 : sl b 1 = .slice (some x) len cap := hold 1 (by kernel_rfl)
        have f2 : sl b 2 = .int .i64 sh := hold 2 (by kernel_rfl)
        have f6 : sl b 6 = .pointer (some ⟨w.heap.size, 0, none⟩) := hold 6 (by kernel_rfl)
        have f7 : sl b 7 = .pointer (some ⟨G, 0, none⟩) := hold 7 (by kernel_rfl)
        have f8 : sl b 8 = .int .i64 m := hold 8 (by kernel_rfl)
        obtain ⟨p19, q19, p29, q29, D9, f32, g32⟩ : ∃ p1 q1 p2 q2 D, sl b 32 = .slice (some ⟨D, 0, none⟩) 1 1 ∧ (GoodSet wr.heap.size w1 p1 q1 (podPicks z) ∧ GoodSet wr.heap.size w1 p2 q2 (podBears z)) ∧ NewCells w1 D [.string (podName m), .int .i64 (1 + z % sh), .int .i64 (wrap64 (z.tdiv 4) % 5), .int .i64 (wrap64 (z.tdiv 20) % 5), .slice p1 (podPicks z).length q1, .slice p2 (podBears z).length q2, .bool (wrap64 (z.tdiv 13) % 6 == 0)] := hF 9 _ _ (by decide) rfl rfl
        have f24 : sl b 24 = v := hF 1 _ _ (by decide) rfl rfl
        obtain ⟨gs1, gs2⟩ := g32.1
        have gc := g32.2
        have hsz' : b.tmps.size = 48 := hsz
        refine wpK_one 10 _ (by kernel_rfl) rfl (want_none rfl b) ?_
        have hP1 := hP.later hR
        have hpn : PodT.New (w.heap.size + 2) w1 ⟨podName m, 1 + z % sh, wrap64 (z.tdiv 4) % 5, wrap64 (z.tdiv 20) % 5, p19, q19, podPicks z, p29, q29, podBears z, wrap64 (z.tdiv 13) % 6 == 0⟩ := ⟨gs1.new.low hWs, gs2.new.low hWs⟩
        have hpo : PodT.Off v.ownBlock ⟨podName m, 1 + z % sh, wrap64 (z.tdiv 4) % 5, wrap64 (z.tdiv 20) % 5, p19, q19, podPicks z, p29, q29, podBears z, wrap64 (z.tdiv 13) % 6 == 0⟩ := ⟨fun x hx e => by have := (gs1.new.2.1 x hx).1; have := (hP.row.lt _ e.symm).2; omega, fun x hx e => by have := (gs2.new.2.1 x hx).1; have := (hP.row.lt _ e.symm).2; omega⟩
        refine okAt_append (.tmp 24) (.tmp 32) 45 rfl (w.heap.size + 2) 26 i0 _ 7 96 Try.underlying45 hi hz0 hz1 hz2 rfl (by decide) v l.length (flat l) (by simpa [go_sem] using f24) hP1.row ⟨D9, 0, none⟩ 1 1 _ (by simpa [go_sem] using f32) rfl gc (by intro u hu; simp only [List.mem_cons, List.not_mem_nil, or_false] at hu; rcases hu with rfl | rfl | rfl | rfl | rfl | rfl | rfl <;> rfl) (by unfold maxLen; omega) (by omega) (by have := hR.size; omega) ?_
        intro v' w2 hown' hgrow hat
        have hP2 := hP1.more hpn hpo hown' hgrow hat
        have hneG : some G ≠ v.ownBlock := fun e => hP.offLow (b := G) (by omega) |>.1 e.symm
        have hneR : some w.heap.size ≠ v.ownBlock := fun e => hP.offLow (b := w.heap.size) (by omega) |>.1 e.symm
        have hG2 := (hG.later hR).grown hgrow hneG
        have hr2 := (hr.later hR).grown hgrow hneR
        have cG := hG2.cell1
        have fG := hG2.frozen1 1
        have hB2 : Below w.heap.size w w2 := (hbw.trans (hR.mono hbw.size)).grown hgrow (hbw.trans (hR.mono hbw.size)).size (fun j hj => by have := (hP.row.lt j hj).1; omega)
        refine ⟨trivial, wpK_one 11 _ (by kernel_rfl) rfl (want_none rfl _) ?_⟩
        refine okAt_val (w2 := w2) (v := .pointer (some ⟨G, 1, none⟩)) (by simp [go_sem, f7]) ?_
        refine ⟨trivial, wpK_one 12 _ (by kernel_rfl) rfl (want_none rfl _) ?_⟩
        refine okAt_skip (w2 := w2.setCell ⟨G, 1, none⟩ v') (by
          rcases hown'.2 with ⟨e, _⟩ | ⟨_, _, _, e, _⟩ <;> subst e <;> simp [go_sem, hsz', cG, fG]) ?_
        refine ⟨trivial, wpK_end (by kernel_rfl) ?_⟩
        generalize hb9 : Act.put (Act.put (Act.put b _ _) _ _) _ _ = b9
        have hb8 : (b.put (some 33) v').put (some 34) (.pointer (some ⟨G, 1, none⟩)) = b9 := hb9
        have e0 := sl_ne hb8.symm (by decide) (sl_ne rfl (by decide) (hold 0 (by kernel_rfl)))
        have e1 := sl_ne hb8.symm (by decide) (sl_ne rfl (by decide) (hold 1 (by kernel_rfl)))
        have e2 := sl_ne hb8.symm (by decide) (sl_ne rfl (by decide) (hold 2 (by kernel_rfl)))
        have e3 := sl_ne hb8.symm (by decide) (sl_ne rfl (by decide) (hold 3 (by kernel_rfl)))
        have e4 := sl_ne hb8.symm (by decide) (sl_ne rfl (by decide) (hold 4 (by kernel_rfl)))
        have e5 := sl_ne hb8.symm (by decide) (sl_ne rfl (by decide) (hold 5 (by kernel_rfl)))
        have e6 := sl_ne hb8.symm (by decide) (sl_ne rfl (by decide) (hold 6 (by kernel_rfl)))
        have e7 := sl_ne hb8.symm (by decide) (sl_ne rfl (by decide) (hold 7 (by kernel_rfl)))
        have e8 := sl_ne hb8.symm (by decide) (sl_ne rfl (by decide) (hold 8 (by kernel_rfl)))
        have e9 := sl_ne hb8.symm (by decide) (sl_ne rfl (by decide) (hold 9 (by kernel_rfl)))
        have e10 := sl_ne hb8.symm (by decide) (sl_ne rfl (by decide) (hold 10 (by kernel_rfl)))
        have e11 := sl_ne hb8.symm (by decide) (sl_ne rfl (by decide) (hold 11 (by kernel_rfl)))
        have e12 := sl_ne hb8.symm (by decide) (sl_ne rfl (by decide) (hold 12 (by kernel_rfl)))
        have e13 := sl_ne hb8.symm (by decide) (sl_ne rfl (by decide) (hold 13 (by kernel_rfl)))
        have e14 := sl_ne hb8.symm (by decide) (sl_ne rfl (by decide) (hold 14 (by kernel_rfl)))
        have e15 := sl_ne hb8.symm (by decide) (sl_ne rfl (by decide) (hold 15 (by kernel_rfl)))
        have e16 := sl_ne hb8.symm (by decide) (sl_ne rfl (by decide) (hold 16 (by kernel_rfl)))
        have e17 := sl_ne hb8.symm (by decide) (sl_ne rfl (by decide) (hold 17 (by kernel_rfl)))
        have e18 := sl_ne hb8.symm (by decide) (sl_ne rfl (by decide) (hold 18 (by kernel_rfl)))
        have e19 := sl_ne hb8.symm (by decide) (sl_ne rfl (by decide) (hold 19 (by kernel_rfl)))
        have e20 := sl_ne hb8.symm (by decide) (sl_ne rfl (by decide) (hold 20 (by kernel_rfl)))
        have e21 := sl_ne hb8.symm (by decide) (sl_ne rfl (by decide) (hold 21 (by kernel_rfl)))
        have e22 := sl_ne hb8.symm (by decide) (sl_ne rfl (by decide) (hold 22 (by kernel_rfl)))
        have e35 := sl_ne hb8.symm (by decide) (sl_ne rfl (by decide) (hold 35 (by kernel_rfl)))
        have e36 := sl_ne hb8.symm (by decide) (sl_ne rfl (by decide) (hold 36 (by kernel_rfl)))
        have e37 := sl_ne hb8.symm (by decide) (sl_ne rfl (by decide) (hold 37 (by kernel_rfl)))
        have e38 := sl_ne hb8.symm (by decide) (sl_ne rfl (by decide) (hold 38 (by kernel_rfl)))
        have e39 := sl_ne hb8.symm (by decide) (sl_ne rfl (by decide) (hold 39 (by kernel_rfl)))
        have e40 := sl_ne hb8.symm (by decide) (sl_ne rfl (by decide) (hold 40 (by kernel_rfl)))
        have e41 := sl_ne hb8.symm (by decide) (sl_ne rfl (by decide) (hold 41 (by kernel_rfl)))
        have e42 := sl_ne hb8.symm (by decide) (sl_ne rfl (by decide) (hold 42 (by kernel_rfl)))
        have e43 := sl_ne hb8.symm (by decide) (sl_ne rfl (by decide) (hold 43 (by kernel_rfl)))
        have e44 := sl_ne hb8.symm (by decide) (sl_ne rfl (by decide) (hold 44 (by kernel_rfl)))
        have e45 := sl_ne hb8.symm (by decide) (sl_ne rfl (by decide) (hold 45 (by kernel_rfl)))
        have e46 := sl_ne hb8.symm (by decide) (sl_ne rfl (by decide) (hold 46 (by kernel_rfl)))
        have e47 := sl_ne hb8.symm (by decide) (sl_ne rfl (by decide) (hold 47 (by kernel_rfl)))
        have hB : b9 = _ := act_list b9 (show b9.tmps.size = 48 by rw [← hb8, put_size, put_size]; exact hsz) (show b9.defers = [] by rw [← hb8]; exact hdf)
        rw [hB]
        simp only [List.range, List.range.loop, List.map_cons, List.map_nil, e0, e1, e2, e3, e4, e5, e6, e7, e8, e9, e10, e11, e12, e13, e14, e15, e16, e17, e18, e19, e20, e21, e22, e35, e36, e37, e38, e39, e40, e41, e42, e43, e44, e45, e46, e47]
        generalize sl b9 23 = v23, sl b9 24 = v24, sl b9 25 = v25, sl b9 26 = v26, sl b9 27 = v27, sl b9 28 = v28, sl b9 29 = v29, sl b9 30 = v30, sl b9 31 = v31, sl b9 32 = v32, sl b9 33 = v33, sl b9 34 = v34
        simp only [sl, List.getElem?_toArray, List.getElem?_cons_succ, List.getElem?_cons_zero, Option.getD_some]
        clear e0 e1 e2 e3 e4 e5 e6 e7 e8 e9 e10 e11 e12 e13 e14 e15 e16 e17 e18 e19 e20 e21 e22 e35 e36 e37 e38 e39 e40 e41 e42 e43 e44 e45 e46 e47
        have hoG := hP2.offLow (b := G) (by omega)
        have rG := hG2.set v'
        have rr := hr2.other (a := ⟨G, 1, none⟩) (by simp; omega) v'
        have rP := hP2.grown (grown_set w2 G 1 v') (.inr hoG.1) hoG.2
        have rB := hB2.setCell (p := ⟨G, 1, none⟩) (by simp; omega) v'
        have hdm : Hid ((l ++ [(⟨podName m, 1 + z % sh, wrap64 (z.tdiv 4) % 5, wrap64 (z.tdiv 20) % 5, p19, q19, podPicks z, p29, q29, podBears z, wrap64 (z.tdiv 13) % 6 == 0⟩ : PodT)]).map PodT.data = podsTo sh zs (m + 1)) := by
          show _ = _
          rw [List.map_append, hd, podsTo, hz]
          rfl
        generalize w2.setCell ⟨G, 1, none⟩ v' = w3 at *
        subst hGe
        clear hB hb9 hb8 hF hold hdf hsz f0 f1 f2 f6 f7 f8 f32 hG2 hr2 hP2 hB2 hoG hown' hgrow hat hP1 hpn hpo hG hr hP hd cG fG
        go_wp2
        go_roundw
        case rel => exact ⟨m + 1, by omega, by go_num, v', _, rG, rr, rP, hdm.out, rB⟩
        case measure => simp [intOf]; omega
    · obtain ⟨a', cap', hv, hcap, hPods⟩ := hP.pods (by omega)
      have cg0 := hG.cell0
      have cg1 := hG.cell1
      have cr0 := hr.cell0
      have cr1 := hr.cell1
      have fr0 := hr.frozen1 0
      have fr1 := hr.frozen1 1
      rw [hlen] at hv
      by_cases hm0 : m = 0
      · subst hm0
        have hlen0 : len = 0 := by omega
        subst hlen0
        have hl0 : l = [] := List.length_eq_zero_iff.1 hlen
        subst hl0
        have hDD : Hid ([podOf sh 0 id] = D) := by rw [← hD]; rfl
        rw [hv] at cg1
        clear hrow hPods hcap
        go_wp2
        have hm8 : 0 < 8 := by decide
        obtain ⟨z, rfl⟩ : ∃ z, z = id := ⟨_, rfl⟩
        obtain ⟨G, hGe⟩ : ∃ G, w.heap.size + 1 = G := ⟨_, rfl⟩
        rw [hGe] at hG hGlt ⊢
        obtain ⟨l, hl⟩ : ∃ l : List PodT, l = [] := ⟨_, rfl⟩
        rw [← hl] at hP
        have hWs : w.heap.size + 2 ≤ wr.heap.size := by omega
        have hll : l.length = 0 := by rw [hl]; rfl
        refine wp_region_rely_upto 6 3 (fun w1 => Below wr.heap.size wr w1) (fun w1 w2 => Below w1.heap.size w1 w2) (gangG wr.heap.size G z sh v) (by kernel_rfl) (by kernel_rfl) (by kernel_rfl) (Below.refl _ _).drew ?keep ?step ?rest
        case keep =>
          intro i v w1 w2 hS hF
          unfold gangG at *
          split at hF <;> try exact hF
          · obtain ⟨p1, q1, p2, q2, hv, h1, h2⟩ := hF
            exact ⟨p1, q1, p2, q2, hv, h1.later hS, h2.later hS⟩
          · obtain ⟨p1, q1, p2, q2, D, hv, ⟨h1, h2⟩, h3⟩ := hF
            exact ⟨p1, q1, p2, q2, D, hv, ⟨h1.later hS, h2.later hS⟩, h3.later hS⟩
        case step =>
          intro i o d hi ho hd b w1 hR hold hdep
          have o0 : sl b 0 = .int .i64 z := hold 0 (by kernel_rfl)
          have o2 : sl b 2 = .int .i64 sh := hold 2 (by kernel_rfl)
          have o6 : sl b 6 = .pointer (some ⟨w.heap.size, 0, none⟩) := hold 6 (by kernel_rfl)
          have o7 : sl b 7 = .pointer (some ⟨G, 0, none⟩) := hold 7 (by kernel_rfl)
          have hb0 := Below.refl w1.heap.size w1
          have c1 := (hG.later hR).cell1
          rcases i with _ | _ | _ | _ | _ | _ | i
          all_goals try (cases ho; cases hd)
          · exact ok_val' rfl rfl (want_none rfl b) (by simp [go_sem, o7]) hR hb0 rfl
          · have f39 : sl b 39 = .pointer (some ⟨G, 1, none⟩) := hdep 0 _ _ rfl rfl (by kernel_rfl)
            exact ok_val' rfl rfl (want_none rfl b) (by simp [go_sem, f39, c1]) hR hb0 rfl
          · exact ok_val' rfl rfl (want_none rfl b) (by simp [go_sem, o0]) hR hb0 rfl
          · exact ok_val' rfl rfl (want_none rfl b) (by simp [go_sem, o2]) hR hb0 rfl
          · have f41 : sl b 41 = .int .i64 z := hdep 2 _ _ rfl rfl (by kernel_rfl)
            have f42 : sl b 42 = .int .i64 sh := hdep 3 _ _ rfl rfl (by kernel_rfl)
            refine ok_enter' rfl rfl (want_none rfl b) ?_ ((lPod_is 0 z sh w1 hm8 h0 h4).mono ?_)
            · simp [go_sem, f41, f42, cfPod]
            rintro e w2 ⟨p1, q1, p2, q2, rfl, g1, g2, hb2⟩
            exact ⟨_, rfl, hR.trans (hb2.mono hR.size), hb2, p1, q1, p2, q2, rfl, g1.low hR.size, g2.low hR.size⟩
          · obtain ⟨p14, q14, p24, q24, f43, g43⟩ : ∃ p1 q1 p2 q2, sl b 43 = .agg #[.string (podName 0), .int .i64 (1 + z % sh), .int .i64 (wrap64 (z.tdiv 4) % 5), .int .i64 (wrap64 (z.tdiv 20) % 5), .slice p1 (podPicks z).length q1, .slice p2 (podBears z).length q2, .bool (wrap64 (z.tdiv 13) % 6 == 0)] ∧ (GoodSet wr.heap.size w1 p1 q1 (podPicks z) ∧ GoodSet wr.heap.size w1 p2 q2 (podBears z)) := hdep 4 _ _ rfl rfl (by kernel_rfl)
            exact ok_val' rfl rfl (want_none rfl b) (by simp [go_sem, f43] <;> first | rfl | exact ⟨rfl, rfl⟩) (hR.alloc hR.size _) (hb0.alloc (Nat.le_refl _) _) ⟨p14, q14, p24, q24, _, rfl, ⟨g43.1.later (hb0.alloc (Nat.le_refl _) _), g43.2.later (hb0.alloc (Nat.le_refl _) _)⟩, cells_new _ _ _ _ rfl⟩
          · omega
        case rest =>
          intro b w1 hR hsz hdf hold hF
          have f0 : sl b 0 = .int .i64 z := hold 0 (by kernel_rfl)
          have f2 : sl b 2 = .int .i64 sh := hold 2 (by kernel_rfl)
          have f6 : sl b 6 = .pointer (some ⟨w.heap.size, 0, none⟩) := hold 6 (by kernel_rfl)
          have f7 : sl b 7 = .pointer (some ⟨G, 0, none⟩) := hold 7 (by kernel_rfl)
          obtain ⟨p15, q15, p25, q25, D5, f44, g44⟩ : ∃ p1 q1 p2 q2 D, sl b 44 = .slice (some ⟨D, 0, none⟩) 1 1 ∧ (GoodSet wr.heap.size w1 p1 q1 (podPicks z) ∧ GoodSet wr.heap.size w1 p2 q2 (podBears z)) ∧ NewCells w1 D [.string (podName 0), .int .i64 (1 + z % sh), .int .i64 (wrap64 (z.tdiv 4) % 5), .int .i64 (wrap64 (z.tdiv 20) % 5), .slice p1 (podPicks z).length q1, .slice p2 (podBears z).length q2, .bool (wrap64 (z.tdiv 13) % 6 == 0)] := hF 5 _ _ (by decide) rfl rfl
          have f40 : sl b 40 = v := hF 1 _ _ (by decide) rfl rfl
          obtain ⟨gs1, gs2⟩ := g44.1
          have gc := g44.2
          have hsz' : b.tmps.size = 48 := hsz
          refine wpK_one 6 _ (by kernel_rfl) rfl (want_none rfl b) ?_
          have hP1 := hP.later hR
          have hpn : PodT.New (w.heap.size + 2) w1 ⟨podName 0, 1 + z % sh, wrap64 (z.tdiv 4) % 5, wrap64 (z.tdiv 20) % 5, p15, q15, podPicks z, p25, q25, podBears z, wrap64 (z.tdiv 13) % 6 == 0⟩ := ⟨gs1.new.low hWs, gs2.new.low hWs⟩
          have hpo : PodT.Off v.ownBlock ⟨podName 0, 1 + z % sh, wrap64 (z.tdiv 4) % 5, wrap64 (z.tdiv 20) % 5, p15, q15, podPicks z, p25, q25, podBears z, wrap64 (z.tdiv 13) % 6 == 0⟩ := ⟨fun x hx e => by have := (gs1.new.2.1 x hx).1; have := (hP.row.lt _ e.symm).2; omega, fun x hx e => by have := (gs2.new.2.1 x hx).1; have := (hP.row.lt _ e.symm).2; omega⟩
          refine okAt_append (.tmp 40) (.tmp 44) 45 rfl (w.heap.size + 2) 26 i0 _ 7 96 Try.underlying45 hi hz0 hz1 hz2 rfl (by decide) v l.length (flat l) (by simpa [go_sem] using f40) hP1.row ⟨D5, 0, none⟩ 1 1 _ (by simpa [go_sem] using f44) rfl gc (by intro u hu; simp only [List.mem_cons, List.not_mem_nil, or_false] at hu; rcases hu with rfl | rfl | rfl | rfl | rfl | rfl | rfl <;> rfl) (by unfold maxLen; omega) (by omega) (by have := hR.size; omega) ?_
          intro v' w2 hown' hgrow hat
          have hP2 := hP1.more hpn hpo hown' hgrow hat
          have hneG : some G ≠ v.ownBlock := fun e => hP.offLow (b := G) (by omega) |>.1 e.symm
          have hneR : some w.heap.size ≠ v.ownBlock := fun e => hP.offLow (b := w.heap.size) (by omega) |>.1 e.symm
          have hG2 := (hG.later hR).grown hgrow hneG
          have hr2 := (hr.later hR).grown hgrow hneR
          have cG := hG2.cell1
          have fG := hG2.frozen1 1
          have hB2 : Below w.heap.size w w2 := (hbw.trans (hR.mono hbw.size)).grown hgrow (hbw.trans (hR.mono hbw.size)).size (fun j hj => by have := (hP.row.lt j hj).1; omega)
          refine ⟨trivial, wpK_one 7 _ (by kernel_rfl) rfl (want_none rfl _) ?_⟩
          refine okAt_val (w2 := w2) (v := .pointer (some ⟨G, 1, none⟩)) (by simp [go_sem, f7]) ?_
          refine ⟨trivial, wpK_one 8 _ (by kernel_rfl) rfl (want_none rfl _) ?_⟩
          refine okAt_skip (w2 := w2.setCell ⟨G, 1, none⟩ v') (by
            rcases hown'.2 with ⟨e, _⟩ | ⟨_, _, _, e, _⟩ <;> subst e <;> simp [go_sem, hsz', cG, fG]) ?_
          refine ⟨trivial, wpK_end (by kernel_rfl) ?_⟩
          generalize hb9 : Act.put (Act.put (Act.put b _ _) _ _) _ _ = b9
          have hb8 : (b.put (some 45) v').put (some 46) (.pointer (some ⟨G, 1, none⟩)) = b9 := hb9
          have e0 := sl_ne hb8.symm (by decide) (sl_ne rfl (by decide) (hold 0 (by kernel_rfl)))
          have e1 := sl_ne hb8.symm (by decide) (sl_ne rfl (by decide) (hold 1 (by kernel_rfl)))
          have e2 := sl_ne hb8.symm (by decide) (sl_ne rfl (by decide) (hold 2 (by kernel_rfl)))
          have e3 := sl_ne hb8.symm (by decide) (sl_ne rfl (by decide) (hold 3 (by kernel_rfl)))
          have e4 := sl_ne hb8.symm (by decide) (sl_ne rfl (by decide) (hold 4 (by kernel_rfl)))
          have e5 := sl_ne hb8.symm (by decide) (sl_ne rfl (by decide) (hold 5 (by kernel_rfl)))
          have e6 := sl_ne hb8.symm (by decide) (sl_ne rfl (by decide) (hold 6 (by kernel_rfl)))
          have e7 := sl_ne hb8.symm (by decide) (sl_ne rfl (by decide) (hold 7 (by kernel_rfl)))
          have e8 := sl_ne hb8.symm (by decide) (sl_ne rfl (by decide) (hold 8 (by kernel_rfl)))
          have e9 := sl_ne hb8.symm (by decide) (sl_ne rfl (by decide) (hold 9 (by kernel_rfl)))
          have e10 := sl_ne hb8.symm (by decide) (sl_ne rfl (by decide) (hold 10 (by kernel_rfl)))
          have e11 := sl_ne hb8.symm (by decide) (sl_ne rfl (by decide) (hold 11 (by kernel_rfl)))
          have e12 := sl_ne hb8.symm (by decide) (sl_ne rfl (by decide) (hold 12 (by kernel_rfl)))
          have e13 := sl_ne hb8.symm (by decide) (sl_ne rfl (by decide) (hold 13 (by kernel_rfl)))
          have e14 := sl_ne hb8.symm (by decide) (sl_ne rfl (by decide) (hold 14 (by kernel_rfl)))
          have e15 := sl_ne hb8.symm (by decide) (sl_ne rfl (by decide) (hold 15 (by kernel_rfl)))
          have e16 := sl_ne hb8.symm (by decide) (sl_ne rfl (by decide) (hold 16 (by kernel_rfl)))
          have e17 := sl_ne hb8.symm (by decide) (sl_ne rfl (by decide) (hold 17 (by kernel_rfl)))
          have e18 := sl_ne hb8.symm (by decide) (sl_ne rfl (by decide) (hold 18 (by kernel_rfl)))
          have e19 := sl_ne hb8.symm (by decide) (sl_ne rfl (by decide) (hold 19 (by kernel_rfl)))
          have e20 := sl_ne hb8.symm (by decide) (sl_ne rfl (by decide) (hold 20 (by kernel_rfl)))
          have e21 := sl_ne hb8.symm (by decide) (sl_ne rfl (by decide) (hold 21 (by kernel_rfl)))
          have e22 := sl_ne hb8.symm (by decide) (sl_ne rfl (by decide) (hold 22 (by kernel_rfl)))
          have e23 := sl_ne hb8.symm (by decide) (sl_ne rfl (by decide) (hold 23 (by kernel_rfl)))
          have e24 := sl_ne hb8.symm (by decide) (sl_ne rfl (by decide) (hold 24 (by kernel_rfl)))
          have e25 := sl_ne hb8.symm (by decide) (sl_ne rfl (by decide) (hold 25 (by kernel_rfl)))
          have e26 := sl_ne hb8.symm (by decide) (sl_ne rfl (by decide) (hold 26 (by kernel_rfl)))
          have e27 := sl_ne hb8.symm (by decide) (sl_ne rfl (by decide) (hold 27 (by kernel_rfl)))
          have e28 := sl_ne hb8.symm (by decide) (sl_ne rfl (by decide) (hold 28 (by kernel_rfl)))
          have e29 := sl_ne hb8.symm (by decide) (sl_ne rfl (by decide) (hold 29 (by kernel_rfl)))
          have e30 := sl_ne hb8.symm (by decide) (sl_ne rfl (by decide) (hold 30 (by kernel_rfl)))
          have e31 := sl_ne hb8.symm (by decide) (sl_ne rfl (by decide) (hold 31 (by kernel_rfl)))
          have e32 := sl_ne hb8.symm (by decide) (sl_ne rfl (by decide) (hold 32 (by kernel_rfl)))
          have e33 := sl_ne hb8.symm (by decide) (sl_ne rfl (by decide) (hold 33 (by kernel_rfl)))
          have e34 := sl_ne hb8.symm (by decide) (sl_ne rfl (by decide) (hold 34 (by kernel_rfl)))
          have e35 := sl_ne hb8.symm (by decide) (sl_ne rfl (by decide) (hold 35 (by kernel_rfl)))
          have e36 := sl_ne hb8.symm (by decide) (sl_ne rfl (by decide) (hold 36 (by kernel_rfl)))
          have e37 := sl_ne hb8.symm (by decide) (sl_ne rfl (by decide) (hold 37 (by kernel_rfl)))
          have e38 := sl_ne hb8.symm (by decide) (sl_ne rfl (by decide) (hold 38 (by kernel_rfl)))
          have e47 := sl_ne hb8.symm (by decide) (sl_ne rfl (by decide) (hold 47 (by kernel_rfl)))
          have hB : b9 = _ := act_list b9 (show b9.tmps.size = 48 by rw [← hb8, put_size, put_size]; exact hsz) (show b9.defers = [] by rw [← hb8]; exact hdf)
          rw [hB]
          simp only [List.range, List.range.loop, List.map_cons, List.map_nil, e0, e1, e2, e3, e4, e5, e6, e7, e8, e9, e10, e11, e12, e13, e14, e15, e16, e17, e18, e19, e20, e21, e22, e23, e24, e25, e26, e27, e28, e29, e30, e31, e32, e33, e34, e35, e36, e37, e38, e47]
          generalize sl b9 39 = v39, sl b9 40 = v40, sl b9 41 = v41, sl b9 42 = v42, sl b9 43 = v43, sl b9 44 = v44, sl b9 45 = v45, sl b9 46 = v46
          simp only [sl, List.getElem?_toArray, List.getElem?_cons_succ, List.getElem?_cons_zero, Option.getD_some]
          clear e0 e1 e2 e3 e4 e5 e6 e7 e8 e9 e10 e11 e12 e13 e14 e15 e16 e17 e18 e19 e20 e21 e22 e23 e24 e25 e26 e27 e28 e29 e30 e31 e32 e33 e34 e35 e36 e37 e38 e47
          have hoG := hP2.offLow (b := G) (by omega)
          have rG := hG2.set v'
          have rr := hr2.other (a := ⟨G, 1, none⟩) (by simp; omega) v'
          have rP := hP2.grown (grown_set w2 G 1 v') (.inr hoG.1) hoG.2
          have rB := hB2.setCell (p := ⟨G, 1, none⟩) (by simp; omega) v'
          obtain ⟨a9, c9, hv9, _, _⟩ := rP.pods (by rw [hl]; simp)
          replace hv9 : v' = .slice a9 1 c9 := by rw [hv9]; simp [hll]
          generalize w2.setCell ⟨G, 1, none⟩ v' = w3 at *
          subst hGe
          clear hB hb9 hb8 hF hold hdf hsz f0 f2 f6 f7 hG2 hr2 hP2 hB2 hoG hown' hgrow hat hP1 hpn hpo hG hr hP hd cG fG cg0 cg1 cr0 cr1 fr0 fr1
          have cg0 := rG.cell0
          have cg1 := rG.cell1
          have cr0 := rr.cell0
          have cr1 := rr.cell1
          have fr0 := rr.frozen1 0
          have fr1 := rr.frozen1 1
          have hlt3 := rG.lt
          rw [hv9] at cg1
          go_wp2
          have hoR := rP.offLow (b := w.heap.size) (by omega)
          rw [hv9] at rP hoR
          have finP := ((rP.grown (grown_set _ w.heap.size 0 (.int .i64 (1 + q))) (.inr hoR.1) hoR.2).grown (grown_set _ w.heap.size 1 (.slice a9 1 c9)) (.inr hoR.1) hoR.2).low (B' := w.heap.size) (by omega)
          refine bodyPost_ret (by simp [results, Try.results22, go_sem, cr0, cr1, cg0, cg1]) rfl ⟨.slice a9 1 c9, _, rfl, finP, ?_, ?_⟩
          · rw [hl]; exact hDD.out
          · exact (rB.setCell (p := ⟨w.heap.size, 0, none⟩) (Nat.le_refl _) _).setCell (p := ⟨w.heap.size, 1, none⟩) (Nat.le_refl _) _
      · have hmi : min 8 len = m := by omega
        have hDD : Hid (podsTo sh zs m = D) := by
          show _ = _
          rw [← hD, gangOf, if_neg (by omega), hmi]
        have hmz : ¬ (m : Int) = 0 := by omega
        have hmb : ((m : Int) == 0) = false := by simp [hm0]
        have hoR := hP.offLow (b := w.heap.size) (by omega)
        rw [hv] at cg1
        have fin : Below w.heap.size w ((wr.setCell ⟨w.heap.size, 0, none⟩ (.int .i64 (1 + q))).setCell ⟨w.heap.size, 1, none⟩ (.slice a' m cap')) := (hbw.setCell (p := ⟨w.heap.size, 0, none⟩) (Nat.le_refl _) _).setCell (p := ⟨w.heap.size, 1, none⟩) (Nat.le_refl _) _
        have finP : OwnPods w.heap.size ((wr.setCell ⟨w.heap.size, 0, none⟩ (.int .i64 (1 + q))).setCell ⟨w.heap.size, 1, none⟩ (.slice a' m cap')) (.slice a' m cap') l := by
          rw [hv] at hP hoR
          exact ((hP.grown (grown_set _ w.heap.size 0 _) (.inr hoR.1) hoR.2).grown (grown_set _ w.heap.size 1 _) (.inr hoR.1) hoR.2).low (by omega)
        clear hlt hrow hPods hcap hP hoR hv
        rcases (by omega : m = 8 ∨ (m < 8 ∧ len ≤ m)) with hx | ⟨hx, hx'⟩
        · subst hx
          go_wp2
          refine bodyPost_ret (by simp [results, Try.results22, go_sem, cr0, cr1, cg0, cg1]) rfl ⟨.slice a' 8 cap', l, rfl, finP, ?_, fin⟩
          rw [hd]; exact hDD.out
        · go_wp2
          refine bodyPost_ret (by simp [results, Try.results22, go_sem, cr0, cr1, cg0, cg1]) rfl ⟨.slice a' m cap', l, rfl, finP, ?_, fin⟩
          rw [hd]; exact hDD.out

end Go.Proofs.Ytgcicillmljglaa
