/- The contract of Put of package ledger. -/
import Derived.Test.YtpgchnppinbpkaaDoorLB
namespace Go.Proofs.YtpgchnppinbpkaaDoor
open Go.RowKit Go.Maps

/-- What Put answers. -/
def putE (E : List (ByteArray × Rec)) (s : ByteArray) (cpu mem : Int) (xs ys : List ByteArray) : Int :=
  if nodeE s cpu mem xs ys ≠ 0 then nodeE s cpu mem xs ys
  else if ¬ (((look E s).getD zrec).u ≤ cpu ∧ ((look E s).getD zrec).m ≤ mem) then 6
  else if look E s = none ∧ 8 ≤ E.length then 3 else 0

/-- What Put leaves: A is what it answers, r what is known of the node. -/
def PutPost (w : World) (L : Nat) (fp : Nat → Prop) (E : List (ByteArray × Rec)) (G : List (Int × Grp)) (s : ByteArray) (cpu mem : Int) (xs ys : List ByteArray) (al : Bool) (A : Int) (r : Rec) (w' : World) : Prop :=
  ∃ fp' p' q' a3 c3 a4 c4, IsL w' L fp' p' q' (if A = 0 then put sK E s ⟨s, cpu, mem, a3, c3, xs, a4, c4, ys, al, r.u, r.m, r.k⟩ else E) G ∧ (∀ b, fp b → fp' b) ∧ (∀ b, fp' b → fp b ∨ w.heap.size ≤ b) ∧ Kept fp w w' ∧ (A ≠ 0 → Below w.heap.size w w')
theorem PutPost.no {w w' : World} {L : Nat} {fp : Nat → Prop} {p q : Option Nat} {E : List (ByteArray × Rec)} {G : List (Int × Grp)} {s : ByteArray} {cpu mem : Int} {xs ys : List ByteArray} {al : Bool} {A : Int} {r : Rec} (h : IsL w L fp p q E G) (hA : A ≠ 0) (hb : Below w.heap.size w w') : PutPost w L fp E G s cpu mem xs ys al A r w' :=
  ⟨fp, p, q, none, 0, none, 0, by rw [if_neg hA]; exact h.later hb, fun _ h => h, fun _ h => .inl h, .of_below hb, fun _ => hb⟩

/-- Six cells of one block, stored. -/
theorem six_kept (W : World) (S : Nat) (s : ByteArray) (cpu mem : Int) (v3 v4 : Value) (al : Bool) : ∀ b, b ≠ S → ((((((W.setCell ⟨S, 0, none⟩ (.string s)).setCell ⟨S, 1, none⟩ (.int .i64 cpu)).setCell ⟨S, 2, none⟩ (.int .i64 mem)).setCell ⟨S, 3, none⟩ v3).setCell ⟨S, 4, none⟩ v4).setCell ⟨S, 5, none⟩ (.bool al)).heap[b]? = W.heap[b]? := fun b hb => by
  rw [RowKit.Below.heap_setCell _ _ _ _ hb, RowKit.Below.heap_setCell _ _ _ _ hb, RowKit.Below.heap_setCell _ _ _ _ hb, RowKit.Below.heap_setCell _ _ _ _ hb, RowKit.Below.heap_setCell _ _ _ _ hb, RowKit.Below.heap_setCell _ _ _ _ hb]
theorem six_size (W : World) (S : Nat) (s : ByteArray) (cpu mem : Int) (v3 v4 : Value) (al : Bool) : ((((((W.setCell ⟨S, 0, none⟩ (.string s)).setCell ⟨S, 1, none⟩ (.int .i64 cpu)).setCell ⟨S, 2, none⟩ (.int .i64 mem)).setCell ⟨S, 3, none⟩ v3).setCell ⟨S, 4, none⟩ v4).setCell ⟨S, 5, none⟩ (.bool al)).heap.size = W.heap.size := by simp
theorem set_rest (W : World) (S j : Nat) (v : Value) : (W.setCell ⟨S, j, none⟩ v).os = W.os ∧ (W.setCell ⟨S, j, none⟩ v).tape = W.tape ∧ (W.setCell ⟨S, j, none⟩ v).output = W.output := by
  have := grown_set W S j v
  exact ⟨this.os, this.tape, this.output⟩
theorem six_rest (W : World) (S : Nat) (s : ByteArray) (cpu mem : Int) (v3 v4 : Value) (al : Bool) : ((((((W.setCell ⟨S, 0, none⟩ (.string s)).setCell ⟨S, 1, none⟩ (.int .i64 cpu)).setCell ⟨S, 2, none⟩ (.int .i64 mem)).setCell ⟨S, 3, none⟩ v3).setCell ⟨S, 4, none⟩ v4).setCell ⟨S, 5, none⟩ (.bool al)).os = W.os ∧ ((((((W.setCell ⟨S, 0, none⟩ (.string s)).setCell ⟨S, 1, none⟩ (.int .i64 cpu)).setCell ⟨S, 2, none⟩ (.int .i64 mem)).setCell ⟨S, 3, none⟩ v3).setCell ⟨S, 4, none⟩ v4).setCell ⟨S, 5, none⟩ (.bool al)).tape = W.tape ∧ ((((((W.setCell ⟨S, 0, none⟩ (.string s)).setCell ⟨S, 1, none⟩ (.int .i64 cpu)).setCell ⟨S, 2, none⟩ (.int .i64 mem)).setCell ⟨S, 3, none⟩ v3).setCell ⟨S, 4, none⟩ v4).setCell ⟨S, 5, none⟩ (.bool al)).output = W.output := by
  simp only [(set_rest _ _ _ _).1, (set_rest _ _ _ _).2.1, (set_rest _ _ _ _).2.2, and_self]

/-- What stays in a drawn region of Put. -/
def StayP (w0 : World) (L : Nat) (fp : Nat → Prop) (p q : Option Nat) (E : List (ByteArray × Rec)) (G : List (Int × Grp)) (s : ByteArray) (B : Nat) (cs : Array Value) (w : World) : Prop :=
  w.cell? ⟨L, 0, none⟩ = some (.map p) ∧ w.cell? ⟨B, 0, none⟩ = some (.string s) ∧
  (Instr.lookup 70 (.map p) (.string s) true).run Tryd.prog w = .ok (.tuple #[((look E s).getD zrec).val, .bool (look E s).isSome]) w ∧ IsL w L fp p q E G ∧ Box w B cs 43 ∧ Below w0.heap.size w0 w
theorem StayP.mk {w0 : World} {L : Nat} {fp : Nat → Prop} {p q : Option Nat} {E : List (ByteArray × Rec)} {G : List (Int × Grp)} {s : ByteArray} {B : Nat} {cs : Array Value} {w : World} (hs : s.size ≤ maxLen) (h : IsL w L fp p q E G) (hB : Box w B cs 43) (hc : cs[0]? = some (.string s)) (hb : Below w0.heap.size w0 w) : StayP w0 L fp p q E G s B cs w :=
  ⟨h.box.cell rfl, hB.cell hc, h.nodes.look2 s hs, h, hB, hb⟩

set_option maxRecDepth 100000 in
set_option maxHeartbeats 2000000 in
theorem put_any (w : World) (L : Nat) (fp : Nat → Prop) (p q : Option Nat) (E : List (ByteArray × Rec)) (G : List (Int × Grp)) (h : IsL w L fp p q E G)
    (s : ByteArray) (cpu mem : Int) (a1 a2 : Option Addr) (n1 n2 c1 c2 : Nat) (al : Bool) (xs ys : List ByteArray) (hs : s.size ≤ maxLen) (h1 : Strs w a1 xs) (h2 : Strs w a2 ys) (e1 : xs.length = n1) (e2 : ys.length = n2) (s1 : SP a1) (s2 : SP a2)
    (f1 : ∀ x, a1 = some x → xs ≠ [] → ¬ fp x.block) (f2 : ∀ x, a2 = some x → ys ≠ [] → ¬ fp x.block) (hlen : E.length < maxLen) :
    Calls Tryd.prog 20 #[.pointer (some ⟨L, 0, none⟩), .agg #[.string s, .int .i64 cpu, .int .i64 mem, .slice a1 n1 c1, .slice a2 n2 c2, .bool al]] w fun e w' => e = .returned (.int .i64 (putE E s cpu mem xs ys)) ∧
      PutPost w L fp E G s cpu mem xs ys al (putE E s cpu mem xs ys) ((look E s).getD zrec) w' := by
  subst e1 e2
  have kn := node_any s cpu mem a1 a2 xs.length ys.length c1 c2 al xs ys (w.alloc (.cells #[.string s, .int .i64 cpu, .int .i64 mem, .slice a1 xs.length c1, .slice a2 ys.length c2, .bool al] 43)) (h1.later (up (Below.refl _ _) _)) (h2.later (up (Below.refl _ _) _)) rfl rfl
  obtain ⟨N, hN⟩ : ∃ N, nodeE s cpu mem xs ys = N := ⟨_, rfl⟩
  rw [hN] at kn
  by_cases hN0 : N = 0
  case neg =>
    have e5 : putE E s cpu mem xs ys = N := by unfold putE; rw [hN, if_pos hN0]
    rw [e5]
    clear e5
    go_enter Tryd.func20, Tryd.ntmps20
    go_wp2_with (go_at_call 34; refine kn.mono ?_; rintro e w3 ⟨rfl, h3⟩)
    go_ret
    have hb : Below w.heap.size w w3 := (up (Below.refl _ _) _).trans (h3.mono (by simp))
    exact ⟨rfl, .no h hN0 hb⟩
  subst hN0
  obtain ⟨r, hr⟩ : ∃ r, (look E s).getD zrec = r := ⟨_, rfl⟩
  obtain ⟨A, hA⟩ : ∃ A, putE E s cpu mem xs ys = A := ⟨_, rfl⟩
  rw [hA, hr]
  have hA : Hid (putE E s cpu mem xs ys = A) := hA
  obtain ⟨t, ht⟩ : ∃ t, (look E s).isSome = t := ⟨_, rfl⟩
  go_enter Tryd.func20, Tryd.ntmps20
  go_wp2_with (go_at_call 34; refine kn.mono ?_; rintro e w3 ⟨rfl, h3⟩)
  have hB : Box w3 w.heap.size #[.string s, .int .i64 cpu, .int .i64 mem, .slice a1 xs.length c1, .slice a2 ys.length c2, .bool al] 43 := (Box.new w _ _ rfl).later h3
  have hb : Below w.heap.size w w3 := (up (Below.refl _ _) _).trans (h3.mono (by simp))
  have hS : StayP w L fp p q E G s w.heap.size #[.string s, .int .i64 cpu, .int .i64 mem, .slice a1 xs.length c1, .slice a2 ys.length c2, .bool al] w3 := .mk hs (h.later hb) hB rfl hb
  unfold StayP at hS
  rw [hr, ht] at hS
  obtain ⟨nm', cpu', mem', a1', c1', xs', a2', c2', ys', cl', u, m, k⟩ := r
  simp only [Rec.val] at hS
  obtain ⟨l1, l2, l3, l4, l5, l6⟩ := hS
  have l3' : (Instr.lookup 70 (.map p) (.string s) true).run Tryd.prog w3.drew = _ := (show NMap w3.drew p E from l4.nodes).look2 s hs
  have l3a : ∀ o, (Instr.lookup 70 (.map p) (.string s) true).run Tryd.prog (w3.alloc o).drew = _ := fun o => (show NMap (w3.alloc o).drew p E from (l4.later (up (Below.refl _ _) o)).nodes).look2 s hs
  rw [hr, ht] at l3'
  simp only [hr, ht] at l3a
  simp only [Rec.val] at l3' l3a
  have l1a := fun o => cell_alloc l1 o
  have l2a := fun o => cell_alloc l2 o
  go_cut [6, 7] (fun v6 v7 wx => v6 = .pointer (some ⟨w3.heap.size, 0, none⟩) ∧ v7 = .bool t ∧ wx = (w3.alloc (.cells #[.string nm', .int .i64 cpu', .int .i64 mem', .slice a1' xs'.length c1', .slice a2' ys'.length c2', .bool cl', .int .i64 u, .int .i64 m, .int .i64 k] 79)).drew)
  case first =>
    go_region_with (fail)
    all_goals
      go_wp2
      go_meet
      case rel => exact ⟨rfl, rfl, rfl⟩
  case rest =>
    obtain ⟨rfl, rfl, rfl⟩ := hcut
    have hI4 : IsL (w3.alloc (.cells #[.string nm', .int .i64 cpu', .int .i64 mem', .slice a1' xs'.length c1', .slice a2' ys'.length c2', .bool cl', .int .i64 u, .int .i64 m, .int .i64 k] 79)).drew L fp p q E G := l4.later (Below.drew (up (Below.refl _ _) _))
    have hB4 : Box (w3.alloc (.cells #[.string nm', .int .i64 cpu', .int .i64 mem', .slice a1' xs'.length c1', .slice a2' ys'.length c2', .bool cl', .int .i64 u, .int .i64 m, .int .i64 k] 79)).drew w.heap.size #[.string s, .int .i64 cpu, .int .i64 mem, .slice a1 xs.length c1, .slice a2 ys.length c2, .bool al] 43 := l5.up _
    have hS4 : Box (w3.alloc (.cells #[.string nm', .int .i64 cpu', .int .i64 mem', .slice a1' xs'.length c1', .slice a2' ys'.length c2', .bool cl', .int .i64 u, .int .i64 m, .int .i64 k] 79)).drew w3.heap.size #[.string nm', .int .i64 cpu', .int .i64 mem', .slice a1' xs'.length c1', .slice a2' ys'.length c2', .bool cl', .int .i64 u, .int .i64 m, .int .i64 k] 79 := Box.new w3 _ _ rfl
    have hb4 : Below w.heap.size w (w3.alloc (.cells #[.string nm', .int .i64 cpu', .int .i64 mem', .slice a1' xs'.length c1', .slice a2' ys'.length c2', .bool cl', .int .i64 u, .int .i64 m, .int .i64 k] 79)).drew := Below.drew (up l6 _)
    have hSB : w.heap.size < w3.heap.size := l5.lt
    generalize (w3.alloc (.cells #[.string nm', .int .i64 cpu', .int .i64 mem', .slice a1' xs'.length c1', .slice a2' ys'.length c2', .bool cl', .int .i64 u, .int .i64 m, .int .i64 k] 79)).drew = W4 at hI4 hB4 hS4 hb4 ⊢
    generalize w3.heap.size = S at hS4 hSB ⊢
    clear l1 l2 l3 l4 l5 l6 l3' l3a l1a l2a h3 hB hb kn
    obtain ⟨f, hf⟩ : ∃ f, decide (u ≤ cpu ∧ m ≤ mem) = f := ⟨_, rfl⟩
    have kf := fits_any f u m cpu mem hf W4
    have d1 := hB4.cell (i := 1) rfl
    have d2 := hB4.cell (i := 2) rfl
    have g6 := hS4.cell (i := 6) rfl
    have g7 := hS4.cell (i := 7) rfl
    cases f with
    | false =>
      have e5 : Hid (A = 6) := by
        show _ = _
        rw [← hA.out]
        unfold putE
        rw [hN, hr]
        simp only [decide_eq_false_iff_not] at hf
        simp [hf]
      go_wp2_with (go_at_call 35; refine kf.mono ?_; rintro e w5 ⟨rfl, h5⟩)
      go_ret
      have hb : Below w.heap.size w w5 := hb4.trans (h5.mono hb4.size)
      exact ⟨by rw [e5.out]; rfl, .no h (by rw [e5.out]; decide) hb⟩
    | true =>
      have hf' : u ≤ cpu ∧ m ≤ mem := by simpa using hf
      have hA2 : Hid (A = if t = false ∧ 8 ≤ E.length then 3 else 0) := by
        show _ = _
        rw [← hA.out]
        unfold putE
        rw [hN, hr]
        have : (look E s = none) = (t = false) := by rw [← ht]; simp
        simp only [this, hf', and_self, not_true_eq_false, if_false, ne_eq]
      clear hA
      go_upto_if 28 with (go_at_call 35; refine kf.mono ?_; rintro e w5 ⟨rfl, h5⟩)
      have hI5 := hI4.later h5
      have hB5 := hB4.later h5
      have hS5 := hS4.later h5
      have hb5 : Below w.heap.size w w5 := hb4.trans (h5.mono hb4.size)
      have z5 := hS5.lt
      clear hI4 hB4 hS4 hb4 h5 kf d1 d2 g6 g7 hf
      have c5 : w5.cell? ⟨L, 0, none⟩ = some (.map p) := hI5.box.cell rfl
      have n5 := fun ty => hI5.nodes.len ty
      by_cases hx : t = false ∧ 8 ≤ E.length
      · obtain ⟨rfl, hx⟩ := hx
        have e5 : Hid (A = 3) := by show _ = _; rw [hA2.out]; simp [hx]
        have hx' : (8 : Int) ≤ (E.length : Int) := by omega
        go_wp2
        go_ret
        exact ⟨by rw [e5.out]; rfl, .no h (by rw [e5.out]; decide) hb5⟩
      · have e5 : Hid (A = 0) := by show _ = _; rw [hA2.out, if_neg hx]
        have ko := open_any w5 L fp p q E G hI5
        have nB : ¬ fp w.heap.size := h.outs
        have nS : ¬ fp S := fun hf => by have := h.lt S hf; omega
        clear hA2
        have hx2 : t = true ∨ (t = false ∧ (E.length : Int) < 8) := by
          cases t
          · exact .inr ⟨rfl, by simp at hx; omega⟩
          · exact .inl rfl
        clear hx
        rcases hx2 with rfl | ⟨rfl, hx3⟩
        all_goals
          go_upto_region 10 with (go_at_call 36; refine ko.mono ?_; rintro e w6 ⟨rfl, fp6, b6, q6, hI6, hm6, hn6, hk6⟩)
          have hB6 := hk6.box hB5 nB
          have hS6 := hk6.box hS5 nS
          have z6 := hk6.size
          have nB6 : ¬ fp6 w.heap.size := fun hf => by rcases hn6 _ hf with hf | hf; exact nB hf; omega
          have nS6 : ¬ fp6 S := fun hf => by rcases hn6 _ hf with hf | hf; exact nS hf; omega
          obtain ⟨y0, y1, y2, y3, y4, y5⟩ := hB6.cells6
          have hSs : Strs w6 a1 xs := (h1.later hb5).frame fun x hx hne => hk6.block _ ((h1.later hb5).lt hx hne) (f1 x hx hne)
          have hSt : Strs w6 a2 ys := (h2.later hb5).frame fun x hx hne => hk6.block _ ((h2.later hb5).lt hx hne) (f2 x hx hne)
          have kr := fresh_any s cpu mem a1 a2 xs.length ys.length c1 c2 al xs ys w6 hSs hSt rfl rfl s1 s2
          have hk : Kept fp w w6 := (Kept.of_below hb5).trans hk6
          have hn6' : ∀ b, fp6 b → fp b ∨ w.heap.size ≤ b := fun b hb => (hn6 b hb).imp_right (fun h => Nat.le_trans hb5.size h)
          clear hb5 hI5 hB5 hS5 ko hk6 hn6 n5 c5
          go_upto_region 11 with (go_at_call 31; refine kr.mono ?_; rintro e w7 ⟨a3, c3, a4, c4, rfl, r1, r2, p1, p2, q1, q2, hb7⟩; have hS7 := hS6.later hb7; obtain ⟨t0, t1, t2, t3, t4, t5⟩ := hS7.cells6'; have f0 := hS7.frozen 0; have f1' := hS7.frozen 1; have f2' := hS7.frozen 2; have f3 := hS7.frozen 3; have f4 := hS7.frozen 4; have f5 := hS7.frozen 5)
          have hI7 := hI6.later hb7
          have hB7 := hB6.later hb7
          have hk7 : Kept fp w w7 := hk.trans (.of_below hb7)
          have z7 := hb7.size
          have b7 := (((((hS7.set 0 (.string s)).set 1 (.int .i64 cpu)).set 2 (.int .i64 mem)).set 3 (.slice a3 xs.length c3)).set 4 (.slice a4 ys.length c4)).set 5 (.bool al)
          simp only [List.setIfInBounds_toArray, List.set_cons_succ, List.set_cons_zero] at b7
          have k6 := six_kept w7 S s cpu mem (.slice a3 xs.length c3) (.slice a4 ys.length c4) al
          have z8 := six_size w7 S s cpu mem (.slice a3 xs.length c3) (.slice a4 ys.length c4) al
          have o8 := six_rest w7 S s cpu mem (.slice a3 xs.length c3) (.slice a4 ys.length c4) al
          generalize ((((((w7.setCell ⟨S, 0, none⟩ (.string s)).setCell ⟨S, 1, none⟩ (.int .i64 cpu)).setCell ⟨S, 2, none⟩ (.int .i64 mem)).setCell ⟨S, 3, none⟩ (.slice a3 xs.length c3)).setCell ⟨S, 4, none⟩ (.slice a4 ys.length c4)).setCell ⟨S, 5, none⟩ (.bool al)) = W8 at b7 k6 z8 o8 ⊢
          have hI8 : IsL W8 L fp6 (some b6) q6 E G := hI7.frame (fun b hb => k6 b (fun e => nS6 (e ▸ hb))) (Nat.le_of_eq z8.symm)
          have hB8 : W8.cell? ⟨w.heap.size, 0, none⟩ = some (.string s) := (World.cell?_of_block (k6 _ (by simp; omega))).trans (hB7.cell rfl)
          have hk8 : Kept fp w W8 := ⟨o8.1.trans hk7.os, o8.2.1.trans hk7.tape, o8.2.2.trans hk7.output, by rw [z8]; exact hk7.size, fun b hb hn => (k6 b (fun e => by omega)).trans (hk7.block b hb hn)⟩
          have r1' : Strs W8 a3 xs := r1.frame fun x hx _ => k6 _ (by have := q1 x hx; omega)
          have r2' : Strs W8 a4 ys := r2.frame fun x hx _ => k6 _ (by have := q2 x hx; omega)
          obtain ⟨b', hb', hN8⟩ := hI8.nodes.resolve_left (by simp)
          cases hb'
          obtain ⟨w9, hrun, hown, hgrow⟩ := World.ownsMap.update (show NOwn W8.drew b6 E from hN8) kS Tryd.underlying70 hlen (keyS hs) (val := Rec.val ⟨s, cpu, mem, a3, c3, xs, a4, c4, ys, al, u, m, k⟩) (d := .held (Rec.val ⟨s, cpu, mem, a3, c3, xs, a4, c4, ys, al, u, m, k⟩)) (ps := []) rfl
          have hown := NOwn.put hown
          have hgrow : W8.grownBy w9 (some b6) := grown_trans (below_grown (Below.drew (Below.refl _ _)) _) hgrow
          simp only [Rec.val] at hrun
          have c8 : W8.cell? ⟨L, 0, none⟩ = some (.map (some b6)) := hI8.box.cell rfl
          obtain ⟨y0, y1, y2, y3, y4, y5, y6, y7, y8⟩ := b7.cells9
          clear hI7 hB7 hI6 hB6 hS6 hS7 t0 t1 t2 t3 t4 t5 f0 f1' f2' f3 f4 f5 hSs hSt
          go_region_with (fail)
          all_goals
            go_wp2
            go_ret
            refine ⟨by rw [e5.out]; rfl, fun b => fp6 b ∨ (w6.heap.size ≤ b ∧ b < w7.heap.size), some b6, q6, a3, c3, a4, c4, ?_, fun b hb => .inl (hm6 b hb), ?_, hk8.trans' (.of_grown hgrow (hI8.fp1 b6 rfl)) hn6', fun hne => absurd e5.out hne⟩
            · rw [if_pos e5.out]
              exact (hI8.wide (fun b hb => .inl hb) (by rintro b (hb | hb); exact hI8.lt b hb; omega)).putN hown hgrow ⟨r1', r2', fun x hx _ => .inr (q1 x hx), fun x hx _ => .inr (q2 x hx), p1, p2⟩
            · rintro b (hb | hb)
              · exact hn6' b hb
              · exact .inr (by have := hk.size; omega)

end Go.Proofs.YtpgchnppinbpkaaDoor
