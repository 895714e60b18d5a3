/- Package pack: a room is a ledger, or places laid over it; what is used of a node there. -/
import Derived.Test.YthneemgpifbehaaGreatDoorMg14
import Derived.Test.YthneemgpifbehaaGreatDoorMg33
import Derived.Test.YthneemgpifbehaaGreatDoorMg06
import Derived.Test.YthneemgpifbehaaGreatDoorMg13
import Derived.Laws.OwnMore
namespace Go.Proofs.YthneemgpifbehaaGreatDoor
open Go.RowKit Go.Maps
set_option linter.unusedSimpArgs false
set_option linter.unusedVariables false

/-- A room: the ledger, or places laid over it, the last one first. -/
def roomV (L : Nat) : List Pl → Value
  | [] => .iface 87 (.pointer (some ⟨L, 0, none⟩))
  | q :: l => .iface 315 (.agg #[roomV L l, .string q.pod, .string q.node, .int .i64 q.cpu, .int .i64 q.mem, .bool q.al])

/-- What is used of a node there, and how many stand there. -/
def useC (G : List (Int × Grp)) (l : List Pl) (s : ByteArray) : Int := gW (·.cpu) s G + sW (·.cpu) s l
def useM (G : List (Int × Grp)) (l : List Pl) (s : ByteArray) : Int := gW (·.mem) s G + sW (·.mem) s l
def useN (G : List (Int × Grp)) (l : List Pl) (s : ByteArray) : Int := gW (fun _ => 1) s G + sW (fun _ => 1) s l
def usedV (G : List (Int × Grp)) (l : List Pl) (s : ByteArray) : Value := .tuple #[.agg #[.int .i64 (useC G l s), .int .i64 (useM G l s)], .int .i64 (useN G l s)]

/-- Places laid over a ledger, each where there is such a sum. -/
def LaidOk (G : List (Int × Grp)) : List Pl → Prop
  | [] => True
  | q :: t => LaidOk G t ∧ 0 ≤ q.cpu ∧ 0 ≤ q.mem ∧ useC G (q :: t) q.node ≤ 1099511627776 ∧ useM G (q :: t) q.node ≤ 1099511627776
theorem LaidOk.nonneg {G : List (Int × Grp)} : ∀ {l : List Pl}, LaidOk G l → ∀ p ∈ l, 0 ≤ p.cpu ∧ 0 ≤ p.mem
  | [], _, p, hp => by cases hp
  | q :: t, h, p, hp => by
    rcases List.mem_cons.1 hp with rfl | hp
    · exact ⟨h.2.1, h.2.2.1⟩
    · exact h.1.nonneg p hp
theorem LaidOk.least {E : List (ByteArray × Rec)} {G : List (Int × Grp)} (hI : Inv E G) {l : List Pl} (h : LaidOk G l) (s : ByteArray) : 0 ≤ useC G l s ∧ 0 ≤ useM G l s := by
  have h1 := hI.least s
  have h2 := sW_nonneg (f := (·.cpu)) (s := s) (ps := l) (fun p hp => (h.nonneg p hp).1)
  have h3 := sW_nonneg (f := (·.mem)) (s := s) (ps := l) (fun p hp => (h.nonneg p hp).2)
  unfold useC useM
  omega
theorem LaidOk.most {E : List (ByteArray × Rec)} {G : List (Int × Grp)} (hI : Inv E G) : ∀ {l : List Pl}, LaidOk G l → ∀ s, useC G l s ≤ 1099511627776 ∧ useM G l s ≤ 1099511627776
  | [], _, s => by
    have hu := hI.used s
    have e1 : useC G [] s = gW (·.cpu) s G := by simp [useC, sW]
    have e2 : useM G [] s = gW (·.mem) s G := by simp [useM, sW]
    rw [e1, e2]
    cases hl : look E s with
    | none =>
      rw [hl] at hu
      have z1 : zrec.u = 0 := rfl
      have z2 : zrec.m = 0 := rfl
      simp only [Option.getD_none, z1, z2] at hu
      omega
    | some r =>
      have h1 := hI.uses s r hl
      have h2 := hI.cap _ (mem_of_look hl)
      simp only at h2
      omega
  | q :: t, h, s => by
    by_cases e : q.node = s
    · subst e; exact ⟨h.2.2.2.1, h.2.2.2.2⟩
    · have := LaidOk.most hI h.1 s
      simp only [useC, useM, sW, if_neg e] at this ⊢
      omega
theorem useN_bound {E : List (ByteArray × Rec)} {G : List (Int × Grp)} (hI : Inv E G) (l : List Pl) (s : ByteArray) : 0 ≤ useN G l s ∧ useN G l s ≤ G.length * 8 + l.length := by
  have h1 := hI.count s
  have h2 := sW_one_le (s := s) l
  unfold useN
  omega

theorem str_eq (a b : ByteArray) : (a.toList == b.toList) = decide (a = b) := by
  rw [ByteArray.toList_eq, ByteArray.toList_eq]
  by_cases h : a = b
  · simp [h]
  · have : ¬ a.data = b.data := fun e => h (by cases a; cases b; simpa using e)
    simp [h, this]

theorem nil24 (a : Addr) (w : World) : (nilAhead 455 87 (.pointer (some a)) "Used").run Tryz.prog w = .ok (some false) w := by kernel_rfl
theorem meth24 (a : Addr) (w : World) : (method 455 87 (.pointer (some a)) "Used").run Tryz.prog w = .ok (62, .pointer (some a)) w := by kernel_rfl
theorem meth98 (cs : Array Value) (w : World) : (method 455 315 (.agg cs) "Used").run Tryz.prog w = .ok (321, .agg cs) w := by kernel_rfl
theorem nil98 (cs : Array Value) (w : World) : (nilAhead 455 315 (.agg cs) "Used").run Tryz.prog w = .ok (some false) w := by kernel_rfl

/-- The function behind a room's Used, and what it is called on. -/
def UsedAt (w : World) (L : Nat) (G : List (Int × Grp)) (l : List Pl) (s : ByteArray) : Prop := match l with
  | [] => Calls Tryz.prog 62 #[.pointer (some ⟨L, 0, none⟩), .string s] w fun e w' => e = .returned (usedV G [] s) ∧ Below w.heap.size w w'
  | q :: t => Calls Tryz.prog 321 #[.agg #[roomV L t, .string q.pod, .string q.node, .int .i64 q.cpu, .int .i64 q.mem, .bool q.al], .string s] w fun e w' => e = .returned (usedV G (q :: t) s) ∧ Below w.heap.size w w'

set_option maxRecDepth 100000 in
set_option maxHeartbeats 4000000 in
theorem lUsed_any (L : Nat) (fp : Nat → Prop) (E : List (ByteArray × Rec)) (G : List (Int × Grp)) (s : ByteArray) (hs : s.size ≤ maxLen) (hG : G.length ≤ 100) : ∀ (l : List Pl), LaidOk G l → l.length ≤ 8 → ∀ w, Led w L fp E G → UsedAt w L G l s
  | [], _, _, w, h => by
    have := usedL w L fp E G h s hs
    unfold UsedAt usedV useC useM useN
    simpa [sW] using this
  | q :: t, hl, h8, w, h => by
    have ih := lUsed_any L fp E G s hs hG t hl.1 (by simp only [List.length_cons] at h8; omega)
    have b1 := hl.1.least h.1 s
    have b2 := LaidOk.most h.1 hl.1 s
    have b3 := LaidOk.most h.1 hl s
    have b4 := useN_bound h.1 t s
    have b5 : t.length ≤ 8 := by simp only [List.length_cons] at h8; omega
    obtain ⟨_, q1, q2, _, _⟩ := hl
    obtain ⟨pod, node, cpu, mem, al⟩ := q
    simp only at q1 q2
    have hsq := str_eq node s
    have eC : useC G (⟨pod, node, cpu, mem, al⟩ :: t) s = useC G t s + if node = s then cpu else 0 := by simp only [useC, sW]; omega
    have eM : useM G (⟨pod, node, cpu, mem, al⟩ :: t) s = useM G t s + if node = s then mem else 0 := by simp only [useM, sW]; omega
    have eN : useN G (⟨pod, node, cpu, mem, al⟩ :: t) s = useN G t s + if node = s then 1 else 0 := by simp only [useN, sW]; omega
    show Calls Tryz.prog 321 #[.agg #[roomV L t, .string pod, .string node, .int .i64 cpu, .int .i64 mem, .bool al], .string s] w fun e w' => e = .returned (usedV G (⟨pod, node, cpu, mem, al⟩ :: t) s) ∧ Below w.heap.size w w'
    unfold usedV
    rw [eC, eM, eN]
    rw [eC, eM] at b3
    clear eC eM eN
    have kA : ∀ W, Below w.heap.size w W → UsedAt W L G t s := fun W hW => ih W (h.later hW)
    clear ih h
    obtain ⟨x, hx⟩ : ∃ x, useC G t s = x := ⟨_, rfl⟩
    obtain ⟨y, hy⟩ : ∃ y, useM G t s = y := ⟨_, rfl⟩
    obtain ⟨z, hz⟩ : ∃ z, useN G t s = z := ⟨_, rfl⟩
    rw [hx] at b1 b2 b3 ⊢
    rw [hy] at b1 b2 b3 ⊢
    rw [hz] at b4 ⊢
    have b7 := b4.1
    have b6 : z ≤ 100000 := by omega
    have hn24 := nil24
    have hm24 := meth24
    have hn98 := nil98
    have hm98 := meth98
    have hb0 : Below w.heap.size w (((w.alloc (.cells #[roomV L t, .string pod, .string node, .int .i64 cpu, .int .i64 mem, .bool al] 315)).alloc (.cells #[.int .i64 0, .int .i64 0] 52))) := up (up (Below.refl _ _) _) _
    cases t with
    | nil =>
      have kA : ∀ W, Below w.heap.size w W → Calls Tryz.prog 62 #[.pointer (some ⟨L, 0, none⟩), .string s] W fun e w' => e = .returned (.tuple #[.agg #[.int .i64 x, .int .i64 y], .int .i64 z]) ∧ Below W.heap.size W w' := fun W hW => by
        have := kA W hW
        rw [← hx, ← hy, ← hz]; exact this
      clear hx hy hz
      by_cases heq : node = s
      · have hq : (node.toList == s.toList) = true := by rw [hsq]; simp [heq]
        simp only [if_pos heq] at b3 ⊢
        have kadd : ∀ W, Calls Tryz.prog 194 #[.agg #[.int .i64 x, .int .i64 y], .agg #[.int .i64 cpu, .int .i64 mem]] W fun e w' => e = .returned (.tuple #[.agg #[.int .i64 (x + cpu), .int .i64 (y + mem)], .int .i64 0]) ∧ Below W.heap.size W w' := fun W => by
          have := add_any x y cpu mem (by omega) (by omega) (by omega) W
          unfold addV at this
          rwa [if_pos (by omega)] at this
        clear heq hsq
        unfold roomV
        go_enter Tryz.func321, Tryz.ntmps321
        go_upto_region 2 with (go_at_call 62; refine (kA _ hb0).mono ?_; rintro e w3 ⟨rfl, hb3⟩)
        have hX3 : Box w3 w.heap.size _ _ := ((Box.new w #[.iface 87 (.pointer (some ⟨L, 0, none⟩)), .string pod, .string node, .int .i64 cpu, .int .i64 mem, .bool al] 315 rfl).up _).later hb3
        have hR3 : Box w3 (w.heap.size + 1) #[.int .i64 0, .int .i64 0] 52 := (Box.new _ _ _ (by simp)).later hb3
        have hW3 := hb0.trans (hb3.mono hb0.size)
        have z3 := hb3.size
        simp only [World.size_alloc] at z3
        have hX4 := hX3.up (.cells #[.int .i64 x, .int .i64 y] 52)
        have hR4 := hR3.up (.cells #[.int .i64 x, .int .i64 y] 52)
        have hU4 := Box.new w3 #[.int .i64 x, .int .i64 y] 52 rfl
        have hW4 := up hW3 (.cells #[.int .i64 x, .int .i64 y] 52)
        have zU : w.heap.size + 2 ≤ w3.heap.size := by omega
        generalize w3.alloc (.cells #[.int .i64 x, .int .i64 y] 52) = w4 at *
        generalize w3.heap.size = U at *
        clear kA hb3 hb0 hX3 hR3 hW3 z3
        obtain ⟨x0, x1, x2, x3, x4, x5⟩ := hX4.cells6
        obtain ⟨u0, u1⟩ := hU4.cells2
        obtain ⟨t0, t1⟩ := hR4.cells2
        have fr0 := hR4.frozen 0
        have fr1 := hR4.frozen 1
        have hlR := hR4.lt
        have neU : w.heap.size + 1 ≠ U := by omega
        have neU' : U ≠ w.heap.size + 1 := by omega
        have neX : w.heap.size ≠ U := by omega
        go_upto_region 5 with (go_at_call 194; refine (kadd _).mono ?_; rintro e w5 ⟨rfl, hb5⟩; have hU5 := hU4.later hb5; have hR5 := hR4.later hb5; have hW5 := hW4.trans (hb5.mono hW4.size); have fu0 := hU5.frozen 0; have fu1 := hU5.frozen 1; obtain ⟨v0, v1⟩ := hU5.cells2; clear x0 x1 x2 x3 x4 x5 u0 u1 t0 t1 fr0 fr1)
        have hU6 := (hU5.set 0 (.int .i64 (x + cpu))).set 1 (.int .i64 (y + mem))
        have hR6 := (hR5.other neU 0 (.int .i64 (x + cpu))).other neU 1 (.int .i64 (y + mem))
        have hW6 := (hW5.setCell (p := ⟨U, 0, none⟩) (by simp; omega) (.int .i64 (x + cpu))).setCell (p := ⟨U, 1, none⟩) (by simp; omega) (.int .i64 (y + mem))
        simp only [List.setIfInBounds_toArray, List.set_cons_succ, List.set_cons_zero] at hU6
        generalize (w5.setCell ⟨U, 0, none⟩ (.int .i64 (x + cpu))).setCell ⟨U, 1, none⟩ (.int .i64 (y + mem)) = w6 at *
        clear v0 v1 fu0 fu1 hU5 hR5 hW5 hb5
        obtain ⟨v0, v1⟩ := hU6.cells2
        obtain ⟨t0, t1⟩ := hR6.cells2
        have fr0 := hR6.frozen 0
        have fr1 := hR6.frozen 1
        go_wp2
        have pB := (hR6.set 0 (.int .i64 (x + cpu))).set 1 (.int .i64 (y + mem))
        simp only [List.setIfInBounds_toArray, List.set_cons_succ, List.set_cons_zero] at pB
        obtain ⟨r0, r1⟩ := pB.cells2
        refine bodyPost_ret (by simp [results, Tryz.results321, go_sem, r0, r1]) rfl ⟨rfl, ?_⟩
        exact (hW6.setCell (p := ⟨w.heap.size + 1, 0, none⟩) (by simp) _).setCell (p := ⟨w.heap.size + 1, 1, none⟩) (by simp) _
      · have hq : (node.toList == s.toList) = false := by rw [hsq]; simp [heq]
        simp only [if_neg heq, Int.add_zero] at b3 ⊢
        clear heq hsq
        unfold roomV
        go_enter Tryz.func321, Tryz.ntmps321
        go_upto_region 2 with (go_at_call 62; refine (kA _ hb0).mono ?_; rintro e w3 ⟨rfl, hb3⟩)
        have hX3 : Box w3 w.heap.size _ _ := ((Box.new w #[.iface 87 (.pointer (some ⟨L, 0, none⟩)), .string pod, .string node, .int .i64 cpu, .int .i64 mem, .bool al] 315 rfl).up _).later hb3
        have hR3 : Box w3 (w.heap.size + 1) #[.int .i64 0, .int .i64 0] 52 := (Box.new _ _ _ (by simp)).later hb3
        have hW3 := hb0.trans (hb3.mono hb0.size)
        have z3 := hb3.size
        simp only [World.size_alloc] at z3
        have hX4 := hX3.up (.cells #[.int .i64 x, .int .i64 y] 52)
        have hR4 := hR3.up (.cells #[.int .i64 x, .int .i64 y] 52)
        have hU4 := Box.new w3 #[.int .i64 x, .int .i64 y] 52 rfl
        have hW4 := up hW3 (.cells #[.int .i64 x, .int .i64 y] 52)
        have zU : w.heap.size + 2 ≤ w3.heap.size := by omega
        generalize w3.alloc (.cells #[.int .i64 x, .int .i64 y] 52) = w4 at *
        generalize w3.heap.size = U at *
        clear kA hb3 hb0 hX3 hR3 hW3 z3
        obtain ⟨x0, x1, x2, x3, x4, x5⟩ := hX4.cells6
        obtain ⟨u0, u1⟩ := hU4.cells2
        obtain ⟨t0, t1⟩ := hR4.cells2
        have fr0 := hR4.frozen 0
        have fr1 := hR4.frozen 1
        have hlR := hR4.lt
        have neU : w.heap.size + 1 ≠ U := by omega
        have neU' : U ≠ w.heap.size + 1 := by omega
        have neX : w.heap.size ≠ U := by omega
        go_wp2
        have pB := (hR4.set 0 (.int .i64 x)).set 1 (.int .i64 y)
        simp only [List.setIfInBounds_toArray, List.set_cons_succ, List.set_cons_zero] at pB
        obtain ⟨r0, r1⟩ := pB.cells2
        refine bodyPost_ret (by simp [results, Tryz.results321, go_sem, r0, r1]) rfl ⟨rfl, ?_⟩
        exact (hW4.setCell (p := ⟨w.heap.size + 1, 0, none⟩) (by simp) _).setCell (p := ⟨w.heap.size + 1, 1, none⟩) (by simp) _
    | cons q2' t2 =>
      have kA : ∀ W, Below w.heap.size w W → Calls Tryz.prog 321 #[.agg #[roomV L t2, .string q2'.pod, .string q2'.node, .int .i64 q2'.cpu, .int .i64 q2'.mem, .bool q2'.al], .string s] W fun e w' => e = .returned (.tuple #[.agg #[.int .i64 x, .int .i64 y], .int .i64 z]) ∧ Below W.heap.size W w' := fun W hW => by
        have := kA W hW
        rw [← hx, ← hy, ← hz]; exact this
      clear hx hy hz
      by_cases heq : node = s
      · have hq : (node.toList == s.toList) = true := by rw [hsq]; simp [heq]
        simp only [if_pos heq] at b3 ⊢
        have kadd : ∀ W, Calls Tryz.prog 194 #[.agg #[.int .i64 x, .int .i64 y], .agg #[.int .i64 cpu, .int .i64 mem]] W fun e w' => e = .returned (.tuple #[.agg #[.int .i64 (x + cpu), .int .i64 (y + mem)], .int .i64 0]) ∧ Below W.heap.size W w' := fun W => by
          have := add_any x y cpu mem (by omega) (by omega) (by omega) W
          unfold addV at this
          rwa [if_pos (by omega)] at this
        clear heq hsq
        unfold roomV
        go_enter Tryz.func321, Tryz.ntmps321
        go_upto_region 2 with (go_at_call 321; refine (kA _ hb0).mono ?_; rintro e w3 ⟨rfl, hb3⟩)
        have hX3 : Box w3 w.heap.size _ _ := ((Box.new w #[.iface 315 (.agg #[roomV L t2, .string q2'.pod, .string q2'.node, .int .i64 q2'.cpu, .int .i64 q2'.mem, .bool q2'.al]), .string pod, .string node, .int .i64 cpu, .int .i64 mem, .bool al] 315 rfl).up _).later hb3
        have hR3 : Box w3 (w.heap.size + 1) #[.int .i64 0, .int .i64 0] 52 := (Box.new _ _ _ (by simp)).later hb3
        have hW3 := hb0.trans (hb3.mono hb0.size)
        have z3 := hb3.size
        simp only [World.size_alloc] at z3
        have hX4 := hX3.up (.cells #[.int .i64 x, .int .i64 y] 52)
        have hR4 := hR3.up (.cells #[.int .i64 x, .int .i64 y] 52)
        have hU4 := Box.new w3 #[.int .i64 x, .int .i64 y] 52 rfl
        have hW4 := up hW3 (.cells #[.int .i64 x, .int .i64 y] 52)
        have zU : w.heap.size + 2 ≤ w3.heap.size := by omega
        generalize w3.alloc (.cells #[.int .i64 x, .int .i64 y] 52) = w4 at *
        generalize w3.heap.size = U at *
        clear kA hb3 hb0 hX3 hR3 hW3 z3
        obtain ⟨x0, x1, x2, x3, x4, x5⟩ := hX4.cells6
        obtain ⟨u0, u1⟩ := hU4.cells2
        obtain ⟨t0, t1⟩ := hR4.cells2
        have fr0 := hR4.frozen 0
        have fr1 := hR4.frozen 1
        have hlR := hR4.lt
        have neU : w.heap.size + 1 ≠ U := by omega
        have neU' : U ≠ w.heap.size + 1 := by omega
        have neX : w.heap.size ≠ U := by omega
        go_upto_region 5 with (go_at_call 194; refine (kadd _).mono ?_; rintro e w5 ⟨rfl, hb5⟩; have hU5 := hU4.later hb5; have hR5 := hR4.later hb5; have hW5 := hW4.trans (hb5.mono hW4.size); have fu0 := hU5.frozen 0; have fu1 := hU5.frozen 1; obtain ⟨v0, v1⟩ := hU5.cells2; clear x0 x1 x2 x3 x4 x5 u0 u1 t0 t1 fr0 fr1)
        have hU6 := (hU5.set 0 (.int .i64 (x + cpu))).set 1 (.int .i64 (y + mem))
        have hR6 := (hR5.other neU 0 (.int .i64 (x + cpu))).other neU 1 (.int .i64 (y + mem))
        have hW6 := (hW5.setCell (p := ⟨U, 0, none⟩) (by simp; omega) (.int .i64 (x + cpu))).setCell (p := ⟨U, 1, none⟩) (by simp; omega) (.int .i64 (y + mem))
        simp only [List.setIfInBounds_toArray, List.set_cons_succ, List.set_cons_zero] at hU6
        generalize (w5.setCell ⟨U, 0, none⟩ (.int .i64 (x + cpu))).setCell ⟨U, 1, none⟩ (.int .i64 (y + mem)) = w6 at *
        clear v0 v1 fu0 fu1 hU5 hR5 hW5 hb5
        obtain ⟨v0, v1⟩ := hU6.cells2
        obtain ⟨t0, t1⟩ := hR6.cells2
        have fr0 := hR6.frozen 0
        have fr1 := hR6.frozen 1
        go_wp2
        have pB := (hR6.set 0 (.int .i64 (x + cpu))).set 1 (.int .i64 (y + mem))
        simp only [List.setIfInBounds_toArray, List.set_cons_succ, List.set_cons_zero] at pB
        obtain ⟨r0, r1⟩ := pB.cells2
        refine bodyPost_ret (by simp [results, Tryz.results321, go_sem, r0, r1]) rfl ⟨rfl, ?_⟩
        exact (hW6.setCell (p := ⟨w.heap.size + 1, 0, none⟩) (by simp) _).setCell (p := ⟨w.heap.size + 1, 1, none⟩) (by simp) _
      · have hq : (node.toList == s.toList) = false := by rw [hsq]; simp [heq]
        simp only [if_neg heq, Int.add_zero] at b3 ⊢
        clear heq hsq
        unfold roomV
        go_enter Tryz.func321, Tryz.ntmps321
        go_upto_region 2 with (go_at_call 321; refine (kA _ hb0).mono ?_; rintro e w3 ⟨rfl, hb3⟩)
        have hX3 : Box w3 w.heap.size _ _ := ((Box.new w #[.iface 315 (.agg #[roomV L t2, .string q2'.pod, .string q2'.node, .int .i64 q2'.cpu, .int .i64 q2'.mem, .bool q2'.al]), .string pod, .string node, .int .i64 cpu, .int .i64 mem, .bool al] 315 rfl).up _).later hb3
        have hR3 : Box w3 (w.heap.size + 1) #[.int .i64 0, .int .i64 0] 52 := (Box.new _ _ _ (by simp)).later hb3
        have hW3 := hb0.trans (hb3.mono hb0.size)
        have z3 := hb3.size
        simp only [World.size_alloc] at z3
        have hX4 := hX3.up (.cells #[.int .i64 x, .int .i64 y] 52)
        have hR4 := hR3.up (.cells #[.int .i64 x, .int .i64 y] 52)
        have hU4 := Box.new w3 #[.int .i64 x, .int .i64 y] 52 rfl
        have hW4 := up hW3 (.cells #[.int .i64 x, .int .i64 y] 52)
        have zU : w.heap.size + 2 ≤ w3.heap.size := by omega
        generalize w3.alloc (.cells #[.int .i64 x, .int .i64 y] 52) = w4 at *
        generalize w3.heap.size = U at *
        clear kA hb3 hb0 hX3 hR3 hW3 z3
        obtain ⟨x0, x1, x2, x3, x4, x5⟩ := hX4.cells6
        obtain ⟨u0, u1⟩ := hU4.cells2
        obtain ⟨t0, t1⟩ := hR4.cells2
        have fr0 := hR4.frozen 0
        have fr1 := hR4.frozen 1
        have hlR := hR4.lt
        have neU : w.heap.size + 1 ≠ U := by omega
        have neU' : U ≠ w.heap.size + 1 := by omega
        have neX : w.heap.size ≠ U := by omega
        go_wp2
        have pB := (hR4.set 0 (.int .i64 x)).set 1 (.int .i64 y)
        simp only [List.setIfInBounds_toArray, List.set_cons_succ, List.set_cons_zero] at pB
        obtain ⟨r0, r1⟩ := pB.cells2
        refine bodyPost_ret (by simp [results, Tryz.results321, go_sem, r0, r1]) rfl ⟨rfl, ?_⟩
        exact (hW4.setCell (p := ⟨w.heap.size + 1, 0, none⟩) (by simp) _).setCell (p := ⟨w.heap.size + 1, 1, none⟩) (by simp) _

end Go.Proofs.YthneemgpifbehaaGreatDoor

/- Package pack: the places that a room has, and those on one node. -/
namespace Go.Proofs.YthneemgpifbehaaGreatDoor
open Go.RowKit Go.Maps
set_option linter.unusedSimpArgs false
set_option linter.unusedVariables false

theorem own_low {w : World} {B B' : Nat} {e : TypeId} {size : Nat} {v : Value} {n : Nat} {xs : List Value} (h : w.ownsRow B e size v n xs) (hB : B' ≤ B) : w.ownsRow B' e size v n xs := by
  refine ⟨h.1, ?_⟩
  rcases h.2 with h1 | ⟨g, cap, cur, h1, h2, h3⟩
  · exact .inl h1
  · exact .inr ⟨g, cap, cur, h1, by omega, h3⟩
theorem own_after {w w' : World} {B : Nat} {e : TypeId} {size : Nat} {v : Value} {n : Nat} {xs : List Value} (h : w.ownsRow B e size v n xs) (hb : Below w.heap.size w w') : w'.ownsRow B e size v n xs :=
  h.kept (below_grown hb none) (by cases v.ownBlock with | none => exact .inl rfl | some j => exact .inr (by simp))
/-- A row of places of the call's own, as a row of places. -/
theorem pls_own {w : World} {base : Nat} {v : Value} {n : Nat} {l : List Pl} (h : w.ownsRow base 143 5 v n (l.flatMap Pl.cells)) (hl : l.length ≤ 1000) (hn : l.length = n) : ∃ a c, v = .slice a n c ∧ Pls w a l ∧ SP a ∧ (a = none → c = 0) ∧ n ≤ c ∧ ∀ x, a = some x → base ≤ x.block ∧ x.block < w.heap.size := by
  rcases h.2 with ⟨rfl, h0⟩ | ⟨g, cap, cur, rfl, hb, hh, hncap, hrest⟩
  · have : l = [] := List.eq_nil_of_length_eq_zero (by omega)
    subst this h0
    exact ⟨none, 0, rfl, ⟨by simp, by simp⟩, SP.none, fun _ => rfl, Nat.le_refl _, fun x hx => by cases hx⟩
  · refine ⟨some ⟨g, 0, none⟩, cap, rfl, pls_of_cells hl (fun j u hj => ?_), SP.some _ _, (fun h => by cases h), hncap, fun x hx => by cases hx; exact ⟨hb, (Array.getElem?_eq_some_iff.1 hh).1⟩⟩
    have := h.cells (g := g) rfl j u hj
    rwa [add_spot rfl] at this

abbrev zlaid : Value := .agg #[.nilIface, .string ⟨#[]⟩, .string ⟨#[]⟩, .int .i64 0, .int .i64 0, .bool false]
theorem ta_no (p : Value) (w : World) : (Instr.typeAssert (.iface 87 p) 312 315 true).run Tryz.prog w = .ok (.tuple #[zlaid, .bool false]) w := by kernel_rfl
theorem ta_yes (p : Value) (w : World) : (Instr.typeAssert (.iface 315 p) 312 315 true).run Tryz.prog w = .ok (.tuple #[p, .bool true]) w := by kernel_rfl
theorem cfplaced (args : Array Value) (w : World) : (callFunc 274 args).run Tryz.prog w = .ok (.enter 274 args) w := by kernel_rfl

def placedF (TT : TypeId) (VV : Value) (B N : Nat) (q : Pl) (t : List Pl) : Nat → Value → World → Prop
  | 0, u, _ => u = .pointer (some ⟨B, 0, none⟩)
  | 1, u, _ => u = .iface TT VV
  | 2, u, w => w.ownsRow N 143 5 u t.length (t.reverse.flatMap Pl.cells)
  | 3, u, _ => u = .pointer (some ⟨B, 1, none⟩)
  | 4, u, _ => u = .agg #[.string q.pod, .string q.node, .int .i64 q.cpu, .int .i64 q.mem, .bool q.al]
  | 5, u, w => ∃ D, u = .slice (some ⟨D, 0, none⟩) 1 1 ∧ NewCells w D q.cells
  | _, _, _ => True

set_option maxRecDepth 100000 in
set_option maxHeartbeats 8000000 in
theorem placed_any (L : Nat) : ∀ (l : List Pl), l.length ≤ 8 → ∀ w, Calls Tryz.prog 274 #[roomV L l] w fun e w' => ∃ v, e = .returned v ∧ w'.ownsRow w.heap.size 143 5 v l.length (l.reverse.flatMap Pl.cells) ∧ Below w.heap.size w w'
  | [], _, w => by
    have h0 := ta_no
    unfold roomV
    go_enter Tryz.func274, Tryz.ntmps274
    go_wp2
    go_ret
    exact ⟨_, rfl, World.ownsRow_nil _ _ _ _, by first | exact up (Below.refl _ _) _ | skip⟩
  | q :: t, h8, w => by
    have hl : t.length ≤ 7 := by simp only [List.length_cons] at h8; omega
    have ih := placed_any L t (by omega)
    obtain ⟨i0, hi, hz0, hz1, hz2⟩ := info_parts infoPl
    have h0 := ta_yes
    unfold roomV
    obtain ⟨TT, VV, hV⟩ : ∃ T V, roomV L t = .iface T V := by cases t <;> exact ⟨_, _, rfl⟩
    rw [hV] at ih ⊢
    go_enter Tryz.func274, Tryz.ntmps274
    go_upto_region 3 with fail
    have hB0 := Box.new w #[.iface TT VV, .string q.pod, .string q.node, .int .i64 q.cpu, .int .i64 q.mem, .bool q.al] 315 rfl
    have hbW : Below w.heap.size w (w.alloc (.cells #[.iface TT VV, .string q.pod, .string q.node, .int .i64 q.cpu, .int .i64 q.mem, .bool q.al] 315)) := up (Below.refl _ _) _
    generalize w.alloc (.cells #[.iface TT VV, .string q.pod, .string q.node, .int .i64 q.cpu, .int .i64 q.mem, .bool q.al] 315) = W at hB0 hbW ⊢
    generalize hB : w.heap.size = B at hB0 ⊢
    clear h0
    refine wp_region_rely_upto 6 2 (fun w1 => Below W.heap.size W w1) (fun w1 w2 => Below w1.heap.size w1 w2) (placedF TT VV B W.heap.size q t) (by kernel_rfl) (by kernel_rfl) (by kernel_rfl) (Below.refl _ _).drew ?keep ?step ?rest
    case keep =>
      intro i v w1 w2 hS hF
      unfold placedF at *
      split at hF <;> try exact hF
      · exact own_after hF hS
      · obtain ⟨D, hv, hc⟩ := hF
        exact ⟨D, hv, hc.later hS⟩
    case step =>
      intro i o d hi ho hd b w1 hR hold hdep
      have o3 : sl b 3 = .pointer (some ⟨B, 0, none⟩) := hold 3 (by kernel_rfl)
      have hb0 := Below.refl w1.heap.size w1
      obtain ⟨x0, x1, x2, x3, x4, x5⟩ := (hB0.later hR).cells6
      rcases i with _ | _ | _ | _ | _ | _ | i
      all_goals try (cases ho; cases hd)
      · exact ok_val' rfl rfl (want_none rfl b) (by simp [go_sem, o3]) hR hb0 rfl
      · have f11 : sl b 11 = .pointer (some ⟨B, 0, none⟩) := hdep 0 _ _ rfl rfl (by kernel_rfl)
        exact ok_val' rfl rfl (want_none rfl b) (by simp [go_sem, f11, x0]) hR hb0 rfl
      · have f12 : sl b 12 = .iface TT VV := hdep 1 _ _ rfl rfl (by kernel_rfl)
        refine ok_enter' rfl rfl (want_none rfl b) ?_ ((ih w1).mono ?_)
        · simp [go_sem, f12, cfplaced]
        rintro e w2 ⟨v, rfl, hv, hb2⟩
        exact ⟨_, rfl, hR.trans (hb2.mono hR.size), hb2, own_low hv hR.size⟩
      · exact ok_val' rfl rfl (want_none rfl b) (by simp [go_sem, o3]) hR hb0 rfl
      · have f14 : sl b 14 = .pointer (some ⟨B, 1, none⟩) := hdep 3 _ _ rfl rfl (by kernel_rfl)
        exact ok_val' rfl rfl (want_none rfl b) (by simp [go_sem, f14, x1, x2, x3, x4, x5]) hR hb0 rfl
      · have f15 : sl b 15 = .agg #[.string q.pod, .string q.node, .int .i64 q.cpu, .int .i64 q.mem, .bool q.al] := hdep 4 _ _ rfl rfl (by kernel_rfl)
        exact ok_val' rfl rfl (want_none rfl b) (by simp [go_sem, f15] <;> first | rfl | exact ⟨rfl, rfl⟩) (hR.alloc hR.size _) (hb0.alloc (Nat.le_refl _) _) ⟨_, rfl, cells_new _ q.cells _ _ rfl⟩
      · omega
    case rest =>
      intro b w1 hR hsz hdf hold hF
      have f13 : w1.ownsRow W.heap.size 143 5 (sl b 13) t.length (t.reverse.flatMap Pl.cells) := hF 2 _ _ (by decide) rfl rfl
      obtain ⟨D, f16, hD⟩ : ∃ D, sl b 16 = .slice (some ⟨D, 0, none⟩) 1 1 ∧ NewCells w1 D q.cells := hF 5 _ _ (by decide) rfl rfl
      have hb1 : Below w.heap.size w w1 := hbW.trans (hR.mono hbW.size)
      have hsz' : b.tmps.size = 18 := hsz
      refine wpK_one 6 _ (by kernel_rfl) rfl (want_none rfl b) ?_
      refine okAt_append (.tmp 13) (.tmp 16) 50 rfl w.heap.size 143 i0 _ 5 56 Tryz.underlying50 hi hz0 hz1 hz2 rfl (by decide) (sl b 13) t.length _ (by simp [go_sem, sl]) (own_low f13 hbW.size) ⟨D, 0, none⟩ 1 1 q.cells (by simpa [go_sem] using f16) rfl hD (by intro u hu; simp only [Pl.cells, List.mem_cons, List.not_mem_nil, or_false] at hu; rcases hu with rfl | rfl | rfl | rfl | rfl <;> rfl) (by unfold maxLen; omega) (by omega) hb1.size ?_
      intro v' w2 hown' hgrow hat
      have hB2 : Below w.heap.size w w2 := hb1.grown hgrow hb1.size (fun j hj => by have := (f13.lt j hj).1; have := hbW.size; omega)
      refine ⟨trivial, wpK_one 7 _ (by kernel_rfl) rfl (want_none rfl _) ?_⟩
      refine okAt_val (w2 := w2) (v := v') (by simp [go_sem, hsz']) ?_
      refine ⟨trivial, wpK_end (by kernel_rfl) ?_⟩
      generalize hb9 : Act.put (Act.put b _ _) _ _ = b9
      have hb8 : (b.put (some 17) v').put (some 2) v' = b9 := hb9
      have e2 : sl b9 2 = v' := sl_same (n := 18) hb8.symm (by rw [put_size]; exact hsz') (by decide)
      have e0 := sl_ne hb8.symm (by decide) (sl_ne rfl (by decide) (hold 0 (by kernel_rfl)))
      have e1 := sl_ne hb8.symm (by decide) (sl_ne rfl (by decide) (hold 1 (by kernel_rfl)))
      have e3 := sl_ne hb8.symm (by decide) (sl_ne rfl (by decide) (hold 3 (by kernel_rfl)))
      have e4 := sl_ne hb8.symm (by decide) (sl_ne rfl (by decide) (hold 4 (by kernel_rfl)))
      have e5 := sl_ne hb8.symm (by decide) (sl_ne rfl (by decide) (hold 5 (by kernel_rfl)))
      have e6 := sl_ne hb8.symm (by decide) (sl_ne rfl (by decide) (hold 6 (by kernel_rfl)))
      have e7 := sl_ne hb8.symm (by decide) (sl_ne rfl (by decide) (hold 7 (by kernel_rfl)))
      have e8 := sl_ne hb8.symm (by decide) (sl_ne rfl (by decide) (hold 8 (by kernel_rfl)))
      have e9 := sl_ne hb8.symm (by decide) (sl_ne rfl (by decide) (hold 9 (by kernel_rfl)))
      have e10 := sl_ne hb8.symm (by decide) (sl_ne rfl (by decide) (hold 10 (by kernel_rfl)))
      have hB9 : b9 = _ := act_list b9 (show b9.tmps.size = 18 by rw [← hb8, put_size, put_size]; exact hsz) (show b9.defers = [] by rw [← hb8]; exact hdf)
      rw [hB9]
      simp only [List.range, List.range.loop, List.map_cons, List.map_nil, e2, e0, e1, e3, e4, e5, e6, e7, e8, e9, e10]
      generalize sl b9 11 = v11, sl b9 12 = v12, sl b9 13 = v13, sl b9 14 = v14, sl b9 15 = v15, sl b9 16 = v16, sl b9 17 = v17
      simp only [sl, List.getElem?_toArray, List.getElem?_cons_succ, List.getElem?_cons_zero, Option.getD_some]
      clear e0 e1 e3 e4 e5 e6 e7 e8 e9 e10 e2 hB9 hb9 hb8 hF hold hdf hsz hsz' f13 f16
      go_wp2
      go_ret
      refine ⟨v', rfl, ?_, hB2⟩
      rw [List.reverse_cons, List.flatMap_append]
      simpa using hown'

/-- Those of them that are on a node. -/
def onB (s : ByteArray) (l : List Pl) : List Pl := l.filter fun q => decide (q.node = s)
theorem onB_take {s : ByteArray} {l : List Pl} {k : Nat} (h : k < l.length) : onB s (l.take (k + 1)) = onB s (l.take k) ++ if l[k].node = s then [l[k]] else [] := by
  rw [List.take_succ_eq_append_getElem h]
  unfold onB
  rw [List.filter_append]
  by_cases e : l[k].node = s <;> simp [e]

set_option maxRecDepth 100000 in
set_option maxHeartbeats 8000000 in
theorem beside_any (L : Nat) (l : List Pl) (h8 : l.length ≤ 8) (s : ByteArray) (w : World) :
    Calls Tryz.prog 284 #[roomV L l, .string s] w fun e w' => ∃ a c, e = .returned (.slice a (onB s l.reverse).length c) ∧ Pls w' a (onB s l.reverse) ∧ Below w.heap.size w w' := by
  obtain ⟨i0, hi, hz0, hz1, hz2⟩ := info_parts infoPl
  have kp := placed_any L l h8 w
  obtain ⟨P, hP⟩ : ∃ P, l.reverse = P := ⟨_, rfl⟩
  have hPl : P.length = l.length := by rw [← hP]; simp
  rw [hP] at kp ⊢
  generalize hn : l.length = n at kp hPl h8
  go_enter Tryz.func284, Tryz.ntmps284
  go_wp2_with (go_at_call 274; refine kp.mono ?_; rintro e w1 ⟨v1, rfl, hv1, hb1⟩; obtain ⟨a1, c1, rfl, hP1, _, _, _, hn1⟩ := pls_own hv1 (by omega) hPl)
  clear kp hv1
  have hsq := fun a => str_eq a s
  go_loopw [5, 11] (fun v i wr => ∃ k : Nat, k ≤ n ∧ i = .int .i64 k ∧ wr.ownsRow w1.heap.size 143 5 v (onB s (P.take k)).length ((onB s (P.take k)).flatMap Pl.cells) ∧ Below w1.heap.size w1 wr) (fun _ i _ => n - (intOf i).toNat)
  case atStart => exact ⟨0, Nat.zero_le _, rfl, World.ownsRow_nil _ _ _ _, Below.refl _ _⟩
  case round =>
    obtain ⟨k, hk, rfl, hown, hbw⟩ := hrel
    by_cases hlt : k < n
    · obtain ⟨PB, PO, rfl, hat⟩ := (hP1.later hbw).2 k _ (List.getElem?_eq_getElem (show k < P.length by omega))
      have hst := onB_take (s := s) (l := P) (k := k) (by omega)
      have hle : (onB s (P.take k)).length ≤ k := Nat.le_trans (List.length_filter_le _ _) (by simp; omega)
      obtain ⟨p, hp⟩ : ∃ p, P[k]'(by omega) = p := ⟨_, rfl⟩
      rw [hp] at hat hst
      obtain ⟨pod, node, cpu, mem, al⟩ := p
      obtain ⟨d0, d1, d2, d3, d4⟩ := hat
      simp only at d0 d1 d2 d3 d4 hst
      have hst : Hid _ := hst
      have i1 : (k : Int) < n := by omega
      have hsq1 := hsq node
      have hbs := hbw.size
      obtain ⟨X, hX⟩ : ∃ X, onB s (P.take k) = X := ⟨_, rfl⟩
      rw [hX] at hown hle
      clear hsq hp hP1
      by_cases heq : node = s
      · have hq : (node.toList == s.toList) = true := by rw [hsq1]; simp [heq]
        replace heq : Hid (node = s) := heq
        clear hsq1
        go_wp2_with (first
          | (at_builtin; refine wpList_append_own_at _ rfl _ _ 50 rfl w1.heap.size 143 i0 _ 5 56 Tryz.underlying50 hi hz0 hz1 hz2 rfl (by decide) _ _ _ rfl ((own_after hown (up (Below.refl _ _) _)).alloc _) ⟨_, 0, none⟩ 1 1 [.string pod, .string node, .int .i64 cpu, .int .i64 mem, .bool al] rfl rfl (cells_new _ _ _ _ (by simp)) (by intro u hu; simp only [List.mem_cons, List.not_mem_nil, or_false] at hu; rcases hu with rfl | rfl | rfl | rfl | rfl <;> rfl) (by unfold maxLen; omega) (by omega) (by simp; omega) ?_; intro v' w5 hown' hgrow hnil hat)
          | go_in)
        go_roundw
        case rel =>
          refine ⟨k + 1, by omega, by go_num, ?_, ((up (up hbw _) _).grown hgrow (by simp; omega) (fun j hj => by have := (hown.lt j hj).1; omega))⟩
          rw [hst.out, if_pos heq.out, hX]
          simpa [Pl.cells] using hown'
        case measure => simp [intOf]; omega
      · have hq : (node.toList == s.toList) = false := by rw [hsq1]; simp [heq]
        clear hsq1
        go_wp2
        go_roundw
        case rel =>
          refine ⟨k + 1, by omega, by go_num, ?_, up hbw _⟩
          rw [hst.out, if_neg heq, hX, List.append_nil]
          exact own_after hown (up (Below.refl _ _) _)
        case measure => simp [intOf]; omega
    · obtain rfl : k = n := by omega
      rw [List.take_of_length_le (by omega)] at hown
      obtain ⟨a2, c2, rfl, hP2, _, _, _, _⟩ := pls_own hown (Nat.le_trans (List.length_filter_le _ _) (by omega)) rfl
      clear hown
      go_wp2
      go_ret
      first | exact ⟨a2, ⟨c2, rfl⟩, hP2, hb1.trans (hbw.mono hb1.size)⟩ | exact ⟨a2, c2, rfl, hP2, hb1.trans (hbw.mono hb1.size)⟩

end Go.Proofs.YthneemgpifbehaaGreatDoor

/- The contract of room of package fit. -/
namespace Go.Proofs.YthneemgpifbehaaGreatDoor
open Go.RowKit

theorem cell_lit (w : World) (cs : Array Value) (t : TypeId) (R j : Nat) (v : Value) (hR : w.heap.size = R) (h : cs[j]? = some v) : (w.alloc (.cells cs t)).cell? ⟨R, j, none⟩ = some v := by
  subst hR
  simp [h]

/-- Is there room: the sum is one, and fits. -/
def roomB (x y u v c m : Int) : Bool := decide (x + u ≤ 9223372036854775807 ∧ y + v ≤ 9223372036854775807 ∧ x + u ≤ c ∧ y + v ≤ m)

/-- 'room' asks for the sum of what is used (u, v) and what is needed (x, y), of right ones. -/
theorem room_any (b : Bool) (x y u v c m : Int) (hx : 0 ≤ x ∧ 0 ≤ y ∧ 0 ≤ u ∧ 0 ≤ v) (hm : u ≤ 9223372036854775807 ∧ v ≤ 9223372036854775807) (h : roomB u v x y c m = b) (w : World) :
    Calls Tryz.prog 293 #[.agg #[.int .i64 x, .int .i64 y], .agg #[.int .i64 u, .int .i64 v], .agg #[.int .i64 c, .int .i64 m]] w fun e w' => e = .returned (.bool b) ∧ Below w.heap.size w w' := by
  have e1 : wrap64 (9223372036854775807 - u) = 9223372036854775807 - u := by unfold wrap64; omega
  have e2 : wrap64 (9223372036854775807 - v) = 9223372036854775807 - v := by unfold wrap64; omega
  have a1 : decide (0 ≤ u ∧ 0 ≤ v) = true := by simp; omega
  have a2 : decide (0 ≤ x ∧ 0 ≤ y) = true := by simp; omega
  unfold roomB at h
  by_cases hf : u + x ≤ 9223372036854775807 ∧ v + y ≤ 9223372036854775807
  · have a3 : decide (x ≤ wrap64 (9223372036854775807 - u) ∧ y ≤ wrap64 (9223372036854775807 - v)) = true := by rw [e1, e2]; simp; omega
    have k := fun W => add_ok u v x y a1 a2 a3 W
    rw [show wrap64 (u + x) = u + x by unfold wrap64; omega, show wrap64 (v + y) = v + y by unfold wrap64; omega] at k
    have hq : decide (u + x ≤ c ∧ v + y ≤ m) = b := by rw [← h, decide_eq_decide]; omega
    clear e1 e2 a1 a2 a3 h hx hm hf
    go_enter Tryz.func293, Tryz.ntmps293
    go_wp2_with (first
      | (go_at_call 194
         go_loud (
           refine (k _).mono ?_
           rintro e w1 ⟨rfl, hb1⟩
           have hz : w.heap.size + 1 + 1 < w1.heap.size := by have := hb1.size; simp at this; omega
           have h20 : w1.cell? ⟨w.heap.size + 1 + 1, 0, none⟩ = some (.int .i64 c) := (hb1.cell (p := ⟨w.heap.size + 1 + 1, 0, none⟩) (by simp)).trans (cell_lit _ _ _ _ _ _ (by simp) rfl)
           have h21 : w1.cell? ⟨w.heap.size + 1 + 1, 1, none⟩ = some (.int .i64 m) := (hb1.cell (p := ⟨w.heap.size + 1 + 1, 1, none⟩) (by simp)).trans (cell_lit _ _ _ _ _ _ (by simp) rfl)))
      | (go_at_call 117; refine (fits_x _ _ _ _ _ (by assumption) _).mono ?_; rintro e w2 ⟨rfl, rfl⟩))
    go_ret
    refine ⟨rfl, ?_⟩
    have hb0 : Below w.heap.size w w1 := Below.trans (by repeat (first | with_reducible exact Below.refl _ _ | with_reducible refine Below.alloc ?_ (by simp <;> omega) _)) (hb1.mono (by simp; omega))
    have hs0 := hb0.size
    repeat (first | with_reducible exact hb0 | with_reducible refine up ?_ _)
  · have a3 : decide (x ≤ wrap64 (9223372036854775807 - u) ∧ y ≤ wrap64 (9223372036854775807 - v)) = false := by rw [e1, e2]; simp; omega
    have k := fun W => add_no u v x y a1 a2 a3 W
    have hq : b = false := by rw [← h]; simp; omega
    subst hq
    clear e1 e2 a1 a2 a3 h hx hm hf
    go_enter Tryz.func293, Tryz.ntmps293
    go_wp2_with (first
      | (go_at_call 194; refine (k _).mono ?_; rintro e w1 ⟨rfl, hb1⟩))
    go_ret
    refine ⟨rfl, ?_⟩
    have hb0 : Below w.heap.size w w1 := Below.trans (by repeat (first | with_reducible exact Below.refl _ _ | with_reducible refine Below.alloc ?_ (by simp <;> omega) _)) (hb1.mono (by simp; omega))
    have hs0 := hb0.size
    repeat (first | with_reducible exact hb0 | with_reducible refine up ?_ _)

end Go.Proofs.YthneemgpifbehaaGreatDoor

/- Names in a row: parts of it, one put together anew. -/
namespace Go.Proofs.YthneemgpifbehaaGreatDoor
open Go.RowKit Go.Maps

theorem add_add (x : Addr) (k i : Nat) : (x.add k).add i = x.add (k + i) := by
  unfold Addr.add
  by_cases hk : k = 0
  · subst hk; simp
  · by_cases hi : i = 0
    · subst hi; simp
    · simp [hk, hi, Nat.add_assoc]
theorem Strs.take {w : World} {a : Option Addr} {ss : List ByteArray} (h : Strs w a ss) (k : Nat) : Strs w a (ss.take k) :=
  ⟨by have := h.1; simp; omega, fun i hi => by
    simp only [List.length_take] at hi
    obtain ⟨x, hx, hc⟩ := h.2 i (by omega)
    refine ⟨x, hx, ?_⟩
    rw [hc]
    simp [(show i < k by omega)]⟩
theorem Strs.drop {w : World} {a : Option Addr} {ss : List ByteArray} (h : Strs w a ss) (k c : Nat) (hc : ss.length ≤ c) : Strs w (if c = k then a else a.map (fun x => x.add k)) (ss.drop k) :=
  ⟨by have := h.1; simp; omega, fun i hi => by
    simp only [List.length_drop] at hi
    obtain ⟨x, hx, hcl⟩ := h.2 (k + i) (by omega)
    rw [if_neg (by omega), hx]
    refine ⟨_, rfl, ?_⟩
    rw [add_add, hcl]
    simp⟩
theorem strs_one {w : World} {x : Addr} {s : ByteArray} (h : w.cell? x = some (.string s)) : Strs w (some x) [s] :=
  ⟨by simp, fun i hi => by
    simp only [List.length_singleton] at hi
    obtain rfl : i = 0 := by omega
    exact ⟨x, rfl, by simpa [Addr.add] using h⟩⟩
theorem strs_own {w : World} {base : Nat} {v : Value} {n : Nat} {ss : List ByteArray} (h : w.ownsRow base 9 1 v n (ss.map Value.string)) (hl : ss.length ≤ 1000) : ∃ a cap, v = .slice a ss.length cap ∧ Strs w a ss ∧ (a = none → cap = 0) ∧ ss.length ≤ cap ∧ ∀ x, a = some x → base ≤ x.block ∧ x.block < w.heap.size := by
  have hn : ss.length = n := by have := h.1; simpa using this
  rcases h.2 with ⟨rfl, h0⟩ | ⟨g, cap, cur, rfl, hb, hh, hncap, hrest⟩
  · refine ⟨none, 0, by rw [hn, h0], ⟨hl, fun i hi => by omega⟩, fun _ => rfl, by omega, fun x hx => by cases hx⟩
  · refine ⟨some ⟨g, 0, none⟩, cap, by rw [hn], ⟨hl, fun i hi => ⟨_, rfl, ?_⟩⟩, (fun h => by cases h), by omega, fun x hx => by cases hx; exact ⟨hb, (Array.getElem?_eq_some_iff.1 hh).1⟩⟩
    refine h.cells (g := g) rfl i _ ?_
    simp [List.getElem?_eq_getElem hi]
theorem strings_cell (ts : List ByteArray) : ∀ u ∈ ts.map Value.string, u.oneCell' = true := by
  intro u hu
  obtain ⟨s, _, rfl⟩ := List.mem_map.1 hu
  rfl
theorem strs_cells {w : World} {x : Addr} {ts : List ByteArray} (h : Strs w (some x) ts) : ∀ j u, (ts.map Value.string)[j]? = some u → w.cell? (x.add j) = some u := by
  intro j u hu
  have hj : j < ts.length := by
    rcases Nat.lt_or_ge j ts.length with h' | h'
    · exact h'
    · rw [List.getElem?_eq_none (by simpa using h')] at hu; cases hu
  obtain ⟨x', hx, hc⟩ := h.2 j hj
  cases hx
  rw [hc]
  simp [List.getElem?_eq_getElem hj] at hu ⊢
  exact hu

/-- One row behind the other, at a step of a region that draws its order. -/
theorem step_append {w : World} {ops : Array Oper} {o : Oper} {a : Act} {K : Act → World → Prop} {Q : Exit → Act → World → Prop} {E : Prop} (hgd : o.guard = none) (s x : Operand)
    (ho : o.op = .call { callee := .builtin .append, args := #[s, x], argTypes := #[53, 53] })
    (base : Nat) (v : Value) (n : Nat) (xs : List ByteArray) (hs : a.eval s = v) (hown : w.ownsRow base 9 1 v n (xs.map Value.string))
    (ad : Option Addr) (m c : Nat) (ts : List ByteArray) (hx : a.eval x = .slice ad m c) (hS : Strs w ad ts) (hm : ts.length = m) (hc : ad = none → c = 0) (hl : xs.length ≤ 1000) (hbase : base ≤ w.heap.size)
    (h : ∀ v' w', w'.ownsRow base 9 1 v' (n + m) ((xs ++ ts).map Value.string) → w.grownBy w' v.ownBlock → (∀ j, v.ownBlock = some j → base ≤ j) → K (a.put o.dst v') w') :
    if Region.wanted o (yielded ops a.tmps) = true then Oper.wp Tryz.prog o a w K Q else E := by
  have hw : Region.wanted o (yielded ops a.tmps) = true := by simp [Region.wanted, hgd]
  rw [if_pos hw]
  obtain ⟨i0, hi, hz0, hz1, hz2⟩ := info_parts info9
  have hn : xs.length = n := by have := hown.1; simpa using this
  have h1000 := hS.1
  cases ad with
  | none =>
    have hm0 : m = 0 := by
      rcases Nat.eq_zero_or_pos m with h0 | h0
      · exact h0
      · obtain ⟨x, hx, _⟩ := hS.2 0 (by omega)
        cases hx
    have ht : ts = [] := List.length_eq_zero_iff.1 (by omega)
    rw [hm0, hc rfl] at hx
    have hrun := run_append_owned_none (P := Tryz.prog) (w := w) base 53 o.type 9 i0 1 Tryz.underlying53 hi v n _ hown
    unfold Oper.wp
    simp [execOp, ho, resolve, invoke, builtin, hs, hx, hrun, Result.andThen]
    refine h v w ?_ ?_ (fun j hj => (hown.lt j hj).1)
    · rw [hm0, ht, List.append_nil]; exact hown
    · exact World.grownBy.refl _ _
  | some ad =>
    refine wp_append_own w s x 53 ho base 9 i0 (.string ByteArray.empty) 1 16 Tryz.underlying53 hi hz0 hz1 hz2 rfl (by decide) v n (xs.map Value.string) hs hown ad m c (ts.map Value.string) hx (by simp [hm]) (strs_cells hS) (strings_cell ts) (by unfold maxLen; omega) (by omega) hbase ?_
    intro v' w' h1 h2 _
    exact h v' w' (by rw [List.map_append]; exact h1) h2 (fun j hj => (hown.lt j hj).1)

theorem own_zero {w : World} {base g : Nat} (h : w.heap[g]? = some (.cells #[] 9)) (hb : base ≤ g) : w.ownsRow base 9 1 (.slice (some ⟨g, 0, none⟩) 0 0) 0 (([] : List ByteArray).map Value.string) :=
  ⟨rfl, .inr ⟨g, 0, #[], rfl, hb, h, Nat.le_refl _, Nat.zero_le _, rfl, rfl⟩⟩
theorem hz1 (w : World) (o : Obj) : (w.alloc o).drew.heap[w.heap.size]? = some o := by
  show (w.heap.push o)[w.heap.size]? = some o
  simp
theorem hz2 (w : World) (o o' : Obj) : ((w.alloc o).alloc o').drew.heap[w.heap.size]? = some o := by
  show ((w.heap.push o).push o')[w.heap.size]? = some o
  rw [Array.getElem?_push_lt (by simp)]
  simp
theorem hz3 (w : World) (o o' : Obj) : ((w.alloc o).alloc o').drew.heap[w.heap.size + 1]? = some o' := by
  show ((w.heap.push o).push o')[w.heap.size + 1]? = some o'
  have : w.heap.size + 1 = (w.heap.push o).size := by simp
  rw [this, Array.getElem?_push_size]
theorem cz1 (w : World) (s : ByteArray) : (w.alloc (.cells #[.string s] 9)).cell? ⟨w.heap.size, 0, none⟩ = some (.string s) := by simp
theorem cz2 (w : World) (o : Obj) (s : ByteArray) : ((w.alloc o).alloc (.cells #[.string s] 9)).drew.cell? ⟨w.heap.size + 1, 0, none⟩ = some (.string s) := by simp
theorem cz3 (w : World) (o : Obj) (s : ByteArray) : ((w.alloc (.cells #[.string s] 9)).alloc o).drew.cell? ⟨w.heap.size, 0, none⟩ = some (.string s) := by
  have h : (w.alloc (.cells #[.string s] 9)).cell? ⟨w.heap.size, 0, none⟩ = some (.string s) := by simp
  exact cell_alloc h o

/-- Where the search stands. -/
theorem at_no {s : ByteArray} {l : List ByteArray} {t : Nat} (h : t ≤ atN s l) (ht : t < l.length) (hq : sb s (l.getD t ByteArray.empty) = false) : t + 1 ≤ atN s l := by
  rcases Nat.lt_or_ge t (atN s l) with h1 | h1
  · exact h1
  · have e : t = atN s l := by omega
    have := atN_at s l (by omega)
    subst e
    simp [List.getD, List.getElem?_eq_getElem ht, this] at hq
theorem at_yes {s : ByteArray} {l : List ByteArray} {t : Nat} (h : t ≤ atN s l) (ht : t < l.length) (hq : sb s (l.getD t ByteArray.empty) = true) : atN s l = t := by
  rcases Nat.lt_or_ge t (atN s l) with h1 | h1
  · have := atN_lt s l t ht h1
    simp [List.getD, List.getElem?_eq_getElem ht, this] at hq
  · omega
theorem inB_iff {s : ByteArray} {l : List ByteArray} : inB l s = true ↔ s ∈ l := by
  unfold inB
  rw [List.any_eq_true]
  constructor
  · rintro ⟨t, ht, h⟩
    have h := eq_of_beq h
    rw [ByteArray.toList_eq, ByteArray.toList_eq] at h
    obtain ⟨⟨a⟩⟩ := t
    obtain ⟨⟨b⟩⟩ := s
    cases (show a = b from h)
    exact ht
  · intro h
    exact ⟨s, h, by simp⟩
theorem has_more {s : ByteArray} {l : List ByteArray} {t : Nat} (ht : t < l.length) : inB (l.take (t + 1)) s = (inB (l.take t) s || ((l.getD t ByteArray.empty).toList == s.toList)) := by
  unfold inB
  rw [List.take_add_one, List.any_append]
  simp [List.getD, List.getElem?_eq_getElem ht]
theorem has_all {s : ByteArray} {l : List ByteArray} (hr : Rises l) : inB (l.take (atN s l)) s = inB l s := by
  rw [Bool.eq_iff_iff, inB_iff, inB_iff]
  exact (has_front hr s).symm
theorem look_has {s : ByteArray} {M : List (ByteArray × Rec)} : look M s = none ↔ inB (M.map (·.1)) s = false := by
  rw [← Bool.not_eq_true, inB_iff, ← look_iff]
  simp

end Go.Proofs.YthneemgpifbehaaGreatDoor
