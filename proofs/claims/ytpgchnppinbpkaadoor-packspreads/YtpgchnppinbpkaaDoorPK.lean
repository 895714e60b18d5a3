/- Package pack: a room is a ledger, or places laid over it; what is used of a node there. -/
import Derived.Test.YtpgchnppinbpkaaDoorIL
import Derived.Test.YtpgchnppinbpkaaDoorRA
namespace Go.Proofs.YtpgchnppinbpkaaDoor
open Go.RowKit Go.Maps
set_option linter.unusedSimpArgs false
set_option linter.unusedVariables false

/-- A room: the ledger, or places laid over it, the last one first. -/
def roomV (L : Nat) : List Pl → Value
  | [] => .iface 24 (.pointer (some ⟨L, 0, none⟩))
  | q :: l => .iface 102 (.agg #[roomV L l, .string q.pod, .string q.node, .int .i64 q.cpu, .int .i64 q.mem, .bool q.al])

/-- What is used of a node there, and how many stand there. -/
def useC (G : List (Int × Grp)) (l : List Pl) (s : ByteArray) : Int := gW (·.cpu) s G + sW (·.cpu) s l
def useM (G : List (Int × Grp)) (l : List Pl) (s : ByteArray) : Int := gW (·.mem) s G + sW (·.mem) s l
def useN (G : List (Int × Grp)) (l : List Pl) (s : ByteArray) : Int := gW (fun _ => 1) s G + sW (fun _ => 1) s l
def usedV (G : List (Int × Grp)) (l : List Pl) (s : ByteArray) : Value := .tuple #[.agg #[.int .i64 (useC G l s), .int .i64 (useM G l s)], .int .i64 (useN G l s)]

/-- Places laid over a ledger, each where there is such a sum. -/
def LaidOk (G : List (Int × Grp)) : List Pl → Prop
  | [] => True
  | q :: t => LaidOk G t ∧ 0 ≤ q.cpu ∧ 0 ≤ q.mem ∧ useC G (q :: t) q.node ≤ 1099511627776 ∧ useM G (q :: t) q.node ≤ 1099511627776
theorem LaidOk.nonneg {G : List (Int × Grp)} : ∀ {l : List Pl}, LaidOk G l → ∀ p ∈ l, 0 ≤ p.cpu ∧ 0 ≤ p.mem
  | [], _, p, hp => by cases hp
  | q :: t, h, p, hp => by
    rcases List.mem_cons.1 hp with rfl | hp
    · exact ⟨h.2.1, h.2.2.1⟩
    · exact h.1.nonneg p hp
theorem LaidOk.least {E : List (ByteArray × Rec)} {G : List (Int × Grp)} (hI : Inv E G) {l : List Pl} (h : LaidOk G l) (s : ByteArray) : 0 ≤ useC G l s ∧ 0 ≤ useM G l s := by
  have h1 := hI.least s
  have h2 := sW_nonneg (f := (·.cpu)) (s := s) (ps := l) (fun p hp => (h.nonneg p hp).1)
  have h3 := sW_nonneg (f := (·.mem)) (s := s) (ps := l) (fun p hp => (h.nonneg p hp).2)
  unfold useC useM
  omega
theorem LaidOk.most {E : List (ByteArray × Rec)} {G : List (Int × Grp)} (hI : Inv E G) : ∀ {l : List Pl}, LaidOk G l → ∀ s, useC G l s ≤ 1099511627776 ∧ useM G l s ≤ 1099511627776
  | [], _, s => by
    have hu := hI.used s
    have e1 : useC G [] s = gW (·.cpu) s G := by simp [useC, sW]
    have e2 : useM G [] s = gW (·.mem) s G := by simp [useM, sW]
    rw [e1, e2]
    cases hl : look E s with
    | none =>
      rw [hl] at hu
      have z1 : zrec.u = 0 := rfl
      have z2 : zrec.m = 0 := rfl
      simp only [Option.getD_none, z1, z2] at hu
      omega
    | some r =>
      have h1 := hI.uses s r hl
      have h2 := hI.cap _ (mem_of_look hl)
      simp only at h2
      omega
  | q :: t, h, s => by
    by_cases e : q.node = s
    · subst e; exact ⟨h.2.2.2.1, h.2.2.2.2⟩
    · have := LaidOk.most hI h.1 s
      simp only [useC, useM, sW, if_neg e] at this ⊢
      omega
theorem useN_bound {E : List (ByteArray × Rec)} {G : List (Int × Grp)} (hI : Inv E G) (l : List Pl) (s : ByteArray) : 0 ≤ useN G l s ∧ useN G l s ≤ G.length * 8 + l.length := by
  have h1 := hI.count s
  have h2 := sW_one_le (s := s) l
  unfold useN
  omega

theorem str_eq (a b : ByteArray) : (a.toList == b.toList) = decide (a = b) := by
  rw [ByteArray.toList_eq, ByteArray.toList_eq]
  by_cases h : a = b
  · simp [h]
  · have : ¬ a.data = b.data := fun e => h (by cases a; cases b; simpa using e)
    simp [h, this]

theorem nil24 (a : Addr) (w : World) : (nilAhead 269 24 (.pointer (some a)) "Used").run Tryd.prog w = .ok (some false) w := by kernel_rfl
theorem meth24 (a : Addr) (w : World) : (method 269 24 (.pointer (some a)) "Used").run Tryd.prog w = .ok (16, .pointer (some a)) w := by kernel_rfl
theorem meth98 (cs : Array Value) (w : World) : (method 269 102 (.agg cs) "Used").run Tryd.prog w = .ok (121, .agg cs) w := by kernel_rfl
theorem nil98 (cs : Array Value) (w : World) : (nilAhead 269 102 (.agg cs) "Used").run Tryd.prog w = .ok (some false) w := by kernel_rfl

/-- The function behind a room's Used, and what it is called on. -/
def UsedAt (w : World) (L : Nat) (G : List (Int × Grp)) (l : List Pl) (s : ByteArray) : Prop := match l with
  | [] => Calls Tryd.prog 16 #[.pointer (some ⟨L, 0, none⟩), .string s] w fun e w' => e = .returned (usedV G [] s) ∧ Below w.heap.size w w'
  | q :: t => Calls Tryd.prog 121 #[.agg #[roomV L t, .string q.pod, .string q.node, .int .i64 q.cpu, .int .i64 q.mem, .bool q.al], .string s] w fun e w' => e = .returned (usedV G (q :: t) s) ∧ Below w.heap.size w w'

set_option maxRecDepth 100000 in
set_option maxHeartbeats 4000000 in
theorem lUsed_any (L : Nat) (fp : Nat → Prop) (E : List (ByteArray × Rec)) (G : List (Int × Grp)) (s : ByteArray) (hs : s.size ≤ maxLen) (hG : G.length ≤ 100) : ∀ (l : List Pl), LaidOk G l → l.length ≤ 8 → ∀ w, Led w L fp E G → UsedAt w L G l s
  | [], _, _, w, h => by
    have := usedL w L fp E G h s hs
    unfold UsedAt usedV useC useM useN
    simpa [sW] using this
  | q :: t, hl, h8, w, h => by
    have ih := lUsed_any L fp E G s hs hG t hl.1 (by simp only [List.length_cons] at h8; omega)
    have b1 := hl.1.least h.1 s
    have b2 := LaidOk.most h.1 hl.1 s
    have b3 := LaidOk.most h.1 hl s
    have b4 := useN_bound h.1 t s
    have b5 : t.length ≤ 8 := by simp only [List.length_cons] at h8; omega
    obtain ⟨_, q1, q2, _, _⟩ := hl
    obtain ⟨pod, node, cpu, mem, al⟩ := q
    simp only at q1 q2
    have hsq := str_eq node s
    have eC : useC G (⟨pod, node, cpu, mem, al⟩ :: t) s = useC G t s + if node = s then cpu else 0 := by simp only [useC, sW]; omega
    have eM : useM G (⟨pod, node, cpu, mem, al⟩ :: t) s = useM G t s + if node = s then mem else 0 := by simp only [useM, sW]; omega
    have eN : useN G (⟨pod, node, cpu, mem, al⟩ :: t) s = useN G t s + if node = s then 1 else 0 := by simp only [useN, sW]; omega
    show Calls Tryd.prog 121 #[.agg #[roomV L t, .string pod, .string node, .int .i64 cpu, .int .i64 mem, .bool al], .string s] w fun e w' => e = .returned (usedV G (⟨pod, node, cpu, mem, al⟩ :: t) s) ∧ Below w.heap.size w w'
    unfold usedV
    rw [eC, eM, eN]
    rw [eC, eM] at b3
    clear eC eM eN
    have kA : ∀ W, Below w.heap.size w W → UsedAt W L G t s := fun W hW => ih W (h.later hW)
    clear ih h
    obtain ⟨x, hx⟩ : ∃ x, useC G t s = x := ⟨_, rfl⟩
    obtain ⟨y, hy⟩ : ∃ y, useM G t s = y := ⟨_, rfl⟩
    obtain ⟨z, hz⟩ : ∃ z, useN G t s = z := ⟨_, rfl⟩
    rw [hx] at b1 b2 b3 ⊢
    rw [hy] at b1 b2 b3 ⊢
    rw [hz] at b4 ⊢
    have b7 := b4.1
    have b6 : z ≤ 100000 := by omega
    have hn24 := nil24
    have hm24 := meth24
    have hn98 := nil98
    have hm98 := meth98
    have hb0 : Below w.heap.size w (((w.alloc (.cells #[roomV L t, .string pod, .string node, .int .i64 cpu, .int .i64 mem, .bool al] 102)).alloc (.cells #[.int .i64 0, .int .i64 0] 40))) := up (up (Below.refl _ _) _) _
    cases t with
    | nil =>
      have kA : ∀ W, Below w.heap.size w W → Calls Tryd.prog 16 #[.pointer (some ⟨L, 0, none⟩), .string s] W fun e w' => e = .returned (.tuple #[.agg #[.int .i64 x, .int .i64 y], .int .i64 z]) ∧ Below W.heap.size W w' := fun W hW => by
        have := kA W hW
        rw [← hx, ← hy, ← hz]; exact this
      clear hx hy hz
      by_cases heq : node = s
      · have hq : (node.toList == s.toList) = true := by rw [hsq]; simp [heq]
        simp only [if_pos heq] at b3 ⊢
        have kadd : ∀ W, Calls Tryd.prog 65 #[.agg #[.int .i64 x, .int .i64 y], .agg #[.int .i64 cpu, .int .i64 mem]] W fun e w' => e = .returned (.tuple #[.agg #[.int .i64 (x + cpu), .int .i64 (y + mem)], .int .i64 0]) ∧ Below W.heap.size W w' := fun W => by
          have := add_any x y cpu mem (by omega) (by omega) (by omega) W
          unfold addV at this
          rwa [if_pos (by omega)] at this
        clear heq hsq
        unfold roomV
        go_enter Tryd.func121, Tryd.ntmps121
        go_upto_region 2 with (go_at_call 16; refine (kA _ hb0).mono ?_; rintro e w3 ⟨rfl, hb3⟩)
        have hX3 : Box w3 w.heap.size _ _ := ((Box.new w #[.iface 24 (.pointer (some ⟨L, 0, none⟩)), .string pod, .string node, .int .i64 cpu, .int .i64 mem, .bool al] 102 rfl).up _).later hb3
        have hR3 : Box w3 (w.heap.size + 1) #[.int .i64 0, .int .i64 0] 40 := (Box.new _ _ _ (by simp)).later hb3
        have hW3 := hb0.trans (hb3.mono hb0.size)
        have z3 := hb3.size
        simp only [World.size_alloc] at z3
        have hX4 := hX3.up (.cells #[.int .i64 x, .int .i64 y] 40)
        have hR4 := hR3.up (.cells #[.int .i64 x, .int .i64 y] 40)
        have hU4 := Box.new w3 #[.int .i64 x, .int .i64 y] 40 rfl
        have hW4 := up hW3 (.cells #[.int .i64 x, .int .i64 y] 40)
        have zU : w.heap.size + 2 ≤ w3.heap.size := by omega
        generalize w3.alloc (.cells #[.int .i64 x, .int .i64 y] 40) = w4 at *
        generalize w3.heap.size = U at *
        clear kA hb3 hb0 hX3 hR3 hW3 z3
        obtain ⟨x0, x1, x2, x3, x4, x5⟩ := hX4.cells6
        obtain ⟨u0, u1⟩ := hU4.cells2
        obtain ⟨t0, t1⟩ := hR4.cells2
        have fr0 := hR4.frozen 0
        have fr1 := hR4.frozen 1
        have hlR := hR4.lt
        have neU : w.heap.size + 1 ≠ U := by omega
        have neU' : U ≠ w.heap.size + 1 := by omega
        have neX : w.heap.size ≠ U := by omega
        go_upto_region 5 with (go_at_call 65; refine (kadd _).mono ?_; rintro e w5 ⟨rfl, hb5⟩; have hU5 := hU4.later hb5; have hR5 := hR4.later hb5; have hW5 := hW4.trans (hb5.mono hW4.size); have fu0 := hU5.frozen 0; have fu1 := hU5.frozen 1; obtain ⟨v0, v1⟩ := hU5.cells2; clear x0 x1 x2 x3 x4 x5 u0 u1 t0 t1 fr0 fr1)
        have hU6 := (hU5.set 0 (.int .i64 (x + cpu))).set 1 (.int .i64 (y + mem))
        have hR6 := (hR5.other neU 0 (.int .i64 (x + cpu))).other neU 1 (.int .i64 (y + mem))
        have hW6 := (hW5.setCell (p := ⟨U, 0, none⟩) (by simp; omega) (.int .i64 (x + cpu))).setCell (p := ⟨U, 1, none⟩) (by simp; omega) (.int .i64 (y + mem))
        simp only [List.setIfInBounds_toArray, List.set_cons_succ, List.set_cons_zero] at hU6
        generalize (w5.setCell ⟨U, 0, none⟩ (.int .i64 (x + cpu))).setCell ⟨U, 1, none⟩ (.int .i64 (y + mem)) = w6 at *
        clear v0 v1 fu0 fu1 hU5 hR5 hW5 hb5
        obtain ⟨v0, v1⟩ := hU6.cells2
        obtain ⟨t0, t1⟩ := hR6.cells2
        have fr0 := hR6.frozen 0
        have fr1 := hR6.frozen 1
        go_wp2
        have pB := (hR6.set 0 (.int .i64 (x + cpu))).set 1 (.int .i64 (y + mem))
        simp only [List.setIfInBounds_toArray, List.set_cons_succ, List.set_cons_zero] at pB
        obtain ⟨r0, r1⟩ := pB.cells2
        refine bodyPost_ret (by simp [results, Tryd.results121, go_sem, r0, r1]) rfl ⟨rfl, ?_⟩
        exact (hW6.setCell (p := ⟨w.heap.size + 1, 0, none⟩) (by simp) _).setCell (p := ⟨w.heap.size + 1, 1, none⟩) (by simp) _
      · have hq : (node.toList == s.toList) = false := by rw [hsq]; simp [heq]
        simp only [if_neg heq, Int.add_zero] at b3 ⊢
        clear heq hsq
        unfold roomV
        go_enter Tryd.func121, Tryd.ntmps121
        go_upto_region 2 with (go_at_call 16; refine (kA _ hb0).mono ?_; rintro e w3 ⟨rfl, hb3⟩)
        have hX3 : Box w3 w.heap.size _ _ := ((Box.new w #[.iface 24 (.pointer (some ⟨L, 0, none⟩)), .string pod, .string node, .int .i64 cpu, .int .i64 mem, .bool al] 102 rfl).up _).later hb3
        have hR3 : Box w3 (w.heap.size + 1) #[.int .i64 0, .int .i64 0] 40 := (Box.new _ _ _ (by simp)).later hb3
        have hW3 := hb0.trans (hb3.mono hb0.size)
        have z3 := hb3.size
        simp only [World.size_alloc] at z3
        have hX4 := hX3.up (.cells #[.int .i64 x, .int .i64 y] 40)
        have hR4 := hR3.up (.cells #[.int .i64 x, .int .i64 y] 40)
        have hU4 := Box.new w3 #[.int .i64 x, .int .i64 y] 40 rfl
        have hW4 := up hW3 (.cells #[.int .i64 x, .int .i64 y] 40)
        have zU : w.heap.size + 2 ≤ w3.heap.size := by omega
        generalize w3.alloc (.cells #[.int .i64 x, .int .i64 y] 40) = w4 at *
        generalize w3.heap.size = U at *
        clear kA hb3 hb0 hX3 hR3 hW3 z3
        obtain ⟨x0, x1, x2, x3, x4, x5⟩ := hX4.cells6
        obtain ⟨u0, u1⟩ := hU4.cells2
        obtain ⟨t0, t1⟩ := hR4.cells2
        have fr0 := hR4.frozen 0
        have fr1 := hR4.frozen 1
        have hlR := hR4.lt
        have neU : w.heap.size + 1 ≠ U := by omega
        have neU' : U ≠ w.heap.size + 1 := by omega
        have neX : w.heap.size ≠ U := by omega
        go_wp2
        have pB := (hR4.set 0 (.int .i64 x)).set 1 (.int .i64 y)
        simp only [List.setIfInBounds_toArray, List.set_cons_succ, List.set_cons_zero] at pB
        obtain ⟨r0, r1⟩ := pB.cells2
        refine bodyPost_ret (by simp [results, Tryd.results121, go_sem, r0, r1]) rfl ⟨rfl, ?_⟩
        exact (hW4.setCell (p := ⟨w.heap.size + 1, 0, none⟩) (by simp) _).setCell (p := ⟨w.heap.size + 1, 1, none⟩) (by simp) _
    | cons q2' t2 =>
      have kA : ∀ W, Below w.heap.size w W → Calls Tryd.prog 121 #[.agg #[roomV L t2, .string q2'.pod, .string q2'.node, .int .i64 q2'.cpu, .int .i64 q2'.mem, .bool q2'.al], .string s] W fun e w' => e = .returned (.tuple #[.agg #[.int .i64 x, .int .i64 y], .int .i64 z]) ∧ Below W.heap.size W w' := fun W hW => by
        have := kA W hW
        rw [← hx, ← hy, ← hz]; exact this
      clear hx hy hz
      by_cases heq : node = s
      · have hq : (node.toList == s.toList) = true := by rw [hsq]; simp [heq]
        simp only [if_pos heq] at b3 ⊢
        have kadd : ∀ W, Calls Tryd.prog 65 #[.agg #[.int .i64 x, .int .i64 y], .agg #[.int .i64 cpu, .int .i64 mem]] W fun e w' => e = .returned (.tuple #[.agg #[.int .i64 (x + cpu), .int .i64 (y + mem)], .int .i64 0]) ∧ Below W.heap.size W w' := fun W => by
          have := add_any x y cpu mem (by omega) (by omega) (by omega) W
          unfold addV at this
          rwa [if_pos (by omega)] at this
        clear heq hsq
        unfold roomV
        go_enter Tryd.func121, Tryd.ntmps121
        go_upto_region 2 with (go_at_call 121; refine (kA _ hb0).mono ?_; rintro e w3 ⟨rfl, hb3⟩)
        have hX3 : Box w3 w.heap.size _ _ := ((Box.new w #[.iface 102 (.agg #[roomV L t2, .string q2'.pod, .string q2'.node, .int .i64 q2'.cpu, .int .i64 q2'.mem, .bool q2'.al]), .string pod, .string node, .int .i64 cpu, .int .i64 mem, .bool al] 102 rfl).up _).later hb3
        have hR3 : Box w3 (w.heap.size + 1) #[.int .i64 0, .int .i64 0] 40 := (Box.new _ _ _ (by simp)).later hb3
        have hW3 := hb0.trans (hb3.mono hb0.size)
        have z3 := hb3.size
        simp only [World.size_alloc] at z3
        have hX4 := hX3.up (.cells #[.int .i64 x, .int .i64 y] 40)
        have hR4 := hR3.up (.cells #[.int .i64 x, .int .i64 y] 40)
        have hU4 := Box.new w3 #[.int .i64 x, .int .i64 y] 40 rfl
        have hW4 := up hW3 (.cells #[.int .i64 x, .int .i64 y] 40)
        have zU : w.heap.size + 2 ≤ w3.heap.size := by omega
        generalize w3.alloc (.cells #[.int .i64 x, .int .i64 y] 40) = w4 at *
        generalize w3.heap.size = U at *
        clear kA hb3 hb0 hX3 hR3 hW3 z3
        obtain ⟨x0, x1, x2, x3, x4, x5⟩ := hX4.cells6
        obtain ⟨u0, u1⟩ := hU4.cells2
        obtain ⟨t0, t1⟩ := hR4.cells2
        have fr0 := hR4.frozen 0
        have fr1 := hR4.frozen 1
        have hlR := hR4.lt
        have neU : w.heap.size + 1 ≠ U := by omega
        have neU' : U ≠ w.heap.size + 1 := by omega
        have neX : w.heap.size ≠ U := by omega
        go_upto_region 5 with (go_at_call 65; refine (kadd _).mono ?_; rintro e w5 ⟨rfl, hb5⟩; have hU5 := hU4.later hb5; have hR5 := hR4.later hb5; have hW5 := hW4.trans (hb5.mono hW4.size); have fu0 := hU5.frozen 0; have fu1 := hU5.frozen 1; obtain ⟨v0, v1⟩ := hU5.cells2; clear x0 x1 x2 x3 x4 x5 u0 u1 t0 t1 fr0 fr1)
        have hU6 := (hU5.set 0 (.int .i64 (x + cpu))).set 1 (.int .i64 (y + mem))
        have hR6 := (hR5.other neU 0 (.int .i64 (x + cpu))).other neU 1 (.int .i64 (y + mem))
        have hW6 := (hW5.setCell (p := ⟨U, 0, none⟩) (by simp; omega) (.int .i64 (x + cpu))).setCell (p := ⟨U, 1, none⟩) (by simp; omega) (.int .i64 (y + mem))
        simp only [List.setIfInBounds_toArray, List.set_cons_succ, List.set_cons_zero] at hU6
        generalize (w5.setCell ⟨U, 0, none⟩ (.int .i64 (x + cpu))).setCell ⟨U, 1, none⟩ (.int .i64 (y + mem)) = w6 at *
        clear v0 v1 fu0 fu1 hU5 hR5 hW5 hb5
        obtain ⟨v0, v1⟩ := hU6.cells2
        obtain ⟨t0, t1⟩ := hR6.cells2
        have fr0 := hR6.frozen 0
        have fr1 := hR6.frozen 1
        go_wp2
        have pB := (hR6.set 0 (.int .i64 (x + cpu))).set 1 (.int .i64 (y + mem))
        simp only [List.setIfInBounds_toArray, List.set_cons_succ, List.set_cons_zero] at pB
        obtain ⟨r0, r1⟩ := pB.cells2
        refine bodyPost_ret (by simp [results, Tryd.results121, go_sem, r0, r1]) rfl ⟨rfl, ?_⟩
        exact (hW6.setCell (p := ⟨w.heap.size + 1, 0, none⟩) (by simp) _).setCell (p := ⟨w.heap.size + 1, 1, none⟩) (by simp) _
      · have hq : (node.toList == s.toList) = false := by rw [hsq]; simp [heq]
        simp only [if_neg heq, Int.add_zero] at b3 ⊢
        clear heq hsq
        unfold roomV
        go_enter Tryd.func121, Tryd.ntmps121
        go_upto_region 2 with (go_at_call 121; refine (kA _ hb0).mono ?_; rintro e w3 ⟨rfl, hb3⟩)
        have hX3 : Box w3 w.heap.size _ _ := ((Box.new w #[.iface 102 (.agg #[roomV L t2, .string q2'.pod, .string q2'.node, .int .i64 q2'.cpu, .int .i64 q2'.mem, .bool q2'.al]), .string pod, .string node, .int .i64 cpu, .int .i64 mem, .bool al] 102 rfl).up _).later hb3
        have hR3 : Box w3 (w.heap.size + 1) #[.int .i64 0, .int .i64 0] 40 := (Box.new _ _ _ (by simp)).later hb3
        have hW3 := hb0.trans (hb3.mono hb0.size)
        have z3 := hb3.size
        simp only [World.size_alloc] at z3
        have hX4 := hX3.up (.cells #[.int .i64 x, .int .i64 y] 40)
        have hR4 := hR3.up (.cells #[.int .i64 x, .int .i64 y] 40)
        have hU4 := Box.new w3 #[.int .i64 x, .int .i64 y] 40 rfl
        have hW4 := up hW3 (.cells #[.int .i64 x, .int .i64 y] 40)
        have zU : w.heap.size + 2 ≤ w3.heap.size := by omega
        generalize w3.alloc (.cells #[.int .i64 x, .int .i64 y] 40) = w4 at *
        generalize w3.heap.size = U at *
        clear kA hb3 hb0 hX3 hR3 hW3 z3
        obtain ⟨x0, x1, x2, x3, x4, x5⟩ := hX4.cells6
        obtain ⟨u0, u1⟩ := hU4.cells2
        obtain ⟨t0, t1⟩ := hR4.cells2
        have fr0 := hR4.frozen 0
        have fr1 := hR4.frozen 1
        have hlR := hR4.lt
        have neU : w.heap.size + 1 ≠ U := by omega
        have neU' : U ≠ w.heap.size + 1 := by omega
        have neX : w.heap.size ≠ U := by omega
        go_wp2
        have pB := (hR4.set 0 (.int .i64 x)).set 1 (.int .i64 y)
        simp only [List.setIfInBounds_toArray, List.set_cons_succ, List.set_cons_zero] at pB
        obtain ⟨r0, r1⟩ := pB.cells2
        refine bodyPost_ret (by simp [results, Tryd.results121, go_sem, r0, r1]) rfl ⟨rfl, ?_⟩
        exact (hW4.setCell (p := ⟨w.heap.size + 1, 0, none⟩) (by simp) _).setCell (p := ⟨w.heap.size + 1, 1, none⟩) (by simp) _

end Go.Proofs.YtpgchnppinbpkaaDoor
