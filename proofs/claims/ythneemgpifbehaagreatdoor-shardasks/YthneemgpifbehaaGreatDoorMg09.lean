/- The contracts of open, fresh and Put of package ledger. -/
import Derived.Test.YthneemgpifbehaaGreatDoorMg08
import Derived.Deep.RegionHeld3
import Derived.Deep.DeepCutAuto
namespace Go.Proofs.YthneemgpifbehaaGreatDoor
open Go.RowKit Go.Maps

set_option maxRecDepth 100000 in
set_option maxHeartbeats 1000000 in
theorem open_old (w : World) (L : Nat) (fp : Nat → Prop) (b : Nat) (q : Option Nat) (E : List (ByteArray × Rec)) (G : List (Int × Grp)) (h : IsL w L fp (some b) q E G) :
    Calls Tryz.prog 118 #[.pointer (some ⟨L, 0, none⟩)] w fun e w' => e = .returned (.tuple #[]) ∧ w' = w := by
  have c0 := h.box.cell (i := 0) rfl
  clear h
  have hq : ∀ w r, _ := fun w r => run_eql_map_nil (P := Tryz.prog) w 149 9 161 r Tryz.underlying149
  go_enter Tryz.func118, Tryz.ntmps118
  go_wp2
  go_end0
  exact ⟨rfl, rfl⟩

set_option maxRecDepth 100000 in
set_option maxHeartbeats 1000000 in
theorem open_new (w : World) (L : Nat) (fp : Nat → Prop) (E : List (ByteArray × Rec)) (G : List (Int × Grp)) (h : IsL w L fp none none E G) :
    Calls Tryz.prog 118 #[.pointer (some ⟨L, 0, none⟩)] w fun e w' => e = .returned (.tuple #[]) ∧ IsL w' L (fun b => fp b ∨ b = w.heap.size ∨ b = w.heap.size + 1) (some w.heap.size) (some (w.heap.size + 1)) [] [] ∧ E = [] ∧ G = [] ∧ Kept fp w w' := by
  have c0 := h.box.cell (i := 0) rfl
  have cA : ∀ o o', ((w.alloc o).alloc o').cell? ⟨L, 0, none⟩ = _ := fun o o' => cell_alloc (cell_alloc c0 o) o'
  have hmm := @run_makeMap Tryz.prog
  have hE : E = [] := by rcases h.nodes with ⟨_, h⟩ | ⟨b, hb, _⟩ <;> first | exact h | cases hb
  have hG : G = [] := by rcases h.gangs with ⟨_, h⟩ | ⟨b, hb, _⟩ <;> first | exact h | cases hb
  have hbx : ∀ o o', Box ((w.alloc o).alloc o') L _ _ := fun o o' => (h.box.up o).up o'
  have f0 : ∀ o o' j, ((w.alloc o).alloc o').frozen? ⟨L, j, none⟩ = false := fun o o' j => (hbx o o').frozen j
  have c1 := fun o o' => (hbx o o').cell (i := 1) rfl
  have hq : ∀ w r, _ := fun w r => run_eql_map_nil (P := Tryz.prog) w 149 9 161 r Tryz.underlying149
  go_enter Tryz.func118, Tryz.ntmps118
  go_wp2
  go_end0
  refine ⟨rfl, ?_, hE, hG, ?_⟩
  · have hlt := h.box.lt
    have b1 := ((hbx (.map #[] 0) (.map #[] 0)).set 0 (.map (some w.heap.size))).set 1 (.map (some (w.heap.size + 1)))
    have n1 : NOwn ((w.alloc (.map #[] 0)).alloc (.map #[] 0)) w.heap.size [] := (NOwn.made w).kept (Below.heap_alloc _ _ _ (by simp))
    have g1 : GOwn ((w.alloc (.map #[] 0)).alloc (.map #[] 0)) (w.heap.size + 1) [] := by
      have := GOwn.made (w.alloc (.map #[] 0))
      simpa using this
    have k : ∀ (W : World) (b : Nat), b ≠ L → ((W.setCell ⟨L, 0, none⟩ (.map (some w.heap.size))).setCell ⟨L, 1, none⟩ (.map (some (w.heap.size + 1)))).heap[b]? = W.heap[b]? := fun W b hb => by
      rw [RowKit.Below.heap_setCell _ _ _ _ hb, RowKit.Below.heap_setCell _ _ _ _ hb]
    refine ⟨by simpa using b1, .inr ⟨_, rfl, n1.kept (k _ _ (by omega))⟩, .inr ⟨_, rfl, g1.kept (k _ _ (by omega))⟩, by simp, .inl h.fL, ?_, ?_, ?_, ?_, (fun e he => by cases he), (fun e he => by cases he)⟩
    · intro b hb; cases hb; exact .inr (.inl rfl)
    · intro b hb; cases hb; exact .inr (.inr rfl)
    · intro b hb e; cases hb; simp at e
    · rintro b (hb | rfl | rfl)
      · have := h.lt b hb; simp; omega
      · simp; omega
      · simp
  · have k1 : Kept fp w ((w.alloc (.map #[] 0)).alloc (.map #[] 0)) := .of_below (up (up (Below.refl _ _) _) _)
    exact (k1.trans (.of_grown (grown_set _ L 0 _) h.fL)).trans (.of_grown (grown_set _ L 1 _) h.fL)

set_option maxRecDepth 100000 in
set_option maxHeartbeats 2000000 in
theorem fresh_any (s : ByteArray) (cpu mem : Int) (a1 a2 : Option Addr) (n1 n2 c1 c2 : Nat) (al : Bool) (xs ys : List ByteArray) (w : World) (h1 : Strs w a1 xs) (h2 : Strs w a2 ys) (e1 : xs.length = n1) (e2 : ys.length = n2) (s1 : SP a1) (s2 : SP a2) :
    Calls Tryz.prog 119 #[.agg #[.string s, .int .i64 cpu, .int .i64 mem, .slice a1 n1 c1, .slice a2 n2 c2, .bool al]] w fun e w' =>
      ∃ a3 c3 a4 c4, e = .returned (.agg #[.string s, .int .i64 cpu, .int .i64 mem, .slice a3 n1 c3, .slice a4 n2 c4, .bool al]) ∧ Strs w' a3 xs ∧ Strs w' a4 ys ∧ SP a3 ∧ SP a4 ∧
        (∀ x, a3 = some x → w.heap.size ≤ x.block ∧ x.block < w'.heap.size) ∧ (∀ x, a4 = some x → w.heap.size ≤ x.block ∧ x.block < w'.heap.size) ∧ Below w.heap.size w w' := by
  go_enter Tryz.func119, Tryz.ntmps119
  go_wp2
  have hB0 : Box ((w.alloc (.cells #[.string s, .int .i64 cpu, .int .i64 mem, .slice a1 n1 c1, .slice a2 n2 c2, .bool al] 55)).alloc (.cells #[.string ⟨#[]⟩, .int .i64 0, .int .i64 0, .slice none 0 0, .slice none 0 0, .bool false] 55)) w.heap.size #[.string s, .int .i64 cpu, .int .i64 mem, .slice a1 n1 c1, .slice a2 n2 c2, .bool al] 55 := (Box.new w _ _ rfl).up _
  have hR0 : Box ((w.alloc (.cells #[.string s, .int .i64 cpu, .int .i64 mem, .slice a1 n1 c1, .slice a2 n2 c2, .bool al] 55)).alloc (.cells #[.string ⟨#[]⟩, .int .i64 0, .int .i64 0, .slice none 0 0, .slice none 0 0, .bool false] 55)) (w.heap.size + 1) #[.string ⟨#[]⟩, .int .i64 0, .int .i64 0, .slice none 0 0, .slice none 0 0, .bool false] 55 := Box.new _ _ _ (by simp)
  have hb0 : Below w.heap.size w ((w.alloc (.cells #[.string s, .int .i64 cpu, .int .i64 mem, .slice a1 n1 c1, .slice a2 n2 c2, .bool al] 55)).alloc (.cells #[.string ⟨#[]⟩, .int .i64 0, .int .i64 0, .slice none 0 0, .slice none 0 0, .bool false] 55)) := up (up (Below.refl _ _) _) _
  generalize ((w.alloc (.cells #[.string s, .int .i64 cpu, .int .i64 mem, .slice a1 n1 c1, .slice a2 n2 c2, .bool al] 55)).alloc (.cells #[.string ⟨#[]⟩, .int .i64 0, .int .i64 0, .slice none 0 0, .slice none 0 0, .bool false] 55)) = W at hB0 hR0 hb0 ⊢
  have k1 := hB0.cell (i := 3) rfl
  have k2 := hB0.cell (i := 4) rfl
  go_cut [] (fun wx => ∃ a3 c3 a4 c4, Box wx w.heap.size #[.string s, .int .i64 cpu, .int .i64 mem, .slice a3 n1 c3, .slice a4 n2 c4, .bool al] 55 ∧ Box wx (w.heap.size + 1) #[.string ⟨#[]⟩, .int .i64 0, .int .i64 0, .slice none 0 0, .slice none 0 0, .bool false] 55 ∧ Strs wx a3 xs ∧ Strs wx a4 ys ∧ SP a3 ∧ SP a4 ∧
        (∀ x, a3 = some x → w.heap.size + 2 ≤ x.block ∧ x.block < wx.heap.size) ∧ (∀ x, a4 = some x → w.heap.size + 2 ≤ x.block ∧ x.block < wx.heap.size) ∧ Below w.heap.size w wx)
  case first =>
    go_region_with (first
      | (go_at_call_of 168 (Value.slice a1 n1 c1); refine (clone_two a1 n1 c1 xs w _ w.heap.size (w.heap.size + 1) _ _ _ _ h1 e1 s1 (by first | exact hb0 | exact hb0.drew) (by first | exact hB0) (by first | exact hR0)).mono ?_
         rintro e w1 ⟨a3, c3, rfl, hs1, hp1, hn1, hb1, hk1, hB1, hR1⟩
         have l1 := hB1.cell (i := 3) rfl
         have l2 := hB1.cell (i := 4) rfl
         have f1 := hB1.frozen 3
         have f2 := hB1.frozen 4)
      | (go_at_call_of 168 (Value.slice a2 n2 c2); refine (clone_two a2 n2 c2 ys w _ w.heap.size (w.heap.size + 1) _ _ _ _ h2 e2 s2 (by first | exact hb1 | (exact hb1.setCell (p := ⟨w.heap.size, 3, none⟩) (Nat.le_refl _) _)) (by first | exact hB1 | exact hB1.set 3 _) (by first | exact hR1 | exact hR1.other (by omega) 3 _)).mono ?_
         rintro e w2 ⟨a4, c4, rfl, hs2, hp2, hn2, hb2, hk2, hB2, hR2⟩
         have m1 := hB2.cell (i := 3) rfl
         have m2 := hB2.cell (i := 4) rfl
         have g1 := hB2.frozen 3
         have g2 := hB2.frozen 4))
    all_goals
      go_wp2
      go_meet
      case rel =>
        have z0 := hR0.lt
        have z1 := hk1.size
        have z2 := hk2.size
        simp only [World.size_drew] at z1
        have q1 : ∀ x, a3 = some x → w.heap.size + 2 ≤ x.block ∧ x.block < w2.heap.size := fun x hx => by have := hn1 x hx; simp only [World.size_drew] at this; omega
        have q2 : ∀ x, a4 = some x → w.heap.size + 2 ≤ x.block ∧ x.block < w2.heap.size := fun x hx => by have := hn2 x hx; omega
        have r1 : Strs w2 a3 xs := by
          first
          | exact hs1.later hk2
          | exact (hs1.frame fun x hx _ => RowKit.Below.heap_setCell _ _ _ _ (by have := hn1 x hx; simp at this ⊢; omega)).later hk2
        have set2 : ∀ (W : World) (a : Option Addr) (l : List ByteArray) (j : Nat) (v : Value), Strs W a l → (∀ x, a = some x → w.heap.size + 2 ≤ x.block) → Strs (W.setCell ⟨w.heap.size, j, none⟩ v) a l := fun W a l j v h hx => h.frame fun x hx' _ => RowKit.Below.heap_setCell _ _ _ _ (by have := hx x hx'; simp; omega)
        refine ⟨a3, c3, a4, c4, ?_, ?_, ?_, ?_, hp1, hp2, by simpa using q1, by simpa using q2, ?_⟩
        · first
          | simpa using (hB2.set 3 (.slice a3 n1 c3)).set 4 (.slice a4 n2 c4)
          | simpa using hB2.set 4 (.slice a4 n2 c4)
        · first
          | exact (hR2.other (by omega) 3 _).other (by omega) 4 _
          | exact hR2.other (by omega) 4 _
        · first
          | exact set2 _ _ _ 4 _ (set2 _ _ _ 3 _ r1 fun x hx => (q1 x hx).1) fun x hx => (q1 x hx).1
          | exact set2 _ _ _ 4 _ r1 fun x hx => (q1 x hx).1
        · first
          | exact set2 _ _ _ 4 _ (set2 _ _ _ 3 _ hs2 fun x hx => (q2 x hx).1) fun x hx => (q2 x hx).1
          | exact set2 _ _ _ 4 _ hs2 fun x hx => (q2 x hx).1
        · first
          | exact (hb2.setCell (p := ⟨w.heap.size, 3, none⟩) (Nat.le_refl _) _).setCell (p := ⟨w.heap.size, 4, none⟩) (Nat.le_refl _) _
          | exact hb2.setCell (p := ⟨w.heap.size, 4, none⟩) (Nat.le_refl _) _
  case rest =>
    obtain ⟨a3, c3, a4, c4, hB, hR, r1, r2, p1, p2, q1, q2, hb⟩ := hcut
    obtain ⟨y0, y1, y2, y3, y4, y5⟩ := hB.cells6
    obtain ⟨t0, t1, t2, t3, t4, t5⟩ := hR.cells6
    have f0 := hR.frozen 0
    have f1 := hR.frozen 1
    have f2 := hR.frozen 2
    have f3 := hR.frozen 3
    have f4 := hR.frozen 4
    have f5 := hR.frozen 5
    go_wp2
    have k6 : ∀ b, b ≠ w.heap.size + 1 → ((((((wc.setCell ⟨w.heap.size + 1, 0, none⟩ (.string s)).setCell ⟨w.heap.size + 1, 1, none⟩ (.int .i64 cpu)).setCell ⟨w.heap.size + 1, 2, none⟩ (.int .i64 mem)).setCell ⟨w.heap.size + 1, 3, none⟩ (.slice a3 n1 c3)).setCell ⟨w.heap.size + 1, 4, none⟩ (.slice a4 n2 c4)).setCell ⟨w.heap.size + 1, 5, none⟩ (.bool al)).heap[b]? = wc.heap[b]? := fun b hb => by
      rw [RowKit.Below.heap_setCell _ _ _ _ hb, RowKit.Below.heap_setCell _ _ _ _ hb, RowKit.Below.heap_setCell _ _ _ _ hb, RowKit.Below.heap_setCell _ _ _ _ hb, RowKit.Below.heap_setCell _ _ _ _ hb, RowKit.Below.heap_setCell _ _ _ _ hb]
    refine bodyPost_ret (by simp [results, Tryz.results119, go_sem, t0, t1, t2, t3, t4, t5]) rfl ⟨a3, c3, a4, c4, rfl, ?_, ?_, p1, p2, ?_, ?_, ?_⟩
    · exact r1.frame fun x hx _ => k6 _ (by have := q1 x hx; omega)
    · exact r2.frame fun x hx _ => k6 _ (by have := q2 x hx; omega)
    · intro x hx
      have := q1 x hx
      simp
      omega
    · intro x hx
      have := q2 x hx
      simp
      omega
    · have q : ∀ (W : World) (j : Nat) (v : Value), Below w.heap.size w W → Below w.heap.size w (W.setCell ⟨w.heap.size + 1, j, none⟩ v) := fun W j v h => h.setCell (p := ⟨w.heap.size + 1, j, none⟩) (by simp) v
      exact q _ _ _ (q _ _ _ (q _ _ _ (q _ _ _ (q _ _ _ (q _ _ _ hb)))))

theorem open_any (w : World) (L : Nat) (fp : Nat → Prop) (p q : Option Nat) (E : List (ByteArray × Rec)) (G : List (Int × Grp)) (h : IsL w L fp p q E G) :
    Calls Tryz.prog 118 #[.pointer (some ⟨L, 0, none⟩)] w fun e w' => e = .returned (.tuple #[]) ∧ ∃ fp' b q', IsL w' L fp' (some b) q' E G ∧ (∀ b, fp b → fp' b) ∧ (∀ b, fp' b → fp b ∨ w.heap.size ≤ b) ∧ Kept fp w w' := by
  cases p with
  | none =>
    obtain rfl : q = none := h.both.1 rfl
    refine (open_new w L fp E G h).mono ?_
    rintro e w' ⟨rfl, h', rfl, rfl, hk⟩
    refine ⟨rfl, _, _, _, h', fun b hb => .inl hb, ?_, hk⟩
    rintro b (hb | rfl | rfl)
    · exact .inl hb
    · exact .inr (Nat.le_refl _)
    · exact .inr (by omega)
  | some b =>
    refine (open_old w L fp b q E G h).mono ?_
    rintro e w' ⟨rfl, rfl⟩
    exact ⟨rfl, fp, b, q, h, fun _ h => h, fun _ h => .inl h, .refl _ _⟩

end Go.Proofs.YthneemgpifbehaaGreatDoor
