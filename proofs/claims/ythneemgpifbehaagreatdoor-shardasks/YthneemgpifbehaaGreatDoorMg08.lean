/- The contracts of the library's Clone, at rows of texts and at rows of places. -/
import Derived.Test.YthneemgpifbehaaGreatDoorMg06
import Derived.Test.YthneemgpifbehaaGreatDoorMg07
import Derived.Laws.AppendOwnNone
import Derived.Laws.MakeOwn
namespace Go.Proofs.YthneemgpifbehaaGreatDoor
open Go.RowKit Go.Maps

theorem info9 : (Tryz.prog.info? 9).map (fun i => (i.zero, i.size, i.bytes)) = some (some (.string ByteArray.empty), 1, 16) := by kernel_rfl
theorem infoPl : (Tryz.prog.info? 143).map (fun i => (i.zero, i.size, i.bytes)) = some (some (.agg #[.string ByteArray.empty, .string ByteArray.empty, .int .i64 0, .int .i64 0, .bool false]), 5, 56) := by kernel_rfl

theorem add_spot {x : Addr} (h : x.spot = none) (i : Nat) : x.add i = ⟨x.block, x.off + i, none⟩ := by
  unfold Addr.add
  cases x
  simp at h
  subst h
  split
  · simp_all
  · rfl

theorem clone_strs (a : Option Addr) (n c : Nat) (xs : List ByteArray) (w : World) (h : Strs w a xs) (hl : xs.length = n) (hsp : SP a) :
    Calls Tryz.prog 168 #[.slice a n c] w fun e w' => ∃ a' c', e = .returned (.slice a' n c') ∧ Strs w' a' xs ∧ SP a' ∧ (∀ x, a' = some x → w.heap.size ≤ x.block ∧ x.block < w'.heap.size) ∧ Below w.heap.size w w' := by
  have h1000 := h.1
  cases a with
  | none =>
    have : xs = [] := by
      cases xs with
      | nil => rfl
      | cons y t => obtain ⟨x, hx, _⟩ := h.2 0 (by simp); cases hx
    subst this
    subst hl
    refine (AnyE.slices_Clone_nil Tryz.cloneS 0 c w).mono ?_
    rintro e w' ⟨rfl, rfl⟩
    exact ⟨none, 0, rfl, h, SP.none, (fun x hx => by cases hx), Below.refl _ _⟩
  | some x =>
    obtain ⟨i0, hi, hz0, hz1, hz2⟩ := info_parts info9
    have hx := hsp x rfl
    have hs : x = ⟨x.block, x.off, none⟩ := by cases x; simp at hx; subst hx; rfl
    rw [hs]
    refine (AnyE.slices_Clone Tryz.cloneS i0 _ 1 16 hi hz0 hz1 hz2 rfl (by decide) (by intro w; kernel_rfl) x.block x.off n c (xs.map Value.string) w (by simp [hl]) (by unfold maxLen; omega) (by omega) ?_ (by intro u hu; obtain ⟨s, _, rfl⟩ := List.mem_map.1 hu; rfl)).mono ?_
    · intro j u hj
      simp only [List.getElem?_map] at hj
      cases hg : xs[j]? with
      | none => simp [hg] at hj
      | some s =>
        simp [hg] at hj
        subst hj
        obtain ⟨y, hy, hc⟩ := h.2 j (by have := (List.getElem?_eq_some_iff.1 hg).1; exact this)
        cases hy
        rw [add_spot hx] at hc
        rw [hc]
        simp [List.getD, hg]
    · rintro e w' ⟨v', rfl, hown, hne, hb⟩
      obtain ⟨hlen, hv⟩ := hown
      rcases hv with ⟨rfl, _⟩ | ⟨g, cap, cur, rfl, hg, hheap, hcap, hmax, hsz, htake⟩
      · exact absurd rfl hne
      · refine ⟨some ⟨g, 0, none⟩, cap, rfl, ⟨h1000, fun i hi' => ⟨_, rfl, ?_⟩⟩, SP.some _ _, ?_, hb⟩
        · have hown : w'.ownsRow w.heap.size 9 1 (.slice (some ⟨g, 0, none⟩) n cap) n (xs.map Value.string) := ⟨hlen, .inr ⟨g, cap, cur, rfl, hg, hheap, hcap, hmax, hsz, htake⟩⟩
          exact hown.cells (g := g) rfl i _ (by simp [List.getElem?_eq_getElem hi'])
        · intro x hx'
          cases hx'
          exact ⟨hg, (Array.getElem?_eq_some_iff.1 hheap).1⟩

/-- The cells of places. -/
def Pl.cells (p : Pl) : List Value := [.string p.pod, .string p.node, .int .i64 p.cpu, .int .i64 p.mem, .bool p.al]
theorem cells_at : ∀ (l : List Pl) (j : Nat), (l.flatMap Pl.cells)[j]? = (l[j / 5]?).bind fun p => p.cells[j % 5]?
  | [], j => by simp
  | p :: t, j => by
    rw [List.flatMap_cons]
    by_cases h : j < 5
    · rw [List.getElem?_append_left (by simpa [Pl.cells] using h)]
      have e1 : j / 5 = 0 := by omega
      have e2 : j % 5 = j := by omega
      simp [e1, e2]
    · rw [List.getElem?_append_right (by simp [Pl.cells]; omega), cells_at t]
      have e1 : j / 5 = (j - 5) / 5 + 1 := by omega
      have e2 : (j - 5) % 5 = j % 5 := by omega
      simp only [Pl.cells, List.length_cons, List.length_nil, Nat.reduceAdd, e2]
      rw [e1]
      rfl
theorem cells_len : ∀ l : List Pl, (l.flatMap Pl.cells).length = l.length * 5
  | [] => rfl
  | p :: t => by rw [List.flatMap_cons, List.length_append, cells_len t]; simp [Pl.cells]; omega
theorem plAt_cells {w : World} {B o : Nat} {p : Pl} : PlAt w B o p ↔ ∀ t u, p.cells[t]? = some u → w.cell? ⟨B, o + t, none⟩ = some u := by
  constructor
  · rintro ⟨h0, h1, h2, h3, h4⟩ t u hu
    match t, hu with
    | 0, hu => cases hu; exact h0
    | 1, hu => cases hu; exact h1
    | 2, hu => cases hu; exact h2
    | 3, hu => cases hu; exact h3
    | 4, hu => cases hu; exact h4
    | t + 5, hu => simp [Pl.cells] at hu
  · intro h
    exact ⟨h 0 _ rfl, h 1 _ rfl, h 2 _ rfl, h 3 _ rfl, h 4 _ rfl⟩
theorem pls_of_cells {w : World} {B o : Nat} {l : List Pl} (hl : l.length ≤ 1000) (h : ∀ j u, (l.flatMap Pl.cells)[j]? = some u → w.cell? ⟨B, o + j, none⟩ = some u) : Pls w (some ⟨B, o, none⟩) l :=
  ⟨hl, fun i p hp => ⟨B, o, rfl, plAt_cells.2 fun t u hu => by
    have ht : t < 5 := by have := (List.getElem?_eq_some_iff.1 hu).1; simpa [Pl.cells] using this
    have := h (i * 5 + t) u (by rw [cells_at]; rw [show (i * 5 + t) / 5 = i by omega, show (i * 5 + t) % 5 = t by omega, hp]; exact hu)
    rwa [← Nat.add_assoc] at this⟩⟩
theorem cells_of_pls {w : World} {B o : Nat} {l : List Pl} (h : Pls w (some ⟨B, o, none⟩) l) : ∀ j u, (l.flatMap Pl.cells)[j]? = some u → w.cell? ⟨B, o + j, none⟩ = some u := by
  intro j u hj
  rw [cells_at] at hj
  cases hp : l[j / 5]? with
  | none => simp [hp] at hj
  | some p =>
    simp [hp] at hj
    obtain ⟨B', o', hx, hat⟩ := h.2 _ p hp
    cases hx
    have := plAt_cells.1 hat _ u hj
    rwa [show o + j / 5 * 5 + j % 5 = o + j by omega] at this

theorem clone_pls (a : Option Addr) (n c : Nat) (l : List Pl) (w : World) (h : Pls w a l) (hl : l.length = n) (hsp : SP a) :
    Calls Tryz.prog 123 #[.slice a n c] w fun e w' => ∃ a' c', e = .returned (.slice a' n c') ∧ Pls w' a' l ∧ SP a' ∧ (∀ x, a' = some x → w.heap.size ≤ x.block ∧ x.block < w'.heap.size) ∧ n ≤ c' ∧ Below w.heap.size w w' := by
  have h1000 := h.1
  cases a with
  | none =>
    have : l = [] := by
      cases l with
      | nil => rfl
      | cons y t => obtain ⟨B, o, hx, _⟩ := h.2 0 y rfl; cases hx
    subst this
    subst hl
    refine (AnyE.slices_Clone_nil Tryz.cloneP 0 c w).mono ?_
    rintro e w' ⟨rfl, rfl⟩
    exact ⟨none, 0, rfl, h, SP.none, (fun x hx => by cases hx), by simp, Below.refl _ _⟩
  | some x =>
    obtain ⟨i0, hi, hz0, hz1, hz2⟩ := info_parts infoPl
    have hx := hsp x rfl
    obtain ⟨B, o, sp⟩ := x
    simp at hx
    subst hx
    refine (AnyE.slices_Clone Tryz.cloneP i0 _ 5 56 hi hz0 hz1 hz2 rfl (by decide) (by intro w; kernel_rfl) B o n c (l.flatMap Pl.cells) w (by rw [cells_len, hl]) (by unfold maxLen; omega) (by omega) (cells_of_pls h) ?_).mono ?_
    · intro u hu
      obtain ⟨p, _, hu⟩ := List.mem_flatMap.1 hu
      simp only [Pl.cells, List.mem_cons, List.not_mem_nil, or_false] at hu
      rcases hu with rfl | rfl | rfl | rfl | rfl <;> rfl
    · rintro e w' ⟨v', rfl, hown, hne, hb⟩
      obtain ⟨hlen, hv⟩ := hown
      rcases hv with ⟨rfl, _⟩ | ⟨g, cap, cur, rfl, hg, hheap, hcap, hmax, hsz, htake⟩
      · exact absurd rfl hne
      · refine ⟨some ⟨g, 0, none⟩, cap, rfl, pls_of_cells h1000 fun j u hj => ?_, SP.some _ _, ?_, hcap, hb⟩
        · have hown : w'.ownsRow w.heap.size 143 5 (.slice (some ⟨g, 0, none⟩) n cap) n (l.flatMap Pl.cells) := ⟨hlen, .inr ⟨g, cap, cur, rfl, hg, hheap, hcap, hmax, hsz, htake⟩⟩
          have := hown.cells (g := g) rfl j u hj
          rwa [add_spot rfl] at this
        · intro x hx'
          cases hx'
          exact ⟨hg, (Array.getElem?_eq_some_iff.1 hheap).1⟩

theorem clone_box (a : Option Addr) (n c : Nat) (xs : List ByteArray) (w0 W : World) (B : Nat) (cs : Array Value) (t : TypeId) (h : Strs w0 a xs) (hl : xs.length = n) (hsp : SP a) (hb : Below w0.heap.size w0 W) (hB : Box W B cs t) :
    Calls Tryz.prog 168 #[.slice a n c] W fun e w' => ∃ a' c', e = .returned (.slice a' n c') ∧ Strs w' a' xs ∧ SP a' ∧ (∀ x, a' = some x → W.heap.size ≤ x.block ∧ x.block < w'.heap.size) ∧ Below w0.heap.size w0 w' ∧ Below W.heap.size W w' ∧ Box w' B cs t :=
  (clone_strs a n c xs W (h.later hb) hl hsp).mono fun _ _ ⟨a', c', h1, h2, h3, h4, h5⟩ => ⟨a', c', h1, h2, h3, h4, hb.trans (h5.mono hb.size), h5, hB.later h5⟩

theorem clone_two (a : Option Addr) (n c : Nat) (xs : List ByteArray) (w0 W : World) (B R : Nat) (cs ds : Array Value) (t t' : TypeId) (h : Strs w0 a xs) (hl : xs.length = n) (hsp : SP a) (hb : Below w0.heap.size w0 W) (hB : Box W B cs t) (hR : Box W R ds t') :
    Calls Tryz.prog 168 #[.slice a n c] W fun e w' => ∃ a' c', e = .returned (.slice a' n c') ∧ Strs w' a' xs ∧ SP a' ∧ (∀ x, a' = some x → W.heap.size ≤ x.block ∧ x.block < w'.heap.size) ∧ Below w0.heap.size w0 w' ∧ Below W.heap.size W w' ∧ Box w' B cs t ∧ Box w' R ds t' :=
  (clone_strs a n c xs W (h.later hb) hl hsp).mono fun _ _ ⟨a', c', h1, h2, h3, h4, h5⟩ => ⟨a', c', h1, h2, h3, h4, hb.trans (h5.mono hb.size), h5, hB.later h5, hR.later h5⟩

end Go.Proofs.YthneemgpifbehaaGreatDoor

/- The contracts of New and Used of package ledger. -/
namespace Go.Proofs.YthneemgpifbehaaGreatDoor
open Go.RowKit Go.Maps

theorem new_any (w : World) : Calls Tryz.prog 54 #[] w fun e w' => ∃ L fp, e = .returned (.pointer (some ⟨L, 0, none⟩)) ∧ IsL w' L fp none none [] [] ∧ (∀ b, fp b → w.heap.size ≤ b) ∧ Below w.heap.size w w' := by
  go_enter Tryz.func54, Tryz.ntmps54
  go_wp2
  go_ret
  refine ⟨w.heap.size, fun b => b = w.heap.size, rfl, ?_, fun b hb => by omega, (Below.refl _ _).alloc (Nat.le_refl _) _⟩
  exact ⟨Box.new w _ _ rfl, .inl ⟨rfl, rfl⟩, .inl ⟨rfl, rfl⟩, Iff.rfl, rfl, (fun b h => by cases h), (fun b h => by cases h), (fun b h => by cases h), (fun b h => by subst h; simp), (fun e he => by cases he), (fun e he => by cases he)⟩

set_option maxHeartbeats 1000000 in
theorem used_any (w : World) (L : Nat) (fp : Nat → Prop) (p q : Option Nat) (E : List (ByteArray × Rec)) (G : List (Int × Grp)) (h : IsL w L fp p q E G) (s : ByteArray) (hs : s.size ≤ maxLen) :
    Calls Tryz.prog 62 #[.pointer (some ⟨L, 0, none⟩), .string s] w fun e w' => e = .returned (.tuple #[.agg #[.int .i64 ((look E s).getD zrec).u, .int .i64 ((look E s).getD zrec).m], .int .i64 ((look E s).getD zrec).k]) ∧ Below w.heap.size w w' := by
  have h' := h.later (up (Below.refl _ _) (V 0 0))
  have hlk := h'.nodes.look1 s hs
  have c0 := h'.box.cell (i := 0) rfl
  generalize (look E s).getD zrec = r at hlk ⊢
  obtain ⟨nm, cpu, mem, a1, c1, xs, a2, c2, ys, cl, u, m, k⟩ := r
  simp only [Rec.val] at hlk ⊢
  clear h h'
  go_enter Tryz.func62, Tryz.ntmps62
  go_wp2
  go_region_with (fail)
  all_goals
    go_wp2
    refine bodyPost_ret (by simp [results, Tryz.results62, go_sem]) rfl ⟨rfl, ?_⟩
    repeat (first | with_reducible exact Below.refl _ _ | with_reducible apply Below.drew | with_reducible refine Below.alloc ?_ (by simp <;> omega) _ | (refine Below.setCell (p := ⟨w.heap.size, _, none⟩) ?_ (Nat.le_refl _) _))

set_option maxHeartbeats 1000000 in
theorem places_any (w : World) (L : Nat) (fp : Nat → Prop) (p q : Option Nat) (E : List (ByteArray × Rec)) (G : List (Int × Grp)) (h : IsL w L fp p q E G) (g : Int) (hg : (Lit.int .i64 g).wf = true) :
    Calls Tryz.prog 68 #[.pointer (some ⟨L, 0, none⟩), .int .i64 g] w fun e w' => ∃ a c, e = .returned (.slice a ((look G g).getD zgrp).ps.length c) ∧ Pls w' a ((look G g).getD zgrp).ps ∧ SP a ∧ (∀ x, a = some x → w.heap.size ≤ x.block ∧ x.block < w'.heap.size) ∧ ((look G g).getD zgrp).ps.length ≤ c ∧ Below w.heap.size w w' := by
  have hlk := h.gangs.look1 g hg
  have c0 := h.box.cell (i := 1) rfl
  have hok : Pls w ((look G g).getD zgrp).a ((look G g).getD zgrp).ps ∧ SP ((look G g).getD zgrp).a := by
    cases hl : look G g with
    | none => exact ⟨⟨by simp [zgrp], by simp [zgrp]⟩, SP.none⟩
    | some r => have := h.okG _ (mem_of_look hl); exact ⟨this.h, this.s⟩
  generalize (look G g).getD zgrp = r at hlk hok ⊢
  obtain ⟨a, c, ps⟩ := r
  simp only [Grp.val] at hlk hok ⊢
  obtain ⟨hok, hsp⟩ := hok
  have k := clone_pls a ps.length c ps w hok rfl hsp
  clear h hok hsp
  go_enter Tryz.func68, Tryz.ntmps68
  go_wp2_with (go_at_call 123; refine k.mono ?_; rintro e w1 ⟨a', c', rfl, h1, h2, h3, h4, h5⟩)
  go_ret
  exact ⟨a', c', rfl, h1, h2, h3, h4, h5⟩

/-- What Gone answers. -/
def goneE (E : List (ByteArray × Rec)) (s : ByteArray) : Int := match look E s with
  | none => 5
  | some r => if 0 < r.k then 7 else 0

set_option maxRecDepth 100000 in
set_option maxHeartbeats 1000000 in
theorem gone_any (w : World) (L : Nat) (fp : Nat → Prop) (p q : Option Nat) (E : List (ByteArray × Rec)) (G : List (Int × Grp)) (h : IsL w L fp p q E G) (s : ByteArray) (hs : s.size ≤ maxLen) :
    Calls Tryz.prog 79 #[.pointer (some ⟨L, 0, none⟩), .string s] w fun e w' => e = .returned (.int .i64 (goneE E s)) ∧ IsL w' L fp p q (if goneE E s = 0 then del E s else E) G ∧ Kept fp w w' := by
  have hlk := h.nodes.look2 s hs
  have c0 := h.box.cell (i := 0) rfl
  cases hl : look E s with
  | none =>
    have e5 : goneE E s = 5 := by simp [goneE, hl]
    rw [e5, if_neg (by decide)]
    rw [hl] at hlk
    simp only [Option.getD_none, Option.isSome_none, zrec, Rec.val] at hlk
    go_enter Tryz.func79, Tryz.ntmps79
    go_wp2
    go_ret
    exact ⟨rfl, h.later (up (Below.refl _ _) _), .of_below (up (Below.refl _ _) _)⟩
  | some r =>
    rw [hl] at hlk
    simp only [Option.getD_some, Option.isSome_some] at hlk
    by_cases hk : 0 < r.k
    · have e5 : goneE E s = 7 := by simp [goneE, hl, hk]
      rw [e5, if_neg (by decide)]
      clear hl e5
      obtain ⟨nm, cpu, mem, a1, c1, xs, a2, c2, ys, cl, u, m, k⟩ := r
      simp only [Rec.val] at hlk hk
      go_enter Tryz.func79, Tryz.ntmps79
      go_wp2
      go_ret
      exact ⟨rfl, h.later (up (Below.refl _ _) _), .of_below (up (Below.refl _ _) _)⟩
    · have e5 : goneE E s = 0 := by simp [goneE, hl, hk]
      rw [e5, if_pos rfl]
      rcases h.nodes with ⟨_, rfl⟩ | ⟨b, rfl, hn⟩
      · cases hl
      clear hl e5
      obtain ⟨nm, cpu, mem, a1, c1, xs, a2, c2, ys, cl, u, m, k⟩ := r
      simp only [Rec.val] at hlk hk
      have cA := fun o => cell_alloc c0 o
      go_enter Tryz.func79, Tryz.ntmps79
      go_wp2_with (first
        | (at_delete; refine wpList_delete_own _ rfl _ _ 149 9 rfl 161 kS Tryz.underlying149 raw b _ _ rfl (hn.kept (Below.heap_alloc _ _ b hn.lt)) _ _ rfl (keyS hs) ?_; intro w1 hown1 hturn1; go_frame)
        | go_in)
      go_ret
      have hg1 := hturn1.grown
      have hb0 : ∀ o, Below w.heap.size w (w.alloc o) := up (Below.refl _ _)
      have h' := h.later (hb0 (.cells #[.string nm, .int .i64 cpu, .int .i64 mem, .slice a1 xs.length c1, .slice a2 ys.length c2, .bool cl, .int .i64 u, .int .i64 m, .int .i64 k] 161))
      exact ⟨rfl, h'.delN (NOwn.del hown1) hg1, (Kept.of_below (hb0 _)).trans (.of_grown hg1 (h.fp1 b rfl))⟩

end Go.Proofs.YthneemgpifbehaaGreatDoor
