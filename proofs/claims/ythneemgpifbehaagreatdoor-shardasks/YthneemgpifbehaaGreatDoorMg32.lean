/- A shard: Node. -/
import Derived.Test.YthneemgpifbehaaGreatDoorMg30
import Derived.Test.YthneemgpifbehaaGreatDoorMg24
import Derived.Test.YthneemgpifbehaaGreatDoorMg29
import Derived.Deep.DeepCutAuto
namespace Go.Proofs.YthneemgpifbehaaGreatDoor
open Go.RowKit Go.Maps
set_option linter.unusedSimpArgs false
set_option linter.unusedVariables false

/-- What nodes there are when one is put. -/
def insC (c : Core) : List Core → List Core
  | [] => [c]
  | y :: t => if (sK c.1).before (sK y.1) then c :: y :: t else y :: insC c t
def delC (C : List Core) (s : ByteArray) : List Core := C.filter fun c => !decide (c.1 = s)
theorem core_ins {s : ByteArray} {r : Rec} (hr : r.nm = s) : ∀ {E : List (ByteArray × Rec)}, (∀ e ∈ E, e.2.nm = e.1) → (ins sK (s, r) E).map (fun e => e.2.core) = insC r.core (E.map fun e => e.2.core)
  | [], _ => rfl
  | y :: t, h => by
    have h0 := h y (by simp)
    have ih := core_ins hr (E := t) fun e he => h e (List.mem_cons_of_mem _ he)
    simp only [List.map_cons, insC, ins]
    have e1 : r.core.1 = s := hr
    have e2 : y.2.core.1 = y.1 := h0
    rw [e1, e2]
    by_cases hc : (sK s).before (sK y.1) = true
    · rw [if_pos hc, if_pos hc]
      rfl
    · rw [if_neg hc, if_neg hc, List.map_cons, ih]
theorem core_del {s : ByteArray} : ∀ {E : List (ByteArray × Rec)}, (∀ e ∈ E, e.2.nm = e.1) → (del E s).map (fun e => e.2.core) = delC (E.map fun e => e.2.core) s
  | [], _ => rfl
  | y :: t, h => by
    have h0 := h y (by simp)
    have ih := core_del (s := s) (E := t) fun e he => h e (List.mem_cons_of_mem _ he)
    unfold del delC at ih ⊢
    have e2 : y.2.core.1 = y.1 := h0
    by_cases hc : y.1 = s
    · have : y.2.core.1 = s := e2.trans hc
      simp [hc, this, ih]
    · have : ¬ y.2.core.1 = s := fun e => hc (e2.symm.trans e)
      simp [hc, this, ih]
def putC (C : List Core) (c : Core) : List Core := insC c (delC C c.1)
/-- A node is put. -/
def nodeS (x : ShS) (c : Core) : ShS := { x with C := putC x.C c }

section
variable {w : World} {S T Lg u d : Nat} {v : Value} {col : Nat → Nat} {x : ShS}
theorem put_sh (h : ShP w S T Lg u d v col x) (s : ByteArray) (cpu mem : Int) (a1 a2 : Option Addr) (n1 n2 c1 c2 : Nat) (al : Bool) (xs ys : List ByteArray) (hs : s.size ≤ maxLen) (h1 : Strs w a1 xs) (h2 : Strs w a2 ys) (e1 : xs.length = n1) (e2 : ys.length = n2) (s1 : SP a1) (s2 : SP a2)
    (f1 : ∀ x, a1 = some x → xs ≠ [] → ¬ inC col x.block) (f2 : ∀ x, a2 = some x → ys ≠ [] → ¬ inC col x.block) (hxs : ∀ t ∈ xs, t.size ≤ maxLen) (hys : ∀ t ∈ ys, t.size ≤ maxLen)
    (A : Int) (hA : ∀ E, Inv E x.G → E.map (fun e => e.2.core) = x.C → putE E s cpu mem xs ys = A) :
    Calls Tryz.prog 60 #[.pointer (some ⟨Lg, 0, none⟩), .agg #[.string s, .int .i64 cpu, .int .i64 mem, .slice a1 n1 c1, .slice a2 n2 c2, .bool al]] w fun e w' => e = .returned (.int .i64 A) ∧
      ∃ col', ShP w' S T Lg u d v col' (if A = 0 then nodeS x (s, cpu, mem, xs, ys, al) else x) ∧ Turn w w' (inC col) (inC col') := by
  obtain ⟨E, hE, hC⟩ := h.led
  have e0 := hA E hE.1 hC
  refine (putL w Lg _ E x.G hE s cpu mem a1 a2 n1 n2 c1 c2 al xs ys hs h1 h2 e1 e2 s1 s2 (fun y hy hn hc => f1 y hy hn (by unfold inC; rw [hc]; decide)) (fun y hy hn hc => f2 y hy hn (by unfold inC; rw [hc]; decide)) hxs hys).mono ?_
  rw [e0]
  rintro e w' ⟨he, fp', E', a3, c3, a4, c4, hL, hE', hT⟩
  refine ⟨he, ?_⟩
  have hnm : ∀ e ∈ E, e.2.nm = e.1 := fun e he => (hE.1.named e he).1
  by_cases h0 : A = 0
  · rw [if_pos h0] at hE' ⊢
    refine h.ledger ⟨E', hL, ?_⟩ hT
    rw [hE']
    unfold put
    rw [core_ins (s := s) (by rfl) (fun e he => hnm e (mem_del.1 he).1), core_del hnm, hC]
    rfl
  · rw [if_neg h0] at hE' ⊢
    exact h.ledger ⟨E', hL, by rw [hE', hC]⟩ hT
end

/-- A node's record. -/
def nodeR (s : ByteArray) (cpu mem : Nat) (xs ys : List ByteArray) (al : Bool) : ByteArray := ⟨(vb 1 ++ nodeT ⟨s, cpu, mem, xs, ys, al⟩).toArray⟩

section
variable {w : World} {S T : Nat} {fp : Nat → Prop} {x : ShS}

set_option maxRecDepth 100000 in
set_option maxHeartbeats 4000000 in
theorem qnode_yes (B : Nat) (hB : Base B w) (h : IsS w S T fp x) (hlow : ∀ b, fp b → B ≤ b) (hl : x.A.length + x.L.length < 999980) (s : ByteArray) (cpu mem : Nat) (a1 a2 : Option Addr) (n1 n2 c1 c2 : Nat) (al : Bool) (xs ys : List ByteArray) (hs : s.size ≤ 10000) (h1 : Strs w a1 xs) (h2 : Strs w a2 ys) (e1 : xs.length = n1) (e2 : ys.length = n2) (s1 : SP a1) (s2 : SP a2)
    (f1 : ∀ x, a1 = some x → xs ≠ [] → ¬ fp x.block) (f2 : ∀ x, a2 = some x → ys ≠ [] → ¬ fp x.block) (l1 : Low w.heap.size a1) (l2 : Low w.heap.size a2) (hxs : ∀ t ∈ xs, t.size ≤ 10000) (hys : ∀ t ∈ ys, t.size ≤ 10000) (zc : cpu ≤ 9223372036854775807) (zm : mem ≤ 9223372036854775807)
    (hN : nodeE s cpu mem xs ys = 0) (hA : ∀ E, Inv E x.G → E.map (fun e => e.2.core) = x.C → putE E s cpu mem xs ys = 0) :
    Calls Tryz.prog 25 #[.pointer (some ⟨S, 0, none⟩), .agg #[.string s, .int .i64 cpu, .int .i64 mem, .slice a1 n1 c1, .slice a2 n2 c2, .bool al]] w fun e w' => e = .returned (.int .i64 0) ∧
      ∃ fp', IsS w' S T fp' (recS (nodeS x (s, cpu, mem, xs, ys, al)) (nodeR s cpu mem xs ys al) true) ∧ Turn w w' fp fp' := by
  have hb0 := up (Below.refl w.heap.size w) (.cells #[.string s, .int .i64 cpu, .int .i64 mem, .slice a1 n1 c1, .slice a2 n2 c2, .bool al] 55)
  have bN := Box.new w #[.string s, .int .i64 cpu, .int .i64 mem, .slice a1 n1 c1, .slice a2 n2 c2, .bool al] 55 rfl
  have hn : ¬ fp w.heap.size := fun hc => by have := h.lt _ hc; omega
  have ko := qopen_any (h.later hb0)
  obtain ⟨Lg, u, d, v, col, rfl, h⟩ := h
  have hP1 := h.later hb0.drew
  have c3 := hP1.c3
  have c3' := (h.later hb0).c3
  have kp := put_sh hP1 s cpu mem a1 a2 n1 n2 c1 c2 al xs ys (by unfold maxLen; omega) (h1.later hb0.drew) (h2.later hb0.drew) e1 e2 s1 s2 f1 f2 (fun t ht => by have := hxs t ht; unfold maxLen; omega) (fun t ht => by have := hys t ht; unfold maxLen; omega) 0 hA
  simp only [if_true] at kp
  have kr : ∀ (W : World) (col2 : Nat → Nat), ShP W S T Lg u d v col2 (nodeS x (s, cpu, mem, xs, ys, al)) → Turn (w.alloc (.cells #[.string s, .int .i64 cpu, .int .i64 mem, .slice a1 n1 c1, .slice a2 n2 c2, .bool al] 55)).drew W (inC col) (inC col2) →
      Calls Tryz.prog 61 #[.pointer (some ⟨S, 0, none⟩), .agg #[.int .i64 1, .int .i64 0, .slice none 0 0, .slice none 0 0, .string s, .int .i64 cpu, .int .i64 mem, .slice a1 n1 c1, .slice a2 n2 c2, .bool al], .bool true] W fun e w' => e = .returned (.tuple #[]) ∧ ∃ fp', IsS w' S T fp' (recS (nodeS x (s, cpu, mem, xs, ys, al)) (nodeR s cpu mem xs ys al) true) ∧ Turn W w' (inC col2) fp' := fun W col2 hW hT => by
    have h1W : Strs W a1 xs := (h1.later hb0.drew).frame fun y hy hne => hT.kept.block _ (Nat.lt_of_lt_of_le (l1 y hy) hb0.drew.size) (f1 y hy hne)
    have h2W : Strs W a2 ys := (h2.later hb0.drew).frame fun y hy hne => hT.kept.block _ (Nat.lt_of_lt_of_le (l2 y hy) hb0.drew.size) (f2 y hy hne)
    have hz := Nat.le_trans hb0.drew.size hT.kept.size
    refine qrecord_any ⟨Lg, u, d, v, col2, rfl, hW⟩ hl _ _ _ _ _ _ _ _ _ _ _ true (fun W' hb => ?_) (fun W' hb => ?_)
    · exact check_node s cpu mem a1 a2 n1 c1 n2 c2 xs ys al W' (h1W.later hb) (h2W.later hb) e1 e2 hN
    · have hBW : TabB W'.heap.size W' := (((hB.later hb0.drew).on (hT.on hlow (hB.later hb0.drew).le)).later hb).top
      exact text_node s cpu mem a1 a2 n1 c1 n2 c2 xs ys al W' (h1W.later hb) (h2W.later hb) e1 e2 (fun y hy => Nat.lt_of_lt_of_le (l1 y hy) (Nat.le_trans hz hb.size)) (fun y hy => Nat.lt_of_lt_of_le (l2 y hy) (Nat.le_trans hz hb.size)) hxs hys hs zc zm hBW
  have hT0 : Turn w _ (inC col) (inC col) := .of_below hb0.drew
  clear h hP1 hB h1 h2 f1 f2 hA
  go_enter Tryz.func25, Tryz.ntmps25
  go_upto_region 2 with (go_at_call 49; refine ko.mono ?_; rintro e w2 ⟨rfl, rfl⟩)
  go_region_with (go_at_call 60; refine kp.mono ?_
                  rintro e w3 ⟨rfl, col3, h3, hT3⟩
                  have b3 := hT3.kept.box (Box.drew bN) hn
                  obtain ⟨r0, r1, r2, r3, r4, r5⟩ := b3.cells6
                  have kr3 := kr _ _ h3 hT3)
  all_goals
    go_wp2_with (go_at_call 61; refine kr3.mono ?_; rintro e w4 ⟨rfl, fp4, h4, hT4⟩)
    go_ret
    exact ⟨rfl, fp4, h4, (hT0.trans hT3).trans hT4⟩
end

end Go.Proofs.YthneemgpifbehaaGreatDoor

/- A shard that is made of an empty tape; the chapter's own. -/
namespace Go.Proofs.YthneemgpifbehaaGreatDoor
open Go.RowKit Go.Maps
set_option linter.unusedSimpArgs false
set_option linter.unusedVariables false

theorem all_any_nil (w : World) (T : Nat) (v : Value) (h : IsTape w T v (rowOf [] [] false)) :
    Calls Tryz.prog 20 #[.pointer (some ⟨T, 0, none⟩)] w fun e w' => ∃ a c, e = .returned (.slice a 0 c) ∧ Below w.heap.size w w' :=
  (tall_any w T v [] [] false [] h rfl (fun i r hr => by simp at hr)).mono fun e w' h => by
    obtain ⟨a, c, l, h1, _, _, _, h2⟩ := h
    exact ⟨a, c, h1, h2⟩

/-- A shard of nothing. -/
def newS (me mode : Int) : ShS := ⟨me, mode, [], [], false, [], [], [], []⟩

theorem ShP.made {w : World} {S T Lg u d : Nat} {v : Value} {fl : Nat → Prop} {me mode : Int}
    (box : Box w S #[.int .i64 me, .int .i64 mode, .pointer (some ⟨T, 0, none⟩), .pointer (some ⟨Lg, 0, none⟩), .map (some u), .map (some d)] 91)
    (tp : IsTape w T v (rowOf [] [] false)) (led : Led w Lg fl [] []) (hu : MOwn Und.val w u []) (hd : MOwn dval w d [])
    (hST : S ≠ T) (hSu : S ≠ u) (hSd : S ≠ d) (hTu : T ≠ u) (hTd : T ≠ d) (hud : u ≠ d) (hfl : ∀ b, fl b → b ≠ S ∧ b ≠ T ∧ b ≠ u ∧ b ≠ d) (hv : v.ownBlock = none) (hT : T < w.heap.size) :
    ∃ fp, IsS w S T fp (newS me mode) ∧ ∀ b, fp b → b = S ∨ b = T ∨ b = u ∨ b = d ∨ fl b := by
  classical
  refine ⟨inC fun b => if b = S then 1 else if b = T then 2 else if b = u then 4 else if b = d then 5 else if fl b then 3 else 0, ⟨Lg, u, d, v, _, rfl, ?_⟩, fun b hb => ?_⟩
  · have e3 : (fun b => (if b = S then 1 else if b = T then 2 else if b = u then 4 else if b = d then 5 else if fl b then 3 else 0) = 3) = fl := funext fun b => propext (by
      constructor
      · intro e
        split at e
        · cases e
        split at e
        · cases e
        split at e
        · cases e
        split at e
        · cases e
        split at e
        · assumption
        · cases e
      · intro e
        obtain ⟨h1, h2, h3, h4⟩ := hfl b e
        rw [if_neg h1, if_neg h2, if_neg h3, if_neg h4, if_pos e])
    exact {
      box := box
      tp := tp
      ts := fun _ => rfl
      led := by rw [e3]; exact ⟨[], led, rfl⟩
      und := hu
      dec := hd
      ok := fun e he => by cases he
      cS := if_pos rfl
      cT := by rw [if_neg (Ne.symm hST), if_pos rfl]
      cv := fun g hg => by rw [hv] at hg; cases hg
      cu := by rw [if_neg (Ne.symm hSu), if_neg (Ne.symm hTu), if_pos rfl]
      cd := by rw [if_neg (Ne.symm hSd), if_neg (Ne.symm hTd), if_neg (Ne.symm hud), if_pos rfl]
      lt := fun b hb => by
        by_cases h1 : b = S
        · rw [h1]; exact box.lt
        by_cases h2 : b = T
        · rw [h2]; exact hT
        by_cases h3 : b = u
        · rw [h3]; exact hu.lt
        by_cases h4 : b = d
        · rw [h4]; exact hd.lt
        by_cases h5 : fl b
        · exact led.lt b h5
        · rw [if_neg h1, if_neg h2, if_neg h3, if_neg h4, if_neg h5] at hb
          exact absurd rfl hb }
  · simp only [inC] at hb
    by_cases h1 : b = S
    · exact .inl h1
    by_cases h2 : b = T
    · exact .inr (.inl h2)
    by_cases h3 : b = u
    · exact .inr (.inr (.inl h3))
    by_cases h4 : b = d
    · exact .inr (.inr (.inr (.inl h4)))
    by_cases h5 : fl b
    · exact .inr (.inr (.inr (.inr h5)))
    · rw [if_neg h1, if_neg h2, if_neg h3, if_neg h4, if_neg h5] at hb
      exact absurd rfl hb

set_option maxRecDepth 100000 in
set_option maxHeartbeats 4000000 in
theorem qnew_nil (w : World) (me mode : Int) (T : Nat) (v : Value) (h : IsTape w T v (rowOf [] [] false)) (hv : v.ownBlock = none) :
    Calls Tryz.prog 18 #[.int .i64 me, .int .i64 mode, .pointer (some ⟨T, 0, none⟩)] w fun e w' => ∃ S fp, e = .returned (.pointer (some ⟨S, 0, none⟩)) ∧ IsS w' S T fp (newS me mode) ∧ w.heap.size ≤ S ∧ (∀ b, fp b → b = T ∨ w.heap.size ≤ b) ∧ Below w.heap.size w w' := by
  have hT := h.box.lt
  have kn := newL w
  have ka := fun W (hb : Below w.heap.size w W) => all_any_nil W T v (h.later hb)
  have hmm := @run_makeMap Tryz.prog
  go_enter Tryz.func18, Tryz.ntmps18
  go_upto_region 2 with (go_at_call 54; refine kn.mono ?_; rintro e w1 ⟨Lg, fl, rfl, hL, hfl, hb1⟩)
  have hz1 := hb1.size
  have s1 : (w1.alloc (.map #[] 0)).heap.size = w1.heap.size + 1 := by simp
  have s2 : ((w1.alloc (.map #[] 0)).alloc (.map #[] 0)).heap.size = w1.heap.size + 1 + 1 := by simp
  have q0 := up (Below.refl w1.heap.size w1) (.map #[] 0)
  have q1 := up q0 (.map #[] 0)
  have q2 := up q1 (.cells #[.int .i64 me, .int .i64 mode, .pointer (some ⟨T, 0, none⟩), .pointer (some ⟨Lg, 0, none⟩), .map (some w1.heap.size), .map (some (w1.heap.size + 1))] 91)
  have hW := hb1.trans (q2.mono hz1)
  have bS := Box.new ((w1.alloc (.map #[] 0)).alloc (.map #[] 0)) #[.int .i64 me, .int .i64 mode, .pointer (some ⟨T, 0, none⟩), .pointer (some ⟨Lg, 0, none⟩), .map (some w1.heap.size), .map (some (w1.heap.size + 1))] 91 s2
  have hu : MOwn Und.val (((w1.alloc (.map #[] 0)).alloc (.map #[] 0)).alloc (.cells #[.int .i64 me, .int .i64 mode, .pointer (some ⟨T, 0, none⟩), .pointer (some ⟨Lg, 0, none⟩), .map (some w1.heap.size), .map (some (w1.heap.size + 1))] 91)) w1.heap.size [] := ((MOwn.made w1).kept (Below.heap_alloc _ _ _ (by simp))).kept (Below.heap_alloc _ _ _ (by simp; omega))
  have hd : MOwn dval (((w1.alloc (.map #[] 0)).alloc (.map #[] 0)).alloc (.cells #[.int .i64 me, .int .i64 mode, .pointer (some ⟨T, 0, none⟩), .pointer (some ⟨Lg, 0, none⟩), .map (some w1.heap.size), .map (some (w1.heap.size + 1))] 91)) (w1.heap.size + 1) [] := by
    have := MOwn.made (val := dval) (w1.alloc (.map #[] 0))
    rw [s1] at this
    exact this.kept (Below.heap_alloc _ _ _ (by simp))
  obtain ⟨fp, hS, hfp⟩ := ShP.made bS (h.later hW) (hL.later q2) hu hd (by omega) (by omega) (by omega) (by omega) (by omega) (by omega) (fun b hb => by have h1 := hL.lt b hb; have h2 := hfl b hb; exact ⟨by omega, by omega, by omega, by omega⟩) hv (Nat.lt_of_lt_of_le hT hW.size)
  have kaW := ka _ hW
  have hS1 : ∀ w2, Below (((w1.alloc (.map #[] 0)).alloc (.map #[] 0)).alloc (.cells #[.int .i64 me, .int .i64 mode, .pointer (some ⟨T, 0, none⟩), .pointer (some ⟨Lg, 0, none⟩), .map (some w1.heap.size), .map (some (w1.heap.size + 1))] 91)).heap.size (((w1.alloc (.map #[] 0)).alloc (.map #[] 0)).alloc (.cells #[.int .i64 me, .int .i64 mode, .pointer (some ⟨T, 0, none⟩), .pointer (some ⟨Lg, 0, none⟩), .map (some w1.heap.size), .map (some (w1.heap.size + 1))] 91)) w2 →
      IsS w2 (w1.heap.size + 1 + 1) T fp (newS me mode) ∧ w.heap.size ≤ w1.heap.size + 1 + 1 ∧ (∀ b, fp b → b = T ∨ w.heap.size ≤ b) ∧ Below w.heap.size w w2 := fun w2 hb2 => ⟨hS.later hb2, by omega, fun b hb => by
        rcases hfp b hb with e | e | e | e | e
        · exact .inr (by omega)
        · exact .inl e
        · exact .inr (by omega)
        · exact .inr (by omega)
        · exact .inr (hfl b e), fin hb2 hW⟩
  clear ka hmm hu hd bS hS hfp q0 q1 q2 hL hfl kn h hv
  go_wp2_with (go_at_call 20; refine kaW.mono ?_; rintro e w2 ⟨a, c, rfl, hb2⟩)
  go_loop [21] (fun i => i = .int .i64 0) (fun _ => 0)
  case atStart => rfl
  case round =>
    subst hrel
    go_wp2
    go_ret
    exact ⟨_, rfl, fp, hS1 _ hb2⟩

set_option maxRecDepth 100000 in
theorem yall_nil (w : World) (Y : Nat) (hY : w.cell? ⟨Y, 0, none⟩ = some (.slice none 0 0)) :
    Calls Tryz.prog 69 #[.pointer (some ⟨Y, 0, none⟩)] w fun e w' => e = .returned (.slice none 0 0) ∧ w' = w := by
  go_enter Tryz.func69, Tryz.ntmps69
  go_wp2
  go_loop [3, 4] (fun o i => o = .slice none 0 0 ∧ i = .int .i64 0) (fun _ _ => 0)
  case atStart => exact ⟨rfl, rfl⟩
  case round =>
    obtain ⟨rfl, rfl⟩ := hrel
    go_wp2
    go_ret
    exact ⟨rfl, rfl⟩

set_option maxRecDepth 100000 in
theorem ynew_nil (w : World) (me mode : Int) (Y : Nat) (hY : w.cell? ⟨Y, 0, none⟩ = some (.slice none 0 0)) :
    Calls Tryz.prog 30 #[.int .i64 me, .int .i64 mode, .pointer (some ⟨Y, 0, none⟩)] w fun e w' => ∃ X, e = .returned (.pointer (some ⟨X, 0, none⟩)) ∧ w.heap.size ≤ X ∧ Below w.heap.size w w' := by
  have hYl := block_lt hY
  have ka := fun W (hb : Below w.heap.size w W) => yall_nil W Y (cell_below hb hY hYl)
  have hb0 : ∀ o o', Below w.heap.size w ((w.alloc o).alloc o') := fun o o' => up (up (Below.refl _ _) o) o'
  go_enter Tryz.func30, Tryz.ntmps30
  go_wp2_with (go_at_call 69; refine (ka _ (hb0 _ _)).mono ?_; rintro e w1 ⟨rfl, rfl⟩)
  go_loop [9] (fun i => i = .int .i64 0) (fun _ => 0)
  case atStart => rfl
  case round =>
    subst hrel
    go_wp2
    go_ret
    exact ⟨_, rfl, by simp, hb0 _ _⟩

end Go.Proofs.YthneemgpifbehaaGreatDoor
