/- A coordinator in memory: its own block, its tape, its map, its gangs; each block has one owner. -/
import Derived.Test.YtlehlbgaboifoabGreatDoorMg26
import Derived.Test.YtlehlbgaboifoabGreatDoorMg20
import Derived.Deep.DeepCutAuto
namespace Go.Proofs.YtlehlbgaboifoabGreatDoor
open Go.RowKit Go.Maps Go.Shelf
set_option linter.unusedSimpArgs false
set_option linter.unusedVariables false

/-- What a coordinator has. -/
structure CoS where
  n : Int
  A : List ByteArray
  L : List ByteArray
  s : Bool
  M : List (Int × GS)

theorem GA.wide {w : World} {C : Nat} {Q Q' R : Nat → Prop} {id : Nat} {g : GS} {pa : Option Addr} {pc : Nat} {wv v : Value} (h : GA w C Q R id g pa pc wv v) (hk : ∀ k, Q k → Q' k) (hl : ∀ k, Q' k → k < w.heap.size) : GA w C Q' R id g pa pc wv v where
  box := h.box
  ps := h.ps
  ws := h.ws
  ph := h.ph.frame (fun _ _ => rfl) (fun P _ q n _ => ⟨rfl, hk _ q, n⟩) (fun _ h => h)
  sub := fun k hr => hk _ (h.sub k hr)
  qb := hk _ h.qb
  rb := h.rb
  pR := h.pR
  pS := h.pS
  wQ := fun k hw => ⟨hk _ (h.wQ k hw).1, (h.wQ k hw).2⟩
  lp := h.lp
  lw := h.lw
  wn := h.wn
  lt := hl
theorem GangAt.wide {w : World} {C : Nat} {Q Q' : Nat → Prop} {id : Nat} {g : GS} (h : GangAt w C Q id g) (hk : ∀ k, Q k → Q' k) (hl : ∀ k, Q' k → k < w.heap.size) : GangAt w C Q' id g := by
  obtain ⟨R, pa, pc, wv, v, h⟩ := h
  exact ⟨R, pa, pc, wv, v, h.wide hk hl⟩

/-- A coordinator in block C, by its parts; who owns which block: -1 the coordinator, -2 the tape, -3 the map, a gang's number the gang. -/
structure CoP (w : World) (C T m : Nat) (v : Value) (col : Nat → Int) (x : CoS) : Prop where
  box : Box w C #[.int .i64 x.n, .pointer (some ⟨T, 0, none⟩), .map (some m)] 78
  tp : IsTape w T v (rowOf x.A x.L x.s)
  ts : x.s = false → x.A = []
  mp : MOwn GS.val w m x.M
  ok : ∀ e ∈ x.M, GangAt w C (fun b => col b = e.1) e.1.toNat e.2
  pos : ∀ e ∈ x.M, 1 ≤ e.1 ∧ e.1 ≤ 999999
  cC : col C = -1
  cT : col T = -2
  cv : ∀ g, v.ownBlock = some g → col g = -2
  cm : col m = -3
  lt : ∀ b, col b ≠ 0 → b < w.heap.size

def inC (col : Nat → Int) : Nat → Prop := fun b => col b ≠ 0
/-- A coordinator in block C, its tape in T, in these blocks. -/
def IsC (w : World) (C T : Nat) (fp : Nat → Prop) (x : CoS) : Prop := ∃ m v col, fp = inC col ∧ CoP w C T m v col x

/-- A gang turned. -/
def upd (M : List (Int × GS)) (i : Int) (g : GS) : List (Int × GS) := M.map fun e => if e.1 = i then (i, g) else e
theorem upd_look (M : List (Int × GS)) (i : Int) (g : GS) (j : Int) (h : (look M i).isSome) : look (upd M i g) j = if j = i then some g else look M j := by
  induction M with
  | nil => simp [look] at h
  | cons e t ih =>
    rw [upd, List.map_cons, look_cons]
    rw [look_cons] at h
    by_cases he : e.1 = i
    · simp only [he, if_true]
      by_cases hj : j = i
      · simp [hj]
      · rw [if_neg (fun e => hj e.symm), if_neg hj, look_cons, if_neg (by rw [he]; exact fun e => hj e.symm)]
        clear ih h
        induction t with
        | nil => rfl
        | cons e2 t2 ih2 =>
          rw [List.map_cons, look_cons, look_cons]
          by_cases h2 : e2.1 = i
          · simp only [h2, if_true]
            rw [if_neg (fun e => hj e.symm), if_neg (fun e => hj e.symm)]
            exact ih2
          · rw [if_neg h2]
            by_cases h3 : e2.1 = j
            · rw [if_pos h3, if_pos h3]
            · rw [if_neg h3, if_neg h3]
              exact ih2
    · rw [if_neg he] at h ⊢
      rw [look_cons]
      by_cases hej : e.1 = j
      · rw [if_pos hej, if_pos hej, if_neg (fun e2 => he (hej.trans e2))]
      · rw [if_neg hej, if_neg hej]
        exact ih h
theorem mem_upd {M : List (Int × GS)} {i : Int} {g : GS} {e : Int × GS} (h : e ∈ upd M i g) : e = (i, g) ∨ (e ∈ M ∧ e.1 ≠ i) := by
  obtain ⟨e', he', rfl⟩ := List.mem_map.1 h
  split
  · exact .inl rfl
  · exact .inr ⟨he', ‹_›⟩
theorem encD_upd (M : List (Int × GS)) (i : Int) (g g' : GS) (ha : Apart M) (hl : look M i = some g) (hb : g'.b = g.b) : encD iK GS.val (upd M i g') = encD iK GS.val M := by
  unfold encD upd
  congr 1
  rw [List.map_map]
  refine List.map_congr_left fun e he => ?_
  simp only [Function.comp_apply]
  split
  · rename_i h1
    have h2 : look M e.1 = some e.2 := look_of_mem (r := e.2) ha (by exact he)
    rw [h1, hl] at h2
    have h3 : e.2 = g := by injection h2 with h2; exact h2.symm
    simp only [GS.val, hb, h3, h1]
  · rfl
theorem upd_length (M : List (Int × GS)) (i : Int) (g : GS) : (upd M i g).length = M.length := by simp [upd]

section
variable {w w' : World} {C T m : Nat} {v : Value} {col : Nat → Int} {x : CoS}

theorem CoP.pos0 (h : CoP w C T m v col x) {e : Int × GS} (he : e ∈ x.M) : e.1 ≠ 0 ∧ e.1 ≠ -1 ∧ e.1 ≠ -2 ∧ e.1 ≠ -3 := by have := h.pos e he; omega
theorem CoP.frame (h : CoP w C T m v col x) (hs : w.heap.size ≤ w'.heap.size) (hk : ∀ b, col b ≠ 0 → w'.heap[b]? = w.heap[b]?) : CoP w' C T m v col x where
  box := h.box.frame (hk C (by rw [h.cC]; decide))
  tp := h.tp.frame (hk T (by rw [h.cT]; decide)) fun g hg => hk g (by rw [h.cv g hg]; decide)
  ts := h.ts
  mp := h.mp.kept (hk m (by rw [h.cm]; decide))
  ok := fun e he => (h.ok e he).frame (fun b hb => hk b (by rw [hb]; exact (h.pos0 he).1)) hs
  pos := h.pos
  cC := h.cC
  cT := h.cT
  cv := h.cv
  cm := h.cm
  lt := fun b hb => Nat.lt_of_lt_of_le (h.lt b hb) hs
theorem CoP.later (h : CoP w C T m v col x) (hb : Below w.heap.size w w') : CoP w' C T m v col x := h.frame hb.size fun b hc => hb.block b (h.lt b hc)

/-- Blocks that get an owner who had none, or had this one. -/
theorem recol {col : Nat → Int} {n : Nat} {S : Nat → Prop} {c : Int} (hl : ∀ b, col b ≠ 0 → b < n) (hS : ∀ b, S b → col b = c ∨ n ≤ b) :
    ∃ col' : Nat → Int, ((∀ b, col b ≠ 0 → col' b = col b) ∧ (∀ d, d ≠ c → d ≠ 0 → ∀ b, (col' b = d ↔ col b = d)) ∧ (∀ b, col' b = c ↔ (col b = c ∨ (S b ∧ n ≤ b ∧ True)))) ∨ c = 0 := by
  classical
  by_cases hc : c = 0
  · exact ⟨col, .inr hc⟩
  refine ⟨fun b => if n ≤ b ∧ S b then c else col b, .inl ⟨fun b hb => if_neg fun e => by have := hl b hb; omega, fun d h1 h2 b => ?_, fun b => ?_⟩⟩
  · show (if n ≤ b ∧ S b then c else col b) = d ↔ col b = d
    constructor
    · intro e
      split at e
      · exact absurd e.symm h1
      · exact e
    · intro e
      rw [if_neg fun e2 => by have := hl b (by rw [e]; exact h2); omega]
      exact e
  · show (if n ≤ b ∧ S b then c else col b) = c ↔ (col b = c ∨ (S b ∧ n ≤ b ∧ True))
    constructor
    · intro e
      split at e
      · rename_i h; exact .inr ⟨h.2, h.1, trivial⟩
      · exact .inl e
    · intro e
      rcases e with e | ⟨e1, e2, _⟩
      · split
        · rfl
        · exact e
      · exact if_pos ⟨e2, e1⟩

/-- The tape turned. -/
theorem CoP.tape (h : CoP w C T m v col x) {v' : Value} {A' L' : List ByteArray} {s' : Bool} (ht : IsTape w' T v' (rowOf A' L' s')) (hs : s' = false → A' = []) (hK : KT T v w w') (hn : NewOr w v v') :
    ∃ col', CoP w' C T m v' col' { x with A := A', L := L', s := s' } ∧ Turn w w' (inC col) (inC col') := by
  have hkeep : ∀ b, col b ≠ 0 → col b ≠ -2 → w'.heap[b]? = w.heap[b]? := fun b h0 h2 => hK.block b (h.lt b h0) (fun e => h2 (by rw [e]; exact h.cT)) (fun e => h2 (h.cv b e))
  obtain ⟨col', ⟨k1, k2, k3⟩ | hc⟩ := recol (S := fun b => v'.ownBlock = some b) (c := -2) h.lt (fun b hb => (hn b hb).imp (h.cv b) id)
  · have same : ∀ e : Int × GS, e ∈ x.M → (fun b => col' b = e.1) = fun b => col b = e.1 := fun e he => funext fun b => propext (k2 e.1 (h.pos0 he).2.2.1 (h.pos0 he).1 b)
    have hown : ∀ b, v'.ownBlock = some b → b < w'.heap.size := fun b hb => (own_low ht.row b hb).2
    refine ⟨col', {
      box := h.box.frame (hkeep C (by rw [h.cC]; decide) (by rw [h.cC]; decide))
      tp := ht
      ts := hs
      mp := h.mp.kept (hkeep m (by rw [h.cm]; decide) (by rw [h.cm]; decide))
      ok := fun e he => by
        rw [same e he]
        exact (h.ok e he).frame (fun b hb => hkeep b (by rw [hb]; exact (h.pos0 he).1) (by rw [hb]; exact (h.pos0 he).2.2.1)) hK.size
      pos := h.pos
      cC := by rw [k1 C (by rw [h.cC]; decide)]; exact h.cC
      cT := by rw [k1 T (by rw [h.cT]; decide)]; exact h.cT
      cv := fun g hg => (k3 g).2 ((hn g hg).imp (h.cv g) fun e => ⟨hg, e, trivial⟩)
      cm := by rw [k1 m (by rw [h.cm]; decide)]; exact h.cm
      lt := fun b hb => by
        by_cases h2 : col' b = -2
        · rcases (k3 b).1 h2 with e | ⟨e, _⟩
          · exact Nat.lt_of_lt_of_le (h.lt b (by rw [e]; decide)) hK.size
          · exact hown b e
        · exact Nat.lt_of_lt_of_le (h.lt b (by rw [(k2 _ h2 hb b).1 rfl]; exact hb)) hK.size }, ⟨fun b hb => by simp only [inC] at hb ⊢; rw [k1 b hb]; exact hb, fun b hb => ?_, ⟨hK.os, hK.tape, hK.output, hK.size, fun k hk hn => hK.block k hk (fun e => hn (by unfold inC; rw [e, h.cT]; decide)) (fun e => hn (by unfold inC; rw [h.cv k e]; decide))⟩⟩⟩
    simp only [inC] at hb ⊢
    by_cases h2 : col' b = -2
    · rcases (k3 b).1 h2 with e | ⟨_, e, _⟩
      · exact .inl (by rw [e]; decide)
      · exact .inr e
    · exact .inl (by rw [(k2 _ h2 hb b).1 rfl]; exact hb)
  · cases hc

/-- A gang turned. -/
theorem CoP.gang (h : CoP w C T m v col x) {i : Int} {g g' : GS} {Q' : Nat → Prop} (hl : look x.M i = some g) (hb : g'.b = g.b) (hG : GangAt w' C Q' i.toNat g') (hT : Turn w w' (fun b => col b = i) Q') :
    ∃ col', CoP w' C T m v col' { x with M := upd x.M i g' } ∧ Turn w w' (inC col) (inC col') := by
  have hmem := mem_of_look hl
  obtain ⟨hi0, hi1, hi2, hi3⟩ := h.pos0 hmem
  simp only at hi0 hi1 hi2 hi3
  have hpi := h.pos _ hmem
  have hkeep : ∀ b, col b ≠ 0 → col b ≠ i → w'.heap[b]? = w.heap[b]? := fun b h0 h2 => hT.kept.block b (h.lt b h0) h2
  obtain ⟨col', ⟨k1, k2, k3⟩ | hc⟩ := recol (S := Q') (c := i) h.lt hT.new
  · have hz := hT.kept.size
    have lt' : ∀ b, col' b ≠ 0 → b < w'.heap.size := fun b hb => by
      by_cases h2 : col' b = i
      · rcases (k3 b).1 h2 with e | ⟨e, _⟩
        · exact Nat.lt_of_lt_of_le (h.lt b (by rw [e]; exact hi0)) hz
        · exact hG.lt b e
      · exact Nat.lt_of_lt_of_le (h.lt b (by rw [(k2 _ h2 hb b).1 rfl]; exact hb)) hz
    refine ⟨col', {
      box := h.box.frame (hkeep C (by rw [h.cC]; decide) (by rw [h.cC]; exact fun e => hi1 e.symm))
      tp := h.tp.frame (hkeep T (by rw [h.cT]; decide) (by rw [h.cT]; exact fun e => hi2 e.symm)) fun g hg => hkeep g (by rw [h.cv g hg]; decide) (by rw [h.cv g hg]; exact fun e => hi2 e.symm)
      ts := h.ts
      mp := by
        have h1 := h.mp.kept (hkeep m (by rw [h.cm]; decide) (by rw [h.cm]; exact fun e => hi3 e.symm))
        unfold MOwn at h1 ⊢
        rw [encD_upd x.M i g g' h.mp.apart hl hb, upd_length]
        exact h1
      ok := fun e he => by
        rcases mem_upd he with rfl | ⟨he, hne⟩
        · exact hG.wide (fun k hk => (k3 k).2 ((hT.new k hk).imp id fun h => ⟨hk, h, trivial⟩)) fun k hk => lt' k (by rw [hk]; exact hi0)
        · have e1 : (fun b => col' b = e.1) = fun b => col b = e.1 := funext fun b => propext (k2 e.1 hne (h.pos0 he).1 b)
          rw [e1]
          exact (h.ok e he).frame (fun b hb => hkeep b (by rw [hb]; exact (h.pos0 he).1) (by rw [hb]; exact hne)) hz
      pos := fun e he => by
        rcases mem_upd he with rfl | ⟨he, _⟩
        · exact hpi
        · exact h.pos e he
      cC := by rw [k1 C (by rw [h.cC]; decide)]; exact h.cC
      cT := by rw [k1 T (by rw [h.cT]; decide)]; exact h.cT
      cv := fun g hg => by rw [k1 g (by rw [h.cv g hg]; decide)]; exact h.cv g hg
      cm := by rw [k1 m (by rw [h.cm]; decide)]; exact h.cm
      lt := lt' }, ⟨fun b hb => by simp only [inC] at hb ⊢; rw [k1 b hb]; exact hb, fun b hb => ?_, hT.kept.wide fun b hb => by simp only [inC]; rw [hb]; exact hi0⟩⟩
    simp only [inC] at hb ⊢
    by_cases h2 : col' b = i
    · rcases (k3 b).1 h2 with e | ⟨_, e, _⟩
      · exact .inl (by rw [e]; exact hi0)
      · exact .inr e
    · exact .inl (by rw [(k2 _ h2 hb b).1 rfl]; exact hb)
  · exact absurd hc hi0

/-- A gang more. -/
theorem CoP.add (h : CoP w C T m v col x) {i : Int} {g : GS} {Q : Nat → Prop} {n : Nat} (hpi : 1 ≤ i ∧ i ≤ 999999) (hl : look x.M i = none) (hG : GangAt w' C Q i.toNat g) (hQ : ∀ b, Q b → col b = 0) (hM : MOwn GS.val w' m (put iK x.M i g)) (hg : w.grownBy w' (some m)) :
    ∃ col', CoP w' C T m v col' { x with M := put iK x.M i g } ∧ (∀ b, inC col' b ↔ (inC col b ∨ Q b)) ∧ (∀ b, Q b → col' b = i) := by
  classical
  have hkeep : ∀ b, col b ≠ 0 → col b ≠ -3 → w'.heap[b]? = w.heap[b]? := fun b h0 h2 => hg.block b (h.lt b h0) (fun e => h2 (by cases e; exact h.cm))
  have old : ∀ b, col b ≠ 0 → (if Q b then i else col b) = col b := fun b hb => if_neg fun hq => hb (hQ b hq)
  have oth : ∀ d, d ≠ i → d ≠ 0 → ∀ b, ((if Q b then i else col b) = d ↔ col b = d) := fun d h1 h2 b => by
    constructor
    · intro e
      split at e
      · exact absurd e.symm h1
      · exact e
    · intro e
      rw [old b (by rw [e]; exact h2)]; exact e
  have hz := hg.size
  have lt' : ∀ b, (if Q b then i else col b) ≠ 0 → b < w'.heap.size := fun b hb => by
    by_cases hq : Q b
    · exact hG.lt b hq
    · rw [if_neg hq] at hb; exact Nat.lt_of_lt_of_le (h.lt b hb) hz
  refine ⟨fun b => if Q b then i else col b, {
    box := h.box.frame (hkeep C (by rw [h.cC]; decide) (by rw [h.cC]; decide))
    tp := h.tp.frame (hkeep T (by rw [h.cT]; decide) (by rw [h.cT]; decide)) fun g hg => hkeep g (by rw [h.cv g hg]; decide) (by rw [h.cv g hg]; decide)
    ts := h.ts
    mp := hM
    ok := fun e he => by
      rcases (mem_put iK).1 he with rfl | ⟨he, hne⟩
      · exact hG.wide (fun k hk => if_pos hk) fun k hk => lt' k (by rw [hk]; simp only; omega)
      · have e1 : (fun b => (if Q b then i else col b) = e.1) = fun b => col b = e.1 := funext fun b => propext (oth e.1 hne (h.pos0 he).1 b)
        rw [e1]
        exact (h.ok e he).frame (fun b hb => hkeep b (by rw [hb]; exact (h.pos0 he).1) (by rw [hb]; exact (h.pos0 he).2.2.2)) hz
    pos := fun e he => by
      rcases (mem_put iK).1 he with rfl | ⟨he, _⟩
      · exact hpi
      · exact h.pos e he
    cC := by rw [old C (by rw [h.cC]; decide)]; exact h.cC
    cT := by rw [old T (by rw [h.cT]; decide)]; exact h.cT
    cv := fun g hg => by rw [old g (by rw [h.cv g hg]; decide)]; exact h.cv g hg
    cm := by rw [old m (by rw [h.cm]; decide)]; exact h.cm
    lt := lt' }, fun b => ?_, fun b hb => if_pos hb⟩
  simp only [inC]
  by_cases hq : Q b
  · simp only [if_pos hq]
    exact ⟨fun _ => .inr hq, fun _ => by omega⟩
  · simp only [if_neg hq]
    exact ⟨.inl, fun h => h.elim id fun h => absurd h hq⟩
end

section
variable {w w' w'' : World} {C T : Nat} {fp fp' fp'' : Nat → Prop} {x : CoS}
theorem IsC.later (h : IsC w C T fp x) (hb : Below w.heap.size w w') : IsC w' C T fp x := by
  obtain ⟨m, v, col, e, h⟩ := h
  exact ⟨m, v, col, e, h.later hb⟩
theorem IsC.frame (h : IsC w C T fp x) (hs : w.heap.size ≤ w'.heap.size) (hk : ∀ b, fp b → w'.heap[b]? = w.heap[b]?) : IsC w' C T fp x := by
  obtain ⟨m, v, col, rfl, h⟩ := h
  exact ⟨m, v, col, rfl, h.frame hs hk⟩
theorem IsC.lt (h : IsC w C T fp x) : ∀ b, fp b → b < w.heap.size := by
  obtain ⟨m, v, col, rfl, h⟩ := h
  exact h.lt
end

end Go.Proofs.YtlehlbgaboifoabGreatDoor

/- What holding and preparing make; what is done behind the last yes of a hold. -/
namespace Go.Proofs.YtlehlbgaboifoabGreatDoor
open Go.RowKit Go.Maps Go.Shelf
set_option linter.unusedSimpArgs false
set_option linter.unusedVariables false

set_option maxRecDepth 100000 in
set_option maxHeartbeats 1000000 in
theorem preparing_any (C b age : Nat) (w : World) :
    Calls Tryz.prog 90 #[ptr C, ptr b, .int .i64 age] w fun e w' => e = .returned (ptr (w.heap.size + 2)) ∧ PrepAt w' C (New w w') (fun k => k = w.heap.size ∨ k = w.heap.size + 1) b (w.heap.size + 2) (w.heap.size + 1) w.heap.size age ∧ Below w.heap.size w w' := by
  have b0 := Box.new w #[ptr C] 30 rfl
  have b1 := Box.new (w.alloc (.cells #[ptr C] 30)) #[ptr b] 79 (B := w.heap.size + 1) (by simp)
  have b2 := Box.new ((w.alloc (.cells #[ptr C] 30)).alloc (.cells #[ptr b] 79)) #[.int .i64 2, .int .i64 4, .int .i64 age, .func (.func 124) #[] #[ptr (w.heap.size + 1)], .func (.func 125) #[] #[ptr w.heap.size, ptr (w.heap.size + 1)]] 138 (B := w.heap.size + 2) (by simp)
  have hb := up (up (up (Below.refl w.heap.size w) (.cells #[ptr C] 30)) (.cells #[ptr b] 79)) (.cells #[.int .i64 2, .int .i64 4, .int .i64 age, .func (.func 124) #[] #[ptr (w.heap.size + 1)], .func (.func 125) #[] #[ptr w.heap.size, ptr (w.heap.size + 1)]] 138)
  go_enter Tryz.func90, Tryz.ntmps90
  go_wp2
  go_ret
  refine ⟨rfl, ⟨b2, b1.up _, (b0.up _).up _, ⟨by omega, by simp⟩, by omega, .inr rfl, .inl rfl⟩, hb⟩

set_option maxRecDepth 100000 in
set_option maxHeartbeats 2000000 in
theorem holding_any (C b id : Nat) (a : Option Addr) (n c : Nat) (w : World) :
    Calls Tryz.prog 37 #[ptr C, ptr b, .agg #[.int .i64 id, .slice a n c]] w fun e w' => ∃ P gb xb cb pb, e = .returned (ptr P) ∧
      Box w' P #[.int .i64 1, .int .i64 2, .int .i64 0, .func (.func 87) #[] #[ptr gb], .func (.func 89) #[] #[ptr xb, ptr cb, ptr pb]] 138 ∧ Box w' gb #[.int .i64 id, .slice a n c] 39 ∧ Box w' xb #[ptr b] 79 ∧ Box w' cb #[ptr C] 30 ∧ Box w' pb #[ptr P] 92 ∧
      New w w' P ∧ New w w' gb ∧ New w w' xb ∧ New w w' cb ∧ New w w' pb ∧ Below w.heap.size w w' := by
  have hst := fun (a : Addr) (fn : Fn) (x y : Array Value) (md : Mode) (W : World) => run_store Tryz.prog W a (.func fn x y) md rfl
  go_enter Tryz.func37, Tryz.ntmps37
  go_wp2
  go_ret
  have b0 := ((((Box.new w #[ptr C] 30 (B := w.heap.size) (by simp)).up (.cells #[ptr b] 79)).up (.cells #[.int .i64 id, .slice a n c] 39)).up (.cells #[.int .i64 1, .int .i64 2, .int .i64 0, .func (.func 87) #[] #[ptr (w.heap.size + 1 + 1)], .func (.func 89) #[] #[ptr (w.heap.size + 1), ptr w.heap.size, ptr (w.heap.size + 1 + 1 + 1 + 1)]] 138)).up (.cells #[ptr (w.heap.size + 1 + 1 + 1)] 92)
  have b1 := (((Box.new (w.alloc (.cells #[ptr C] 30)) #[ptr b] 79 (B := w.heap.size + 1) (by simp)).up (.cells #[.int .i64 id, .slice a n c] 39)).up (.cells #[.int .i64 1, .int .i64 2, .int .i64 0, .func (.func 87) #[] #[ptr (w.heap.size + 1 + 1)], .func (.func 89) #[] #[ptr (w.heap.size + 1), ptr w.heap.size, ptr (w.heap.size + 1 + 1 + 1 + 1)]] 138)).up (.cells #[ptr (w.heap.size + 1 + 1 + 1)] 92)
  have b2 := ((Box.new ((w.alloc (.cells #[ptr C] 30)).alloc (.cells #[ptr b] 79)) #[.int .i64 id, .slice a n c] 39 (B := w.heap.size + 1 + 1) (by simp)).up (.cells #[.int .i64 1, .int .i64 2, .int .i64 0, .func (.func 87) #[] #[ptr (w.heap.size + 1 + 1)], .func (.func 89) #[] #[ptr (w.heap.size + 1), ptr w.heap.size, ptr (w.heap.size + 1 + 1 + 1 + 1)]] 138)).up (.cells #[ptr (w.heap.size + 1 + 1 + 1)] 92)
  have b3 := (Box.new (((w.alloc (.cells #[ptr C] 30)).alloc (.cells #[ptr b] 79)).alloc (.cells #[.int .i64 id, .slice a n c] 39)) #[.int .i64 1, .int .i64 2, .int .i64 0, .func (.func 87) #[] #[ptr (w.heap.size + 1 + 1)], .func (.func 89) #[] #[ptr (w.heap.size + 1), ptr w.heap.size, ptr (w.heap.size + 1 + 1 + 1 + 1)]] 138 (B := w.heap.size + 1 + 1 + 1) (by simp)).up (.cells #[ptr (w.heap.size + 1 + 1 + 1)] 92)
  have b4 := Box.new ((((w.alloc (.cells #[ptr C] 30)).alloc (.cells #[ptr b] 79)).alloc (.cells #[.int .i64 id, .slice a n c] 39)).alloc (.cells #[.int .i64 1, .int .i64 2, .int .i64 0, .func (.func 87) #[] #[ptr (w.heap.size + 1 + 1)], .func (.func 89) #[] #[ptr (w.heap.size + 1), ptr w.heap.size, ptr (w.heap.size + 1 + 1 + 1 + 1)]] 138)) #[ptr (w.heap.size + 1 + 1 + 1)] 92 (B := w.heap.size + 1 + 1 + 1 + 1) (by simp)
  have hb := up (up (up (up (up (Below.refl w.heap.size w) (.cells #[ptr C] 30)) (.cells #[ptr b] 79)) (.cells #[.int .i64 id, .slice a n c] 39)) (.cells #[.int .i64 1, .int .i64 2, .int .i64 0, .func (.func 87) #[] #[ptr (w.heap.size + 1 + 1)], .func (.func 89) #[] #[ptr (w.heap.size + 1), ptr w.heap.size, ptr (w.heap.size + 1 + 1 + 1 + 1)]] 138)) (.cells #[ptr (w.heap.size + 1 + 1 + 1)] 92)
  have hz : (((((w.alloc (.cells #[ptr C] 30)).alloc (.cells #[ptr b] 79)).alloc (.cells #[.int .i64 id, .slice a n c] 39)).alloc (.cells #[.int .i64 1, .int .i64 2, .int .i64 0, .func (.func 87) #[] #[ptr (w.heap.size + 1 + 1)], .func (.func 89) #[] #[ptr (w.heap.size + 1), ptr w.heap.size, ptr (w.heap.size + 1 + 1 + 1 + 1)]] 138)).alloc (.cells #[ptr (w.heap.size + 1 + 1 + 1)] 92)).heap.size = w.heap.size + 5 := by simp
  exact ⟨_, _, _, _, _, rfl, b3, b2, b1, b0, b4, ⟨by omega, by rw [hz]; omega⟩, ⟨by omega, by rw [hz]; omega⟩, ⟨by omega, by rw [hz]; omega⟩, ⟨by omega, by rw [hz]; omega⟩, ⟨by omega, by rw [hz]; omega⟩, hb⟩

section
variable {w : World} {C : Nat} {Q R : Nat → Prop} {id : Nat} {g : GS} {pa : Option Addr} {pc : Nat} {wv v : Value}

/-- A gang that is held comes to be prepared. -/
theorem enter_prep (h : GA w C Q R id g pa pc wv v) {w2 : World} {P xb cb age : Nat} (ha : age ≤ 100) (hP : PrepAt w2 C (New w w2) (fun k => k = cb ∨ k = xb) g.b P xb cb age) (hn : w.heap.size ≤ xb ∧ xb < w2.heap.size ∧ w.heap.size ≤ cb ∧ cb < w2.heap.size) (hb : Below w.heap.size w w2) :
    Calls Tryz.prog 36 #[ptr g.b, .iface 92 (ptr P)] w2 fun e w' => ∃ v2 Q', e = .returned v2 ∧ MsgsN w w' v2 (toAll id g.ps (.prep age)) ∧ GangAt w' C Q' id (g.at (.prep age)) ∧ Turn w w' Q Q' ∧ w2.grownBy w' (some g.b) := by
  have hg := h.box.lt
  have h2 := (h.later hb).wide (Q' := fun k => Q k ∨ New w w2 k) (fun k hk => .inl hk) (fun k hk => hk.elim (fun hk => Nat.lt_of_lt_of_le (h.lt k hk) hb.size) (fun hk => hk.2))
  have hlow : ∀ k, R k → k < w.heap.size := fun k hk => h.lt k (h.sub k hk)
  refine (enter_any h2 (R' := fun k => R k ∨ (k = cb ∨ k = xb)) 92 (ptr P) (.prep age) ⟨ha, P, xb, cb, rfl, hP.frame (fun _ _ => rfl) rfl (.inr hP.qP) (fun hr => ?_) (fun k hk => .inr hk)⟩ (fun k hk => .inl hk) (fun k hk => ?_) (fun hr => ?_) (by simp)).mono ?_
  · rcases hr with hr | hr
    · have := hlow P hr
      have := hP.qP.1
      omega
    · exact hP.nP hr
  · rcases hk with hk | hk | hk
    · exact .inl (h.sub k hk)
    · exact .inr ⟨by omega, by omega⟩
    · exact .inr ⟨by omega, by omega⟩
  · rcases hr with hr | hr | hr
    · exact h.rb hr
    · omega
    · omega
  · rintro e w' ⟨v2, Q', rfl, hM, hG, hT, hgr⟩
    refine ⟨v2, Q', rfl, hM.low hb.size, hG, Turn.trans (fp' := fun k => Q k ∨ New w w2 k) ⟨fun k hk => .inl hk, fun k hk => hk.imp (fun h => h) (fun hk => hk.1), .of_below hb⟩ hT, hgr⟩

end

end Go.Proofs.YtlehlbgaboifoabGreatDoor
