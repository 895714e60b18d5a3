/- The walk of FitMore. -/
import Derived.Test.YtdgeigkdplbdbaaK
import Derived.Test.YtdgeigkdplbdbaaBX
import Derived.Test.YtdgeigkdplbdbaaLP
import Derived.Test.YtdgeigkdplbdbaaBS
namespace Go.Proofs.Ytdgeigkdplbdbaa
open Go.RowKit Go.Maps
set_option linter.unusedSimpArgs false
set_option linter.unusedVariables false

theorem ok_unw {P : Program} {ops : Array Oper} {i : Nat} {o : Oper} {d : Tmp} {b : Act} {w1 : World} {R : World → Prop} {S : World → World → Prop} {F : Nat → Value → World → Prop} (ho : ops[i]? = some o) (hd : o.dst = some d) (hw : Region.wanted o (yielded ops b.tmps) = false) (hR : R w1) (hS : S w1 w1) (hF : F i undef w1) :
    okOp P ops i (fun b' w2 => ∃ v, b' = b.put (some d) v ∧ R w2 ∧ S w1 w2 ∧ F i v w2) b w1 := by
  unfold okOp
  simp only [ho, hw, Bool.false_eq_true, if_false, hd]
  exact ⟨undef, rfl, hR, hS, hF⟩

theorem why_zero {cl a1 a2 rm al : Bool} {l : List PlaceT} (h : whyN cl a1 a2 rm al l = 0) : cl = false ∧ a1 = true ∧ a2 = true ∧ rm = true ∧ (al && decide (0 < l.length)) = false ∧ l.any (·.al) = false := by
  unfold whyN at h
  generalize (al && decide (0 < l.length)) = c at h ⊢
  generalize l.any (·.al) = d at h ⊢
  cases cl <;> cases a1 <;> cases a2 <;> cases rm <;> cases c <;> cases d <;> simp at h ⊢
theorem zero_why {al : Bool} {l : List PlaceT} (h1 : (al && decide (0 < l.length)) = false) (h2 : l.any (·.al) = false) : whyN false true true true al l = 0 := by
  unfold whyN
  simp [h1, h2]
theorem none_out {xs : List ByteArray} (h : ∀ s ∈ xs, s ∈ four) : allB [⟨#[110, 111, 110, 101]⟩] xs = false := by
  have : inB xs ⟨#[110, 111, 110, 101]⟩ = false := by
    unfold inB
    rw [List.any_eq_false]
    intro s hs
    have := h s hs
    simp only [four, List.mem_cons, List.not_mem_nil, or_false] at this
    rcases this with rfl | rfl | rfl | rfl <;> decide +kernel
  simp [allB, this]

def moreA (s0 t0 : ByteArray) (sh c1 m1 cc cm ua va k1 k2 x1 x2 more Ra : Int) (a0 a1 a2 a3 a4 : Option Addr) (pn q1 bn q2 xn q3 yn q4 P N U Y S9 B0 len0 cap0 NN : Nat) (l : List PlaceT) (al cl : Bool) : Nat → Value → World → Prop
  | 0, z, _ => z = .agg #[.string s0, .int .i64 sh, .int .i64 c1, .int .i64 m1, .slice a1 pn q1, .slice a2 bn q2, .bool al]
  | 1, z, _ => z = .agg #[.string t0, .int .i64 cc, .int .i64 cm, .slice a3 xn q3, .slice a4 yn q4, .bool cl]
  | 2, z, _ => z = .agg #[.int .i64 ua, .int .i64 va]
  | 3, z, _ => z = .slice a0 len0 cap0
  | 4, z, w => ∃ g c, z = .slice g NN c ∧ (Places w g l ∧ (g = none → c = 0))
  | 5, z, _ => z = .int .i64 Ra
  | 6, z, _ => z = .int .i64 Ra
  | _, _, _ => True

def moreB (s0 t0 : ByteArray) (sh c1 m1 cc cm ua va k1 k2 x1 x2 more Ra : Int) (a0 a1 a2 a3 a4 : Option Addr) (pn q1 bn q2 xn q3 yn q4 P N U Y S9 B0 len0 cap0 NN : Nat) (l : List PlaceT) (al cl : Bool) : Nat → Value → World → Prop
  | 0, z, _ => z = .pointer (some ⟨N, 1, none⟩)
  | 1, z, _ => z = .pointer (some ⟨N, 1, none⟩)
  | 2, z, _ => z = .int .i64 cc
  | 3, z, _ => z = .int .i64 more
  | 4, z, _ => z = .int .i64 k1
  | 5, z, _ => z = .int .i64 (cc + k1)
  | 6, z, _ => z = .pointer (some ⟨N, 1, none⟩)
  | 7, z, _ => z = .pointer (some ⟨N, 2, none⟩)
  | 8, z, _ => z = .int .i64 cm
  | 9, z, _ => z = .int .i64 more
  | 10, z, _ => z = .int .i64 (wrap64 (more.tdiv 5))
  | 11, z, _ => z = .int .i64 k2
  | 12, z, _ => z = .int .i64 (cm + k2)
  | 13, z, _ => z = .agg #[.int .i64 (cc + k1), .int .i64 (cm + k2)]
  | 14, z, _ => z = .pointer (some ⟨Y, 1, none⟩)
  | _, _, _ => True

def moreC (s0 t0 : ByteArray) (sh c1 m1 cc cm ua va k1 k2 x1 x2 more Ra : Int) (a0 a1 a2 a3 a4 : Option Addr) (pn q1 bn q2 xn q3 yn q4 P N U Y S9 B0 len0 cap0 NN : Nat) (l : List PlaceT) (al cl : Bool) : Nat → Value → World → Prop
  | 0, z, _ => z = .pointer (some ⟨U, 0, none⟩)
  | 1, z, _ => z = .int .i64 ua
  | 2, z, _ => z = .int .i64 more
  | 3, z, _ => z = .int .i64 k1
  | 4, z, _ => z = .int .i64 (ua - k1)
  | 5, z, _ => z = .int .i64 x1
  | 6, z, _ => z = .pointer (some ⟨U, 1, none⟩)
  | 7, z, _ => z = .int .i64 va
  | 8, z, _ => z = .int .i64 more
  | 9, z, _ => z = .int .i64 (wrap64 (more.tdiv 5))
  | 10, z, _ => z = .int .i64 k2
  | 11, z, _ => z = .int .i64 (va - k2)
  | 12, z, _ => z = .int .i64 x2
  | 13, z, _ => z = .agg #[.int .i64 x1, .int .i64 x2]
  | 14, z, w => ∃ B, z = .pointer (some ⟨B, 0, none⟩) ∧ (B0 ≤ B ∧ Box w B #[.int .i64 0, .int .i64 0] 25)
  | _, _, _ => True

def moreD (s0 t0 : ByteArray) (sh c1 m1 cc cm ua va k1 k2 x1 x2 more Ra : Int) (a0 a1 a2 a3 a4 : Option Addr) (pn q1 bn q2 xn q3 yn q4 P N U Y S9 B0 len0 cap0 NN : Nat) (l : List PlaceT) (al cl : Bool) : Nat → Value → World → Prop
  | 0, z, _ => z = .int .i64 Ra
  | 1, z, _ => z = .bool true
  | 2, z, _ => z = .bool true
  | 3, z, _ => z = .agg #[.string s0, .int .i64 sh, .int .i64 c1, .int .i64 m1, .slice a1 pn q1, .slice a2 bn q2, .bool al]
  | 4, z, _ => z = .agg #[.string t0, .int .i64 (cc + k1), .int .i64 (cm + k2), .slice a3 xn q3, .slice a4 yn q4, .bool cl]
  | 5, z, _ => z = .agg #[.int .i64 ua, .int .i64 va]
  | 6, z, _ => z = .slice a0 len0 cap0
  | 7, z, w => ∃ g c, z = .slice g NN c ∧ (Places w g l ∧ (g = none → c = 0))
  | 8, z, _ => z = .int .i64 0
  | 9, z, _ => z = .bool false
  | 10, z, _ => z = .bool false
  | 11, z, _ => z = .agg #[.string s0, .int .i64 sh, .int .i64 c1, .int .i64 m1, .slice a1 pn q1, .slice a2 bn q2, .bool al]
  | 12, z, _ => z = .agg #[.string t0, .int .i64 cc, .int .i64 cm, .slice a3 xn q3, .slice a4 yn q4, .bool cl]
  | 13, z, _ => z = .agg #[.int .i64 x1, .int .i64 x2]
  | 14, z, _ => z = .slice a0 len0 cap0
  | 15, z, w => ∃ g c, z = .slice g NN c ∧ (Places w g l ∧ (g = none → c = 0))
  | 16, z, _ => z = .int .i64 0
  | 17, z, _ => z = .bool false
  | 18, z, _ => z = .bool false
  | 19, z, _ => z = .bool false
  | 20, z, _ => z = .agg #[.string s0, .int .i64 sh, .int .i64 c1, .int .i64 m1, .slice a1 pn q1, .slice a2 bn q2, .bool al]
  | 21, z, _ => z = .agg #[.string t0, .int .i64 cc, .int .i64 cm, .slice a3 xn q3, .slice a4 yn q4, .bool cl]
  | 22, z, _ => z = .agg #[.int .i64 ua, .int .i64 va]
  | 23, z, _ => z = .int .i64 0
  | 24, z, _ => z = .bool false
  | 25, z, _ => z = .bool false
  | 26, z, _ => z = .bool false
  | _, _, _ => True

def moreE (s0 t0 : ByteArray) (sh c1 m1 cc cm ua va k1 k2 x1 x2 more Ra : Int) (a0 a1 a2 a3 a4 : Option Addr) (pn q1 bn q2 xn q3 yn q4 P N U Y S9 B0 len0 cap0 NN : Nat) (l : List PlaceT) (al cl : Bool) : Nat → Value → World → Prop
  | 0, z, _ => z = .int .i64 Ra
  | 1, z, _ => z = .bool false
  | 2, z, _ => z = .bool false
  | 3, z, _ => z = undef
  | 4, z, _ => z = undef
  | 5, z, _ => z = undef
  | 6, z, _ => z = undef
  | 7, z, _ => z = undef
  | 8, z, _ => z = undef
  | 9, z, _ => z = undef
  | 10, z, _ => z = undef
  | 11, z, _ => z = undef
  | 12, z, _ => z = undef
  | 13, z, _ => z = undef
  | 14, z, _ => z = undef
  | 15, z, _ => z = undef
  | 16, z, _ => z = undef
  | 17, z, _ => z = undef
  | 18, z, _ => z = undef
  | 19, z, _ => z = undef
  | 20, z, _ => z = undef
  | 21, z, _ => z = undef
  | 22, z, _ => z = undef
  | 23, z, _ => z = undef
  | 24, z, _ => z = undef
  | 25, z, _ => z = undef
  | 26, z, _ => z = .bool false
  | _, _, _ => True

def moreG (s0 t0 : ByteArray) (sh c1 m1 cc cm ua va k1 k2 x1 x2 more Ra : Int) (a0 a1 a2 a3 a4 : Option Addr) (pn q1 bn q2 xn q3 yn q4 P N U Y S9 B0 len0 cap0 NN : Nat) (l : List PlaceT) (al cl : Bool) : Nat → Value → World → Prop
  | 0, z, _ => z = .agg #[.string s0, .int .i64 sh, .int .i64 c1, .int .i64 m1, .slice (some ⟨S9, 0, none⟩) 1 1, .slice a2 bn q2, .bool al]
  | 1, z, _ => z = .agg #[.string t0, .int .i64 cc, .int .i64 cm, .slice a3 xn q3, .slice a4 yn q4, .bool cl]
  | 2, z, _ => z = .agg #[.int .i64 ua, .int .i64 va]
  | 3, z, _ => z = .slice a0 len0 cap0
  | 4, z, w => ∃ g c, z = .slice g NN c ∧ (Places w g l ∧ (g = none → c = 0))
  | 5, z, _ => z = .int .i64 Ra
  | 6, z, _ => z = .int .i64 Ra
  | _, _, _ => True

set_option maxRecDepth 100000 in
set_option maxHeartbeats 8000000 in
theorem fitMore_walk (n name m cpu mem more : Int) (a0 : Option Addr) (len0 cap0 : Nat) (z0 : List Int) (w : World) (w0 : IsRow .i64 w a0 len0 cap0 z0) :
    Calls Try.prog 5 #[.int .i64 n, .int .i64 name, .int .i64 m, .int .i64 cpu, .int .i64 mem, .int .i64 more, .slice a0 len0 cap0] w fun e w' => e = .returned (.bool true) ∧ Below w.heap.size w w' := by
  replace w0 := w0.has
  obtain ⟨ps, hps⟩ : ∃ ps, podPicks n = ps := ⟨_, rfl⟩
  obtain ⟨bs, hbs⟩ : ∃ ps, podBears n = ps := ⟨_, rfl⟩
  obtain ⟨pn, hpn⟩ : ∃ k, ps.length = k := ⟨_, rfl⟩
  obtain ⟨bn, hbn⟩ : ∃ k, bs.length = k := ⟨_, rfl⟩
  obtain ⟨sh, hsh⟩ : ∃ k, 1 + n % 4 = k := ⟨_, rfl⟩
  obtain ⟨c1, hc1⟩ : ∃ k, wrap64 (n.tdiv 4) % 5 = k := ⟨_, rfl⟩
  obtain ⟨m1, hm1⟩ : ∃ k, wrap64 (n.tdiv 20) % 5 = k := ⟨_, rfl⟩
  obtain ⟨al, hal⟩ : ∃ k, (wrap64 (n.tdiv 13) % 6 == 0) = k := ⟨_, rfl⟩
  obtain ⟨ua, hua⟩ : ∃ k, cpu % 12 = k := ⟨_, rfl⟩
  obtain ⟨va, hva⟩ : ∃ k, mem % 12 = k := ⟨_, rfl⟩
  obtain ⟨s0, hs0⟩ : ∃ s, podName 0 = s := ⟨_, rfl⟩
  obtain ⟨t0, ht0⟩ : ∃ s, nameAt name = s := ⟨_, rfl⟩
  obtain ⟨k1, hk1⟩ : ∃ k, more % 5 = k := ⟨_, rfl⟩
  obtain ⟨k2, hk2⟩ : ∃ k, wrap64 (more.tdiv 5) % 5 = k := ⟨_, rfl⟩
  have hb1 : 0 ≤ c1 ∧ c1 < 5 ∧ 0 ≤ m1 ∧ m1 < 5 := by omega
  have hb2 : 0 ≤ ua ∧ ua < 12 ∧ 0 ≤ va ∧ va < 12 := by omega
  have hbk : 0 ≤ k1 ∧ k1 < 5 ∧ 0 ≤ k2 ∧ k2 < 5 := by omega
  obtain ⟨NN, hNN⟩ : ∃ N, min 4 len0 = N := ⟨_, rfl⟩
  obtain ⟨l, hl⟩ : ∃ l, besTo z0 NN = l := ⟨_, rfl⟩
  have hlen : l.length = NN := by rw [← hl, besTo_len]
  have kb := fun W (hB : Below w.heap.size w W) => beside_is a0 len0 cap0 z0 W (w0.later hB)
  rw [hNN, hl] at kb
  have kp := fun W => lPod_is 0 n 4 W (by decide) (by decide) (by decide)
  simp only [hps, hbs, hpn, hbn, hsh, hc1, hm1, hal, hs0] at kp
  have kn := fun W => lNode_any name m W
  simp only [ht0] at kn
  have kk1 := fun W => within5_any more 5 k1 (by decide) (by decide) hk1 W
  have kk2 := fun W => within5_any (wrap64 (more.tdiv 5)) 5 k2 (by decide) (by decide) hk2 W
  clear hps hbs hsh hc1 hm1 hal hs0 ht0 hNN hl w0 hk1 hk2
  go_enter Try.func5, Try.ntmps5
  go_upto_region 5 with (first
    | (go_at_call 9; refine (known_on _ _ (Below.refl _ _)).mono ?_; rintro e w1 ⟨rfl, hW1⟩)
    | (go_at_call 10; refine (kp _).mono ?_; rintro e w2 ⟨a1, q1, a2, q2, rfl, g1, g2, hb3⟩
       have hW2 := fin hb3 hW1)
    | (go_at_call 11; refine (kn _).mono ?_; rintro e w3 ⟨cc, cm, a3, q3, xs, a4, q4, ys, cl, rfl, hc, g3, g4, hb4⟩
       have hW3 := fin hb4 hW2
       have g1 := (g1.later hb4)
       have g2 := (g2.later hb4)
       obtain ⟨xn, hxn⟩ : ∃ k, xs.length = k := ⟨_, rfl⟩
       obtain ⟨yn, hyn⟩ : ∃ k, ys.length = k := ⟨_, rfl⟩
       simp only [hxn, hyn])
    | (go_at_call_of 12 (Value.int .i64 cpu); refine (within5_any _ _ _ (by decide) (by decide) hua _).mono ?_; rintro e w9 ⟨rfl, rfl⟩)
    | (go_at_call_of 12 (Value.int .i64 mem); refine (within5_any _ _ _ (by decide) (by decide) hva _).mono ?_; rintro e w9 ⟨rfl, rfl⟩))
  have p4 := ((Box.new w3 #[.string s0, .int .i64 sh, .int .i64 c1, .int .i64 m1, .slice a1 pn q1, .slice a2 bn q2, .bool al] 28 rfl).up (.cells #[.string t0, .int .i64 cc, .int .i64 cm, .slice a3 xn q3, .slice a4 yn q4, .bool cl] 31)).up (.cells #[.int .i64 ua, .int .i64 va] 25)
  have n4 : Box (((w3.alloc (.cells #[.string s0, .int .i64 sh, .int .i64 c1, .int .i64 m1, .slice a1 pn q1, .slice a2 bn q2, .bool al] 28)).alloc (.cells #[.string t0, .int .i64 cc, .int .i64 cm, .slice a3 xn q3, .slice a4 yn q4, .bool cl] 31)).alloc (.cells #[.int .i64 ua, .int .i64 va] 25)) (w3.heap.size + 1) #[.string t0, .int .i64 cc, .int .i64 cm, .slice a3 xn q3, .slice a4 yn q4, .bool cl] 31 := (Box.new _ _ _ (by simp)).up _
  have u4 : Box (((w3.alloc (.cells #[.string s0, .int .i64 sh, .int .i64 c1, .int .i64 m1, .slice a1 pn q1, .slice a2 bn q2, .bool al] 28)).alloc (.cells #[.string t0, .int .i64 cc, .int .i64 cm, .slice a3 xn q3, .slice a4 yn q4, .bool cl] 31)).alloc (.cells #[.int .i64 ua, .int .i64 va] 25)) (w3.heap.size + 1 + 1) #[.int .i64 ua, .int .i64 va] 25 := Box.new _ _ _ (by simp)
  have hW4 := up (up (up hW3 (.cells #[.string s0, .int .i64 sh, .int .i64 c1, .int .i64 m1, .slice a1 pn q1, .slice a2 bn q2, .bool al] 28)) (.cells #[.string t0, .int .i64 cc, .int .i64 cm, .slice a3 xn q3, .slice a4 yn q4, .bool cl] 31)) (.cells #[.int .i64 ua, .int .i64 va] 25)
  have h34 : Below w3.heap.size w3 (((w3.alloc (.cells #[.string s0, .int .i64 sh, .int .i64 c1, .int .i64 m1, .slice a1 pn q1, .slice a2 bn q2, .bool al] 28)).alloc (.cells #[.string t0, .int .i64 cc, .int .i64 cm, .slice a3 xn q3, .slice a4 yn q4, .bool cl] 31)).alloc (.cells #[.int .i64 ua, .int .i64 va] 25)) := up (up (up (Below.refl _ _) _) _) _
  have s14 := g1.new.1.later h34
  have s24 := g2.new.1.later h34
  have s34 := g3.new.1.later h34
  have s44 := g4.new.1.later h34
  have z1 := fun i => g1.short i
  have z2 := fun i => g2.short i
  have z3 := fun i => g3.short i
  have z4 := fun i => g4.short i
  have hfour := g3.sub
  have e1 : ∀ x, a1 = some x → x.block < w3.heap.size := fun x hx => (g1.new.2.1 x hx).2
  have e2 : ∀ x, a2 = some x → x.block < w3.heap.size := fun x hx => (g2.new.2.1 x hx).2
  have e3 : ∀ x, a3 = some x → x.block < w3.heap.size := fun x hx => (g3.new.2.1 x hx).2
  have e4 : ∀ x, a4 = some x → x.block < w3.heap.size := fun x hx => (g4.new.2.1 x hx).2
  have hw3 : w.heap.size ≤ w3.heap.size := hW3.size
  have hs4 : (((w3.alloc (.cells #[.string s0, .int .i64 sh, .int .i64 c1, .int .i64 m1, .slice a1 pn q1, .slice a2 bn q2, .bool al] 28)).alloc (.cells #[.string t0, .int .i64 cc, .int .i64 cm, .slice a3 xn q3, .slice a4 yn q4, .bool cl] 31)).alloc (.cells #[.int .i64 ua, .int .i64 va] 25)).heap.size = w3.heap.size + 3 := by simp
  clear kp kn g1 g2 g3 g4 hb3 hb4 h34 hW3 hW2 hW1
  generalize ((w3.alloc (.cells #[.string s0, .int .i64 sh, .int .i64 c1, .int .i64 m1, .slice a1 pn q1, .slice a2 bn q2, .bool al] 28)).alloc (.cells #[.string t0, .int .i64 cc, .int .i64 cm, .slice a3 xn q3, .slice a4 yn q4, .bool cl] 31)).alloc (.cells #[.int .i64 ua, .int .i64 va] 25) = W4 at *
  obtain ⟨P, hP⟩ : ∃ P, w3.heap.size = P := ⟨_, rfl⟩
  simp only [hP] at p4 n4 u4 e1 e2 e3 e4 hw3 hs4 ⊢
  obtain ⟨N, hN⟩ : ∃ N, P + 1 = N := ⟨_, rfl⟩
  simp only [hN] at n4 u4 ⊢
  obtain ⟨U, hU⟩ : ∃ x, N + 1 = x := ⟨_, rfl⟩
  simp only [hU] at u4 ⊢
  have hPNU : P + 1 = N ∧ N + 1 = U := ⟨hN, hU⟩
  clear hP hN hU
  obtain ⟨f1, hf1⟩ : ∃ v, allB ps xs = v := ⟨_, rfl⟩
  obtain ⟨f2, hf2⟩ : ∃ v, allB ys bs = v := ⟨_, rfl⟩
  obtain ⟨f3, hf3⟩ : ∃ x, roomB ua va c1 m1 cc cm = x := ⟨_, rfl⟩
  obtain ⟨Ra, hRa⟩ : ∃ R, whyN cl f1 f2 f3 al l = R := ⟨_, rfl⟩
  have hW4s := hW4.size
  have kW4 := fun g c W (hb : Below W4.heap.size W4 W) (hp : Places W g l) => why_any s0 sh c1 m1 a1 pn q1 a2 bn q2 al t0 cc cm a3 xn q3 a4 yn q4 cl ua va g NN c ps bs xs ys l f1 f2 f3 W hpn hbn hxn hyn hlen (s14.later hb) (s24.later hb) (s34.later hb) (s44.later hb) hp z1 z2 z3 z4 (by omega) (by omega) hf1 hf2 hf3
  simp only [hRa] at kW4
  refine wp_region_rely (fun w1 => Below W4.heap.size W4 w1) (fun w1 w2 => Below w1.heap.size w1 w2) (moreA s0 t0 sh c1 m1 cc cm ua va k1 k2 0 0 more Ra a0 a1 a2 a3 a4 pn q1 bn q2 xn q3 yn q4 P N U 0 0 0 len0 cap0 NN l al cl) (by kernel_rfl) (by kernel_rfl) (Below.refl _ _).drew ?keep ?step ?rest
  case keep =>
    intro i v w1 w2 hS hF
    unfold moreA at *
    split at hF <;> try exact hF
    · obtain ⟨g, c, hv, hp, hn⟩ := hF
      exact ⟨g, c, hv, hp.later hS, hn⟩
  case step =>
    intro i o d ho hd b w1 hR hold hdep
    have o5 : sl b 5 = .int .i64 more := hold 5 (by kernel_rfl)
    have o6 : sl b 6 = .slice a0 len0 cap0 := hold 6 (by kernel_rfl)
    have o15 : sl b 15 = .pointer (some ⟨P, 0, none⟩) := hold 15 (by kernel_rfl)
    have o16 : sl b 16 = .pointer (some ⟨N, 0, none⟩) := hold 16 (by kernel_rfl)
    have o17 : sl b 17 = .pointer (some ⟨U, 0, none⟩) := hold 17 (by kernel_rfl)
    have hb0 := Below.refl w1.heap.size w1
    obtain ⟨pc0, pc1, pc2, pc3, pc4, pc5, pc6⟩ := (p4.later hR).cells7
    obtain ⟨nc0, nc1, nc2, nc3, nc4, nc5⟩ := (n4.later hR).cells6
    obtain ⟨uc0, uc1⟩ := (u4.later hR).cells2
    rcases i with _ | _ | _ | _ | _ | _ | _ | i
    all_goals try (cases ho; cases hd)
    · exact ok_val' rfl rfl (want_none rfl b) (by simp [go_sem, o15, pc0, pc1, pc2, pc3, pc4, pc5, pc6]) hR hb0 rfl
    · exact ok_val' rfl rfl (want_none rfl b) (by simp [go_sem, o16, nc0, nc1, nc2, nc3, nc4, nc5]) hR hb0 rfl
    · exact ok_val' rfl rfl (want_none rfl b) (by simp [go_sem, o17, uc0, uc1]) hR hb0 rfl
    · exact ok_val' rfl rfl (want_none rfl b) (by simp [go_sem, o6]) hR hb0 rfl
    · have f38 : sl b 38 = .slice a0 len0 cap0 := hdep 3 _ _ rfl rfl (by kernel_rfl)
      refine ok_enter' rfl rfl (want_none rfl b) ?_ ((kb w1 (fin hR hW4)).mono ?_)
      · simp [go_sem, f38, cfbeside]
      rintro e w2 ⟨g, c, rfl, hp, hn, hb2⟩
      exact ⟨_, rfl, hR.trans (hb2.mono hR.size), hb2, g, c, rfl, hp, hn⟩
    · have f35 : sl b 35 = .agg #[.string s0, .int .i64 sh, .int .i64 c1, .int .i64 m1, .slice a1 pn q1, .slice a2 bn q2, .bool al] := hdep 0 _ _ rfl rfl (by kernel_rfl)
      have f36 : sl b 36 = .agg #[.string t0, .int .i64 cc, .int .i64 cm, .slice a3 xn q3, .slice a4 yn q4, .bool cl] := hdep 1 _ _ rfl rfl (by kernel_rfl)
      have f37 : sl b 37 = .agg #[.int .i64 ua, .int .i64 va] := hdep 2 _ _ rfl rfl (by kernel_rfl)
      obtain ⟨g4, c4, f39, g39⟩ : ∃ g c, sl b 39 = .slice g NN c ∧ (Places w1 g l ∧ (g = none → c = 0)) := hdep 4 _ _ rfl rfl (by kernel_rfl)
      refine ok_enter' rfl rfl (want_none rfl b) ?_ ((kW4 g4 c4 w1 hR g39.1).mono ?_)
      · simp [go_sem, f35, f36, f37, f39, cfWhy]
      rintro e w2 ⟨rfl, hb2⟩
      exact ⟨_, rfl, hR.trans (hb2.mono hR.size), hb2, rfl⟩
    · have f40 : sl b 40 = .int .i64 Ra := hdep 5 _ _ rfl rfl (by kernel_rfl)
      exact ok_val' rfl rfl (want_none rfl b) (by simp [go_sem, f40]) hR hb0 rfl
    · cases ho
  case rest =>
    intro b V5 hR hsz hdf hold hF
    have f5 : sl b 5 = .int .i64 more := hold 5 (by kernel_rfl)
    have f6 : sl b 6 = .slice a0 len0 cap0 := hold 6 (by kernel_rfl)
    have f15 : sl b 15 = .pointer (some ⟨P, 0, none⟩) := hold 15 (by kernel_rfl)
    have f16 : sl b 16 = .pointer (some ⟨N, 0, none⟩) := hold 16 (by kernel_rfl)
    have f17 : sl b 17 = .pointer (some ⟨U, 0, none⟩) := hold 17 (by kernel_rfl)
    have f18 : sl b 18 = .int .i64 Ra := hF 6 _ _ rfl rfl
    have hB : b = _ := act_list b (show b.tmps.size = 122 from hsz) hdf
    rw [hB]
    simp only [List.range, List.range.loop, List.map_cons, List.map_nil, f5, f6, f15, f16, f17, f18]
    generalize sl b 0 = v0, sl b 1 = v1, sl b 2 = v2, sl b 3 = v3, sl b 4 = v4, sl b 7 = v7, sl b 8 = v8, sl b 9 = v9, sl b 10 = v10, sl b 11 = v11, sl b 12 = v12, sl b 13 = v13, sl b 14 = v14, sl b 19 = v19, sl b 20 = v20, sl b 21 = v21, sl b 22 = v22, sl b 23 = v23, sl b 24 = v24, sl b 25 = v25, sl b 26 = v26, sl b 27 = v27, sl b 28 = v28, sl b 29 = v29, sl b 30 = v30, sl b 31 = v31, sl b 32 = v32, sl b 33 = v33, sl b 34 = v34, sl b 35 = v35, sl b 36 = v36, sl b 37 = v37, sl b 38 = v38, sl b 39 = v39, sl b 40 = v40, sl b 41 = v41, sl b 42 = v42, sl b 43 = v43, sl b 44 = v44, sl b 45 = v45, sl b 46 = v46, sl b 47 = v47, sl b 48 = v48, sl b 49 = v49, sl b 50 = v50, sl b 51 = v51, sl b 52 = v52, sl b 53 = v53, sl b 54 = v54, sl b 55 = v55, sl b 56 = v56, sl b 57 = v57, sl b 58 = v58, sl b 59 = v59, sl b 60 = v60, sl b 61 = v61, sl b 62 = v62, sl b 63 = v63, sl b 64 = v64, sl b 65 = v65, sl b 66 = v66, sl b 67 = v67, sl b 68 = v68, sl b 69 = v69, sl b 70 = v70, sl b 71 = v71, sl b 72 = v72, sl b 73 = v73, sl b 74 = v74, sl b 75 = v75, sl b 76 = v76, sl b 77 = v77, sl b 78 = v78, sl b 79 = v79, sl b 80 = v80, sl b 81 = v81, sl b 82 = v82, sl b 83 = v83, sl b 84 = v84, sl b 85 = v85, sl b 86 = v86, sl b 87 = v87, sl b 88 = v88, sl b 89 = v89, sl b 90 = v90, sl b 91 = v91, sl b 92 = v92, sl b 93 = v93, sl b 94 = v94, sl b 95 = v95, sl b 96 = v96, sl b 97 = v97, sl b 98 = v98, sl b 99 = v99, sl b 100 = v100, sl b 101 = v101, sl b 102 = v102, sl b 103 = v103, sl b 104 = v104, sl b 105 = v105, sl b 106 = v106, sl b 107 = v107, sl b 108 = v108, sl b 109 = v109, sl b 110 = v110, sl b 111 = v111, sl b 112 = v112, sl b 113 = v113, sl b 114 = v114, sl b 115 = v115, sl b 116 = v116, sl b 117 = v117, sl b 118 = v118, sl b 119 = v119, sl b 120 = v120, sl b 121 = v121
    clear hB hold hsz hdf hF f5 f6 f15 f16 f17 f18
    have hV5 := fin hR hW4
    have p5 := p4.later hR
    have n5 := n4.later hR
    have u5 := u4.later hR
    have s15 := s14.later hR
    have s25 := s24.later hR
    have s35 := s34.later hR
    have s45 := s44.later hR
    have hV5s := hR.size
    obtain ⟨nc0, nc1, nc2, nc3, nc4, nc5⟩ := n5.cells6
    clear kW4 p4 n4 u4 s14 s24 s34 s44 hW4 hR
    go_upto_region 7 with fail
    have p6 := p5.up (.cells #[.string t0, .int .i64 cc, .int .i64 cm, .slice a3 xn q3, .slice a4 yn q4, .bool cl] 31)
    have n6 := n5.up (.cells #[.string t0, .int .i64 cc, .int .i64 cm, .slice a3 xn q3, .slice a4 yn q4, .bool cl] 31)
    have u6 := u5.up (.cells #[.string t0, .int .i64 cc, .int .i64 cm, .slice a3 xn q3, .slice a4 yn q4, .bool cl] 31)
    have y6 : Box (V5.alloc (.cells #[.string t0, .int .i64 cc, .int .i64 cm, .slice a3 xn q3, .slice a4 yn q4, .bool cl] 31)) V5.heap.size #[.string t0, .int .i64 cc, .int .i64 cm, .slice a3 xn q3, .slice a4 yn q4, .bool cl] 31 := Box.new _ _ _ rfl
    have hW6 := up hV5 (.cells #[.string t0, .int .i64 cc, .int .i64 cm, .slice a3 xn q3, .slice a4 yn q4, .bool cl] 31)
    have hu5 : Below V5.heap.size V5 (V5.alloc (.cells #[.string t0, .int .i64 cc, .int .i64 cm, .slice a3 xn q3, .slice a4 yn q4, .bool cl] 31)) := up (Below.refl _ _) _
    have s16 := s15.later hu5
    have s26 := s25.later hu5
    have s36 := s35.later hu5
    have s46 := s45.later hu5
    obtain ⟨Y, hY⟩ : ∃ x, V5.heap.size = x := ⟨_, rfl⟩
    have hYP : P + 3 ≤ Y := by omega
    clear hu5 p5 n5 u5 s15 s25 s35 s45 nc0 nc1 nc2 nc3 nc4 nc5 hV5
    generalize V5.alloc (.cells #[.string t0, .int .i64 cc, .int .i64 cm, .slice a3 xn q3, .slice a4 yn q4, .bool cl] 31) = W6 at *
    simp only [hY] at y6 ⊢
    clear hY hV5s
    have i1 : IntKind.i64.wrap (cc + k1) = cc + k1 := IntWalk.i64_in _ (by omega)
    have i2 : IntKind.i64.wrap (cm + k2) = cm + k2 := IntWalk.i64_in _ (by omega)
    have i3 : IntKind.i64.wrap (ua - k1) = ua - k1 := IntWalk.i64_in _ (by omega)
    have i4 : IntKind.i64.wrap (va - k2) = va - k2 := IntWalk.i64_in _ (by omega)
    refine wp_region_rely_last 15 (fun w1 => Below W6.heap.size W6 w1) (fun w1 w2 => Below w1.heap.size w1 w2) (moreB s0 t0 sh c1 m1 cc cm ua va k1 k2 0 0 more Ra a0 a1 a2 a3 a4 pn q1 bn q2 xn q3 yn q4 P N U Y 0 0 len0 cap0 NN l al cl) (by kernel_rfl) (by kernel_rfl) (Below.refl _ _).drew ?keep ?step ?rest
    case keep =>
      intro i v w1 w2 hS hF
      unfold moreB at *
      split at hF <;> try exact hF
    case step =>
      intro i o d hi ho hd b w1 hR hold hdep
      have o5 : sl b 5 = .int .i64 more := hold 5 (by kernel_rfl)
      have o6 : sl b 6 = .slice a0 len0 cap0 := hold 6 (by kernel_rfl)
      have o15 : sl b 15 = .pointer (some ⟨P, 0, none⟩) := hold 15 (by kernel_rfl)
      have o16 : sl b 16 = .pointer (some ⟨N, 0, none⟩) := hold 16 (by kernel_rfl)
      have o17 : sl b 17 = .pointer (some ⟨U, 0, none⟩) := hold 17 (by kernel_rfl)
      have o18 : sl b 18 = .int .i64 Ra := hold 18 (by kernel_rfl)
      have o19 : sl b 19 = .pointer (some ⟨Y, 0, none⟩) := hold 19 (by kernel_rfl)
      have hb0 := Below.refl w1.heap.size w1
      obtain ⟨nc0, nc1, nc2, nc3, nc4, nc5⟩ := (n6.later hR).cells6
      rcases i with _ | _ | _ | _ | _ | _ | _ | _ | _ | _ | _ | _ | _ | _ | _ | i
      all_goals try (cases ho; cases hd)
      · exact ok_val' rfl rfl (want_none rfl b) (by simp [go_sem, o16]) hR hb0 rfl
      · have f42 : sl b 42 = .pointer (some ⟨N, 1, none⟩) := hdep 0 _ _ rfl rfl (by kernel_rfl)
        exact ok_val' rfl rfl (want_none rfl b) (by simp [go_sem, f42]) hR hb0 rfl
      · have f43 : sl b 43 = .pointer (some ⟨N, 1, none⟩) := hdep 1 _ _ rfl rfl (by kernel_rfl)
        exact ok_val' rfl rfl (want_none rfl b) (by simp [go_sem, f43, nc1]) hR hb0 rfl
      · exact ok_val' rfl rfl (want_none rfl b) (by simp [go_sem, o5]) hR hb0 rfl
      · have f45 : sl b 45 = .int .i64 more := hdep 3 _ _ rfl rfl (by kernel_rfl)
        refine ok_enter' rfl rfl (want_none rfl b) ?_ ((kk1 w1).mono ?_)
        · simp [go_sem, f45, cfwithin5]
        rintro e w2 ⟨rfl, rfl⟩
        exact ⟨_, rfl, hR, hb0, rfl⟩
      · have f44 : sl b 44 = .int .i64 cc := hdep 2 _ _ rfl rfl (by kernel_rfl)
        have f46 : sl b 46 = .int .i64 k1 := hdep 4 _ _ rfl rfl (by kernel_rfl)
        exact ok_val' rfl rfl (want_none rfl b) (by simp [go_sem, f44, f46, i1]) hR hb0 rfl
      · exact ok_val' rfl rfl (want_none rfl b) (by simp [go_sem, o16]) hR hb0 rfl
      · have f48 : sl b 48 = .pointer (some ⟨N, 1, none⟩) := hdep 6 _ _ rfl rfl (by kernel_rfl)
        exact ok_val' rfl rfl (want_none rfl b) (by simp [go_sem, f48]) hR hb0 rfl
      · have f49 : sl b 49 = .pointer (some ⟨N, 2, none⟩) := hdep 7 _ _ rfl rfl (by kernel_rfl)
        exact ok_val' rfl rfl (want_none rfl b) (by simp [go_sem, f49, nc2]) hR hb0 rfl
      · exact ok_val' rfl rfl (want_none rfl b) (by simp [go_sem, o5]) hR hb0 rfl
      · have f51 : sl b 51 = .int .i64 more := hdep 9 _ _ rfl rfl (by kernel_rfl)
        exact ok_val' rfl rfl (want_none rfl b) (by simp [go_sem, f51, IntWalk.i64_left]) hR hb0 rfl
      · have f52 : sl b 52 = .int .i64 (wrap64 (more.tdiv 5)) := hdep 10 _ _ rfl rfl (by kernel_rfl)
        refine ok_enter' rfl rfl (want_none rfl b) ?_ ((kk2 w1).mono ?_)
        · simp [go_sem, f52, cfwithin5]
        rintro e w2 ⟨rfl, rfl⟩
        exact ⟨_, rfl, hR, hb0, rfl⟩
      · have f50 : sl b 50 = .int .i64 cm := hdep 8 _ _ rfl rfl (by kernel_rfl)
        have f53 : sl b 53 = .int .i64 k2 := hdep 11 _ _ rfl rfl (by kernel_rfl)
        exact ok_val' rfl rfl (want_none rfl b) (by simp [go_sem, f50, f53, i2]) hR hb0 rfl
      · have f47 : sl b 47 = .int .i64 (cc + k1) := hdep 5 _ _ rfl rfl (by kernel_rfl)
        have f54 : sl b 54 = .int .i64 (cm + k2) := hdep 12 _ _ rfl rfl (by kernel_rfl)
        exact ok_val' rfl rfl (want_none rfl b) (by simp [go_sem, f47, f54]) hR hb0 rfl
      · exact ok_val' rfl rfl (want_none rfl b) (by simp [go_sem, o19]) hR hb0 rfl
      · omega
    case rest =>
      intro o b V7 ho hR hsz hdf hold hF
      cases ho
      have f5 : sl b 5 = .int .i64 more := hold 5 (by kernel_rfl)
      have f6 : sl b 6 = .slice a0 len0 cap0 := hold 6 (by kernel_rfl)
      have f15 : sl b 15 = .pointer (some ⟨P, 0, none⟩) := hold 15 (by kernel_rfl)
      have f16 : sl b 16 = .pointer (some ⟨N, 0, none⟩) := hold 16 (by kernel_rfl)
      have f17 : sl b 17 = .pointer (some ⟨U, 0, none⟩) := hold 17 (by kernel_rfl)
      have f18 : sl b 18 = .int .i64 Ra := hold 18 (by kernel_rfl)
      have f19 : sl b 19 = .pointer (some ⟨Y, 0, none⟩) := hold 19 (by kernel_rfl)
      have f55 : sl b 55 = .agg #[.int .i64 (cc + k1), .int .i64 (cm + k2)] := hF 13 _ _ (by decide) rfl rfl
      have f56 : sl b 56 = .pointer (some ⟨Y, 1, none⟩) := hF 14 _ _ (by decide) rfl rfl
      have hB : b = _ := act_list b (show b.tmps.size = 122 from hsz) hdf
      have hy7 := y6.later hR
      obtain ⟨yc0, yc1, yc2, yc3, yc4, yc5⟩ := hy7.cells6
      have fz1 := hy7.frozen 1
      have fz2 := hy7.frozen 2
      refine ok_skip (w2 := (V7.setCell ⟨Y, 1, none⟩ (.int .i64 (cc + k1))).setCell ⟨Y, 2, none⟩ (.int .i64 (cm + k2))) rfl rfl rfl (by simp [go_sem, f56, f55, yc1, yc2, fz1, fz2] <;> rfl) ?_
      rw [hB]
      simp only [List.range, List.range.loop, List.map_cons, List.map_nil, f5, f6, f15, f16, f17, f18, f19, f55, f56]
      generalize sl b 0 = v0, sl b 1 = v1, sl b 2 = v2, sl b 3 = v3, sl b 4 = v4, sl b 7 = v7, sl b 8 = v8, sl b 9 = v9, sl b 10 = v10, sl b 11 = v11, sl b 12 = v12, sl b 13 = v13, sl b 14 = v14, sl b 20 = v20, sl b 21 = v21, sl b 22 = v22, sl b 23 = v23, sl b 24 = v24, sl b 25 = v25, sl b 26 = v26, sl b 27 = v27, sl b 28 = v28, sl b 29 = v29, sl b 30 = v30, sl b 31 = v31, sl b 32 = v32, sl b 33 = v33, sl b 34 = v34, sl b 35 = v35, sl b 36 = v36, sl b 37 = v37, sl b 38 = v38, sl b 39 = v39, sl b 40 = v40, sl b 41 = v41, sl b 42 = v42, sl b 43 = v43, sl b 44 = v44, sl b 45 = v45, sl b 46 = v46, sl b 47 = v47, sl b 48 = v48, sl b 49 = v49, sl b 50 = v50, sl b 51 = v51, sl b 52 = v52, sl b 53 = v53, sl b 54 = v54, sl b 57 = v57, sl b 58 = v58, sl b 59 = v59, sl b 60 = v60, sl b 61 = v61, sl b 62 = v62, sl b 63 = v63, sl b 64 = v64, sl b 65 = v65, sl b 66 = v66, sl b 67 = v67, sl b 68 = v68, sl b 69 = v69, sl b 70 = v70, sl b 71 = v71, sl b 72 = v72, sl b 73 = v73, sl b 74 = v74, sl b 75 = v75, sl b 76 = v76, sl b 77 = v77, sl b 78 = v78, sl b 79 = v79, sl b 80 = v80, sl b 81 = v81, sl b 82 = v82, sl b 83 = v83, sl b 84 = v84, sl b 85 = v85, sl b 86 = v86, sl b 87 = v87, sl b 88 = v88, sl b 89 = v89, sl b 90 = v90, sl b 91 = v91, sl b 92 = v92, sl b 93 = v93, sl b 94 = v94, sl b 95 = v95, sl b 96 = v96, sl b 97 = v97, sl b 98 = v98, sl b 99 = v99, sl b 100 = v100, sl b 101 = v101, sl b 102 = v102, sl b 103 = v103, sl b 104 = v104, sl b 105 = v105, sl b 106 = v106, sl b 107 = v107, sl b 108 = v108, sl b 109 = v109, sl b 110 = v110, sl b 111 = v111, sl b 112 = v112, sl b 113 = v113, sl b 114 = v114, sl b 115 = v115, sl b 116 = v116, sl b 117 = v117, sl b 118 = v118, sl b 119 = v119, sl b 120 = v120, sl b 121 = v121
      clear hB hold hsz hdf hF f5 f6 f15 f16 f17 f18 f19 f55 f56
      have nPY : P ≠ Y := by omega
      have nNY : N ≠ Y := by omega
      have nUY : U ≠ Y := by omega
      have p7 := (((p6.later hR).other nPY 1 (.int .i64 (cc + k1))).other nPY 2 (.int .i64 (cm + k2)))
      have n7 := (((n6.later hR).other nNY 1 (.int .i64 (cc + k1))).other nNY 2 (.int .i64 (cm + k2)))
      have u7 := (((u6.later hR).other nUY 1 (.int .i64 (cc + k1))).other nUY 2 (.int .i64 (cm + k2)))
      have s17 : Strs ((V7.setCell ⟨Y, 1, none⟩ (.int .i64 (cc + k1))).setCell ⟨Y, 2, none⟩ (.int .i64 (cm + k2))) a1 ps := (((s16.later hR).put (fun x hx e => by have := e1 x hx; omega) 1 (.int .i64 (cc + k1))).put (fun x hx e => by have := e1 x hx; omega) 2 (.int .i64 (cm + k2)))
      have s27 : Strs ((V7.setCell ⟨Y, 1, none⟩ (.int .i64 (cc + k1))).setCell ⟨Y, 2, none⟩ (.int .i64 (cm + k2))) a2 bs := (((s26.later hR).put (fun x hx e => by have := e2 x hx; omega) 1 (.int .i64 (cc + k1))).put (fun x hx e => by have := e2 x hx; omega) 2 (.int .i64 (cm + k2)))
      have s37 : Strs ((V7.setCell ⟨Y, 1, none⟩ (.int .i64 (cc + k1))).setCell ⟨Y, 2, none⟩ (.int .i64 (cm + k2))) a3 xs := (((s36.later hR).put (fun x hx e => by have := e3 x hx; omega) 1 (.int .i64 (cc + k1))).put (fun x hx e => by have := e3 x hx; omega) 2 (.int .i64 (cm + k2)))
      have s47 : Strs ((V7.setCell ⟨Y, 1, none⟩ (.int .i64 (cc + k1))).setCell ⟨Y, 2, none⟩ (.int .i64 (cm + k2))) a4 ys := (((s46.later hR).put (fun x hx e => by have := e4 x hx; omega) 1 (.int .i64 (cc + k1))).put (fun x hx e => by have := e4 x hx; omega) 2 (.int .i64 (cm + k2)))
      have y7 : Box ((V7.setCell ⟨Y, 1, none⟩ (.int .i64 (cc + k1))).setCell ⟨Y, 2, none⟩ (.int .i64 (cm + k2))) Y #[.string t0, .int .i64 (cc + k1), .int .i64 (cm + k2), .slice a3 xn q3, .slice a4 yn q4, .bool cl] 31 := (hy7.set 1 (.int .i64 (cc + k1))).set 2 (.int .i64 (cm + k2))
      have hW7 : Below w.heap.size w ((V7.setCell ⟨Y, 1, none⟩ (.int .i64 (cc + k1))).setCell ⟨Y, 2, none⟩ (.int .i64 (cm + k2))) := ((fin hR hW6).setCell (p := ⟨Y, 1, none⟩) (by simp; omega) _).setCell (p := ⟨Y, 2, none⟩) (by simp; omega) _
      have hYlt := y7.lt
      clear hR hy7 yc0 yc1 yc2 yc3 yc4 yc5 fz1 fz2 p6 n6 u6 y6 s16 s26 s36 s46 hW6
      generalize (V7.setCell ⟨Y, 1, none⟩ (.int .i64 (cc + k1))).setCell ⟨Y, 2, none⟩ (.int .i64 (cm + k2)) = W7 at *
      obtain ⟨x1, hx1⟩ : ∃ x, (if 0 < ua - k1 then ua - k1 else 0) = x := ⟨_, rfl⟩
      obtain ⟨x2, hx2⟩ : ∃ x, (if 0 < va - k2 then va - k2 else 0) = x := ⟨_, rfl⟩
      have hx3 : (if k1 < ua then ua - k1 else 0) = x1 := by rw [← hx1]; split <;> split <;> omega
      have hx4 : (if k2 < va then va - k2 else 0) = x2 := by rw [← hx2]; split <;> split <;> omega
      have hxb : 0 ≤ x1 ∧ x1 ≤ ua ∧ 0 ≤ x2 ∧ x2 ≤ va := by rw [← hx1, ← hx2]; split <;> split <;> omega
      obtain ⟨B0, hB0⟩ : ∃ x, W7.heap.size = x := ⟨_, rfl⟩
      go_upto_region 8 with fail
      refine wp_region_rely_last 15 (fun w1 => Below W7.heap.size W7 w1) (fun w1 w2 => Below w1.heap.size w1 w2) (moreC s0 t0 sh c1 m1 cc cm ua va k1 k2 x1 x2 more Ra a0 a1 a2 a3 a4 pn q1 bn q2 xn q3 yn q4 P N U Y 0 B0 len0 cap0 NN l al cl) (by kernel_rfl) (by kernel_rfl) (Below.refl _ _).drew ?keep ?step ?rest
      case keep =>
        intro i v w1 w2 hS hF
        unfold moreC at *
        split at hF <;> try exact hF
        · obtain ⟨B, hv, h1, h2⟩ := hF
          exact ⟨B, hv, h1, h2.later hS⟩
      case step =>
        intro i o d hi ho hd b w1 hR hold hdep
        have o5 : sl b 5 = .int .i64 more := hold 5 (by kernel_rfl)
        have o6 : sl b 6 = .slice a0 len0 cap0 := hold 6 (by kernel_rfl)
        have o15 : sl b 15 = .pointer (some ⟨P, 0, none⟩) := hold 15 (by kernel_rfl)
        have o16 : sl b 16 = .pointer (some ⟨N, 0, none⟩) := hold 16 (by kernel_rfl)
        have o17 : sl b 17 = .pointer (some ⟨U, 0, none⟩) := hold 17 (by kernel_rfl)
        have o18 : sl b 18 = .int .i64 Ra := hold 18 (by kernel_rfl)
        have o19 : sl b 19 = .pointer (some ⟨Y, 0, none⟩) := hold 19 (by kernel_rfl)
        have hb0 := Below.refl w1.heap.size w1
        obtain ⟨uc0, uc1⟩ := (u7.later hR).cells2
        rcases i with _ | _ | _ | _ | _ | _ | _ | _ | _ | _ | _ | _ | _ | _ | _ | i
        all_goals try (cases ho; cases hd)
        · exact ok_val' rfl rfl (want_none rfl b) (by simp [go_sem, o17]) hR hb0 rfl
        · have f57 : sl b 57 = .pointer (some ⟨U, 0, none⟩) := hdep 0 _ _ rfl rfl (by kernel_rfl)
          exact ok_val' rfl rfl (want_none rfl b) (by simp [go_sem, f57, uc0]) hR hb0 rfl
        · exact ok_val' rfl rfl (want_none rfl b) (by simp [go_sem, o5]) hR hb0 rfl
        · have f59 : sl b 59 = .int .i64 more := hdep 2 _ _ rfl rfl (by kernel_rfl)
          refine ok_enter' rfl rfl (want_none rfl b) ?_ ((kk1 w1).mono ?_)
          · simp [go_sem, f59, cfwithin5]
          rintro e w2 ⟨rfl, rfl⟩
          exact ⟨_, rfl, hR, hb0, rfl⟩
        · have f58 : sl b 58 = .int .i64 ua := hdep 1 _ _ rfl rfl (by kernel_rfl)
          have f60 : sl b 60 = .int .i64 k1 := hdep 3 _ _ rfl rfl (by kernel_rfl)
          exact ok_val' rfl rfl (want_none rfl b) (by simp [go_sem, f58, f60, i3]) hR hb0 rfl
        · have f61 : sl b 61 = .int .i64 (ua - k1) := hdep 4 _ _ rfl rfl (by kernel_rfl)
          exact ok_val' rfl rfl (want_none rfl b) (by simp [go_sem, f61, hx1, hx3]) hR hb0 rfl
        · exact ok_val' rfl rfl (want_none rfl b) (by simp [go_sem, o17]) hR hb0 rfl
        · have f63 : sl b 63 = .pointer (some ⟨U, 1, none⟩) := hdep 6 _ _ rfl rfl (by kernel_rfl)
          exact ok_val' rfl rfl (want_none rfl b) (by simp [go_sem, f63, uc1]) hR hb0 rfl
        · exact ok_val' rfl rfl (want_none rfl b) (by simp [go_sem, o5]) hR hb0 rfl
        · have f65 : sl b 65 = .int .i64 more := hdep 8 _ _ rfl rfl (by kernel_rfl)
          exact ok_val' rfl rfl (want_none rfl b) (by simp [go_sem, f65, IntWalk.i64_left]) hR hb0 rfl
        · have f66 : sl b 66 = .int .i64 (wrap64 (more.tdiv 5)) := hdep 9 _ _ rfl rfl (by kernel_rfl)
          refine ok_enter' rfl rfl (want_none rfl b) ?_ ((kk2 w1).mono ?_)
          · simp [go_sem, f66, cfwithin5]
          rintro e w2 ⟨rfl, rfl⟩
          exact ⟨_, rfl, hR, hb0, rfl⟩
        · have f64 : sl b 64 = .int .i64 va := hdep 7 _ _ rfl rfl (by kernel_rfl)
          have f67 : sl b 67 = .int .i64 k2 := hdep 10 _ _ rfl rfl (by kernel_rfl)
          exact ok_val' rfl rfl (want_none rfl b) (by simp [go_sem, f64, f67, i4]) hR hb0 rfl
        · have f68 : sl b 68 = .int .i64 (va - k2) := hdep 11 _ _ rfl rfl (by kernel_rfl)
          exact ok_val' rfl rfl (want_none rfl b) (by simp [go_sem, f68, hx2, hx4]) hR hb0 rfl
        · have f62 : sl b 62 = .int .i64 x1 := hdep 5 _ _ rfl rfl (by kernel_rfl)
          have f69 : sl b 69 = .int .i64 x2 := hdep 12 _ _ rfl rfl (by kernel_rfl)
          exact ok_val' rfl rfl (want_none rfl b) (by simp [go_sem, f62, f69]) hR hb0 rfl
        · exact ok_val' rfl rfl (want_none rfl b) (by simp [go_sem]) (hR.alloc hR.size _) (hb0.alloc (Nat.le_refl _) _) ⟨_, rfl, by rw [← hB0]; exact hR.size, Box.new _ _ _ rfl⟩
        · omega
      case rest =>
        intro o b V8 ho hR hsz hdf hold hF
        cases ho
        have f5 : sl b 5 = .int .i64 more := hold 5 (by kernel_rfl)
        have f6 : sl b 6 = .slice a0 len0 cap0 := hold 6 (by kernel_rfl)
        have f15 : sl b 15 = .pointer (some ⟨P, 0, none⟩) := hold 15 (by kernel_rfl)
        have f16 : sl b 16 = .pointer (some ⟨N, 0, none⟩) := hold 16 (by kernel_rfl)
        have f17 : sl b 17 = .pointer (some ⟨U, 0, none⟩) := hold 17 (by kernel_rfl)
        have f18 : sl b 18 = .int .i64 Ra := hold 18 (by kernel_rfl)
        have f19 : sl b 19 = .pointer (some ⟨Y, 0, none⟩) := hold 19 (by kernel_rfl)
        obtain ⟨B14, f20, g20⟩ : ∃ B, sl b 20 = .pointer (some ⟨B, 0, none⟩) ∧ (B0 ≤ B ∧ Box V8 B #[.int .i64 0, .int .i64 0] 25) := hF 14 _ _ (by decide) rfl rfl
        have f70 : sl b 70 = .agg #[.int .i64 x1, .int .i64 x2] := hF 13 _ _ (by decide) rfl rfl
        have hB : b = _ := act_list b (show b.tmps.size = 122 from hsz) hdf
        obtain ⟨hBge, hl8⟩ := g20
        obtain ⟨lc0, lc1⟩ := hl8.cells2
        have fz0 := hl8.frozen 0
        have fz1 := hl8.frozen 1
        refine ok_skip (w2 := (V8.setCell ⟨B14, 0, none⟩ (.int .i64 x1)).setCell ⟨B14, 1, none⟩ (.int .i64 x2)) rfl rfl rfl (by simp [go_sem, f20, f70, lc0, lc1, fz0, fz1] <;> rfl) ?_
        rw [hB]
        simp only [List.range, List.range.loop, List.map_cons, List.map_nil, f5, f6, f15, f16, f17, f18, f19, f20, f70]
        generalize sl b 0 = v0, sl b 1 = v1, sl b 2 = v2, sl b 3 = v3, sl b 4 = v4, sl b 7 = v7, sl b 8 = v8, sl b 9 = v9, sl b 10 = v10, sl b 11 = v11, sl b 12 = v12, sl b 13 = v13, sl b 14 = v14, sl b 21 = v21, sl b 22 = v22, sl b 23 = v23, sl b 24 = v24, sl b 25 = v25, sl b 26 = v26, sl b 27 = v27, sl b 28 = v28, sl b 29 = v29, sl b 30 = v30, sl b 31 = v31, sl b 32 = v32, sl b 33 = v33, sl b 34 = v34, sl b 35 = v35, sl b 36 = v36, sl b 37 = v37, sl b 38 = v38, sl b 39 = v39, sl b 40 = v40, sl b 41 = v41, sl b 42 = v42, sl b 43 = v43, sl b 44 = v44, sl b 45 = v45, sl b 46 = v46, sl b 47 = v47, sl b 48 = v48, sl b 49 = v49, sl b 50 = v50, sl b 51 = v51, sl b 52 = v52, sl b 53 = v53, sl b 54 = v54, sl b 55 = v55, sl b 56 = v56, sl b 57 = v57, sl b 58 = v58, sl b 59 = v59, sl b 60 = v60, sl b 61 = v61, sl b 62 = v62, sl b 63 = v63, sl b 64 = v64, sl b 65 = v65, sl b 66 = v66, sl b 67 = v67, sl b 68 = v68, sl b 69 = v69, sl b 71 = v71, sl b 72 = v72, sl b 73 = v73, sl b 74 = v74, sl b 75 = v75, sl b 76 = v76, sl b 77 = v77, sl b 78 = v78, sl b 79 = v79, sl b 80 = v80, sl b 81 = v81, sl b 82 = v82, sl b 83 = v83, sl b 84 = v84, sl b 85 = v85, sl b 86 = v86, sl b 87 = v87, sl b 88 = v88, sl b 89 = v89, sl b 90 = v90, sl b 91 = v91, sl b 92 = v92, sl b 93 = v93, sl b 94 = v94, sl b 95 = v95, sl b 96 = v96, sl b 97 = v97, sl b 98 = v98, sl b 99 = v99, sl b 100 = v100, sl b 101 = v101, sl b 102 = v102, sl b 103 = v103, sl b 104 = v104, sl b 105 = v105, sl b 106 = v106, sl b 107 = v107, sl b 108 = v108, sl b 109 = v109, sl b 110 = v110, sl b 111 = v111, sl b 112 = v112, sl b 113 = v113, sl b 114 = v114, sl b 115 = v115, sl b 116 = v116, sl b 117 = v117, sl b 118 = v118, sl b 119 = v119, sl b 120 = v120, sl b 121 = v121
        clear hB hold hsz hdf hF f5 f6 f15 f16 f17 f18 f19 f20 f70
        have nPB : P ≠ B14 := by omega
        have nNB : N ≠ B14 := by omega
        have nUB : U ≠ B14 := by omega
        have nYB : Y ≠ B14 := by omega
        have p8 := (((p7.later hR).other nPB 0 (.int .i64 x1)).other nPB 1 (.int .i64 x2))
        have n8 := (((n7.later hR).other nNB 0 (.int .i64 x1)).other nNB 1 (.int .i64 x2))
        have u8 := (((u7.later hR).other nUB 0 (.int .i64 x1)).other nUB 1 (.int .i64 x2))
        have y8 := (((y7.later hR).other nYB 0 (.int .i64 x1)).other nYB 1 (.int .i64 x2))
        have s18 : Strs ((V8.setCell ⟨B14, 0, none⟩ (.int .i64 x1)).setCell ⟨B14, 1, none⟩ (.int .i64 x2)) a1 ps := (((s17.later hR).put (fun x hx e => by have := e1 x hx; omega) 0 (.int .i64 x1)).put (fun x hx e => by have := e1 x hx; omega) 1 (.int .i64 x2))
        have s28 : Strs ((V8.setCell ⟨B14, 0, none⟩ (.int .i64 x1)).setCell ⟨B14, 1, none⟩ (.int .i64 x2)) a2 bs := (((s27.later hR).put (fun x hx e => by have := e2 x hx; omega) 0 (.int .i64 x1)).put (fun x hx e => by have := e2 x hx; omega) 1 (.int .i64 x2))
        have s38 : Strs ((V8.setCell ⟨B14, 0, none⟩ (.int .i64 x1)).setCell ⟨B14, 1, none⟩ (.int .i64 x2)) a3 xs := (((s37.later hR).put (fun x hx e => by have := e3 x hx; omega) 0 (.int .i64 x1)).put (fun x hx e => by have := e3 x hx; omega) 1 (.int .i64 x2))
        have s48 : Strs ((V8.setCell ⟨B14, 0, none⟩ (.int .i64 x1)).setCell ⟨B14, 1, none⟩ (.int .i64 x2)) a4 ys := (((s47.later hR).put (fun x hx e => by have := e4 x hx; omega) 0 (.int .i64 x1)).put (fun x hx e => by have := e4 x hx; omega) 1 (.int .i64 x2))
        have l8 : Box ((V8.setCell ⟨B14, 0, none⟩ (.int .i64 x1)).setCell ⟨B14, 1, none⟩ (.int .i64 x2)) B14 #[.int .i64 x1, .int .i64 x2] 25 := (hl8.set 0 (.int .i64 x1)).set 1 (.int .i64 x2)
        have hW8 : Below w.heap.size w ((V8.setCell ⟨B14, 0, none⟩ (.int .i64 x1)).setCell ⟨B14, 1, none⟩ (.int .i64 x2)) := ((fin hR hW7).setCell (p := ⟨B14, 0, none⟩) (by simp; omega) _).setCell (p := ⟨B14, 1, none⟩) (by simp; omega) _
        clear hR hl8 lc0 lc1 fz0 fz1 p7 n7 u7 y7 s17 s27 s37 s47 hW7
        generalize (V8.setCell ⟨B14, 0, none⟩ (.int .i64 x1)).setCell ⟨B14, 1, none⟩ (.int .i64 x2) = W8 at *
        go_upto_region 9 with fail
        have kN := fun W (hb : Below W8.heap.size W8 W) => why_any s0 sh c1 m1 a1 pn q1 a2 bn q2 al t0 cc cm a3 xn q3 a4 yn q4 cl ua va none 0 0 ps bs xs ys [] f1 f2 f3 W hpn hbn hxn hyn rfl (s18.later hb) (s28.later hb) (s38.later hb) (s48.later hb) (places_nil W) z1 z2 z3 z4 (by omega) (by omega) hf1 hf2 hf3
        by_cases hz : Ra = 0
        · have hzb : (Ra == 0) = true := by simp [hz]
          obtain ⟨hcl, ht1, ht2, ht3, hA, hB⟩ := why_zero (hRa.trans hz)
          have hf3c := hf3
          rw [ht3] at hf3
          unfold roomB at hf3
          have hf4 := of_decide_eq_true hf3
          have r1 : roomB ua va c1 m1 (cc + k1) (cm + k2) = true := decide_eq_true (by omega)
          have r2 : roomB x1 x2 c1 m1 cc cm = true := decide_eq_true (by omega)
          have v0 : whyN cl f1 f2 true al l = 0 := by rw [hcl, ht1, ht2]; exact zero_why hA hB
          have v9 : whyN cl f1 f2 f3 al [] = 0 := by rw [hcl, ht1, ht2, ht3]; exact zero_why (by simp) (by simp)
          have kY := fun g c W (hb : Below W8.heap.size W8 W) (hp : Places W g l) => why_any s0 sh c1 m1 a1 pn q1 a2 bn q2 al t0 (cc + k1) (cm + k2) a3 xn q3 a4 yn q4 cl ua va g NN c ps bs xs ys l f1 f2 true W hpn hbn hxn hyn hlen (s18.later hb) (s28.later hb) (s38.later hb) (s48.later hb) hp z1 z2 z3 z4 (by omega) (by omega) hf1 hf2 r1
          have kL := fun g c W (hb : Below W8.heap.size W8 W) (hp : Places W g l) => why_any s0 sh c1 m1 a1 pn q1 a2 bn q2 al t0 cc cm a3 xn q3 a4 yn q4 cl x1 x2 g NN c ps bs xs ys l f1 f2 true W hpn hbn hxn hyn hlen (s18.later hb) (s28.later hb) (s38.later hb) (s48.later hb) hp z1 z2 z3 z4 (by omega) (by omega) hf1 hf2 r2
          simp only [v0] at kY kL
          simp only [v9] at kN
          refine wp_region_rely (fun w1 => Below W8.heap.size W8 w1) (fun w1 w2 => Below w1.heap.size w1 w2) (moreD s0 t0 sh c1 m1 cc cm ua va k1 k2 x1 x2 more Ra a0 a1 a2 a3 a4 pn q1 bn q2 xn q3 yn q4 P N U Y 0 B0 len0 cap0 NN l al cl) (by kernel_rfl) (by kernel_rfl) (Below.refl _ _).drew ?keep ?step ?rest
          case keep =>
            intro i v w1 w2 hS hF
            unfold moreD at *
            split at hF <;> try exact hF
            · obtain ⟨g, c, hv, hp, hn⟩ := hF
              exact ⟨g, c, hv, hp.later hS, hn⟩
            · obtain ⟨g, c, hv, hp, hn⟩ := hF
              exact ⟨g, c, hv, hp.later hS, hn⟩
          case step =>
            intro i o d ho hd b w1 hR hold hdep
            have o5 : sl b 5 = .int .i64 more := hold 5 (by kernel_rfl)
            have o6 : sl b 6 = .slice a0 len0 cap0 := hold 6 (by kernel_rfl)
            have o15 : sl b 15 = .pointer (some ⟨P, 0, none⟩) := hold 15 (by kernel_rfl)
            have o16 : sl b 16 = .pointer (some ⟨N, 0, none⟩) := hold 16 (by kernel_rfl)
            have o17 : sl b 17 = .pointer (some ⟨U, 0, none⟩) := hold 17 (by kernel_rfl)
            have o18 : sl b 18 = .int .i64 Ra := hold 18 (by kernel_rfl)
            have o19 : sl b 19 = .pointer (some ⟨Y, 0, none⟩) := hold 19 (by kernel_rfl)
            have o20 : sl b 20 = .pointer (some ⟨B14, 0, none⟩) := hold 20 (by kernel_rfl)
            have hb0 := Below.refl w1.heap.size w1
            obtain ⟨pc0, pc1, pc2, pc3, pc4, pc5, pc6⟩ := (p8.later hR).cells7
            obtain ⟨nc0, nc1, nc2, nc3, nc4, nc5⟩ := (n8.later hR).cells6
            obtain ⟨uc0, uc1⟩ := (u8.later hR).cells2
            obtain ⟨yc0, yc1, yc2, yc3, yc4, yc5⟩ := (y8.later hR).cells6
            obtain ⟨lc0, lc1⟩ := (l8.later hR).cells2
            rcases i with _ | _ | _ | _ | _ | _ | _ | _ | _ | _ | _ | _ | _ | _ | _ | _ | _ | _ | _ | _ | _ | _ | _ | _ | _ | _ | _ | i
            all_goals try (cases ho; cases hd)
            · exact ok_val' rfl rfl (want_none rfl b) (by simp [go_sem, o18]) hR hb0 rfl
            · have f71 : sl b 71 = .int .i64 Ra := hdep 0 _ _ rfl rfl (by kernel_rfl)
              exact ok_val' rfl rfl (want_none rfl b) (by simp [go_sem, f71, hzb]) hR hb0 rfl
            · have f72 : sl b 72 = .bool true := hdep 1 _ _ rfl rfl (by kernel_rfl)
              exact ok_val' rfl rfl (want_none rfl b) (by simp [go_sem, f72]) hR hb0 rfl
            · have f73 : sl b 73 = .bool true := hdep 2 _ _ rfl rfl (by kernel_rfl)
              exact ok_val' rfl rfl (want 2 73 rfl rfl f73) (by simp [go_sem, o15, pc0, pc1, pc2, pc3, pc4, pc5, pc6]) hR hb0 rfl
            · have f73 : sl b 73 = .bool true := hdep 2 _ _ rfl rfl (by kernel_rfl)
              exact ok_val' rfl rfl (want 2 73 rfl rfl f73) (by simp [go_sem, o19, yc0, yc1, yc2, yc3, yc4, yc5]) hR hb0 rfl
            · have f73 : sl b 73 = .bool true := hdep 2 _ _ rfl rfl (by kernel_rfl)
              exact ok_val' rfl rfl (want 2 73 rfl rfl f73) (by simp [go_sem, o17, uc0, uc1]) hR hb0 rfl
            · have f73 : sl b 73 = .bool true := hdep 2 _ _ rfl rfl (by kernel_rfl)
              exact ok_val' rfl rfl (want 2 73 rfl rfl f73) (by simp [go_sem, o6]) hR hb0 rfl
            · have f77 : sl b 77 = .slice a0 len0 cap0 := hdep 6 _ _ rfl rfl (by kernel_rfl)
              have f73 : sl b 73 = .bool true := hdep 2 _ _ rfl rfl (by kernel_rfl)
              refine ok_enter' rfl rfl (want 2 73 rfl rfl f73) ?_ ((kb w1 (fin hR hW8)).mono ?_)
              · simp [go_sem, f77, cfbeside]
              rintro e w2 ⟨g, c, rfl, hp, hn, hb2⟩
              exact ⟨_, rfl, hR.trans (hb2.mono hR.size), hb2, g, c, rfl, hp, hn⟩
            · have f74 : sl b 74 = .agg #[.string s0, .int .i64 sh, .int .i64 c1, .int .i64 m1, .slice a1 pn q1, .slice a2 bn q2, .bool al] := hdep 3 _ _ rfl rfl (by kernel_rfl)
              have f75 : sl b 75 = .agg #[.string t0, .int .i64 (cc + k1), .int .i64 (cm + k2), .slice a3 xn q3, .slice a4 yn q4, .bool cl] := hdep 4 _ _ rfl rfl (by kernel_rfl)
              have f76 : sl b 76 = .agg #[.int .i64 ua, .int .i64 va] := hdep 5 _ _ rfl rfl (by kernel_rfl)
              obtain ⟨g7, c7, f78, g78⟩ : ∃ g c, sl b 78 = .slice g NN c ∧ (Places w1 g l ∧ (g = none → c = 0)) := hdep 7 _ _ rfl rfl (by kernel_rfl)
              have f73 : sl b 73 = .bool true := hdep 2 _ _ rfl rfl (by kernel_rfl)
              refine ok_enter' rfl rfl (want 2 73 rfl rfl f73) ?_ ((kY g7 c7 w1 hR g78.1).mono ?_)
              · simp [go_sem, f74, f75, f76, f78, cfWhy]
              rintro e w2 ⟨rfl, hb2⟩
              exact ⟨_, rfl, hR.trans (hb2.mono hR.size), hb2, rfl⟩
            · have f79 : sl b 79 = .int .i64 0 := hdep 8 _ _ rfl rfl (by kernel_rfl)
              have f73 : sl b 73 = .bool true := hdep 2 _ _ rfl rfl (by kernel_rfl)
              exact ok_val' rfl rfl (want 2 73 rfl rfl f73) (by simp [go_sem, f79]) hR hb0 rfl
            · have f80 : sl b 80 = .bool false := hdep 9 _ _ rfl rfl (by kernel_rfl)
              have f73 : sl b 73 = .bool true := hdep 2 _ _ rfl rfl (by kernel_rfl)
              exact ok_val' rfl rfl (want 2 73 rfl rfl f73) (by simp [go_sem, f80]) hR hb0 rfl
            · have f81 : sl b 81 = .bool false := hdep 10 _ _ rfl rfl (by kernel_rfl)
              exact ok_val' rfl rfl (want 10 81 rfl rfl f81) (by simp [go_sem, o15, pc0, pc1, pc2, pc3, pc4, pc5, pc6]) hR hb0 rfl
            · have f81 : sl b 81 = .bool false := hdep 10 _ _ rfl rfl (by kernel_rfl)
              exact ok_val' rfl rfl (want 10 81 rfl rfl f81) (by simp [go_sem, o16, nc0, nc1, nc2, nc3, nc4, nc5]) hR hb0 rfl
            · have f81 : sl b 81 = .bool false := hdep 10 _ _ rfl rfl (by kernel_rfl)
              exact ok_val' rfl rfl (want 10 81 rfl rfl f81) (by simp [go_sem, o20, lc0, lc1]) hR hb0 rfl
            · have f81 : sl b 81 = .bool false := hdep 10 _ _ rfl rfl (by kernel_rfl)
              exact ok_val' rfl rfl (want 10 81 rfl rfl f81) (by simp [go_sem, o6]) hR hb0 rfl
            · have f85 : sl b 85 = .slice a0 len0 cap0 := hdep 14 _ _ rfl rfl (by kernel_rfl)
              have f81 : sl b 81 = .bool false := hdep 10 _ _ rfl rfl (by kernel_rfl)
              refine ok_enter' rfl rfl (want 10 81 rfl rfl f81) ?_ ((kb w1 (fin hR hW8)).mono ?_)
              · simp [go_sem, f85, cfbeside]
              rintro e w2 ⟨g, c, rfl, hp, hn, hb2⟩
              exact ⟨_, rfl, hR.trans (hb2.mono hR.size), hb2, g, c, rfl, hp, hn⟩
            · have f82 : sl b 82 = .agg #[.string s0, .int .i64 sh, .int .i64 c1, .int .i64 m1, .slice a1 pn q1, .slice a2 bn q2, .bool al] := hdep 11 _ _ rfl rfl (by kernel_rfl)
              have f83 : sl b 83 = .agg #[.string t0, .int .i64 cc, .int .i64 cm, .slice a3 xn q3, .slice a4 yn q4, .bool cl] := hdep 12 _ _ rfl rfl (by kernel_rfl)
              have f84 : sl b 84 = .agg #[.int .i64 x1, .int .i64 x2] := hdep 13 _ _ rfl rfl (by kernel_rfl)
              obtain ⟨g15, c15, f86, g86⟩ : ∃ g c, sl b 86 = .slice g NN c ∧ (Places w1 g l ∧ (g = none → c = 0)) := hdep 15 _ _ rfl rfl (by kernel_rfl)
              have f81 : sl b 81 = .bool false := hdep 10 _ _ rfl rfl (by kernel_rfl)
              refine ok_enter' rfl rfl (want 10 81 rfl rfl f81) ?_ ((kL g15 c15 w1 hR g86.1).mono ?_)
              · simp [go_sem, f82, f83, f84, f86, cfWhy]
              rintro e w2 ⟨rfl, hb2⟩
              exact ⟨_, rfl, hR.trans (hb2.mono hR.size), hb2, rfl⟩
            · have f87 : sl b 87 = .int .i64 0 := hdep 16 _ _ rfl rfl (by kernel_rfl)
              have f81 : sl b 81 = .bool false := hdep 10 _ _ rfl rfl (by kernel_rfl)
              exact ok_val' rfl rfl (want 10 81 rfl rfl f81) (by simp [go_sem, f87]) hR hb0 rfl
            · have f81 : sl b 81 = .bool false := hdep 10 _ _ rfl rfl (by kernel_rfl)
              have f88 : sl b 88 = .bool false := hdep 17 _ _ rfl rfl (by kernel_rfl)
              have f73 : sl b 73 = .bool true := hdep 2 _ _ rfl rfl (by kernel_rfl)
              exact ok_val' rfl rfl (want 2 73 rfl rfl f73) (by simp [go_sem, f81, f88]) hR hb0 rfl
            · have f89 : sl b 89 = .bool false := hdep 18 _ _ rfl rfl (by kernel_rfl)
              have f73 : sl b 73 = .bool true := hdep 2 _ _ rfl rfl (by kernel_rfl)
              exact ok_val' rfl rfl (want 2 73 rfl rfl f73) (by simp [go_sem, f89]) hR hb0 rfl
            · have f90 : sl b 90 = .bool false := hdep 19 _ _ rfl rfl (by kernel_rfl)
              exact ok_val' rfl rfl (want 19 90 rfl rfl f90) (by simp [go_sem, o15, pc0, pc1, pc2, pc3, pc4, pc5, pc6]) hR hb0 rfl
            · have f90 : sl b 90 = .bool false := hdep 19 _ _ rfl rfl (by kernel_rfl)
              exact ok_val' rfl rfl (want 19 90 rfl rfl f90) (by simp [go_sem, o16, nc0, nc1, nc2, nc3, nc4, nc5]) hR hb0 rfl
            · have f90 : sl b 90 = .bool false := hdep 19 _ _ rfl rfl (by kernel_rfl)
              exact ok_val' rfl rfl (want 19 90 rfl rfl f90) (by simp [go_sem, o17, uc0, uc1]) hR hb0 rfl
            · have f91 : sl b 91 = .agg #[.string s0, .int .i64 sh, .int .i64 c1, .int .i64 m1, .slice a1 pn q1, .slice a2 bn q2, .bool al] := hdep 20 _ _ rfl rfl (by kernel_rfl)
              have f92 : sl b 92 = .agg #[.string t0, .int .i64 cc, .int .i64 cm, .slice a3 xn q3, .slice a4 yn q4, .bool cl] := hdep 21 _ _ rfl rfl (by kernel_rfl)
              have f93 : sl b 93 = .agg #[.int .i64 ua, .int .i64 va] := hdep 22 _ _ rfl rfl (by kernel_rfl)
              have f90 : sl b 90 = .bool false := hdep 19 _ _ rfl rfl (by kernel_rfl)
              refine ok_enter' rfl rfl (want 19 90 rfl rfl f90) ?_ ((kN w1 hR).mono ?_)
              · simp [go_sem, f91, f92, f93, cfWhy]
              rintro e w2 ⟨rfl, hb2⟩
              exact ⟨_, rfl, hR.trans (hb2.mono hR.size), hb2, rfl⟩
            · have f94 : sl b 94 = .int .i64 0 := hdep 23 _ _ rfl rfl (by kernel_rfl)
              have f90 : sl b 90 = .bool false := hdep 19 _ _ rfl rfl (by kernel_rfl)
              exact ok_val' rfl rfl (want 19 90 rfl rfl f90) (by simp [go_sem, f94]) hR hb0 rfl
            · have f90 : sl b 90 = .bool false := hdep 19 _ _ rfl rfl (by kernel_rfl)
              have f95 : sl b 95 = .bool false := hdep 24 _ _ rfl rfl (by kernel_rfl)
              have f73 : sl b 73 = .bool true := hdep 2 _ _ rfl rfl (by kernel_rfl)
              exact ok_val' rfl rfl (want 2 73 rfl rfl f73) (by simp [go_sem, f90, f95]) hR hb0 rfl
            · have f73 : sl b 73 = .bool true := hdep 2 _ _ rfl rfl (by kernel_rfl)
              have f96 : sl b 96 = .bool false := hdep 25 _ _ rfl rfl (by kernel_rfl)
              exact ok_val' rfl rfl (want_none rfl b) (by simp [go_sem, f73, f96]) hR hb0 rfl
            · cases ho
          case rest =>
            intro b V9 hR hsz hdf hold hF
            have f5 : sl b 5 = .int .i64 more := hold 5 (by kernel_rfl)
            have f6 : sl b 6 = .slice a0 len0 cap0 := hold 6 (by kernel_rfl)
            have f15 : sl b 15 = .pointer (some ⟨P, 0, none⟩) := hold 15 (by kernel_rfl)
            have f16 : sl b 16 = .pointer (some ⟨N, 0, none⟩) := hold 16 (by kernel_rfl)
            have f17 : sl b 17 = .pointer (some ⟨U, 0, none⟩) := hold 17 (by kernel_rfl)
            have f18 : sl b 18 = .int .i64 Ra := hold 18 (by kernel_rfl)
            have f19 : sl b 19 = .pointer (some ⟨Y, 0, none⟩) := hold 19 (by kernel_rfl)
            have f20 : sl b 20 = .pointer (some ⟨B14, 0, none⟩) := hold 20 (by kernel_rfl)
            have f97 : sl b 97 = .bool false := hF 26 _ _ rfl rfl
            have hB : b = _ := act_list b (show b.tmps.size = 122 from hsz) hdf
            rw [hB]
            simp only [List.range, List.range.loop, List.map_cons, List.map_nil, f5, f6, f15, f16, f17, f18, f19, f20, f97]
            generalize sl b 0 = v0, sl b 1 = v1, sl b 2 = v2, sl b 3 = v3, sl b 4 = v4, sl b 7 = v7, sl b 8 = v8, sl b 9 = v9, sl b 10 = v10, sl b 11 = v11, sl b 12 = v12, sl b 13 = v13, sl b 14 = v14, sl b 21 = v21, sl b 22 = v22, sl b 23 = v23, sl b 24 = v24, sl b 25 = v25, sl b 26 = v26, sl b 27 = v27, sl b 28 = v28, sl b 29 = v29, sl b 30 = v30, sl b 31 = v31, sl b 32 = v32, sl b 33 = v33, sl b 34 = v34, sl b 35 = v35, sl b 36 = v36, sl b 37 = v37, sl b 38 = v38, sl b 39 = v39, sl b 40 = v40, sl b 41 = v41, sl b 42 = v42, sl b 43 = v43, sl b 44 = v44, sl b 45 = v45, sl b 46 = v46, sl b 47 = v47, sl b 48 = v48, sl b 49 = v49, sl b 50 = v50, sl b 51 = v51, sl b 52 = v52, sl b 53 = v53, sl b 54 = v54, sl b 55 = v55, sl b 56 = v56, sl b 57 = v57, sl b 58 = v58, sl b 59 = v59, sl b 60 = v60, sl b 61 = v61, sl b 62 = v62, sl b 63 = v63, sl b 64 = v64, sl b 65 = v65, sl b 66 = v66, sl b 67 = v67, sl b 68 = v68, sl b 69 = v69, sl b 70 = v70, sl b 71 = v71, sl b 72 = v72, sl b 73 = v73, sl b 74 = v74, sl b 75 = v75, sl b 76 = v76, sl b 77 = v77, sl b 78 = v78, sl b 79 = v79, sl b 80 = v80, sl b 81 = v81, sl b 82 = v82, sl b 83 = v83, sl b 84 = v84, sl b 85 = v85, sl b 86 = v86, sl b 87 = v87, sl b 88 = v88, sl b 89 = v89, sl b 90 = v90, sl b 91 = v91, sl b 92 = v92, sl b 93 = v93, sl b 94 = v94, sl b 95 = v95, sl b 96 = v96, sl b 98 = v98, sl b 99 = v99, sl b 100 = v100, sl b 101 = v101, sl b 102 = v102, sl b 103 = v103, sl b 104 = v104, sl b 105 = v105, sl b 106 = v106, sl b 107 = v107, sl b 108 = v108, sl b 109 = v109, sl b 110 = v110, sl b 111 = v111, sl b 112 = v112, sl b 113 = v113, sl b 114 = v114, sl b 115 = v115, sl b 116 = v116, sl b 117 = v117, sl b 118 = v118, sl b 119 = v119, sl b 120 = v120, sl b 121 = v121
            clear hB hold hsz hdf hF f5 f6 f15 f16 f17 f18 f19 f20 f97
            have p9 := p8.later hR
            have n9 := n8.later hR
            have u9 := u8.later hR
            have s19 := s18.later hR
            have s29 := s28.later hR
            have s39 := s38.later hR
            have s49 := s48.later hR
            have hW9 := fin hR hW8
            obtain ⟨pc0, pc1, pc2, pc3, pc4, pc5, pc6⟩ := p9.cells7
            clear hR kN
            go_upto_region 13 with fail
            have h9T : Below V9.heap.size V9 ((V9.alloc (.cells #[.string s0, .int .i64 sh, .int .i64 c1, .int .i64 m1, .slice (some ⟨V9.heap.size + 1, 0, none⟩) 1 1, .slice a2 bn q2, .bool al] 28)).alloc (.cells #[.string ⟨#[110, 111, 110, 101]⟩] 9)) := up (up (Below.refl _ _) _) _
            have nT := n9.later h9T
            have uT := u9.later h9T
            have qT : Box ((V9.alloc (.cells #[.string s0, .int .i64 sh, .int .i64 c1, .int .i64 m1, .slice (some ⟨V9.heap.size + 1, 0, none⟩) 1 1, .slice a2 bn q2, .bool al] 28)).alloc (.cells #[.string ⟨#[110, 111, 110, 101]⟩] 9)) V9.heap.size #[.string s0, .int .i64 sh, .int .i64 c1, .int .i64 m1, .slice (some ⟨V9.heap.size + 1, 0, none⟩) 1 1, .slice a2 bn q2, .bool al] 28 := (Box.new _ _ _ rfl).up _
            have sT : Box ((V9.alloc (.cells #[.string s0, .int .i64 sh, .int .i64 c1, .int .i64 m1, .slice (some ⟨V9.heap.size + 1, 0, none⟩) 1 1, .slice a2 bn q2, .bool al] 28)).alloc (.cells #[.string ⟨#[110, 111, 110, 101]⟩] 9)) (V9.heap.size + 1) #[.string ⟨#[110, 111, 110, 101]⟩] 9 := Box.new _ _ _ (by simp)
            have hWT := up (up hW9 (.cells #[.string s0, .int .i64 sh, .int .i64 c1, .int .i64 m1, .slice (some ⟨V9.heap.size + 1, 0, none⟩) 1 1, .slice a2 bn q2, .bool al] 28)) (.cells #[.string ⟨#[110, 111, 110, 101]⟩] 9)
            have s1T := s19.later h9T
            have s2T := s29.later h9T
            have s3T := s39.later h9T
            have s4T := s49.later h9T
            clear p9 n9 u9 s19 s29 s39 s49 h9T hW9 pc0 pc1 pc2 pc3 pc4 pc5 pc6
            generalize (V9.alloc (.cells #[.string s0, .int .i64 sh, .int .i64 c1, .int .i64 m1, .slice (some ⟨V9.heap.size + 1, 0, none⟩) 1 1, .slice a2 bn q2, .bool al] 28)).alloc (.cells #[.string ⟨#[110, 111, 110, 101]⟩] 9) = WT at *
            obtain ⟨QQ, hQQ⟩ : ∃ x, V9.heap.size = x := ⟨_, rfl⟩
            simp only [hQQ] at qT sT ⊢
            obtain ⟨S9, hS9⟩ : ∃ x, QQ + 1 = x := ⟨_, rfl⟩
            simp only [hS9] at qT sT ⊢
            clear hQQ hS9
            have hno := none_out hfour
            have sN : Strs WT (some ⟨S9, 0, none⟩) [⟨#[110, 111, 110, 101]⟩] := ⟨by simp, fun i hi => ⟨_, rfl, by
              simp only [List.length_singleton] at hi
              obtain rfl : i = 0 := by omega
              exact sT.cell rfl⟩⟩
            have zN : ∀ i, (([⟨#[110, 111, 110, 101]⟩] : List ByteArray).getD i ByteArray.empty).size ≤ maxLen := fun i => by
              cases i with
              | zero => exact (show (4 : Nat) ≤ 9223372036854775807 by decide)
              | succ i => simp
            obtain ⟨Rb, hRb⟩ : ∃ R, whyN cl false f2 f3 al l = R := ⟨_, rfl⟩
            have kT := fun g c W (hb : Below WT.heap.size WT W) (hp : Places W g l) => why_any s0 sh c1 m1 (some ⟨S9, 0, none⟩) 1 1 a2 bn q2 al t0 cc cm a3 xn q3 a4 yn q4 cl ua va g NN c [⟨#[110, 111, 110, 101]⟩] bs xs ys l false f2 f3 W rfl hbn hxn hyn hlen (sN.later hb) (s2T.later hb) (s3T.later hb) (s4T.later hb) hp zN z2 z3 z4 (by omega) (by omega) hno hf2 hf3c
            simp only [hRb] at kT
            refine wp_region_rely (fun w1 => Below WT.heap.size WT w1) (fun w1 w2 => Below w1.heap.size w1 w2) (moreG s0 t0 sh c1 m1 cc cm ua va k1 k2 0 0 more Rb a0 a1 a2 a3 a4 pn q1 bn q2 xn q3 yn q4 P N U 0 S9 0 len0 cap0 NN l al cl) (by kernel_rfl) (by kernel_rfl) (Below.refl _ _).drew ?keep ?step ?rest
            case keep =>
              intro i v w1 w2 hS hF
              unfold moreG at *
              split at hF <;> try exact hF
              · obtain ⟨g, c, hv, hp, hn⟩ := hF
                exact ⟨g, c, hv, hp.later hS, hn⟩
            case step =>
              intro i o d ho hd b w1 hR hold hdep
              have o6 : sl b 6 = .slice a0 len0 cap0 := hold 6 (by kernel_rfl)
              have o16 : sl b 16 = .pointer (some ⟨N, 0, none⟩) := hold 16 (by kernel_rfl)
              have o17 : sl b 17 = .pointer (some ⟨U, 0, none⟩) := hold 17 (by kernel_rfl)
              have o21 : sl b 21 = .pointer (some ⟨QQ, 0, none⟩) := hold 21 (by kernel_rfl)
              have hb0 := Below.refl w1.heap.size w1
              obtain ⟨nc0, nc1, nc2, nc3, nc4, nc5⟩ := (nT.later hR).cells6
              obtain ⟨uc0, uc1⟩ := (uT.later hR).cells2
              obtain ⟨qc0, qc1, qc2, qc3, qc4, qc5, qc6⟩ := (qT.later hR).cells7
              rcases i with _ | _ | _ | _ | _ | _ | _ | i
              all_goals try (cases ho; cases hd)
              · exact ok_val' rfl rfl (want_none rfl b) (by simp [go_sem, o21, qc0, qc1, qc2, qc3, qc4, qc5, qc6]) hR hb0 rfl
              · exact ok_val' rfl rfl (want_none rfl b) (by simp [go_sem, o16, nc0, nc1, nc2, nc3, nc4, nc5]) hR hb0 rfl
              · exact ok_val' rfl rfl (want_none rfl b) (by simp [go_sem, o17, uc0, uc1]) hR hb0 rfl
              · exact ok_val' rfl rfl (want_none rfl b) (by simp [go_sem, o6]) hR hb0 rfl
              · have f104 : sl b 104 = .slice a0 len0 cap0 := hdep 3 _ _ rfl rfl (by kernel_rfl)
                refine ok_enter' rfl rfl (want_none rfl b) ?_ ((kb w1 (fin hR hWT)).mono ?_)
                · simp [go_sem, f104, cfbeside]
                rintro e w2 ⟨g, c, rfl, hp, hn, hb2⟩
                exact ⟨_, rfl, hR.trans (hb2.mono hR.size), hb2, g, c, rfl, hp, hn⟩
              · have f101 : sl b 101 = .agg #[.string s0, .int .i64 sh, .int .i64 c1, .int .i64 m1, .slice (some ⟨S9, 0, none⟩) 1 1, .slice a2 bn q2, .bool al] := hdep 0 _ _ rfl rfl (by kernel_rfl)
                have f102 : sl b 102 = .agg #[.string t0, .int .i64 cc, .int .i64 cm, .slice a3 xn q3, .slice a4 yn q4, .bool cl] := hdep 1 _ _ rfl rfl (by kernel_rfl)
                have f103 : sl b 103 = .agg #[.int .i64 ua, .int .i64 va] := hdep 2 _ _ rfl rfl (by kernel_rfl)
                obtain ⟨g4, c4, f105, g105⟩ : ∃ g c, sl b 105 = .slice g NN c ∧ (Places w1 g l ∧ (g = none → c = 0)) := hdep 4 _ _ rfl rfl (by kernel_rfl)
                refine ok_enter' rfl rfl (want_none rfl b) ?_ ((kT g4 c4 w1 hR g105.1).mono ?_)
                · simp [go_sem, f101, f102, f103, f105, cfWhy]
                rintro e w2 ⟨rfl, hb2⟩
                exact ⟨_, rfl, hR.trans (hb2.mono hR.size), hb2, rfl⟩
              · have f106 : sl b 106 = .int .i64 Rb := hdep 5 _ _ rfl rfl (by kernel_rfl)
                exact ok_val' rfl rfl (want_none rfl b) (by simp [go_sem, f106]) hR hb0 rfl
              · cases ho
            case rest =>
              intro b V3 hR hsz hdf hold hF
              have f6 : sl b 6 = .slice a0 len0 cap0 := hold 6 (by kernel_rfl)
              have f16 : sl b 16 = .pointer (some ⟨N, 0, none⟩) := hold 16 (by kernel_rfl)
              have f17 : sl b 17 = .pointer (some ⟨U, 0, none⟩) := hold 17 (by kernel_rfl)
              have f21 : sl b 21 = .pointer (some ⟨QQ, 0, none⟩) := hold 21 (by kernel_rfl)
              have f22 : sl b 22 = .int .i64 Rb := hF 6 _ _ rfl rfl
              have hB : b = _ := act_list b (show b.tmps.size = 122 from hsz) hdf
              rw [hB]
              simp only [List.range, List.range.loop, List.map_cons, List.map_nil, f6, f16, f17, f21, f22]
              generalize sl b 0 = v0, sl b 1 = v1, sl b 2 = v2, sl b 3 = v3, sl b 4 = v4, sl b 5 = v5, sl b 7 = v7, sl b 8 = v8, sl b 9 = v9, sl b 10 = v10, sl b 11 = v11, sl b 12 = v12, sl b 13 = v13, sl b 14 = v14, sl b 15 = v15, sl b 18 = v18, sl b 19 = v19, sl b 20 = v20, sl b 23 = v23, sl b 24 = v24, sl b 25 = v25, sl b 26 = v26, sl b 27 = v27, sl b 28 = v28, sl b 29 = v29, sl b 30 = v30, sl b 31 = v31, sl b 32 = v32, sl b 33 = v33, sl b 34 = v34, sl b 35 = v35, sl b 36 = v36, sl b 37 = v37, sl b 38 = v38, sl b 39 = v39, sl b 40 = v40, sl b 41 = v41, sl b 42 = v42, sl b 43 = v43, sl b 44 = v44, sl b 45 = v45, sl b 46 = v46, sl b 47 = v47, sl b 48 = v48, sl b 49 = v49, sl b 50 = v50, sl b 51 = v51, sl b 52 = v52, sl b 53 = v53, sl b 54 = v54, sl b 55 = v55, sl b 56 = v56, sl b 57 = v57, sl b 58 = v58, sl b 59 = v59, sl b 60 = v60, sl b 61 = v61, sl b 62 = v62, sl b 63 = v63, sl b 64 = v64, sl b 65 = v65, sl b 66 = v66, sl b 67 = v67, sl b 68 = v68, sl b 69 = v69, sl b 70 = v70, sl b 71 = v71, sl b 72 = v72, sl b 73 = v73, sl b 74 = v74, sl b 75 = v75, sl b 76 = v76, sl b 77 = v77, sl b 78 = v78, sl b 79 = v79, sl b 80 = v80, sl b 81 = v81, sl b 82 = v82, sl b 83 = v83, sl b 84 = v84, sl b 85 = v85, sl b 86 = v86, sl b 87 = v87, sl b 88 = v88, sl b 89 = v89, sl b 90 = v90, sl b 91 = v91, sl b 92 = v92, sl b 93 = v93, sl b 94 = v94, sl b 95 = v95, sl b 96 = v96, sl b 97 = v97, sl b 98 = v98, sl b 99 = v99, sl b 100 = v100, sl b 101 = v101, sl b 102 = v102, sl b 103 = v103, sl b 104 = v104, sl b 105 = v105, sl b 106 = v106, sl b 107 = v107, sl b 108 = v108, sl b 109 = v109, sl b 110 = v110, sl b 111 = v111, sl b 112 = v112, sl b 113 = v113, sl b 114 = v114, sl b 115 = v115, sl b 116 = v116, sl b 117 = v117, sl b 118 = v118, sl b 119 = v119, sl b 120 = v120, sl b 121 = v121
              clear hB hold hsz hdf hF f6 f16 f17 f21 f22
              obtain ⟨nc0, nc1, nc2, nc3, nc4, nc5⟩ := (nT.later hR).cells6
              cases cl
              · obtain rfl : Rb = 2 := by rw [← hRb]; rfl
                go_wp2
                go_ret
                exact ⟨rfl, fin hR hWT⟩
              · first
                | (cases hcl; done)
                | (obtain rfl : Rb = 1 := by rw [← hRb]; rfl
                   go_wp2
                   go_ret
                   exact ⟨rfl, fin hR hWT⟩)
        · have hzb : (Ra == 0) = false := by simp [hz]
          refine wp_region_rely (fun w1 => Below W8.heap.size W8 w1) (fun w1 w2 => Below w1.heap.size w1 w2) (moreE s0 t0 sh c1 m1 cc cm ua va k1 k2 x1 x2 more Ra a0 a1 a2 a3 a4 pn q1 bn q2 xn q3 yn q4 P N U Y 0 B0 len0 cap0 NN l al cl) (by kernel_rfl) (by kernel_rfl) (Below.refl _ _).drew ?keep ?step ?rest
          case keep =>
            intro i v w1 w2 hS hF
            unfold moreE at *
            split at hF <;> try exact hF
          case step =>
            intro i o d ho hd b w1 hR hold hdep
            have o5 : sl b 5 = .int .i64 more := hold 5 (by kernel_rfl)
            have o6 : sl b 6 = .slice a0 len0 cap0 := hold 6 (by kernel_rfl)
            have o15 : sl b 15 = .pointer (some ⟨P, 0, none⟩) := hold 15 (by kernel_rfl)
            have o16 : sl b 16 = .pointer (some ⟨N, 0, none⟩) := hold 16 (by kernel_rfl)
            have o17 : sl b 17 = .pointer (some ⟨U, 0, none⟩) := hold 17 (by kernel_rfl)
            have o18 : sl b 18 = .int .i64 Ra := hold 18 (by kernel_rfl)
            have o19 : sl b 19 = .pointer (some ⟨Y, 0, none⟩) := hold 19 (by kernel_rfl)
            have o20 : sl b 20 = .pointer (some ⟨B14, 0, none⟩) := hold 20 (by kernel_rfl)
            have hb0 := Below.refl w1.heap.size w1
            rcases i with _ | _ | _ | _ | _ | _ | _ | _ | _ | _ | _ | _ | _ | _ | _ | _ | _ | _ | _ | _ | _ | _ | _ | _ | _ | _ | _ | i
            all_goals try (cases ho; cases hd)
            · exact ok_val' rfl rfl (want_none rfl b) (by simp [go_sem, o18]) hR hb0 rfl
            · have f71 : sl b 71 = .int .i64 Ra := hdep 0 _ _ rfl rfl (by kernel_rfl)
              exact ok_val' rfl rfl (want_none rfl b) (by simp [go_sem, f71, hzb]) hR hb0 rfl
            · have f72 : sl b 72 = .bool false := hdep 1 _ _ rfl rfl (by kernel_rfl)
              exact ok_val' rfl rfl (want_none rfl b) (by simp [go_sem, f72]) hR hb0 rfl
            · have f73 : sl b 73 = .bool false := hdep 2 _ _ rfl rfl (by kernel_rfl)
              exact ok_unw rfl rfl (unwant 2 73 rfl rfl f73 (by intro e; cases e)) hR hb0 rfl
            · have f73 : sl b 73 = .bool false := hdep 2 _ _ rfl rfl (by kernel_rfl)
              exact ok_unw rfl rfl (unwant 2 73 rfl rfl f73 (by intro e; cases e)) hR hb0 rfl
            · have f73 : sl b 73 = .bool false := hdep 2 _ _ rfl rfl (by kernel_rfl)
              exact ok_unw rfl rfl (unwant 2 73 rfl rfl f73 (by intro e; cases e)) hR hb0 rfl
            · have f73 : sl b 73 = .bool false := hdep 2 _ _ rfl rfl (by kernel_rfl)
              exact ok_unw rfl rfl (unwant 2 73 rfl rfl f73 (by intro e; cases e)) hR hb0 rfl
            · have f77 : sl b 77 = undef := hdep 6 _ _ rfl rfl (by kernel_rfl)
              have f73 : sl b 73 = .bool false := hdep 2 _ _ rfl rfl (by kernel_rfl)
              exact ok_unw rfl rfl (unwant 2 73 rfl rfl f73 (by intro e; cases e)) hR hb0 rfl
            · have f74 : sl b 74 = undef := hdep 3 _ _ rfl rfl (by kernel_rfl)
              have f75 : sl b 75 = undef := hdep 4 _ _ rfl rfl (by kernel_rfl)
              have f76 : sl b 76 = undef := hdep 5 _ _ rfl rfl (by kernel_rfl)
              have f78 : sl b 78 = undef := hdep 7 _ _ rfl rfl (by kernel_rfl)
              have f73 : sl b 73 = .bool false := hdep 2 _ _ rfl rfl (by kernel_rfl)
              exact ok_unw rfl rfl (unwant 2 73 rfl rfl f73 (by intro e; cases e)) hR hb0 rfl
            · have f79 : sl b 79 = undef := hdep 8 _ _ rfl rfl (by kernel_rfl)
              have f73 : sl b 73 = .bool false := hdep 2 _ _ rfl rfl (by kernel_rfl)
              exact ok_unw rfl rfl (unwant 2 73 rfl rfl f73 (by intro e; cases e)) hR hb0 rfl
            · have f80 : sl b 80 = undef := hdep 9 _ _ rfl rfl (by kernel_rfl)
              have f73 : sl b 73 = .bool false := hdep 2 _ _ rfl rfl (by kernel_rfl)
              exact ok_unw rfl rfl (unwant 2 73 rfl rfl f73 (by intro e; cases e)) hR hb0 rfl
            · have f81 : sl b 81 = undef := hdep 10 _ _ rfl rfl (by kernel_rfl)
              exact ok_unw rfl rfl (unwant 10 81 rfl rfl f81 (by intro e; cases e)) hR hb0 rfl
            · have f81 : sl b 81 = undef := hdep 10 _ _ rfl rfl (by kernel_rfl)
              exact ok_unw rfl rfl (unwant 10 81 rfl rfl f81 (by intro e; cases e)) hR hb0 rfl
            · have f81 : sl b 81 = undef := hdep 10 _ _ rfl rfl (by kernel_rfl)
              exact ok_unw rfl rfl (unwant 10 81 rfl rfl f81 (by intro e; cases e)) hR hb0 rfl
            · have f81 : sl b 81 = undef := hdep 10 _ _ rfl rfl (by kernel_rfl)
              exact ok_unw rfl rfl (unwant 10 81 rfl rfl f81 (by intro e; cases e)) hR hb0 rfl
            · have f85 : sl b 85 = undef := hdep 14 _ _ rfl rfl (by kernel_rfl)
              have f81 : sl b 81 = undef := hdep 10 _ _ rfl rfl (by kernel_rfl)
              exact ok_unw rfl rfl (unwant 10 81 rfl rfl f81 (by intro e; cases e)) hR hb0 rfl
            · have f82 : sl b 82 = undef := hdep 11 _ _ rfl rfl (by kernel_rfl)
              have f83 : sl b 83 = undef := hdep 12 _ _ rfl rfl (by kernel_rfl)
              have f84 : sl b 84 = undef := hdep 13 _ _ rfl rfl (by kernel_rfl)
              have f86 : sl b 86 = undef := hdep 15 _ _ rfl rfl (by kernel_rfl)
              have f81 : sl b 81 = undef := hdep 10 _ _ rfl rfl (by kernel_rfl)
              exact ok_unw rfl rfl (unwant 10 81 rfl rfl f81 (by intro e; cases e)) hR hb0 rfl
            · have f87 : sl b 87 = undef := hdep 16 _ _ rfl rfl (by kernel_rfl)
              have f81 : sl b 81 = undef := hdep 10 _ _ rfl rfl (by kernel_rfl)
              exact ok_unw rfl rfl (unwant 10 81 rfl rfl f81 (by intro e; cases e)) hR hb0 rfl
            · have f81 : sl b 81 = undef := hdep 10 _ _ rfl rfl (by kernel_rfl)
              have f88 : sl b 88 = undef := hdep 17 _ _ rfl rfl (by kernel_rfl)
              have f73 : sl b 73 = .bool false := hdep 2 _ _ rfl rfl (by kernel_rfl)
              exact ok_unw rfl rfl (unwant 2 73 rfl rfl f73 (by intro e; cases e)) hR hb0 rfl
            · have f89 : sl b 89 = undef := hdep 18 _ _ rfl rfl (by kernel_rfl)
              have f73 : sl b 73 = .bool false := hdep 2 _ _ rfl rfl (by kernel_rfl)
              exact ok_unw rfl rfl (unwant 2 73 rfl rfl f73 (by intro e; cases e)) hR hb0 rfl
            · have f90 : sl b 90 = undef := hdep 19 _ _ rfl rfl (by kernel_rfl)
              exact ok_unw rfl rfl (unwant 19 90 rfl rfl f90 (by intro e; cases e)) hR hb0 rfl
            · have f90 : sl b 90 = undef := hdep 19 _ _ rfl rfl (by kernel_rfl)
              exact ok_unw rfl rfl (unwant 19 90 rfl rfl f90 (by intro e; cases e)) hR hb0 rfl
            · have f90 : sl b 90 = undef := hdep 19 _ _ rfl rfl (by kernel_rfl)
              exact ok_unw rfl rfl (unwant 19 90 rfl rfl f90 (by intro e; cases e)) hR hb0 rfl
            · have f91 : sl b 91 = undef := hdep 20 _ _ rfl rfl (by kernel_rfl)
              have f92 : sl b 92 = undef := hdep 21 _ _ rfl rfl (by kernel_rfl)
              have f93 : sl b 93 = undef := hdep 22 _ _ rfl rfl (by kernel_rfl)
              have f90 : sl b 90 = undef := hdep 19 _ _ rfl rfl (by kernel_rfl)
              exact ok_unw rfl rfl (unwant 19 90 rfl rfl f90 (by intro e; cases e)) hR hb0 rfl
            · have f94 : sl b 94 = undef := hdep 23 _ _ rfl rfl (by kernel_rfl)
              have f90 : sl b 90 = undef := hdep 19 _ _ rfl rfl (by kernel_rfl)
              exact ok_unw rfl rfl (unwant 19 90 rfl rfl f90 (by intro e; cases e)) hR hb0 rfl
            · have f90 : sl b 90 = undef := hdep 19 _ _ rfl rfl (by kernel_rfl)
              have f95 : sl b 95 = undef := hdep 24 _ _ rfl rfl (by kernel_rfl)
              have f73 : sl b 73 = .bool false := hdep 2 _ _ rfl rfl (by kernel_rfl)
              exact ok_unw rfl rfl (unwant 2 73 rfl rfl f73 (by intro e; cases e)) hR hb0 rfl
            · have f73 : sl b 73 = .bool false := hdep 2 _ _ rfl rfl (by kernel_rfl)
              have f96 : sl b 96 = undef := hdep 25 _ _ rfl rfl (by kernel_rfl)
              exact ok_val' rfl rfl (want_none rfl b) (by simp [go_sem, f73, f96]) hR hb0 rfl
            · cases ho
          case rest =>
            intro b V9 hR hsz hdf hold hF
            have f5 : sl b 5 = .int .i64 more := hold 5 (by kernel_rfl)
            have f6 : sl b 6 = .slice a0 len0 cap0 := hold 6 (by kernel_rfl)
            have f15 : sl b 15 = .pointer (some ⟨P, 0, none⟩) := hold 15 (by kernel_rfl)
            have f16 : sl b 16 = .pointer (some ⟨N, 0, none⟩) := hold 16 (by kernel_rfl)
            have f17 : sl b 17 = .pointer (some ⟨U, 0, none⟩) := hold 17 (by kernel_rfl)
            have f18 : sl b 18 = .int .i64 Ra := hold 18 (by kernel_rfl)
            have f19 : sl b 19 = .pointer (some ⟨Y, 0, none⟩) := hold 19 (by kernel_rfl)
            have f20 : sl b 20 = .pointer (some ⟨B14, 0, none⟩) := hold 20 (by kernel_rfl)
            have f97 : sl b 97 = .bool false := hF 26 _ _ rfl rfl
            have hB : b = _ := act_list b (show b.tmps.size = 122 from hsz) hdf
            rw [hB]
            simp only [List.range, List.range.loop, List.map_cons, List.map_nil, f5, f6, f15, f16, f17, f18, f19, f20, f97]
            generalize sl b 0 = v0, sl b 1 = v1, sl b 2 = v2, sl b 3 = v3, sl b 4 = v4, sl b 7 = v7, sl b 8 = v8, sl b 9 = v9, sl b 10 = v10, sl b 11 = v11, sl b 12 = v12, sl b 13 = v13, sl b 14 = v14, sl b 21 = v21, sl b 22 = v22, sl b 23 = v23, sl b 24 = v24, sl b 25 = v25, sl b 26 = v26, sl b 27 = v27, sl b 28 = v28, sl b 29 = v29, sl b 30 = v30, sl b 31 = v31, sl b 32 = v32, sl b 33 = v33, sl b 34 = v34, sl b 35 = v35, sl b 36 = v36, sl b 37 = v37, sl b 38 = v38, sl b 39 = v39, sl b 40 = v40, sl b 41 = v41, sl b 42 = v42, sl b 43 = v43, sl b 44 = v44, sl b 45 = v45, sl b 46 = v46, sl b 47 = v47, sl b 48 = v48, sl b 49 = v49, sl b 50 = v50, sl b 51 = v51, sl b 52 = v52, sl b 53 = v53, sl b 54 = v54, sl b 55 = v55, sl b 56 = v56, sl b 57 = v57, sl b 58 = v58, sl b 59 = v59, sl b 60 = v60, sl b 61 = v61, sl b 62 = v62, sl b 63 = v63, sl b 64 = v64, sl b 65 = v65, sl b 66 = v66, sl b 67 = v67, sl b 68 = v68, sl b 69 = v69, sl b 70 = v70, sl b 71 = v71, sl b 72 = v72, sl b 73 = v73, sl b 74 = v74, sl b 75 = v75, sl b 76 = v76, sl b 77 = v77, sl b 78 = v78, sl b 79 = v79, sl b 80 = v80, sl b 81 = v81, sl b 82 = v82, sl b 83 = v83, sl b 84 = v84, sl b 85 = v85, sl b 86 = v86, sl b 87 = v87, sl b 88 = v88, sl b 89 = v89, sl b 90 = v90, sl b 91 = v91, sl b 92 = v92, sl b 93 = v93, sl b 94 = v94, sl b 95 = v95, sl b 96 = v96, sl b 98 = v98, sl b 99 = v99, sl b 100 = v100, sl b 101 = v101, sl b 102 = v102, sl b 103 = v103, sl b 104 = v104, sl b 105 = v105, sl b 106 = v106, sl b 107 = v107, sl b 108 = v108, sl b 109 = v109, sl b 110 = v110, sl b 111 = v111, sl b 112 = v112, sl b 113 = v113, sl b 114 = v114, sl b 115 = v115, sl b 116 = v116, sl b 117 = v117, sl b 118 = v118, sl b 119 = v119, sl b 120 = v120, sl b 121 = v121
            clear hB hold hsz hdf hF f5 f6 f15 f16 f17 f18 f19 f20 f97
            have p9 := p8.later hR
            have n9 := n8.later hR
            have u9 := u8.later hR
            have s19 := s18.later hR
            have s29 := s28.later hR
            have s39 := s38.later hR
            have s49 := s48.later hR
            have hW9 := fin hR hW8
            obtain ⟨pc0, pc1, pc2, pc3, pc4, pc5, pc6⟩ := p9.cells7
            clear hR kN
            go_upto_region 13 with fail
            have h9T : Below V9.heap.size V9 ((V9.alloc (.cells #[.string s0, .int .i64 sh, .int .i64 c1, .int .i64 m1, .slice (some ⟨V9.heap.size + 1, 0, none⟩) 1 1, .slice a2 bn q2, .bool al] 28)).alloc (.cells #[.string ⟨#[110, 111, 110, 101]⟩] 9)) := up (up (Below.refl _ _) _) _
            have nT := n9.later h9T
            have uT := u9.later h9T
            have qT : Box ((V9.alloc (.cells #[.string s0, .int .i64 sh, .int .i64 c1, .int .i64 m1, .slice (some ⟨V9.heap.size + 1, 0, none⟩) 1 1, .slice a2 bn q2, .bool al] 28)).alloc (.cells #[.string ⟨#[110, 111, 110, 101]⟩] 9)) V9.heap.size #[.string s0, .int .i64 sh, .int .i64 c1, .int .i64 m1, .slice (some ⟨V9.heap.size + 1, 0, none⟩) 1 1, .slice a2 bn q2, .bool al] 28 := (Box.new _ _ _ rfl).up _
            have sT : Box ((V9.alloc (.cells #[.string s0, .int .i64 sh, .int .i64 c1, .int .i64 m1, .slice (some ⟨V9.heap.size + 1, 0, none⟩) 1 1, .slice a2 bn q2, .bool al] 28)).alloc (.cells #[.string ⟨#[110, 111, 110, 101]⟩] 9)) (V9.heap.size + 1) #[.string ⟨#[110, 111, 110, 101]⟩] 9 := Box.new _ _ _ (by simp)
            have hWT := up (up hW9 (.cells #[.string s0, .int .i64 sh, .int .i64 c1, .int .i64 m1, .slice (some ⟨V9.heap.size + 1, 0, none⟩) 1 1, .slice a2 bn q2, .bool al] 28)) (.cells #[.string ⟨#[110, 111, 110, 101]⟩] 9)
            have s1T := s19.later h9T
            have s2T := s29.later h9T
            have s3T := s39.later h9T
            have s4T := s49.later h9T
            clear p9 n9 u9 s19 s29 s39 s49 h9T hW9 pc0 pc1 pc2 pc3 pc4 pc5 pc6
            generalize (V9.alloc (.cells #[.string s0, .int .i64 sh, .int .i64 c1, .int .i64 m1, .slice (some ⟨V9.heap.size + 1, 0, none⟩) 1 1, .slice a2 bn q2, .bool al] 28)).alloc (.cells #[.string ⟨#[110, 111, 110, 101]⟩] 9) = WT at *
            obtain ⟨QQ, hQQ⟩ : ∃ x, V9.heap.size = x := ⟨_, rfl⟩
            simp only [hQQ] at qT sT ⊢
            obtain ⟨S9, hS9⟩ : ∃ x, QQ + 1 = x := ⟨_, rfl⟩
            simp only [hS9] at qT sT ⊢
            clear hQQ hS9
            have hno := none_out hfour
            have sN : Strs WT (some ⟨S9, 0, none⟩) [⟨#[110, 111, 110, 101]⟩] := ⟨by simp, fun i hi => ⟨_, rfl, by
              simp only [List.length_singleton] at hi
              obtain rfl : i = 0 := by omega
              exact sT.cell rfl⟩⟩
            have zN : ∀ i, (([⟨#[110, 111, 110, 101]⟩] : List ByteArray).getD i ByteArray.empty).size ≤ maxLen := fun i => by
              cases i with
              | zero => exact (show (4 : Nat) ≤ 9223372036854775807 by decide)
              | succ i => simp
            obtain ⟨Rb, hRb⟩ : ∃ R, whyN cl false f2 f3 al l = R := ⟨_, rfl⟩
            have kT := fun g c W (hb : Below WT.heap.size WT W) (hp : Places W g l) => why_any s0 sh c1 m1 (some ⟨S9, 0, none⟩) 1 1 a2 bn q2 al t0 cc cm a3 xn q3 a4 yn q4 cl ua va g NN c [⟨#[110, 111, 110, 101]⟩] bs xs ys l false f2 f3 W rfl hbn hxn hyn hlen (sN.later hb) (s2T.later hb) (s3T.later hb) (s4T.later hb) hp zN z2 z3 z4 (by omega) (by omega) hno hf2 hf3
            simp only [hRb] at kT
            refine wp_region_rely (fun w1 => Below WT.heap.size WT w1) (fun w1 w2 => Below w1.heap.size w1 w2) (moreG s0 t0 sh c1 m1 cc cm ua va k1 k2 0 0 more Rb a0 a1 a2 a3 a4 pn q1 bn q2 xn q3 yn q4 P N U 0 S9 0 len0 cap0 NN l al cl) (by kernel_rfl) (by kernel_rfl) (Below.refl _ _).drew ?keep ?step ?rest
            case keep =>
              intro i v w1 w2 hS hF
              unfold moreG at *
              split at hF <;> try exact hF
              · obtain ⟨g, c, hv, hp, hn⟩ := hF
                exact ⟨g, c, hv, hp.later hS, hn⟩
            case step =>
              intro i o d ho hd b w1 hR hold hdep
              have o6 : sl b 6 = .slice a0 len0 cap0 := hold 6 (by kernel_rfl)
              have o16 : sl b 16 = .pointer (some ⟨N, 0, none⟩) := hold 16 (by kernel_rfl)
              have o17 : sl b 17 = .pointer (some ⟨U, 0, none⟩) := hold 17 (by kernel_rfl)
              have o21 : sl b 21 = .pointer (some ⟨QQ, 0, none⟩) := hold 21 (by kernel_rfl)
              have hb0 := Below.refl w1.heap.size w1
              obtain ⟨nc0, nc1, nc2, nc3, nc4, nc5⟩ := (nT.later hR).cells6
              obtain ⟨uc0, uc1⟩ := (uT.later hR).cells2
              obtain ⟨qc0, qc1, qc2, qc3, qc4, qc5, qc6⟩ := (qT.later hR).cells7
              rcases i with _ | _ | _ | _ | _ | _ | _ | i
              all_goals try (cases ho; cases hd)
              · exact ok_val' rfl rfl (want_none rfl b) (by simp [go_sem, o21, qc0, qc1, qc2, qc3, qc4, qc5, qc6]) hR hb0 rfl
              · exact ok_val' rfl rfl (want_none rfl b) (by simp [go_sem, o16, nc0, nc1, nc2, nc3, nc4, nc5]) hR hb0 rfl
              · exact ok_val' rfl rfl (want_none rfl b) (by simp [go_sem, o17, uc0, uc1]) hR hb0 rfl
              · exact ok_val' rfl rfl (want_none rfl b) (by simp [go_sem, o6]) hR hb0 rfl
              · have f104 : sl b 104 = .slice a0 len0 cap0 := hdep 3 _ _ rfl rfl (by kernel_rfl)
                refine ok_enter' rfl rfl (want_none rfl b) ?_ ((kb w1 (fin hR hWT)).mono ?_)
                · simp [go_sem, f104, cfbeside]
                rintro e w2 ⟨g, c, rfl, hp, hn, hb2⟩
                exact ⟨_, rfl, hR.trans (hb2.mono hR.size), hb2, g, c, rfl, hp, hn⟩
              · have f101 : sl b 101 = .agg #[.string s0, .int .i64 sh, .int .i64 c1, .int .i64 m1, .slice (some ⟨S9, 0, none⟩) 1 1, .slice a2 bn q2, .bool al] := hdep 0 _ _ rfl rfl (by kernel_rfl)
                have f102 : sl b 102 = .agg #[.string t0, .int .i64 cc, .int .i64 cm, .slice a3 xn q3, .slice a4 yn q4, .bool cl] := hdep 1 _ _ rfl rfl (by kernel_rfl)
                have f103 : sl b 103 = .agg #[.int .i64 ua, .int .i64 va] := hdep 2 _ _ rfl rfl (by kernel_rfl)
                obtain ⟨g4, c4, f105, g105⟩ : ∃ g c, sl b 105 = .slice g NN c ∧ (Places w1 g l ∧ (g = none → c = 0)) := hdep 4 _ _ rfl rfl (by kernel_rfl)
                refine ok_enter' rfl rfl (want_none rfl b) ?_ ((kT g4 c4 w1 hR g105.1).mono ?_)
                · simp [go_sem, f101, f102, f103, f105, cfWhy]
                rintro e w2 ⟨rfl, hb2⟩
                exact ⟨_, rfl, hR.trans (hb2.mono hR.size), hb2, rfl⟩
              · have f106 : sl b 106 = .int .i64 Rb := hdep 5 _ _ rfl rfl (by kernel_rfl)
                exact ok_val' rfl rfl (want_none rfl b) (by simp [go_sem, f106]) hR hb0 rfl
              · cases ho
            case rest =>
              intro b V3 hR hsz hdf hold hF
              have f6 : sl b 6 = .slice a0 len0 cap0 := hold 6 (by kernel_rfl)
              have f16 : sl b 16 = .pointer (some ⟨N, 0, none⟩) := hold 16 (by kernel_rfl)
              have f17 : sl b 17 = .pointer (some ⟨U, 0, none⟩) := hold 17 (by kernel_rfl)
              have f21 : sl b 21 = .pointer (some ⟨QQ, 0, none⟩) := hold 21 (by kernel_rfl)
              have f22 : sl b 22 = .int .i64 Rb := hF 6 _ _ rfl rfl
              have hB : b = _ := act_list b (show b.tmps.size = 122 from hsz) hdf
              rw [hB]
              simp only [List.range, List.range.loop, List.map_cons, List.map_nil, f6, f16, f17, f21, f22]
              generalize sl b 0 = v0, sl b 1 = v1, sl b 2 = v2, sl b 3 = v3, sl b 4 = v4, sl b 5 = v5, sl b 7 = v7, sl b 8 = v8, sl b 9 = v9, sl b 10 = v10, sl b 11 = v11, sl b 12 = v12, sl b 13 = v13, sl b 14 = v14, sl b 15 = v15, sl b 18 = v18, sl b 19 = v19, sl b 20 = v20, sl b 23 = v23, sl b 24 = v24, sl b 25 = v25, sl b 26 = v26, sl b 27 = v27, sl b 28 = v28, sl b 29 = v29, sl b 30 = v30, sl b 31 = v31, sl b 32 = v32, sl b 33 = v33, sl b 34 = v34, sl b 35 = v35, sl b 36 = v36, sl b 37 = v37, sl b 38 = v38, sl b 39 = v39, sl b 40 = v40, sl b 41 = v41, sl b 42 = v42, sl b 43 = v43, sl b 44 = v44, sl b 45 = v45, sl b 46 = v46, sl b 47 = v47, sl b 48 = v48, sl b 49 = v49, sl b 50 = v50, sl b 51 = v51, sl b 52 = v52, sl b 53 = v53, sl b 54 = v54, sl b 55 = v55, sl b 56 = v56, sl b 57 = v57, sl b 58 = v58, sl b 59 = v59, sl b 60 = v60, sl b 61 = v61, sl b 62 = v62, sl b 63 = v63, sl b 64 = v64, sl b 65 = v65, sl b 66 = v66, sl b 67 = v67, sl b 68 = v68, sl b 69 = v69, sl b 70 = v70, sl b 71 = v71, sl b 72 = v72, sl b 73 = v73, sl b 74 = v74, sl b 75 = v75, sl b 76 = v76, sl b 77 = v77, sl b 78 = v78, sl b 79 = v79, sl b 80 = v80, sl b 81 = v81, sl b 82 = v82, sl b 83 = v83, sl b 84 = v84, sl b 85 = v85, sl b 86 = v86, sl b 87 = v87, sl b 88 = v88, sl b 89 = v89, sl b 90 = v90, sl b 91 = v91, sl b 92 = v92, sl b 93 = v93, sl b 94 = v94, sl b 95 = v95, sl b 96 = v96, sl b 97 = v97, sl b 98 = v98, sl b 99 = v99, sl b 100 = v100, sl b 101 = v101, sl b 102 = v102, sl b 103 = v103, sl b 104 = v104, sl b 105 = v105, sl b 106 = v106, sl b 107 = v107, sl b 108 = v108, sl b 109 = v109, sl b 110 = v110, sl b 111 = v111, sl b 112 = v112, sl b 113 = v113, sl b 114 = v114, sl b 115 = v115, sl b 116 = v116, sl b 117 = v117, sl b 118 = v118, sl b 119 = v119, sl b 120 = v120, sl b 121 = v121
              clear hB hold hsz hdf hF f6 f16 f17 f21 f22
              obtain ⟨nc0, nc1, nc2, nc3, nc4, nc5⟩ := (nT.later hR).cells6
              cases cl
              · obtain rfl : Rb = 2 := by rw [← hRb]; rfl
                go_wp2
                go_ret
                exact ⟨rfl, fin hR hWT⟩
              · first
                | (cases hcl; done)
                | (obtain rfl : Rb = 1 := by rw [← hRb]; rfl
                   go_wp2
                   go_ret
                   exact ⟨rfl, fin hR hWT⟩)
end Go.Proofs.Ytdgeigkdplbdbaa
