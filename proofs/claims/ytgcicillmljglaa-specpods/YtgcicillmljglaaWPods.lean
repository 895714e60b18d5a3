/- The walk of SpecPods. -/
import Derived.Test.YtgcicillmljglaaLP
import Derived.Test.YtgcicillmljglaaON
namespace Go.Proofs.Ytgcicillmljglaa
open Go.RowKit Go.Maps
set_option linter.unusedSimpArgs false
set_option linter.unusedVariables false
attribute [local go_sem ↓] Go.wp_at_zero Go.wp_at_succ

theorem cf13 (args : Array Value) (w : World) : (callFunc 13 args).run Try.prog w = .ok (.enter 13 args) w := by kernel_rfl
theorem cf14 (args : Array Value) (w : World) : (callFunc 14 args).run Try.prog w = .ok (.enter 14 args) w := by kernel_rfl
theorem PBox.new (w : World) (s : ByteArray) (sh cpu mem : Int) (u v : Value) (al : Bool) : PBox (w.alloc (.cells #[.string s, .int .i64 sh, .int .i64 cpu, .int .i64 mem, u, v, .bool al] 26)) w.heap.size s sh cpu mem u v al := heap_alloc_new w _

theorem podNames : ∀ k : Fin 8, isName (podName k.val) = true ∧ (podName k.val).size ≤ 1000 := by decide +kernel

theorem pod_good {s : ByteArray} {sh cpu mem S : Int} {xs ys : List ByteArray} (hn : isName s = true) (hs : 1 ≤ sh ∧ sh ≤ S) (hc : 0 ≤ cpu ∧ cpu < 5 ∧ 0 ≤ mem ∧ mem < 5) (h1 : setB xs = true) (h2 : setB ys = true) : podE s sh cpu mem xs ys S = 0 := by
  have h3 : sizeB cpu mem = true := by unfold sizeB; simp; omega
  unfold podE
  rw [hn, h3, h1, h2, decide_eq_true hs.1, decide_eq_true hs.2]
  rfl

theorem few_parts {s : ByteArray} {xs ys : List ByteArray} (h : fewP s xs ys = true) : s.size ≤ 60 ∧ xs.length ≤ 10 ∧ (∀ t ∈ xs, t.size ≤ 1000) ∧ ys.length ≤ 10 ∧ (∀ t ∈ ys, t.size ≤ 1000) := by
  unfold fewP fewB at h
  simp only [Bool.and_eq_true, decide_eq_true_eq, List.all_eq_true] at h
  exact ⟨h.1.1, h.1.2.2, fun t ht => by have := h.1.2.1 t ht; omega, h.2.2, fun t ht => by have := h.2.1 t ht; omega⟩

theorem set_len {l : List ByteArray} (h : setB l = true) : l.length ≤ 4 := by
  unfold setB at h
  simp at h
  exact h.1
theorem strs_lit1 (w : World) (t : ByteArray) : Strs (w.alloc (.cells #[.string t] 9)) (some ⟨w.heap.size, 0, none⟩) [t] :=
  ⟨by simp, fun i hi => ⟨_, rfl, by
    have : i = 0 := by simp at hi; omega
    subst this
    simp [Addr.add]⟩⟩

def podsF (raw pod : Value) (S eN : Int) : Nat → Value → World → Prop
  | 0, v, _ => v = raw
  | 1, v, _ => v = .int .i64 S
  | 2, v, _ => v = .int .i64 eN
  | 3, v, _ => v = raw
  | 4, v, _ => v = .int .i64 S
  | 5, v, _ => v = .int .i64 eN
  | 6, v, _ => v = .bool false
  | 7, v, _ => v = .bool false
  | 8, v, _ => v = pod
  | 9, v, _ => v = .int .i64 S
  | 10, v, _ => v = .int .i64 0
  | 11, v, _ => v = .bool false
  | 12, v, _ => v = .bool false
  | _, _, _ => True

def podsG (pod : Value) (S eX : Int) : Nat → Value → World → Prop
  | 0, v, _ => v = pod
  | 1, v, _ => v = .int .i64 S
  | 2, v, _ => v = .int .i64 eX
  | 3, v, _ => v = pod
  | 4, v, _ => v = .int .i64 S
  | 5, v, _ => v = .int .i64 eX
  | 6, v, _ => v = .bool true
  | 7, v, _ => v = .bool true
  | _, _, _ => True

def abcde : List ByteArray := [⟨#[97]⟩, ⟨#[98]⟩, ⟨#[99]⟩, ⟨#[100]⟩, ⟨#[101]⟩]
theorem strs_abc (w : World) (B m : Nat) (hm : m ≤ 5) (h : w.heap.size = B) : Strs (w.alloc (.cells #[.string ⟨#[97]⟩, .string ⟨#[98]⟩, .string ⟨#[99]⟩, .string ⟨#[100]⟩, .string ⟨#[101]⟩] 9)) (some ⟨B, 0, none⟩) (abcde.take m) := by
  subst h
  refine ⟨by simp [abcde]; omega, fun i hi => ⟨_, rfl, ?_⟩⟩
  have hi' : i < m := by simp [abcde] at hi; omega
  rcases (by omega : i = 0 ∨ i = 1 ∨ i = 2 ∨ i = 3 ∨ i = 4) with rfl | rfl | rfl | rfl | rfl <;> simp [Addr.add, abcde, List.getElem?_take, hi']

set_option maxRecDepth 100000 in
set_option maxHeartbeats 4000000 in
theorem last_pods {Q : Exit → Act → World → Prop} {pp0 : String} (nm : ByteArray) (s1 cx mx : Int) (ax : Bool) (p1 : Option Addr) (na q1 : Nat) (us : List ByteArray) (p2 : Option Addr) (nb q2 : Nat) (vs : List ByteArray) (S : Int) (B : Nat) (a : Act) (W : World) (hsz0 : a.tmps.size = 105) (h13 : sl a 13 = .int .i64 S) (h14 : sl a 14 = .pointer (some ⟨B, 0, none⟩))
    (hX : PBox W B nm s1 cx mx (.slice p1 na q1) (.slice p2 nb q2) ax) (hA : Strs W p1 us) (hB : Strs W p2 vs) (e1 : us.length = na) (e2 : vs.length = nb) (hs : nm.size ≤ maxLen) (z1 : ∀ s ∈ us, s.size ≤ 1000) (z2 : ∀ s ∈ vs, s.size ≤ 1000)
    (hQ : ∀ b w', Below W.heap.size W w' → b.defers = a.defers → b.tmps.size = 105 → sl b 12 = .bool true → Q .normal b w') :
    Code.wp Try.prog (Code.region 22 #[{ dst := some 98, op := Op.load 26 (Operand.tmp 14), type := 26, pos := pp0, after := #[], guard := none }, { dst := some 99, op := Op.move (Operand.tmp 13), type := 3, pos := pp0, after := #[], guard := none }, { dst := some 100, op := Op.call { callee := Callee.value (Operand.func 13), args := #[Operand.tmp 98, Operand.tmp 99], argTypes := #[26, 3] }, type := 32, pos := pp0, after := #[{ on := 0, ground := Ground.data }, { on := 1, ground := Ground.data }], guard := none }, { dst := some 101, op := Op.load 26 (Operand.tmp 14), type := 26, pos := pp0, after := #[], guard := none }, { dst := some 102, op := Op.move (Operand.tmp 13), type := 3, pos := pp0, after := #[], guard := none }, { dst := some 103, op := Op.call { callee := Callee.value (Operand.func 14), args := #[Operand.tmp 101, Operand.tmp 102], argTypes := #[26, 3] }, type := 3, pos := pp0, after := #[{ on := 3, ground := Ground.data }, { on := 4, ground := Ground.data }, { on := 2, ground := Ground.chain }], guard := none }, { dst := some 104, op := Op.binOp BinOp.eql 3 (Operand.tmp 100) (Operand.tmp 103) 3, type := 4, pos := pp0, after := #[{ on := 2, ground := Ground.data }, { on := 5, ground := Ground.data }], guard := none }, { dst := some 12, op := Op.assign (Operand.tmp 104), type := 4, pos := pp0, after := #[{ on := 6, ground := Ground.data }, { on := 5, ground := Ground.chain }, { on := 0, ground := Ground.phase }, { on := 1, ground := Ground.phase }, { on := 2, ground := Ground.phase }, { on := 3, ground := Ground.phase }, { on := 4, ground := Ground.phase }, { on := 5, ground := Ground.phase }, { on := 6, ground := Ground.phase }], guard := none }] true) Q a W := by
  have kN := fun W' (h : Below W.heap.size W W') => pod_any nm s1 cx mx p1 p2 na nb q1 q2 ax us vs S W' (hA.later h) (hB.later h) e1 e2
  have kR := fun W' (h : Below W.heap.size W W') => rPod_any nm s1 cx mx p1 p2 na nb q1 q2 ax us vs S W' (hA.later h) (hB.later h) e1 e2 hs z1 z2
  obtain ⟨eX, heX⟩ : ∃ e, podE nm s1 cx mx us vs S = e := ⟨_, rfl⟩
  rw [heX] at kN kR
  refine wp_region_rely (fun w1 => Below W.heap.size W w1) (fun w1 w2 => Below w1.heap.size w1 w2) (podsG (.agg #[.string nm, .int .i64 s1, .int .i64 cx, .int .i64 mx, .slice p1 na q1, .slice p2 nb q2, .bool ax]) S eX) (by kernel_rfl) (by rw [hsz0]; kernel_rfl) (Below.refl _ _).drew ?keep ?step ?rest
  case keep =>
    intro i v w1 w2 hS hF
    unfold podsG at *
    split at hF <;> try exact hF
  case step =>
    intro i o d ho hd b w1 hR hold hdep
    have o13 : sl b 13 = .int .i64 S := (hold 13 (by kernel_rfl)).trans h13
    have o14 : sl b 14 = .pointer (some ⟨B, 0, none⟩) := (hold 14 (by kernel_rfl)).trans h14
    have hb0 := Below.refl w1.heap.size w1
    obtain ⟨m0, m1, m2, m3, m4, m5, m6⟩ := (hX.later hR).cells
    rcases i with _ | _ | _ | _ | _ | _ | _ | _ | i
    all_goals try (cases ho; cases hd)
    · exact ok_val' rfl rfl (want_none rfl b) (by simp [go_sem, o14, m0, m1, m2, m3, m4, m5, m6]) hR hb0 rfl
    · exact ok_val' rfl rfl (want_none rfl b) (by simp [go_sem, o13]) hR hb0 rfl
    · have f98 : sl b 98 = .agg #[.string nm, .int .i64 s1, .int .i64 cx, .int .i64 mx, .slice p1 na q1, .slice p2 nb q2, .bool ax] := hdep 0 _ _ rfl rfl (by kernel_rfl)
      have f99 : sl b 99 = .int .i64 S := hdep 1 _ _ rfl rfl (by kernel_rfl)
      refine ok_enter' rfl rfl (want_none rfl b) ?_ ((kN w1 hR).mono ?_)
      · simp [go_sem, f98, f99, cf13]
      rintro e w2 ⟨rfl, hb2⟩
      exact ⟨_, rfl, hR.trans (hb2.mono hR.size), hb2, rfl⟩
    · exact ok_val' rfl rfl (want_none rfl b) (by simp [go_sem, o14, m0, m1, m2, m3, m4, m5, m6]) hR hb0 rfl
    · exact ok_val' rfl rfl (want_none rfl b) (by simp [go_sem, o13]) hR hb0 rfl
    · have f101 : sl b 101 = .agg #[.string nm, .int .i64 s1, .int .i64 cx, .int .i64 mx, .slice p1 na q1, .slice p2 nb q2, .bool ax] := hdep 3 _ _ rfl rfl (by kernel_rfl)
      have f102 : sl b 102 = .int .i64 S := hdep 4 _ _ rfl rfl (by kernel_rfl)
      refine ok_enter' rfl rfl (want_none rfl b) ?_ ((kR w1 hR).mono ?_)
      · simp [go_sem, f101, f102, cf14]
      rintro e w2 ⟨rfl, hb2⟩
      exact ⟨_, rfl, hR.trans (hb2.mono hR.size), hb2, rfl⟩
    · have f100 : sl b 100 = .int .i64 eX := hdep 2 _ _ rfl rfl (by kernel_rfl)
      have f103 : sl b 103 = .int .i64 eX := hdep 5 _ _ rfl rfl (by kernel_rfl)
      exact ok_val' rfl rfl (want_none rfl b) (by simp [go_sem, f100, f103]) hR hb0 rfl
    · have f104 : sl b 104 = .bool true := hdep 6 _ _ rfl rfl (by kernel_rfl)
      exact ok_val' rfl rfl (want_none rfl b) (by simp [go_sem, f104]) hR hb0 rfl
    · cases ho
  case rest =>
    intro b w1 hR hsz hdf hold hF
    have f13 : sl b 13 = .int .i64 S := (hold 13 (by kernel_rfl)).trans h13
    have f14 : sl b 14 = .pointer (some ⟨B, 0, none⟩) := (hold 14 (by kernel_rfl)).trans h14
    have f12 : sl b 12 = .bool true := hF 7 _ _ rfl rfl
    exact hQ b w1 hR hdf (hsz.trans hsz0) f12

set_option maxRecDepth 100000 in
set_option maxHeartbeats 8000000 in
theorem specPods_walk (s : ByteArray) (shard cpu mem : Int) (a1 : Option Addr) (n1 c1 : Nat) (xs : List ByteArray) (a2 : Option Addr) (n2 c2 : Nat) (ys : List ByteArray) (al : Bool) (n sh wh k : Int) (a5 : Option Addr) (len5 cap5 : Nat) (z5 : List Int) (w : World)
    (_hs : s.size ≤ maxLen) (e1 : xs.length = n1) (i1 : StrsIn w a1 xs) (e2 : ys.length = n2) (i2 : StrsIn w a2 ys) (w5 : IsRow .i64 w a5 len5 cap5 z5) :
    Calls Try.prog 3 #[.agg #[.string s, .int .i64 shard, .int .i64 cpu, .int .i64 mem, .slice a1 n1 c1, .slice a2 n2 c2, .bool al], .int .i64 n, .int .i64 sh, .int .i64 wh, .int .i64 k, .slice a5 len5 cap5] w fun e w' => e = .returned (.bool true) ∧ Below w.heap.size w w' := by
  replace w5 := w5.has
  have h0 := up (Below.refl w.heap.size w) (.cells #[.string s, .int .i64 shard, .int .i64 cpu, .int .i64 mem, .slice a1 n1 c1, .slice a2 n2 c2, .bool al] 26)
  obtain ⟨few, hfew⟩ : ∃ b, fewP s xs ys = b := ⟨_, rfl⟩
  have kF := fun W (h : Below w.heap.size w W) => fewPod_any s shard cpu mem a1 a2 n1 n2 c1 c2 al xs ys W (i1.later h) (i2.later h) e1 e2
  rw [hfew] at kF
  cases few
  · go_enter Try.func3, Try.ntmps3
    go_wp2_with (first
      | (go_at_call 9; refine (known_on _ _ (Below.refl _ _)).mono ?_; rintro e w1 ⟨rfl, hb1⟩
         have hR1 : PBox w1 w.heap.size _ _ _ _ _ _ _ := PBox.later (PBox.new w _ _ _ _ _ _ _) hb1
         obtain ⟨r0, r1, r2, r3, r4, r5, r6⟩ := hR1.cells
         have b1 := h0.trans (hb1.mono h0.size))
      | (go_at_call 10; refine (kF _ b1).mono ?_; rintro e w2 ⟨rfl, hb2⟩))
    go_ret
    exact ⟨rfl, b1.trans (hb2.mono b1.size)⟩
  · obtain ⟨hs60, hx10, hxs, hy10, hys⟩ := few_parts hfew
    have hsm : s.size ≤ maxLen := by unfold maxLen; omega
    obtain ⟨r, hr⟩ : ∃ r, sh % 4 = r := ⟨_, rfl⟩
    obtain ⟨S, hS⟩ : ∃ S, 1 + r = S := ⟨_, rfl⟩
    have hS1 : 1 ≤ S ∧ S ≤ 4 := by omega
    have kN := fun W (h : Below w.heap.size w W) => pod_any s shard cpu mem a1 a2 n1 n2 c1 c2 al xs ys S W ((i1.later h).few hx10) ((i2.later h).few hy10) e1 e2
    have kR := fun W (h : Below w.heap.size w W) => rPod_any s shard cpu mem a1 a2 n1 n2 c1 c2 al xs ys S W ((i1.later h).few hx10) ((i2.later h).few hy10) e1 e2 hsm hxs hys
    obtain ⟨eN, heN⟩ : ∃ e, podE s shard cpu mem xs ys S = e := ⟨_, rfl⟩
    rw [heN] at kN kR
    have kL := fun W => lPod_is 0 n S W (by decide) (by omega) (by omega)
    obtain ⟨hng, hns⟩ := podNames 0
    obtain ⟨nm, hnm⟩ : ∃ s, podName 0 = s := ⟨_, rfl⟩
    obtain ⟨us, hus⟩ : ∃ l, podPicks n = l := ⟨_, rfl⟩
    obtain ⟨vs, hvs⟩ : ∃ l, podBears n = l := ⟨_, rfl⟩
    obtain ⟨ax, hax⟩ : ∃ b, (wrap64 (n.tdiv 13) % 6 == 0) = b := ⟨_, rfl⟩
    obtain ⟨s1, hs1⟩ : ∃ z, 1 + n % S = z := ⟨_, rfl⟩
    obtain ⟨cx, hcx⟩ : ∃ z, wrap64 (n.tdiv 4) % 5 = z := ⟨_, rfl⟩
    obtain ⟨mx, hmx⟩ : ∃ z, wrap64 (n.tdiv 20) % 5 = z := ⟨_, rfl⟩
    have hs1b : 1 ≤ s1 ∧ s1 ≤ S := by
      have := Int.emod_nonneg n (show S ≠ 0 by omega)
      have := Int.emod_lt_of_pos n (show 0 < S by omega)
      omega
    have hcb : 0 ≤ cx ∧ cx < 5 ∧ 0 ≤ mx ∧ mx < 5 := by omega
    rw [hnm, hus, hvs, hax, hs1, hcx, hmx] at kL
    change isName (podName 0) = true at hng
    change (podName 0).size ≤ 1000 at hns
    rw [hnm] at hng hns
    clear i1 i2 e1 e2 hfew hxs hys heN hnm hus hvs hax hs1 hcx hmx
    have kS := fun W => within_any sh 4 r (by decide) (by decide) hr W
    have hSw : Hid (1 + r = S) := hS
    clear hr
    go_enter Try.func3, Try.ntmps3
    go_wp2_with (first
      | (go_at_call 9; refine (known_on _ _ (Below.refl _ _)).mono ?_; rintro e w1 ⟨rfl, hb1⟩
         have hR1 : PBox w1 w.heap.size _ _ _ _ _ _ _ := PBox.later (PBox.new w _ _ _ _ _ _ _) hb1
         obtain ⟨r0, r1, r2, r3, r4, r5, r6⟩ := hR1.cells
         have b1 := h0.trans (hb1.mono h0.size))
      | (go_at_call 10; refine (kF _ b1).mono ?_; rintro e w2 ⟨rfl, hb2⟩
         have hR2 := hR1.later hb2
         have b2 := b1.trans (hb2.mono b1.size))
      | (go_at_call 11; refine (kS _).mono ?_; rintro e w2 ⟨rfl, rfl⟩)
      | (go_at_call 12; refine (kL _).mono ?_; rintro e w3 ⟨p1, q1, p2, q2, rfl, hg1, hg2, hb3⟩
         have hR3 := hR2.later hb3
         have b3 := b2.trans (hb3.mono b2.size)
         obtain ⟨t0, t1, t2, t3, t4, t5, t6⟩ := hR3.cells
         have hlt3 := hR3.lt))
    have hX := PBox.new w3 nm s1 cx mx (.slice p1 us.length q1) (.slice p2 vs.length q2) ax
    have b4 := up b3 (.cells #[.string nm, .int .i64 s1, .int .i64 cx, .int .i64 mx, .slice p1 us.length q1, .slice p2 vs.length q2, .bool ax] 26)
    have d4 := up (Below.refl w3.heap.size w3) (.cells #[.string nm, .int .i64 s1, .int .i64 cx, .int .i64 mx, .slice p1 us.length q1, .slice p2 vs.length q2, .bool ax] 26)
    have hR4 := hR3.later d4
    obtain ⟨W4, hW4⟩ : ∃ W4, W4 = w3.alloc (.cells #[.string nm, .int .i64 s1, .int .i64 cx, .int .i64 mx, .slice p1 us.length q1, .slice p2 vs.length q2, .bool ax] 26) := ⟨_, rfl⟩
    rw [← hW4] at hX b4 d4 hR4 ⊢
    have hW4s : W4.heap.size = w3.heap.size + 1 := by rw [hW4]; simp
    have hlt4 : w.heap.size < W4.heap.size := by omega
    have hltX : w3.heap.size < W4.heap.size := by omega
    have hne1 : ∀ x, p1 = some x → x.block ≠ w3.heap.size := fun x hx e => by have := (hg1.new.2.1 x hx).2; omega
    have hne2 : ∀ x, p2 = some x → x.block ≠ w3.heap.size := fun x hx e => by have := (hg2.new.2.1 x hx).2; omega
    replace hg1 := hg1.later d4
    replace hg2 := hg2.later d4
    have kN' := fun W (h : Below W4.heap.size W4 W) => kN W (b4.trans (h.mono b4.size))
    have kR' := fun W (h : Below W4.heap.size W4 W) => kR W (b4.trans (h.mono b4.size))
    have kX' := fun W (h : Below W4.heap.size W4 W) => pod_any nm s1 cx mx p1 p2 us.length vs.length q1 q2 ax us vs S W (hg1.new.1.later h) (hg2.new.1.later h) rfl rfl
    rw [pod_good hng hs1b hcb hg1.set hg2.set] at kX'
    clear hW4 hR3 r0 r1 r2 r3 r4 r5 r6 t0 t1 t2 t3 t4 t5 t6 d4 kN kR kF kL hb3 h0 b1 b2 b3 hR1 hR2 kS
    refine wp_region_rely (fun w1 => Below W4.heap.size W4 w1) (fun w1 w2 => Below w1.heap.size w1 w2) (podsF (.agg #[.string s, .int .i64 shard, .int .i64 cpu, .int .i64 mem, .slice a1 n1 c1, .slice a2 n2 c2, .bool al]) (.agg #[.string nm, .int .i64 s1, .int .i64 cx, .int .i64 mx, .slice p1 us.length q1, .slice p2 vs.length q2, .bool ax]) S eN) (by kernel_rfl) (by kernel_rfl) (Below.refl _ _).drew ?keep ?step ?rest
    case keep =>
      intro i v w1 w2 hS hF
      unfold podsF at *
      split at hF <;> try exact hF
    case step =>
      intro i o d ho hd b w1 hR hold hdep
      have l6 : sl b 6 = .pointer (some ⟨w.heap.size, 0, none⟩) := hold 6 (by kernel_rfl)
      have l13 : sl b 13 = .int .i64 S := hold 13 (by kernel_rfl)
      have l14 : sl b 14 = .pointer (some ⟨w3.heap.size, 0, none⟩) := hold 14 (by kernel_rfl)
      have hb0 := Below.refl w1.heap.size w1
      obtain ⟨m0, m1, m2, m3, m4, m5, m6⟩ := (hR4.later hR).cells
      obtain ⟨o0, o1, o2, o3, o4, o5, o6⟩ := (hX.later hR).cells
      rcases i with _ | _ | _ | _ | _ | _ | _ | _ | _ | _ | _ | _ | _ | i
      all_goals try (cases ho; cases hd)
      · exact ok_val' rfl rfl (want_none rfl b) (by simp [go_sem, l6, m0, m1, m2, m3, m4, m5, m6]) hR hb0 rfl
      · exact ok_val' rfl rfl (want_none rfl b) (by simp [go_sem, l13]) hR hb0 rfl
      · have f26 : sl b 26 = .agg #[.string s, .int .i64 shard, .int .i64 cpu, .int .i64 mem, .slice a1 n1 c1, .slice a2 n2 c2, .bool al] := hdep 0 _ _ rfl rfl (by kernel_rfl)
        have f27 : sl b 27 = .int .i64 S := hdep 1 _ _ rfl rfl (by kernel_rfl)
        refine ok_enter' rfl rfl (want_none rfl b) ?_ ((kN' w1 hR).mono ?_)
        · simp [go_sem, f26, f27, cf13]
        rintro e w2 ⟨rfl, hb2⟩
        exact ⟨_, rfl, hR.trans (hb2.mono hR.size), hb2, rfl⟩
      · exact ok_val' rfl rfl (want_none rfl b) (by simp [go_sem, l6, m0, m1, m2, m3, m4, m5, m6]) hR hb0 rfl
      · exact ok_val' rfl rfl (want_none rfl b) (by simp [go_sem, l13]) hR hb0 rfl
      · have f29 : sl b 29 = .agg #[.string s, .int .i64 shard, .int .i64 cpu, .int .i64 mem, .slice a1 n1 c1, .slice a2 n2 c2, .bool al] := hdep 3 _ _ rfl rfl (by kernel_rfl)
        have f30 : sl b 30 = .int .i64 S := hdep 4 _ _ rfl rfl (by kernel_rfl)
        refine ok_enter' rfl rfl (want_none rfl b) ?_ ((kR' w1 hR).mono ?_)
        · simp [go_sem, f29, f30, cf14]
        rintro e w2 ⟨rfl, hb2⟩
        exact ⟨_, rfl, hR.trans (hb2.mono hR.size), hb2, rfl⟩
      · have f28 : sl b 28 = .int .i64 eN := hdep 2 _ _ rfl rfl (by kernel_rfl)
        have f31 : sl b 31 = .int .i64 eN := hdep 5 _ _ rfl rfl (by kernel_rfl)
        exact ok_val' rfl rfl (want_none rfl b) (by simp [go_sem, f28, f31]) hR hb0 rfl
      · have f32 : sl b 32 = .bool false := hdep 6 _ _ rfl rfl (by kernel_rfl)
        exact ok_val' rfl rfl (want_none rfl b) (by simp [go_sem, f32]) hR hb0 rfl
      · have f33 : sl b 33 = .bool false := hdep 7 _ _ rfl rfl (by kernel_rfl)
        exact ok_val' rfl rfl (want 7 33 rfl rfl f33) (by simp [go_sem, l14, o0, o1, o2, o3, o4, o5, o6]) hR hb0 rfl
      · have f33 : sl b 33 = .bool false := hdep 7 _ _ rfl rfl (by kernel_rfl)
        exact ok_val' rfl rfl (want 7 33 rfl rfl f33) (by simp [go_sem, l13]) hR hb0 rfl
      · have f34 : sl b 34 = .agg #[.string nm, .int .i64 s1, .int .i64 cx, .int .i64 mx, .slice p1 us.length q1, .slice p2 vs.length q2, .bool ax] := hdep 8 _ _ rfl rfl (by kernel_rfl)
        have f35 : sl b 35 = .int .i64 S := hdep 9 _ _ rfl rfl (by kernel_rfl)
        have f33 : sl b 33 = .bool false := hdep 7 _ _ rfl rfl (by kernel_rfl)
        refine ok_enter' rfl rfl (want 7 33 rfl rfl f33) ?_ ((kX' w1 hR).mono ?_)
        · simp [go_sem, f34, f35, cf13]
        rintro e w2 ⟨rfl, hb2⟩
        exact ⟨_, rfl, hR.trans (hb2.mono hR.size), hb2, rfl⟩
      · have f36 : sl b 36 = .int .i64 0 := hdep 10 _ _ rfl rfl (by kernel_rfl)
        have f33 : sl b 33 = .bool false := hdep 7 _ _ rfl rfl (by kernel_rfl)
        exact ok_val' rfl rfl (want 7 33 rfl rfl f33) (by simp [go_sem, f36]) hR hb0 rfl
      · have f33 : sl b 33 = .bool false := hdep 7 _ _ rfl rfl (by kernel_rfl)
        have f37 : sl b 37 = .bool false := hdep 11 _ _ rfl rfl (by kernel_rfl)
        exact ok_val' rfl rfl (want_none rfl b) (by simp [go_sem, f33, f37]) hR hb0 rfl
      · cases ho
    case rest =>
      intro b w1 hR hsz hdf hold hF
      have f6 : sl b 6 = .pointer (some ⟨w.heap.size, 0, none⟩) := hold 6 (by kernel_rfl)
      have f13 : sl b 13 = .int .i64 S := hold 13 (by kernel_rfl)
      have f14 : sl b 14 = .pointer (some ⟨w3.heap.size, 0, none⟩) := hold 14 (by kernel_rfl)
      have f38 : sl b 38 = .bool false := hF 12 _ _ rfl rfl
      have hB : b = _ := act_list b (show b.tmps.size = 105 from hsz) hdf
      have f1 : sl b 1 = .int .i64 n := hold 1 (by kernel_rfl)
      have f2 : sl b 2 = .int .i64 sh := hold 2 (by kernel_rfl)
      have f3 : sl b 3 = .int .i64 wh := hold 3 (by kernel_rfl)
      have f4 : sl b 4 = .int .i64 k := hold 4 (by kernel_rfl)
      have f5 : sl b 5 = .slice a5 len5 cap5 := hold 5 (by kernel_rfl)
      rw [hB]
      simp only [List.range, List.range.loop, List.map_cons, List.map_nil, f6, f13, f14, f38, f1, f2, f3, f4, f5]
      generalize sl b 0 = v0, sl b 7 = v7, sl b 8 = v8, sl b 9 = v9, sl b 10 = v10, sl b 11 = v11, sl b 12 = v12, sl b 15 = v15, sl b 16 = v16, sl b 17 = v17, sl b 18 = v18, sl b 19 = v19, sl b 20 = v20, sl b 21 = v21, sl b 22 = v22, sl b 23 = v23, sl b 24 = v24, sl b 25 = v25, sl b 26 = v26, sl b 27 = v27, sl b 28 = v28, sl b 29 = v29, sl b 30 = v30, sl b 31 = v31, sl b 32 = v32, sl b 33 = v33, sl b 34 = v34, sl b 35 = v35, sl b 36 = v36, sl b 37 = v37, sl b 39 = v39, sl b 40 = v40, sl b 41 = v41, sl b 42 = v42, sl b 43 = v43, sl b 44 = v44, sl b 45 = v45, sl b 46 = v46, sl b 47 = v47, sl b 48 = v48, sl b 49 = v49, sl b 50 = v50, sl b 51 = v51, sl b 52 = v52, sl b 53 = v53, sl b 54 = v54, sl b 55 = v55, sl b 56 = v56, sl b 57 = v57, sl b 58 = v58, sl b 59 = v59, sl b 60 = v60, sl b 61 = v61, sl b 62 = v62, sl b 63 = v63, sl b 64 = v64, sl b 65 = v65, sl b 66 = v66, sl b 67 = v67, sl b 68 = v68, sl b 69 = v69, sl b 70 = v70, sl b 71 = v71, sl b 72 = v72, sl b 73 = v73, sl b 74 = v74, sl b 75 = v75, sl b 76 = v76, sl b 77 = v77, sl b 78 = v78, sl b 79 = v79, sl b 80 = v80, sl b 81 = v81, sl b 82 = v82, sl b 83 = v83, sl b 84 = v84, sl b 85 = v85, sl b 86 = v86, sl b 87 = v87, sl b 88 = v88, sl b 89 = v89, sl b 90 = v90, sl b 91 = v91, sl b 92 = v92, sl b 93 = v93, sl b 94 = v94, sl b 95 = v95, sl b 96 = v96, sl b 97 = v97, sl b 98 = v98, sl b 99 = v99, sl b 100 = v100, sl b 101 = v101, sl b 102 = v102, sl b 103 = v103, sl b 104 = v104
      clear hB hold hsz hdf hF f6 f13 f14 f38 f1 f2 f3 f4 f5
      have hX7 := hX.later hR
      have hG1 := hg1.later hR
      have hG2 := hg2.later hR
      have B7 := b4.trans (hR.mono b4.size)
      have l7 := hR.size
      clear hX hg1 hg2 b4 hR kN' kR' kX' hR4
      skip
      have hSS : IntKind.i64.wrap (S + 1) = S + 1 := IntWalk.i64_in _ (by omega)
      clear hS hSw
      obtain ⟨q, hq⟩ : ∃ q, wh % 6 = q := ⟨_, rfl⟩
      have kW := fun W => within_any wh 6 q (by decide) (by decide) hq W
      rcases (by omega : q = 0 ∨ q = 1 ∨ q = 2 ∨ q = 3 ∨ q = 4 ∨ q = 5) with rfl | rfl | rfl | rfl | rfl | rfl
      all_goals clear hq
      · go_wp2_with (first
          | (go_at_call 11; refine (kW _).mono ?_; rintro e w7 ⟨rfl, rfl⟩)
          | (go_at_call 15; refine (text_on a5 len5 cap5 z5 w7 w7 (w5.later B7) (Below.refl _ _)).mono ?_; rintro e w8 ⟨t, rfl, ht, hb8⟩
             have hX8 := hX7.later hb8
             have x8 := hX8.cells.1
             have z8 := hX8.frozen 0))
        have B9 := (B7.trans (hb8.mono B7.size)).setCell (p := ⟨w3.heap.size, 0, none⟩) (by have := B7.size; simp; omega) (.string t)
        refine last_pods (t) (s1) (cx) (mx) ax (p1) (us.length) (q1) (us) (p2) (vs.length) (q2) (vs) S w3.heap.size _ _ rfl rfl rfl (hX8.set0 t) (strs_grown (hG1.new.1.later hb8) (grown_set _ _ _ _) (fun x hx e => hne1 x hx (Option.some.inj e))) (strs_grown (hG2.new.1.later hb8) (grown_set _ _ _ _) (fun x hx e => hne2 x hx (Option.some.inj e))) rfl rfl (by unfold maxLen; omega) hG1.short hG2.short ?_
        intro b wb hbb hdf hsz h12
        go_wp2
        exact bodyPost_ret (by simp [results, Try.results3, go_sem, h12]) hdf ⟨rfl, B9.trans (hbb.mono B9.size)⟩
      · obtain ⟨j, hj⟩ : ∃ j, k % 4 = j := ⟨_, rfl⟩
        have x7 := hX7.cells.2.1
        have z7 := hX7.frozen 1
        have lX7 := hX7.lt
        have kj := fun W => within_any k 4 j (by decide) (by decide) hj W
        rcases (by omega : j = 0 ∨ j = 1 ∨ j = 2 ∨ j = 3) with rfl | rfl | rfl | rfl
        all_goals clear hj
        · go_wp2_with (first
            | (go_at_call_of 11 (Value.int .i64 wh); refine (kW _).mono ?_; rintro e w7 ⟨rfl, rfl⟩)
            | (go_at_call_of 11 (Value.int .i64 k); refine (kj _).mono ?_; rintro e w8 ⟨rfl, rfl⟩))
          have B9 := up (B7.setCell (p := ⟨w3.heap.size, 1, none⟩) (by have := B7.size; simp; omega) (.int .i64 (0))) (.cells #[.int .i64 0, .int .i64 S, .int .i64 (S + 1), .int .i64 k] 3)
          refine last_pods (nm) (0) (cx) (mx) ax (p1) (us.length) (q1) (us) (p2) (vs.length) (q2) (vs) S w3.heap.size _ _ rfl rfl rfl ((hX7.set1 (0)).later (up (Below.refl _ _) _)) ((strs_grown hG1.new.1 (grown_set _ _ _ _) (fun x hx e => hne1 x hx (Option.some.inj e))).later (up (Below.refl _ _) _)) ((strs_grown hG2.new.1 (grown_set _ _ _ _) (fun x hx e => hne2 x hx (Option.some.inj e))).later (up (Below.refl _ _) _)) rfl rfl (by unfold maxLen; omega) hG1.short hG2.short ?_
          intro b wb hbb hdf hsz h12
          go_wp2
          exact bodyPost_ret (by simp [results, Try.results3, go_sem, h12]) hdf ⟨rfl, B9.trans (hbb.mono B9.size)⟩
        · go_wp2_with (first
            | (go_at_call_of 11 (Value.int .i64 wh); refine (kW _).mono ?_; rintro e w7 ⟨rfl, rfl⟩)
            | (go_at_call_of 11 (Value.int .i64 k); refine (kj _).mono ?_; rintro e w8 ⟨rfl, rfl⟩))
          have B9 := up (B7.setCell (p := ⟨w3.heap.size, 1, none⟩) (by have := B7.size; simp; omega) (.int .i64 (S))) (.cells #[.int .i64 0, .int .i64 S, .int .i64 (S + 1), .int .i64 k] 3)
          refine last_pods (nm) (S) (cx) (mx) ax (p1) (us.length) (q1) (us) (p2) (vs.length) (q2) (vs) S w3.heap.size _ _ rfl rfl rfl ((hX7.set1 (S)).later (up (Below.refl _ _) _)) ((strs_grown hG1.new.1 (grown_set _ _ _ _) (fun x hx e => hne1 x hx (Option.some.inj e))).later (up (Below.refl _ _) _)) ((strs_grown hG2.new.1 (grown_set _ _ _ _) (fun x hx e => hne2 x hx (Option.some.inj e))).later (up (Below.refl _ _) _)) rfl rfl (by unfold maxLen; omega) hG1.short hG2.short ?_
          intro b wb hbb hdf hsz h12
          go_wp2
          exact bodyPost_ret (by simp [results, Try.results3, go_sem, h12]) hdf ⟨rfl, B9.trans (hbb.mono B9.size)⟩
        · go_wp2_with (first
            | (go_at_call_of 11 (Value.int .i64 wh); refine (kW _).mono ?_; rintro e w7 ⟨rfl, rfl⟩)
            | (go_at_call_of 11 (Value.int .i64 k); refine (kj _).mono ?_; rintro e w8 ⟨rfl, rfl⟩))
          have B9 := up (B7.setCell (p := ⟨w3.heap.size, 1, none⟩) (by have := B7.size; simp; omega) (.int .i64 (S + 1))) (.cells #[.int .i64 0, .int .i64 S, .int .i64 (S + 1), .int .i64 k] 3)
          refine last_pods (nm) (S + 1) (cx) (mx) ax (p1) (us.length) (q1) (us) (p2) (vs.length) (q2) (vs) S w3.heap.size _ _ rfl rfl rfl ((hX7.set1 (S + 1)).later (up (Below.refl _ _) _)) ((strs_grown hG1.new.1 (grown_set _ _ _ _) (fun x hx e => hne1 x hx (Option.some.inj e))).later (up (Below.refl _ _) _)) ((strs_grown hG2.new.1 (grown_set _ _ _ _) (fun x hx e => hne2 x hx (Option.some.inj e))).later (up (Below.refl _ _) _)) rfl rfl (by unfold maxLen; omega) hG1.short hG2.short ?_
          intro b wb hbb hdf hsz h12
          go_wp2
          exact bodyPost_ret (by simp [results, Try.results3, go_sem, h12]) hdf ⟨rfl, B9.trans (hbb.mono B9.size)⟩
        · go_wp2_with (first
            | (go_at_call_of 11 (Value.int .i64 wh); refine (kW _).mono ?_; rintro e w7 ⟨rfl, rfl⟩)
            | (go_at_call_of 11 (Value.int .i64 k); refine (kj _).mono ?_; rintro e w8 ⟨rfl, rfl⟩))
          have B9 := up (B7.setCell (p := ⟨w3.heap.size, 1, none⟩) (by have := B7.size; simp; omega) (.int .i64 (k))) (.cells #[.int .i64 0, .int .i64 S, .int .i64 (S + 1), .int .i64 k] 3)
          refine last_pods (nm) (k) (cx) (mx) ax (p1) (us.length) (q1) (us) (p2) (vs.length) (q2) (vs) S w3.heap.size _ _ rfl rfl rfl ((hX7.set1 (k)).later (up (Below.refl _ _) _)) ((strs_grown hG1.new.1 (grown_set _ _ _ _) (fun x hx e => hne1 x hx (Option.some.inj e))).later (up (Below.refl _ _) _)) ((strs_grown hG2.new.1 (grown_set _ _ _ _) (fun x hx e => hne2 x hx (Option.some.inj e))).later (up (Below.refl _ _) _)) rfl rfl (by unfold maxLen; omega) hG1.short hG2.short ?_
          intro b wb hbb hdf hsz h12
          go_wp2
          exact bodyPost_ret (by simp [results, Try.results3, go_sem, h12]) hdf ⟨rfl, B9.trans (hbb.mono B9.size)⟩
      · obtain ⟨j, hj⟩ : ∃ j, k % 5 = j := ⟨_, rfl⟩
        have kj := fun W => within_any k 5 j (by decide) (by decide) hj W
        rcases (by omega : j = 0 ∨ j = 1 ∨ j = 2 ∨ j = 3 ∨ j = 4) with rfl | rfl | rfl | rfl | rfl
        all_goals clear hj
        · go_wp2_with (first
            | (go_at_call_of 11 (Value.int .i64 wh); refine (kW _).mono ?_; rintro e w7 ⟨rfl, rfl⟩)
            | (go_at_call_of 11 (Value.int .i64 k); refine (kj _).mono ?_; rintro e w8 ⟨rfl, rfl⟩)
            | (go_at_call 16; refine (edge_on k w7 w7 (Below.refl _ _)).mono ?_; rintro e w8 ⟨z, rfl, hb8⟩
               have hX8 := hX7.later hb8
               have x8 := hX8.cells.2.2.1
               have z8 := hX8.frozen 2
               have lX8 := hX8.lt))
          have B9 := up ((B7.trans (hb8.mono B7.size)).setCell (p := ⟨w3.heap.size, 2, none⟩) (by have := B7.size; simp; omega) (.int .i64 (-1))) (.cells #[.int .i64 (-1), .int .i64 0, .int .i64 1099511627776, .int .i64 1099511627777, .int .i64 z] 3)
          refine last_pods (nm) (s1) ((-1)) (mx) ax (p1) (us.length) (q1) (us) (p2) (vs.length) (q2) (vs) S w3.heap.size _ _ rfl rfl rfl ((hX8.set2 (-1)).later (up (Below.refl _ _) _)) ((strs_grown (hG1.new.1.later hb8) (grown_set _ _ _ _) (fun x hx e => hne1 x hx (Option.some.inj e))).later (up (Below.refl _ _) _)) ((strs_grown (hG2.new.1.later hb8) (grown_set _ _ _ _) (fun x hx e => hne2 x hx (Option.some.inj e))).later (up (Below.refl _ _) _)) rfl rfl (by unfold maxLen; omega) hG1.short hG2.short ?_
          intro b wb hbb hdf hsz h12
          go_wp2
          exact bodyPost_ret (by simp [results, Try.results3, go_sem, h12]) hdf ⟨rfl, B9.trans (hbb.mono B9.size)⟩
        · go_wp2_with (first
            | (go_at_call_of 11 (Value.int .i64 wh); refine (kW _).mono ?_; rintro e w7 ⟨rfl, rfl⟩)
            | (go_at_call_of 11 (Value.int .i64 k); refine (kj _).mono ?_; rintro e w8 ⟨rfl, rfl⟩)
            | (go_at_call 16; refine (edge_on k w7 w7 (Below.refl _ _)).mono ?_; rintro e w8 ⟨z, rfl, hb8⟩
               have hX8 := hX7.later hb8
               have x8 := hX8.cells.2.2.1
               have z8 := hX8.frozen 2
               have lX8 := hX8.lt))
          have B9 := up ((B7.trans (hb8.mono B7.size)).setCell (p := ⟨w3.heap.size, 2, none⟩) (by have := B7.size; simp; omega) (.int .i64 (0))) (.cells #[.int .i64 (-1), .int .i64 0, .int .i64 1099511627776, .int .i64 1099511627777, .int .i64 z] 3)
          refine last_pods (nm) (s1) ((0)) (mx) ax (p1) (us.length) (q1) (us) (p2) (vs.length) (q2) (vs) S w3.heap.size _ _ rfl rfl rfl ((hX8.set2 (0)).later (up (Below.refl _ _) _)) ((strs_grown (hG1.new.1.later hb8) (grown_set _ _ _ _) (fun x hx e => hne1 x hx (Option.some.inj e))).later (up (Below.refl _ _) _)) ((strs_grown (hG2.new.1.later hb8) (grown_set _ _ _ _) (fun x hx e => hne2 x hx (Option.some.inj e))).later (up (Below.refl _ _) _)) rfl rfl (by unfold maxLen; omega) hG1.short hG2.short ?_
          intro b wb hbb hdf hsz h12
          go_wp2
          exact bodyPost_ret (by simp [results, Try.results3, go_sem, h12]) hdf ⟨rfl, B9.trans (hbb.mono B9.size)⟩
        · go_wp2_with (first
            | (go_at_call_of 11 (Value.int .i64 wh); refine (kW _).mono ?_; rintro e w7 ⟨rfl, rfl⟩)
            | (go_at_call_of 11 (Value.int .i64 k); refine (kj _).mono ?_; rintro e w8 ⟨rfl, rfl⟩)
            | (go_at_call 16; refine (edge_on k w7 w7 (Below.refl _ _)).mono ?_; rintro e w8 ⟨z, rfl, hb8⟩
               have hX8 := hX7.later hb8
               have x8 := hX8.cells.2.2.1
               have z8 := hX8.frozen 2
               have lX8 := hX8.lt))
          have B9 := up ((B7.trans (hb8.mono B7.size)).setCell (p := ⟨w3.heap.size, 2, none⟩) (by have := B7.size; simp; omega) (.int .i64 (1099511627776))) (.cells #[.int .i64 (-1), .int .i64 0, .int .i64 1099511627776, .int .i64 1099511627777, .int .i64 z] 3)
          refine last_pods (nm) (s1) ((1099511627776)) (mx) ax (p1) (us.length) (q1) (us) (p2) (vs.length) (q2) (vs) S w3.heap.size _ _ rfl rfl rfl ((hX8.set2 (1099511627776)).later (up (Below.refl _ _) _)) ((strs_grown (hG1.new.1.later hb8) (grown_set _ _ _ _) (fun x hx e => hne1 x hx (Option.some.inj e))).later (up (Below.refl _ _) _)) ((strs_grown (hG2.new.1.later hb8) (grown_set _ _ _ _) (fun x hx e => hne2 x hx (Option.some.inj e))).later (up (Below.refl _ _) _)) rfl rfl (by unfold maxLen; omega) hG1.short hG2.short ?_
          intro b wb hbb hdf hsz h12
          go_wp2
          exact bodyPost_ret (by simp [results, Try.results3, go_sem, h12]) hdf ⟨rfl, B9.trans (hbb.mono B9.size)⟩
        · go_wp2_with (first
            | (go_at_call_of 11 (Value.int .i64 wh); refine (kW _).mono ?_; rintro e w7 ⟨rfl, rfl⟩)
            | (go_at_call_of 11 (Value.int .i64 k); refine (kj _).mono ?_; rintro e w8 ⟨rfl, rfl⟩)
            | (go_at_call 16; refine (edge_on k w7 w7 (Below.refl _ _)).mono ?_; rintro e w8 ⟨z, rfl, hb8⟩
               have hX8 := hX7.later hb8
               have x8 := hX8.cells.2.2.1
               have z8 := hX8.frozen 2
               have lX8 := hX8.lt))
          have B9 := up ((B7.trans (hb8.mono B7.size)).setCell (p := ⟨w3.heap.size, 2, none⟩) (by have := B7.size; simp; omega) (.int .i64 (1099511627777))) (.cells #[.int .i64 (-1), .int .i64 0, .int .i64 1099511627776, .int .i64 1099511627777, .int .i64 z] 3)
          refine last_pods (nm) (s1) ((1099511627777)) (mx) ax (p1) (us.length) (q1) (us) (p2) (vs.length) (q2) (vs) S w3.heap.size _ _ rfl rfl rfl ((hX8.set2 (1099511627777)).later (up (Below.refl _ _) _)) ((strs_grown (hG1.new.1.later hb8) (grown_set _ _ _ _) (fun x hx e => hne1 x hx (Option.some.inj e))).later (up (Below.refl _ _) _)) ((strs_grown (hG2.new.1.later hb8) (grown_set _ _ _ _) (fun x hx e => hne2 x hx (Option.some.inj e))).later (up (Below.refl _ _) _)) rfl rfl (by unfold maxLen; omega) hG1.short hG2.short ?_
          intro b wb hbb hdf hsz h12
          go_wp2
          exact bodyPost_ret (by simp [results, Try.results3, go_sem, h12]) hdf ⟨rfl, B9.trans (hbb.mono B9.size)⟩
        · go_wp2_with (first
            | (go_at_call_of 11 (Value.int .i64 wh); refine (kW _).mono ?_; rintro e w7 ⟨rfl, rfl⟩)
            | (go_at_call_of 11 (Value.int .i64 k); refine (kj _).mono ?_; rintro e w8 ⟨rfl, rfl⟩)
            | (go_at_call 16; refine (edge_on k w7 w7 (Below.refl _ _)).mono ?_; rintro e w8 ⟨z, rfl, hb8⟩
               have hX8 := hX7.later hb8
               have x8 := hX8.cells.2.2.1
               have z8 := hX8.frozen 2
               have lX8 := hX8.lt))
          have B9 := up ((B7.trans (hb8.mono B7.size)).setCell (p := ⟨w3.heap.size, 2, none⟩) (by have := B7.size; simp; omega) (.int .i64 (z))) (.cells #[.int .i64 (-1), .int .i64 0, .int .i64 1099511627776, .int .i64 1099511627777, .int .i64 z] 3)
          refine last_pods (nm) (s1) ((z)) (mx) ax (p1) (us.length) (q1) (us) (p2) (vs.length) (q2) (vs) S w3.heap.size _ _ rfl rfl rfl ((hX8.set2 (z)).later (up (Below.refl _ _) _)) ((strs_grown (hG1.new.1.later hb8) (grown_set _ _ _ _) (fun x hx e => hne1 x hx (Option.some.inj e))).later (up (Below.refl _ _) _)) ((strs_grown (hG2.new.1.later hb8) (grown_set _ _ _ _) (fun x hx e => hne2 x hx (Option.some.inj e))).later (up (Below.refl _ _) _)) rfl rfl (by unfold maxLen; omega) hG1.short hG2.short ?_
          intro b wb hbb hdf hsz h12
          go_wp2
          exact bodyPost_ret (by simp [results, Try.results3, go_sem, h12]) hdf ⟨rfl, B9.trans (hbb.mono B9.size)⟩
      · obtain ⟨j, hj⟩ : ∃ j, k % 5 = j := ⟨_, rfl⟩
        have kj := fun W => within_any k 5 j (by decide) (by decide) hj W
        rcases (by omega : j = 0 ∨ j = 1 ∨ j = 2 ∨ j = 3 ∨ j = 4) with rfl | rfl | rfl | rfl | rfl
        all_goals clear hj
        · go_wp2_with (first
            | (go_at_call_of 11 (Value.int .i64 wh); refine (kW _).mono ?_; rintro e w7 ⟨rfl, rfl⟩)
            | (go_at_call_of 11 (Value.int .i64 k); refine (kj _).mono ?_; rintro e w8 ⟨rfl, rfl⟩)
            | (go_at_call 16; refine (edge_on k w7 w7 (Below.refl _ _)).mono ?_; rintro e w8 ⟨z, rfl, hb8⟩
               have hX8 := hX7.later hb8
               have x8 := hX8.cells.2.2.2.1
               have z8 := hX8.frozen 3
               have lX8 := hX8.lt))
          have B9 := up ((B7.trans (hb8.mono B7.size)).setCell (p := ⟨w3.heap.size, 3, none⟩) (by have := B7.size; simp; omega) (.int .i64 (-1))) (.cells #[.int .i64 (-1), .int .i64 0, .int .i64 1099511627776, .int .i64 1099511627777, .int .i64 z] 3)
          refine last_pods (nm) (s1) (cx) ((-1)) ax (p1) (us.length) (q1) (us) (p2) (vs.length) (q2) (vs) S w3.heap.size _ _ rfl rfl rfl ((hX8.set3 (-1)).later (up (Below.refl _ _) _)) ((strs_grown (hG1.new.1.later hb8) (grown_set _ _ _ _) (fun x hx e => hne1 x hx (Option.some.inj e))).later (up (Below.refl _ _) _)) ((strs_grown (hG2.new.1.later hb8) (grown_set _ _ _ _) (fun x hx e => hne2 x hx (Option.some.inj e))).later (up (Below.refl _ _) _)) rfl rfl (by unfold maxLen; omega) hG1.short hG2.short ?_
          intro b wb hbb hdf hsz h12
          go_wp2
          exact bodyPost_ret (by simp [results, Try.results3, go_sem, h12]) hdf ⟨rfl, B9.trans (hbb.mono B9.size)⟩
        · go_wp2_with (first
            | (go_at_call_of 11 (Value.int .i64 wh); refine (kW _).mono ?_; rintro e w7 ⟨rfl, rfl⟩)
            | (go_at_call_of 11 (Value.int .i64 k); refine (kj _).mono ?_; rintro e w8 ⟨rfl, rfl⟩)
            | (go_at_call 16; refine (edge_on k w7 w7 (Below.refl _ _)).mono ?_; rintro e w8 ⟨z, rfl, hb8⟩
               have hX8 := hX7.later hb8
               have x8 := hX8.cells.2.2.2.1
               have z8 := hX8.frozen 3
               have lX8 := hX8.lt))
          have B9 := up ((B7.trans (hb8.mono B7.size)).setCell (p := ⟨w3.heap.size, 3, none⟩) (by have := B7.size; simp; omega) (.int .i64 (0))) (.cells #[.int .i64 (-1), .int .i64 0, .int .i64 1099511627776, .int .i64 1099511627777, .int .i64 z] 3)
          refine last_pods (nm) (s1) (cx) ((0)) ax (p1) (us.length) (q1) (us) (p2) (vs.length) (q2) (vs) S w3.heap.size _ _ rfl rfl rfl ((hX8.set3 (0)).later (up (Below.refl _ _) _)) ((strs_grown (hG1.new.1.later hb8) (grown_set _ _ _ _) (fun x hx e => hne1 x hx (Option.some.inj e))).later (up (Below.refl _ _) _)) ((strs_grown (hG2.new.1.later hb8) (grown_set _ _ _ _) (fun x hx e => hne2 x hx (Option.some.inj e))).later (up (Below.refl _ _) _)) rfl rfl (by unfold maxLen; omega) hG1.short hG2.short ?_
          intro b wb hbb hdf hsz h12
          go_wp2
          exact bodyPost_ret (by simp [results, Try.results3, go_sem, h12]) hdf ⟨rfl, B9.trans (hbb.mono B9.size)⟩
        · go_wp2_with (first
            | (go_at_call_of 11 (Value.int .i64 wh); refine (kW _).mono ?_; rintro e w7 ⟨rfl, rfl⟩)
            | (go_at_call_of 11 (Value.int .i64 k); refine (kj _).mono ?_; rintro e w8 ⟨rfl, rfl⟩)
            | (go_at_call 16; refine (edge_on k w7 w7 (Below.refl _ _)).mono ?_; rintro e w8 ⟨z, rfl, hb8⟩
               have hX8 := hX7.later hb8
               have x8 := hX8.cells.2.2.2.1
               have z8 := hX8.frozen 3
               have lX8 := hX8.lt))
          have B9 := up ((B7.trans (hb8.mono B7.size)).setCell (p := ⟨w3.heap.size, 3, none⟩) (by have := B7.size; simp; omega) (.int .i64 (1099511627776))) (.cells #[.int .i64 (-1), .int .i64 0, .int .i64 1099511627776, .int .i64 1099511627777, .int .i64 z] 3)
          refine last_pods (nm) (s1) (cx) ((1099511627776)) ax (p1) (us.length) (q1) (us) (p2) (vs.length) (q2) (vs) S w3.heap.size _ _ rfl rfl rfl ((hX8.set3 (1099511627776)).later (up (Below.refl _ _) _)) ((strs_grown (hG1.new.1.later hb8) (grown_set _ _ _ _) (fun x hx e => hne1 x hx (Option.some.inj e))).later (up (Below.refl _ _) _)) ((strs_grown (hG2.new.1.later hb8) (grown_set _ _ _ _) (fun x hx e => hne2 x hx (Option.some.inj e))).later (up (Below.refl _ _) _)) rfl rfl (by unfold maxLen; omega) hG1.short hG2.short ?_
          intro b wb hbb hdf hsz h12
          go_wp2
          exact bodyPost_ret (by simp [results, Try.results3, go_sem, h12]) hdf ⟨rfl, B9.trans (hbb.mono B9.size)⟩
        · go_wp2_with (first
            | (go_at_call_of 11 (Value.int .i64 wh); refine (kW _).mono ?_; rintro e w7 ⟨rfl, rfl⟩)
            | (go_at_call_of 11 (Value.int .i64 k); refine (kj _).mono ?_; rintro e w8 ⟨rfl, rfl⟩)
            | (go_at_call 16; refine (edge_on k w7 w7 (Below.refl _ _)).mono ?_; rintro e w8 ⟨z, rfl, hb8⟩
               have hX8 := hX7.later hb8
               have x8 := hX8.cells.2.2.2.1
               have z8 := hX8.frozen 3
               have lX8 := hX8.lt))
          have B9 := up ((B7.trans (hb8.mono B7.size)).setCell (p := ⟨w3.heap.size, 3, none⟩) (by have := B7.size; simp; omega) (.int .i64 (1099511627777))) (.cells #[.int .i64 (-1), .int .i64 0, .int .i64 1099511627776, .int .i64 1099511627777, .int .i64 z] 3)
          refine last_pods (nm) (s1) (cx) ((1099511627777)) ax (p1) (us.length) (q1) (us) (p2) (vs.length) (q2) (vs) S w3.heap.size _ _ rfl rfl rfl ((hX8.set3 (1099511627777)).later (up (Below.refl _ _) _)) ((strs_grown (hG1.new.1.later hb8) (grown_set _ _ _ _) (fun x hx e => hne1 x hx (Option.some.inj e))).later (up (Below.refl _ _) _)) ((strs_grown (hG2.new.1.later hb8) (grown_set _ _ _ _) (fun x hx e => hne2 x hx (Option.some.inj e))).later (up (Below.refl _ _) _)) rfl rfl (by unfold maxLen; omega) hG1.short hG2.short ?_
          intro b wb hbb hdf hsz h12
          go_wp2
          exact bodyPost_ret (by simp [results, Try.results3, go_sem, h12]) hdf ⟨rfl, B9.trans (hbb.mono B9.size)⟩
        · go_wp2_with (first
            | (go_at_call_of 11 (Value.int .i64 wh); refine (kW _).mono ?_; rintro e w7 ⟨rfl, rfl⟩)
            | (go_at_call_of 11 (Value.int .i64 k); refine (kj _).mono ?_; rintro e w8 ⟨rfl, rfl⟩)
            | (go_at_call 16; refine (edge_on k w7 w7 (Below.refl _ _)).mono ?_; rintro e w8 ⟨z, rfl, hb8⟩
               have hX8 := hX7.later hb8
               have x8 := hX8.cells.2.2.2.1
               have z8 := hX8.frozen 3
               have lX8 := hX8.lt))
          have B9 := up ((B7.trans (hb8.mono B7.size)).setCell (p := ⟨w3.heap.size, 3, none⟩) (by have := B7.size; simp; omega) (.int .i64 (z))) (.cells #[.int .i64 (-1), .int .i64 0, .int .i64 1099511627776, .int .i64 1099511627777, .int .i64 z] 3)
          refine last_pods (nm) (s1) (cx) ((z)) ax (p1) (us.length) (q1) (us) (p2) (vs.length) (q2) (vs) S w3.heap.size _ _ rfl rfl rfl ((hX8.set3 (z)).later (up (Below.refl _ _) _)) ((strs_grown (hG1.new.1.later hb8) (grown_set _ _ _ _) (fun x hx e => hne1 x hx (Option.some.inj e))).later (up (Below.refl _ _) _)) ((strs_grown (hG2.new.1.later hb8) (grown_set _ _ _ _) (fun x hx e => hne2 x hx (Option.some.inj e))).later (up (Below.refl _ _) _)) rfl rfl (by unfold maxLen; omega) hG1.short hG2.short ?_
          intro b wb hbb hdf hsz h12
          go_wp2
          exact bodyPost_ret (by simp [results, Try.results3, go_sem, h12]) hdf ⟨rfl, B9.trans (hbb.mono B9.size)⟩
      · have x7 := hX7.cells.2.2.2.2.1
        have hus : us.length ≤ 4 := set_len hG1.set
        have own0 : (w1.alloc (.cells #[] 9)).ownsRow w1.heap.size 9 1 (.slice (some ⟨w1.heap.size, 0, none⟩) 0 0) 0 (([] : List ByteArray).map Value.string) := World.ownsRow_lit w1 #[] 0 (Nat.le_refl _) (Nat.zero_le _) rfl
        have lX7 := hX7.lt
        go_wp2_with (first
          | (go_at_call 11; refine (kW _).mono ?_; rintro e w7 ⟨rfl, rfl⟩)
          | (at_builtin; refine append_strs rfl _ _ rfl w7.heap.size _ 0 [] rfl own0 p1 us.length q1 us rfl (hG1.new.1.later (up (Below.refl _ _) _)) rfl hG1.new.2.2.1 (by simp) (by simp) ?_; intro v1 w8 own1 gr1
             have B8 : Below w7.heap.size w7 w8 := (up (Below.refl _ _) _).grown gr1 (by simp) (fun j hj => by cases hj; exact Nat.le_refl _)
             replace own1 : w8.ownsRow w7.heap.size 9 1 v1 us.length (us.map Value.string) := by simpa using own1)
          | (go_at_call 15; refine (text_on a5 len5 cap5 z5 w8 w8 (w5.later (B7.trans (B8.mono B7.size))) (Below.refl _ _)).mono ?_; rintro e w9 ⟨t, rfl, ht, hb9⟩
             have B9a := B8.trans (hb9.mono B8.size)
             have own2 := own_keep own1 hb9)
          | (at_builtin; refine append_strs rfl _ _ rfl w7.heap.size _ us.length us rfl (own2.alloc _) (some ⟨_, 0, none⟩) 1 1 [t] rfl (strs_lit1 _ _) rfl (fun h => by cases h) (by omega) (by have := B9a.size; simp; omega) ?_; intro v2 w10 own3 gr3
             have B10 : Below w7.heap.size w7 w10 := (up B9a _).grown gr3 (up B9a _).size (fun j hj => (own2.lt j hj).1)
             obtain ⟨a10, c10, hv10, hN10⟩ := newStrs_of_own own3 (by simp; omega)
             rw [List.length_append] at hv10
             subst hv10
             have hX10 := hX7.later B10
             have x10 := hX10.cells.2.2.2.2.1
             have z10 := hX10.frozen 4)
          | go_in)
        have hne3 : ∀ x, a10 = some x → x.block ≠ w3.heap.size := fun x hx e => by have := (hN10.2.1 x hx).1; omega
        have B9 := (B7.trans (B10.mono B7.size)).setCell (p := ⟨w3.heap.size, 4, none⟩) (by have := B7.size; simp; omega) (.slice a10 (us.length + 1) c10)
        refine last_pods (nm) (s1) (cx) (mx) ax (a10) (us.length + 1) (c10) (us ++ [t]) (p2) (vs.length) (q2) (vs) S w3.heap.size _ _ rfl rfl rfl (hX10.set4 _) (strs_grown hN10.1 (grown_set _ _ _ _) (fun x hx e => hne3 x hx (Option.some.inj e))) (strs_grown (hG2.new.1.later B10) (grown_set _ _ _ _) (fun x hx e => hne2 x hx (Option.some.inj e))) (by simp) rfl (by unfold maxLen; omega) (fun s hs => by rcases List.mem_append.1 hs with h | h; exact hG1.short s h; simp at h; subst h; omega) hG2.short ?_
        intro b wb hbb hdf hsz h12
        go_wp2
        exact bodyPost_ret (by simp [results, Try.results3, go_sem, h12]) hdf ⟨rfl, B9.trans (hbb.mono B9.size)⟩
      · obtain ⟨j, hj⟩ : ∃ j, k % 6 = j := ⟨_, rfl⟩
        have x7 := hX7.cells.2.2.2.2.2.1
        have z7 := hX7.frozen 5
        have lX7 := hX7.lt
        have kj := fun W => within_any k 6 j (by decide) (by decide) hj W
        rcases (by omega : j = 0 ∨ j = 1 ∨ j = 2 ∨ j = 3 ∨ j = 4 ∨ j = 5) with rfl | rfl | rfl | rfl | rfl | rfl
        all_goals clear hj
        · go_wp2_with (first
            | (go_at_call_of 11 (Value.int .i64 wh); refine (kW _).mono ?_; rintro e w7 ⟨rfl, rfl⟩)
            | (go_at_call_of 11 (Value.int .i64 k); refine (kj _).mono ?_; rintro e w7 ⟨rfl, rfl⟩))
          have B9 := up (B7.setCell (p := ⟨w3.heap.size, 5, none⟩) (by have := B7.size; simp; omega) (.slice (some ⟨w7.heap.size, 0, none⟩) 0 5)) (.cells #[.string ⟨#[97]⟩, .string ⟨#[98]⟩, .string ⟨#[99]⟩, .string ⟨#[100]⟩, .string ⟨#[101]⟩] 9)
          refine last_pods (nm) (s1) (cx) (mx) ax (p1) (us.length) (q1) (us) (some ⟨w7.heap.size, 0, none⟩) (0) (5) ([]) S w3.heap.size _ _ rfl rfl rfl ((hX7.set5 _).later (up (Below.refl _ _) _)) ((strs_grown hG1.new.1 (grown_set _ _ _ _) (fun x hx e => hne1 x hx (Option.some.inj e))).later (up (Below.refl _ _) _)) (strs_abc _ _ 0 (by decide) (by simp)) rfl rfl (by unfold maxLen; omega) hG1.short (by decide) ?_
          intro b wb hbb hdf hsz h12
          go_wp2
          exact bodyPost_ret (by simp [results, Try.results3, go_sem, h12]) hdf ⟨rfl, B9.trans (hbb.mono B9.size)⟩
        · go_wp2_with (first
            | (go_at_call_of 11 (Value.int .i64 wh); refine (kW _).mono ?_; rintro e w7 ⟨rfl, rfl⟩)
            | (go_at_call_of 11 (Value.int .i64 k); refine (kj _).mono ?_; rintro e w7 ⟨rfl, rfl⟩))
          have B9 := up (B7.setCell (p := ⟨w3.heap.size, 5, none⟩) (by have := B7.size; simp; omega) (.slice (some ⟨w7.heap.size, 0, none⟩) 1 5)) (.cells #[.string ⟨#[97]⟩, .string ⟨#[98]⟩, .string ⟨#[99]⟩, .string ⟨#[100]⟩, .string ⟨#[101]⟩] 9)
          refine last_pods (nm) (s1) (cx) (mx) ax (p1) (us.length) (q1) (us) (some ⟨w7.heap.size, 0, none⟩) (1) (5) ([⟨#[97]⟩]) S w3.heap.size _ _ rfl rfl rfl ((hX7.set5 _).later (up (Below.refl _ _) _)) ((strs_grown hG1.new.1 (grown_set _ _ _ _) (fun x hx e => hne1 x hx (Option.some.inj e))).later (up (Below.refl _ _) _)) (strs_abc _ _ 1 (by decide) (by simp)) rfl rfl (by unfold maxLen; omega) hG1.short (by decide) ?_
          intro b wb hbb hdf hsz h12
          go_wp2
          exact bodyPost_ret (by simp [results, Try.results3, go_sem, h12]) hdf ⟨rfl, B9.trans (hbb.mono B9.size)⟩
        · go_wp2_with (first
            | (go_at_call_of 11 (Value.int .i64 wh); refine (kW _).mono ?_; rintro e w7 ⟨rfl, rfl⟩)
            | (go_at_call_of 11 (Value.int .i64 k); refine (kj _).mono ?_; rintro e w7 ⟨rfl, rfl⟩))
          have B9 := up (B7.setCell (p := ⟨w3.heap.size, 5, none⟩) (by have := B7.size; simp; omega) (.slice (some ⟨w7.heap.size, 0, none⟩) 2 5)) (.cells #[.string ⟨#[97]⟩, .string ⟨#[98]⟩, .string ⟨#[99]⟩, .string ⟨#[100]⟩, .string ⟨#[101]⟩] 9)
          refine last_pods (nm) (s1) (cx) (mx) ax (p1) (us.length) (q1) (us) (some ⟨w7.heap.size, 0, none⟩) (2) (5) ([⟨#[97]⟩, ⟨#[98]⟩]) S w3.heap.size _ _ rfl rfl rfl ((hX7.set5 _).later (up (Below.refl _ _) _)) ((strs_grown hG1.new.1 (grown_set _ _ _ _) (fun x hx e => hne1 x hx (Option.some.inj e))).later (up (Below.refl _ _) _)) (strs_abc _ _ 2 (by decide) (by simp)) rfl rfl (by unfold maxLen; omega) hG1.short (by decide) ?_
          intro b wb hbb hdf hsz h12
          go_wp2
          exact bodyPost_ret (by simp [results, Try.results3, go_sem, h12]) hdf ⟨rfl, B9.trans (hbb.mono B9.size)⟩
        · go_wp2_with (first
            | (go_at_call_of 11 (Value.int .i64 wh); refine (kW _).mono ?_; rintro e w7 ⟨rfl, rfl⟩)
            | (go_at_call_of 11 (Value.int .i64 k); refine (kj _).mono ?_; rintro e w7 ⟨rfl, rfl⟩))
          have B9 := up (B7.setCell (p := ⟨w3.heap.size, 5, none⟩) (by have := B7.size; simp; omega) (.slice (some ⟨w7.heap.size, 0, none⟩) 3 5)) (.cells #[.string ⟨#[97]⟩, .string ⟨#[98]⟩, .string ⟨#[99]⟩, .string ⟨#[100]⟩, .string ⟨#[101]⟩] 9)
          refine last_pods (nm) (s1) (cx) (mx) ax (p1) (us.length) (q1) (us) (some ⟨w7.heap.size, 0, none⟩) (3) (5) ([⟨#[97]⟩, ⟨#[98]⟩, ⟨#[99]⟩]) S w3.heap.size _ _ rfl rfl rfl ((hX7.set5 _).later (up (Below.refl _ _) _)) ((strs_grown hG1.new.1 (grown_set _ _ _ _) (fun x hx e => hne1 x hx (Option.some.inj e))).later (up (Below.refl _ _) _)) (strs_abc _ _ 3 (by decide) (by simp)) rfl rfl (by unfold maxLen; omega) hG1.short (by decide) ?_
          intro b wb hbb hdf hsz h12
          go_wp2
          exact bodyPost_ret (by simp [results, Try.results3, go_sem, h12]) hdf ⟨rfl, B9.trans (hbb.mono B9.size)⟩
        · go_wp2_with (first
            | (go_at_call_of 11 (Value.int .i64 wh); refine (kW _).mono ?_; rintro e w7 ⟨rfl, rfl⟩)
            | (go_at_call_of 11 (Value.int .i64 k); refine (kj _).mono ?_; rintro e w7 ⟨rfl, rfl⟩))
          have B9 := up (B7.setCell (p := ⟨w3.heap.size, 5, none⟩) (by have := B7.size; simp; omega) (.slice (some ⟨w7.heap.size, 0, none⟩) 4 5)) (.cells #[.string ⟨#[97]⟩, .string ⟨#[98]⟩, .string ⟨#[99]⟩, .string ⟨#[100]⟩, .string ⟨#[101]⟩] 9)
          refine last_pods (nm) (s1) (cx) (mx) ax (p1) (us.length) (q1) (us) (some ⟨w7.heap.size, 0, none⟩) (4) (5) ([⟨#[97]⟩, ⟨#[98]⟩, ⟨#[99]⟩, ⟨#[100]⟩]) S w3.heap.size _ _ rfl rfl rfl ((hX7.set5 _).later (up (Below.refl _ _) _)) ((strs_grown hG1.new.1 (grown_set _ _ _ _) (fun x hx e => hne1 x hx (Option.some.inj e))).later (up (Below.refl _ _) _)) (strs_abc _ _ 4 (by decide) (by simp)) rfl rfl (by unfold maxLen; omega) hG1.short (by decide) ?_
          intro b wb hbb hdf hsz h12
          go_wp2
          exact bodyPost_ret (by simp [results, Try.results3, go_sem, h12]) hdf ⟨rfl, B9.trans (hbb.mono B9.size)⟩
        · go_wp2_with (first
            | (go_at_call_of 11 (Value.int .i64 wh); refine (kW _).mono ?_; rintro e w7 ⟨rfl, rfl⟩)
            | (go_at_call_of 11 (Value.int .i64 k); refine (kj _).mono ?_; rintro e w7 ⟨rfl, rfl⟩))
          have B9 := up (B7.setCell (p := ⟨w3.heap.size, 5, none⟩) (by have := B7.size; simp; omega) (.slice (some ⟨w7.heap.size, 0, none⟩) 5 5)) (.cells #[.string ⟨#[97]⟩, .string ⟨#[98]⟩, .string ⟨#[99]⟩, .string ⟨#[100]⟩, .string ⟨#[101]⟩] 9)
          refine last_pods (nm) (s1) (cx) (mx) ax (p1) (us.length) (q1) (us) (some ⟨w7.heap.size, 0, none⟩) (5) (5) ([⟨#[97]⟩, ⟨#[98]⟩, ⟨#[99]⟩, ⟨#[100]⟩, ⟨#[101]⟩]) S w3.heap.size _ _ rfl rfl rfl ((hX7.set5 _).later (up (Below.refl _ _) _)) ((strs_grown hG1.new.1 (grown_set _ _ _ _) (fun x hx e => hne1 x hx (Option.some.inj e))).later (up (Below.refl _ _) _)) (strs_abc _ _ 5 (by decide) (by simp)) rfl rfl (by unfold maxLen; omega) hG1.short (by decide) ?_
          intro b wb hbb hdf hsz h12
          go_wp2
          exact bodyPost_ret (by simp [results, Try.results3, go_sem, h12]) hdf ⟨rfl, B9.trans (hbb.mono B9.size)⟩

end Go.Proofs.Ytgcicillmljglaa
