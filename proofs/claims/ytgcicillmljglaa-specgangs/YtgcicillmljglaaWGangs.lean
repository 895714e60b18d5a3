/- The walk of SpecGangs. -/
import Derived.Test.YtgcicillmljglaaGO
import Derived.Test.YtgcicillmljglaaRG
import Derived.Test.YtgcicillmljglaaFG
namespace Go.Proofs.Ytgcicillmljglaa
open Go.RowKit Go.Maps
set_option linter.unusedSimpArgs false
set_option linter.unusedVariables false

theorem cfG (args : Array Value) (w : World) : (callFunc 23 args).run Try.prog w = .ok (.enter 23 args) w := by kernel_rfl
theorem cfR (args : Array Value) (w : World) : (callFunc 24 args).run Try.prog w = .ok (.enter 24 args) w := by kernel_rfl
theorem GBox.set0 {w : World} {G : Nat} {id : Int} {v : Value} (h : GBox w G id v) (z : Int) : GBox (w.setCell ⟨G, 0, none⟩ (.int .i64 z)) G z v := by
  unfold GBox at *
  rw [heap_setCell_same w G 0 _ _ _ h]
  simp
/-- What the document's Gang asks of the sizes. -/
def SizesOk (l : List PodT) : Prop := ∀ p ∈ l, p.name.size ≤ maxLen ∧ (∀ s ∈ p.ps, s.size ≤ 1000) ∧ ∀ s ∈ p.bs, s.size ≤ 1000

theorem lGang_good (id S : Int) (a5 : Option Addr) (len5 cap5 : Nat) (z5 : List Int) (W : World) (h0 : 0 < S) (h4 : S ≤ 4) (hrow : HasRow W a5 len5 z5) :
    Calls Try.prog 22 #[.int .i64 id, .slice a5 len5 cap5, .int .i64 S] W fun e w' => ∃ a n c l, e = .returned (.agg #[.int .i64 (1 + id % 999999), .slice a n c]) ∧ l.length = n ∧ n ≤ c ∧ gangE (1 + id % 999999) l S = 0 ∧ 1 ≤ n ∧ n ≤ 8 ∧ SizesOk l ∧ OwnPods W.heap.size w' (.slice a n c) l ∧ Below W.heap.size W w' := by
  refine (lGang_is id S a5 len5 cap5 z5 W h0 h4 hrow).mono ?_
  rintro e w' ⟨v, l, he, hO, hd, hb⟩
  obtain ⟨g1, g2, g3, g4⟩ := gang_good h0 id z5 len5 hd
  obtain ⟨a, c, hv, hcap, hPods⟩ := hO.pods (by omega)
  subst hv
  exact ⟨a, l.length, c, l, he, rfl, hcap, g1, g2, g3, fun p hp => ⟨by have := (g4 p hp).1; unfold maxLen; omega, (g4 p hp).2⟩, hO, hb⟩
theorem pods_own {B : Nat} {w : World} {a : Option Addr} {n c : Nat} {l : List PodT} (h : OwnPods B w (.slice a n c) l) (hl : l.length ≤ 1000) : Pods w a l := by
  obtain ⟨a', c', hv, _, hP⟩ := h.pods hl
  injection hv with hv1 _ _
  rw [hv1]; exact hP
theorem pods_after {B : Nat} {w : World} {a : Option Addr} {n c : Nat} {l : List PodT} (h : OwnPods B w (.slice a n c) l) (hl : l.length ≤ 1000) (b i : Nat) (u : Value) (h1 : (Value.slice a n c).ownBlock ≠ some b) (h2 : ∀ p ∈ l, p.Off (some b)) (o : Obj) : Pods ((w.setCell ⟨b, i, none⟩ u).alloc o) a l :=
  (pods_own (h.grown (grown_set w b i u) (.inr h1) h2) hl).later (up (Below.refl _ _) _)

theorem pods_set {B : Nat} {w : World} {gB n c : Nat} {l : List PodT} (hO : OwnPods B w (.slice (some ⟨gB, 0, none⟩) n c) l) (hl : l.length = n) (hn : n ≤ 1000) (I : Nat) (p p' : PodT) (hp : l[I]? = some p) (o : Nat) (u : Value) (e1 : p'.pa = p.pa) (e2 : p'.ps = p.ps) (e3 : p'.ba = p.ba) (e4 : p'.bs = p.bs)
    (hflat : flat (l.set I p') = (flat l).set o u) : Pods (w.setCell ⟨gB, o, none⟩ u) (some ⟨gB, 0, none⟩) (l.set I p') := by
  have hrow := hO.row
  rw [hl] at hrow
  have st := (hrow.stored o u).1
  rw [← hflat] at st
  have ok : ∀ q ∈ l, q.Ok (w.setCell ⟨gB, o, none⟩ u) := fun q hq => ((hO.new q hq).grown (grown_set w gB o u) (hO.off q hq)).ok
  obtain ⟨a, cap, hv, _, _, hP, _⟩ := pods_of_own st (fun q hq => by
    rcases List.mem_or_eq_of_mem_set hq with hq | hq
    · exact ok q hq
    · subst hq
      have := ok p (List.mem_of_getElem? hp)
      unfold PodT.Ok at *
      rw [e1, e2, e3, e4]
      exact this) (by rw [List.length_set]; omega)
  injection hv with hv1 _ _
  rw [hv1]; exact hP
theorem sizes_set {l : List PodT} (h : SizesOk l) (I : Nat) (p' : PodT) (h' : p'.name.size ≤ maxLen ∧ (∀ s ∈ p'.ps, s.size ≤ 1000) ∧ ∀ s ∈ p'.bs, s.size ≤ 1000) : SizesOk (l.set I p') := fun q hq => by
  rcases List.mem_or_eq_of_mem_set hq with hq | hq
  · exact h q hq
  · subst hq; exact h'
theorem flat_set1 : ∀ (l : List PodT) (i : Nat) (p : PodT) (z : Int), l[i]? = some p → flat (l.set i { p with shard := z }) = (flat l).set (i * 7 + 1) (.int .i64 z)
  | [], i, p, s, h => by simp at h
  | q :: l, 0, p, s, h => by
    simp at h
    subst h
    simp [flat, PodT.cells]
  | q :: l, i + 1, p, s, h => by
    simp at h
    simp only [List.set_cons_succ, flat, flat_set1 l i p s h]
    rw [List.set_append_right _ _ (by simp [PodT.cells]; omega)]
    congr 2
    simp [PodT.cells]
    omega
theorem pods_front {w : World} {a : Option Addr} {l : List PodT} (h : Pods w a l) (m : Nat) : Pods w a (l.take m) :=
  ⟨by have := h.1; simp; omega, fun i p hp => h.2 i p (by
    rw [List.getElem?_take] at hp
    split at hp
    · exact hp
    · cases hp)⟩
theorem slice_form {B : Nat} {w : World} {a : Option Addr} {n c : Nat} {l : List PodT} (hO : OwnPods B w (.slice a n c) l) (hl : l.length = n) (hn : 1 ≤ n) : ∃ gB, a = some ⟨gB, 0, none⟩ ∧ B ≤ gB ∧ gB < w.heap.size := by
  obtain ⟨g, cap, hv, h1, h2, _⟩ := own_slice hO.row (by omega)
  injection hv with hv1 _ _
  exact ⟨g, hv1, h1, h2⟩

theorem conv_q (w : World) (m : Nat) (hm : m < 100) : (convert 52 9 (.slice (some ⟨w.heap.size, 0, none⟩) 1 1)).run Try.prog (w.alloc (.cells #[.int .u8 (97 + (m : Int))] 5)) =
    .ok (.string ⟨#[UInt8.ofNat (97 + m)]⟩) (w.alloc (.cells #[.int .u8 (97 + (m : Int))] 5)) := by
  refine run_convert_bytes_back (P := Try.prog) (w.alloc (.cells #[.int .u8 (97 + (m : Int))] 5)) 52 9 5 ⟨w.heap.size, 0, none⟩ 1 [UInt8.ofNat (97 + m)] Try.underlying52 Try.underlying5 Try.underlying9 ?_
  intro j hj
  have : j = 0 := by simp at hj; omega
  subst this
  simp [Addr.add]
  omega

def gangsF (raw g : Value) (S eN : Int) : Nat → Value → World → Prop
  | 0, v, _ => v = raw
  | 1, v, _ => v = .int .i64 S
  | 2, v, _ => v = .int .i64 eN
  | 3, v, _ => v = raw
  | 4, v, _ => v = .int .i64 S
  | 5, v, _ => v = .int .i64 eN
  | 6, v, _ => v = .bool false
  | 7, v, _ => v = .bool false
  | 8, v, _ => v = g
  | 9, v, _ => v = .int .i64 S
  | 10, v, _ => v = .int .i64 0
  | 11, v, _ => v = .bool false
  | 12, v, _ => v = .bool false
  | _, _, _ => True

def gangsH (G gB n c I : Nat) (s0 : ByteArray) : Nat → Value → World → Prop
  | 0, v, _ => v = .pointer (some ⟨G, 1, none⟩)
  | 1, v, _ => v = .slice (some ⟨gB, 0, none⟩) n c
  | 2, v, _ => v = .int .i64 I
  | 3, v, _ => v = .pointer (some ⟨G, 1, none⟩)
  | 4, v, _ => v = .slice (some ⟨gB, 0, none⟩) n c
  | 5, v, _ => v = .pointer (some ⟨gB, 0, none⟩)
  | 6, v, _ => v = .pointer (some ⟨gB, 0, none⟩)
  | 7, v, _ => v = .string s0
  | 8, v, _ => v = .pointer (some ⟨gB, I * 7, none⟩)
  | 9, v, _ => v = .pointer (some ⟨gB, I * 7, none⟩)
  | _, _, _ => True

def gangsI (G gB n c I : Nat) (S k t : Int) : Nat → Value → World → Prop
  | 0, v, _ => v = .pointer (some ⟨G, 1, none⟩)
  | 1, v, _ => v = .slice (some ⟨gB, 0, none⟩) n c
  | 2, v, _ => v = .int .i64 I
  | 3, v, _ => v = .int .i64 S
  | 4, v, _ => v = .int .i64 k
  | 5, v, _ => v = .int .i64 t
  | 6, v, _ => v = .int .i64 (S + t)
  | 7, v, _ => v = .pointer (some ⟨gB, I * 7, none⟩)
  | 8, v, _ => v = .pointer (some ⟨gB, I * 7 + 1, none⟩)
  | _, _, _ => True

def gangsJ (G gB n c M : Nat) (k : Int) : Nat → Value → World → Prop
  | 0, v, _ => v = .pointer (some ⟨G, 1, none⟩)
  | 1, v, _ => v = .slice (some ⟨gB, 0, none⟩) n c
  | 2, v, _ => v = .int .i64 k
  | 3, v, _ => v = .pointer (some ⟨G, 1, none⟩)
  | 4, v, _ => v = .slice (some ⟨gB, 0, none⟩) n c
  | 5, v, _ => v = .int .i64 n
  | 6, v, _ => v = .int .i64 (n + 1)
  | 7, v, _ => v = .int .i64 M
  | 8, v, _ => v = .slice (some ⟨gB, 0, none⟩) M c
  | 9, v, _ => v = .pointer (some ⟨G, 1, none⟩)
  | _, _, _ => True

def gangsG (g : Value) (S eX : Int) : Nat → Value → World → Prop
  | 0, v, _ => v = g
  | 1, v, _ => v = .int .i64 S
  | 2, v, _ => v = .int .i64 eX
  | 3, v, _ => v = g
  | 4, v, _ => v = .int .i64 S
  | 5, v, _ => v = .int .i64 eX
  | 6, v, _ => v = .bool true
  | 7, v, _ => v = .bool true
  | _, _, _ => True

set_option maxRecDepth 100000 in
set_option maxHeartbeats 4000000 in
theorem last_gangs {Q : Exit → Act → World → Prop} {pp0 : String} (i1 : Int) (a : Option Addr) (n c : Nat) (l : List PodT) (S : Int) (B : Nat) (A : Act) (W : World) (hsz0 : A.tmps.size = 122) (h15 : sl A 15 = .int .i64 S) (h16 : sl A 16 = .pointer (some ⟨B, 0, none⟩))
    (hX : GBox W B i1 (.slice a n c)) (hP : Pods W a l) (hl : l.length = n) (hc : n ≤ c) (hz : SizesOk l)
    (hQ : ∀ b w', Below W.heap.size W w' → b.defers = A.defers → b.tmps.size = 122 → sl b 14 = .bool true → Q .normal b w') :
    Code.wp Try.prog (Code.region 24 #[{ dst := some 115, op := Op.load 47 (Operand.tmp 16), type := 47, pos := pp0, after := #[], guard := none }, { dst := some 116, op := Op.move (Operand.tmp 15), type := 3, pos := pp0, after := #[], guard := none }, { dst := some 117, op := Op.call { callee := Callee.value (Operand.func 23), args := #[Operand.tmp 115, Operand.tmp 116], argTypes := #[47, 3] }, type := 32, pos := pp0, after := #[{ on := 0, ground := Ground.data }, { on := 1, ground := Ground.data }], guard := none }, { dst := some 118, op := Op.load 47 (Operand.tmp 16), type := 47, pos := pp0, after := #[], guard := none }, { dst := some 119, op := Op.move (Operand.tmp 15), type := 3, pos := pp0, after := #[], guard := none }, { dst := some 120, op := Op.call { callee := Callee.value (Operand.func 24), args := #[Operand.tmp 118, Operand.tmp 119], argTypes := #[47, 3] }, type := 3, pos := pp0, after := #[{ on := 3, ground := Ground.data }, { on := 4, ground := Ground.data }, { on := 2, ground := Ground.chain }], guard := none }, { dst := some 121, op := Op.binOp BinOp.eql 3 (Operand.tmp 117) (Operand.tmp 120) 3, type := 4, pos := pp0, after := #[{ on := 2, ground := Ground.data }, { on := 5, ground := Ground.data }], guard := none }, { dst := some 14, op := Op.assign (Operand.tmp 121), type := 4, pos := pp0, after := #[{ on := 6, ground := Ground.data }, { on := 5, ground := Ground.chain }, { on := 0, ground := Ground.phase }, { on := 1, ground := Ground.phase }, { on := 2, ground := Ground.phase }, { on := 3, ground := Ground.phase }, { on := 4, ground := Ground.phase }, { on := 5, ground := Ground.phase }, { on := 6, ground := Ground.phase }], guard := none }] true) Q A W := by
  have kN := fun W' (h : Below W.heap.size W W') => gang_any i1 S a c n l W' hl hc (hP.later h)
  have kR := fun W' (h : Below W.heap.size W W') => rGang_any i1 S a c n l W' hl hc (hP.later h) hz
  obtain ⟨eX, heX⟩ : ∃ e, gangE i1 l S = e := ⟨_, rfl⟩
  rw [heX] at kN kR
  refine wp_region_rely (fun w1 => Below W.heap.size W w1) (fun w1 w2 => Below w1.heap.size w1 w2) (gangsG (.agg #[.int .i64 i1, .slice a n c]) S eX) (by kernel_rfl) (by rw [hsz0]; kernel_rfl) (Below.refl _ _).drew ?keep ?step ?rest
  case keep =>
    intro i v w1 w2 hS hF
    unfold gangsG at *
    split at hF <;> try exact hF
  case step =>
    intro i o d ho hd b w1 hR hold hdep
    have o15 : sl b 15 = .int .i64 S := (hold 15 (by kernel_rfl)).trans h15
    have o16 : sl b 16 = .pointer (some ⟨B, 0, none⟩) := (hold 16 (by kernel_rfl)).trans h16
    have hb0 := Below.refl w1.heap.size w1
    have m0 := (hX.later hR).cell0
    have m1 := (hX.later hR).cell1
    rcases i with _ | _ | _ | _ | _ | _ | _ | _ | i
    all_goals try (cases ho; cases hd)
    · exact ok_val' rfl rfl (want_none rfl b) (by simp [go_sem, o16, m0, m1]) hR hb0 rfl
    · exact ok_val' rfl rfl (want_none rfl b) (by simp [go_sem, o15]) hR hb0 rfl
    · have f115 : sl b 115 = .agg #[.int .i64 i1, .slice a n c] := hdep 0 _ _ rfl rfl (by kernel_rfl)
      have f116 : sl b 116 = .int .i64 S := hdep 1 _ _ rfl rfl (by kernel_rfl)
      refine ok_enter' rfl rfl (want_none rfl b) ?_ ((kN w1 hR).mono ?_)
      · simp [go_sem, f115, f116, cfG]
      rintro e w2 ⟨rfl, hb2⟩
      exact ⟨_, rfl, hR.trans (hb2.mono hR.size), hb2, rfl⟩
    · exact ok_val' rfl rfl (want_none rfl b) (by simp [go_sem, o16, m0, m1]) hR hb0 rfl
    · exact ok_val' rfl rfl (want_none rfl b) (by simp [go_sem, o15]) hR hb0 rfl
    · have f118 : sl b 118 = .agg #[.int .i64 i1, .slice a n c] := hdep 3 _ _ rfl rfl (by kernel_rfl)
      have f119 : sl b 119 = .int .i64 S := hdep 4 _ _ rfl rfl (by kernel_rfl)
      refine ok_enter' rfl rfl (want_none rfl b) ?_ ((kR w1 hR).mono ?_)
      · simp [go_sem, f118, f119, cfR]
      rintro e w2 ⟨rfl, hb2⟩
      exact ⟨_, rfl, hR.trans (hb2.mono hR.size), hb2, rfl⟩
    · have f117 : sl b 117 = .int .i64 eX := hdep 2 _ _ rfl rfl (by kernel_rfl)
      have f120 : sl b 120 = .int .i64 eX := hdep 5 _ _ rfl rfl (by kernel_rfl)
      exact ok_val' rfl rfl (want_none rfl b) (by simp [go_sem, f117, f120]) hR hb0 rfl
    · have f121 : sl b 121 = .bool true := hdep 6 _ _ rfl rfl (by kernel_rfl)
      exact ok_val' rfl rfl (want_none rfl b) (by simp [go_sem, f121]) hR hb0 rfl
    · cases ho
  case rest =>
    intro b w1 hR hsz hdf hold hF
    have f15 : sl b 15 = .int .i64 S := (hold 15 (by kernel_rfl)).trans h15
    have f16 : sl b 16 = .pointer (some ⟨B, 0, none⟩) := (hold 16 (by kernel_rfl)).trans h16
    have f14 : sl b 14 = .bool true := hF 7 _ _ rfl rfl
    exact hQ b w1 hR hdf (hsz.trans hsz0) f14

set_option maxRecDepth 100000 in
set_option maxHeartbeats 8000000 in
theorem specGangs_walk (idr : Int) (ar : Option Addr) (nr cr : Nat) (lr : List PodT) (id sh wh at_ k : Int) (a5 : Option Addr) (len5 cap5 : Nat) (z5 : List Int) (w : World)
    (e1 : lr.length = nr) (hnr : nr ≤ cr) (hin : PodsIn w ar lr) (w5 : IsRow .i64 w a5 len5 cap5 z5) :
    Calls Try.prog 5 #[.agg #[.int .i64 idr, .slice ar nr cr], .int .i64 id, .slice a5 len5 cap5, .int .i64 sh, .int .i64 wh, .int .i64 at_, .int .i64 k] w fun e w' => e = .returned (.bool true) ∧ Below w.heap.size w w' := by
  replace w5 := w5.has
  have h0 := up (Below.refl w.heap.size w) (.cells #[.int .i64 idr, .slice ar nr cr] 47)
  obtain ⟨few, hfew⟩ : ∃ b, fewG lr = b := ⟨_, rfl⟩
  have kF := fun W (h : Below w.heap.size w W) => fewGang_any idr ar cr nr lr W e1 (hin.later h)
  rw [hfew] at kF
  cases few
  · clear hin w5
    go_enter Try.func5, Try.ntmps5
    go_wp2_with (first
      | (go_at_call 9; refine (known_on _ _ (Below.refl _ _)).mono ?_; rintro e w1 ⟨rfl, hb1⟩
         have hR1 : GBox w1 w.heap.size _ _ := GBox.later (GBox.new w _ _) hb1
         have r0 := hR1.cell0
         have r1 := hR1.cell1
         have b1 := h0.trans (hb1.mono h0.size))
      | (go_at_call 21; refine (kF _ b1).mono ?_; rintro e w2 ⟨rfl, hb2⟩))
    go_ret
    exact ⟨rfl, b1.trans (hb2.mono b1.size)⟩
  · obtain ⟨hPr, hzr⟩ := hin.few hfew
    obtain ⟨r, hr⟩ : ∃ r, sh % 4 = r := ⟨_, rfl⟩
    obtain ⟨S, hS⟩ : ∃ S, 1 + r = S := ⟨_, rfl⟩
    have hS1 : 1 ≤ S ∧ S ≤ 4 := by omega
    have kN := fun W (h : Below w.heap.size w W) => gang_any idr S ar cr nr lr W e1 hnr (hPr.later h)
    have kR := fun W (h : Below w.heap.size w W) => rGang_any idr S ar cr nr lr W e1 hnr (hPr.later h) hzr
    obtain ⟨eN, heN⟩ : ∃ e, gangE idr lr S = e := ⟨_, rfl⟩
    rw [heN] at kN kR
    have kL := fun W (h : Below w.heap.size w W) => lGang_good id S a5 len5 cap5 z5 W (by omega) (by omega) (w5.later h)
    obtain ⟨i1, hi1⟩ : ∃ z, 1 + id % 999999 = z := ⟨_, rfl⟩
    rw [hi1] at kL
    have kS := fun W => within_any sh 4 r (by decide) (by decide) hr W
    clear hin hfew heN hi1 hr e1 hnr hzr
    have HPr : Hid (Pods w ar lr) := hPr
    clear hPr
    go_enter Try.func5, Try.ntmps5
    go_wp2_with (first
      | (go_at_call 9; refine (known_on _ _ (Below.refl _ _)).mono ?_; rintro e w1 ⟨rfl, hb1⟩
         have hR1 : GBox w1 w.heap.size _ _ := GBox.later (GBox.new w _ _) hb1
         have r0 := hR1.cell0
         have r1 := hR1.cell1
         have b1 := h0.trans (hb1.mono h0.size))
      | (go_at_call 21; refine (kF _ b1).mono ?_; rintro e w2 ⟨rfl, hb2⟩
         have hR2 := hR1.later hb2
         have b2 := b1.trans (hb2.mono b1.size))
      | (go_at_call 11; refine (kS _).mono ?_; rintro e w2 ⟨rfl, rfl⟩)
      | (go_at_call 22; refine (kL _ b2).mono ?_; rintro e w3 ⟨a, n, c, l, rfl, hl, hnc, hgE, hn1, hn8, hzl, hO, hb3⟩
         have hR3 := hR2.later hb3
         have hbase := b2.size
         have hbas3 := hb3.size
         have b3 := b2.trans (hb3.mono b2.size)
         have t0 := hR3.cell0
         have t1 := hR3.cell1
         have hlt3 := hR3.lt))
    have hX := GBox.new w3 i1 (.slice a n c)
    have b4 := up b3 (.cells #[.int .i64 i1, .slice a n c] 47)
    have d4 := up (Below.refl w3.heap.size w3) (.cells #[.int .i64 i1, .slice a n c] 47)
    have hR4 := hR3.later d4
    have hO4 := hO.later d4
    obtain ⟨W4, hW4⟩ : ∃ W4, W4 = w3.alloc (.cells #[.int .i64 i1, .slice a n c] 47) := ⟨_, rfl⟩
    rw [← hW4] at hX b4 d4 hR4 hO4 ⊢
    have hW4s : W4.heap.size = w3.heap.size + 1 := by rw [hW4]; simp
    have hne1 : (Value.slice a n c).ownBlock ≠ some w3.heap.size := fun e => by have := (hO.row.lt _ e).2; omega
    have hne2 : ∀ p ∈ l, p.Off (some w3.heap.size) := fun p hp => off_new (hO.new p hp) (Nat.le_refl _)
    have kN' := fun W (h : Below W4.heap.size W4 W) => kN W (b4.trans (h.mono b4.size))
    have kR' := fun W (h : Below W4.heap.size W4 W) => kR W (b4.trans (h.mono b4.size))
    have hPl : Pods W4 a l := by
      obtain ⟨a', c', hv, _, hP'⟩ := hO4.pods (by omega)
      injection hv with hv1 _ _
      rw [hv1]; exact hP'
    have kX' := fun W (h : Below W4.heap.size W4 W) => gang_any i1 S a c n l W hl hnc (hPl.later h)
    rw [hgE] at kX'
    clear hW4 hR3 r0 r1 t0 t1 d4 kN kR kF kL hb3 h0 b1 b2 b3 hR1 hR2 kS hO hPl
    refine wp_region_rely (fun w1 => Below W4.heap.size W4 w1) (fun w1 w2 => Below w1.heap.size w1 w2) (gangsF (.agg #[.int .i64 idr, .slice ar nr cr]) (.agg #[.int .i64 i1, .slice a n c]) S eN) (by kernel_rfl) (by kernel_rfl) (Below.refl _ _).drew ?keep ?step ?rest
    case keep =>
      intro i v w1 w2 hS hF
      unfold gangsF at *
      split at hF <;> try exact hF
    case step =>
      intro i o d ho hd b w1 hR hold hdep
      have o7 : sl b 7 = .pointer (some ⟨w.heap.size, 0, none⟩) := hold 7 (by kernel_rfl)
      have o15 : sl b 15 = .int .i64 S := hold 15 (by kernel_rfl)
      have o16 : sl b 16 = .pointer (some ⟨w3.heap.size, 0, none⟩) := hold 16 (by kernel_rfl)
      have hb0 := Below.refl w1.heap.size w1
      have m0 := (hR4.later hR).cell0
      have m1 := (hR4.later hR).cell1
      have q0 := (hX.later hR).cell0
      have q1 := (hX.later hR).cell1
      rcases i with _ | _ | _ | _ | _ | _ | _ | _ | _ | _ | _ | _ | _ | i
      all_goals try (cases ho; cases hd)
      · exact ok_val' rfl rfl (want_none rfl b) (by simp [go_sem, o7, m0, m1]) hR hb0 rfl
      · exact ok_val' rfl rfl (want_none rfl b) (by simp [go_sem, o15]) hR hb0 rfl
      · have f31 : sl b 31 = .agg #[.int .i64 idr, .slice ar nr cr] := hdep 0 _ _ rfl rfl (by kernel_rfl)
        have f32 : sl b 32 = .int .i64 S := hdep 1 _ _ rfl rfl (by kernel_rfl)
        refine ok_enter' rfl rfl (want_none rfl b) ?_ ((kN' w1 hR).mono ?_)
        · simp [go_sem, f31, f32, cfG]
        rintro e w2 ⟨rfl, hb2⟩
        exact ⟨_, rfl, hR.trans (hb2.mono hR.size), hb2, rfl⟩
      · exact ok_val' rfl rfl (want_none rfl b) (by simp [go_sem, o7, m0, m1]) hR hb0 rfl
      · exact ok_val' rfl rfl (want_none rfl b) (by simp [go_sem, o15]) hR hb0 rfl
      · have f34 : sl b 34 = .agg #[.int .i64 idr, .slice ar nr cr] := hdep 3 _ _ rfl rfl (by kernel_rfl)
        have f35 : sl b 35 = .int .i64 S := hdep 4 _ _ rfl rfl (by kernel_rfl)
        refine ok_enter' rfl rfl (want_none rfl b) ?_ ((kR' w1 hR).mono ?_)
        · simp [go_sem, f34, f35, cfR]
        rintro e w2 ⟨rfl, hb2⟩
        exact ⟨_, rfl, hR.trans (hb2.mono hR.size), hb2, rfl⟩
      · have f33 : sl b 33 = .int .i64 eN := hdep 2 _ _ rfl rfl (by kernel_rfl)
        have f36 : sl b 36 = .int .i64 eN := hdep 5 _ _ rfl rfl (by kernel_rfl)
        exact ok_val' rfl rfl (want_none rfl b) (by simp [go_sem, f33, f36]) hR hb0 rfl
      · have f37 : sl b 37 = .bool false := hdep 6 _ _ rfl rfl (by kernel_rfl)
        exact ok_val' rfl rfl (want_none rfl b) (by simp [go_sem, f37]) hR hb0 rfl
      · have f38 : sl b 38 = .bool false := hdep 7 _ _ rfl rfl (by kernel_rfl)
        exact ok_val' rfl rfl (want 7 38 rfl rfl f38) (by simp [go_sem, o16, q0, q1]) hR hb0 rfl
      · have f38 : sl b 38 = .bool false := hdep 7 _ _ rfl rfl (by kernel_rfl)
        exact ok_val' rfl rfl (want 7 38 rfl rfl f38) (by simp [go_sem, o15]) hR hb0 rfl
      · have f39 : sl b 39 = .agg #[.int .i64 i1, .slice a n c] := hdep 8 _ _ rfl rfl (by kernel_rfl)
        have f40 : sl b 40 = .int .i64 S := hdep 9 _ _ rfl rfl (by kernel_rfl)
        have f38 : sl b 38 = .bool false := hdep 7 _ _ rfl rfl (by kernel_rfl)
        refine ok_enter' rfl rfl (want 7 38 rfl rfl f38) ?_ ((kX' w1 hR).mono ?_)
        · simp [go_sem, f39, f40, cfG]
        rintro e w2 ⟨rfl, hb2⟩
        exact ⟨_, rfl, hR.trans (hb2.mono hR.size), hb2, rfl⟩
      · have f41 : sl b 41 = .int .i64 0 := hdep 10 _ _ rfl rfl (by kernel_rfl)
        have f38 : sl b 38 = .bool false := hdep 7 _ _ rfl rfl (by kernel_rfl)
        exact ok_val' rfl rfl (want 7 38 rfl rfl f38) (by simp [go_sem, f41]) hR hb0 rfl
      · have f38 : sl b 38 = .bool false := hdep 7 _ _ rfl rfl (by kernel_rfl)
        have f42 : sl b 42 = .bool false := hdep 11 _ _ rfl rfl (by kernel_rfl)
        exact ok_val' rfl rfl (want_none rfl b) (by simp [go_sem, f38, f42]) hR hb0 rfl
      · cases ho
    case rest =>
      intro b w1 hR hsz hdf hold hF
      have f7 : sl b 7 = .pointer (some ⟨w.heap.size, 0, none⟩) := hold 7 (by kernel_rfl)
      have f15 : sl b 15 = .int .i64 S := hold 15 (by kernel_rfl)
      have f16 : sl b 16 = .pointer (some ⟨w3.heap.size, 0, none⟩) := hold 16 (by kernel_rfl)
      have f43 : sl b 43 = .bool false := hF 12 _ _ rfl rfl
      have hB : b = _ := act_list b (show b.tmps.size = 122 from hsz) hdf
      have f1 : sl b 1 = .int .i64 id := hold 1 (by kernel_rfl)
      have f2 : sl b 2 = .slice a5 len5 cap5 := hold 2 (by kernel_rfl)
      have f3 : sl b 3 = .int .i64 sh := hold 3 (by kernel_rfl)
      have f4 : sl b 4 = .int .i64 wh := hold 4 (by kernel_rfl)
      have f5 : sl b 5 = .int .i64 at_ := hold 5 (by kernel_rfl)
      have f6 : sl b 6 = .int .i64 k := hold 6 (by kernel_rfl)
      rw [hB]
      simp only [List.range, List.range.loop, List.map_cons, List.map_nil, f7, f15, f16, f43, f1, f2, f3, f4, f5, f6]
      generalize sl b 0 = v0, sl b 8 = v8, sl b 9 = v9, sl b 10 = v10, sl b 11 = v11, sl b 12 = v12, sl b 13 = v13, sl b 14 = v14, sl b 17 = v17, sl b 18 = v18, sl b 19 = v19, sl b 20 = v20, sl b 21 = v21, sl b 22 = v22, sl b 23 = v23, sl b 24 = v24, sl b 25 = v25, sl b 26 = v26, sl b 27 = v27, sl b 28 = v28, sl b 29 = v29, sl b 30 = v30, sl b 31 = v31, sl b 32 = v32, sl b 33 = v33, sl b 34 = v34, sl b 35 = v35, sl b 36 = v36, sl b 37 = v37, sl b 38 = v38, sl b 39 = v39, sl b 40 = v40, sl b 41 = v41, sl b 42 = v42, sl b 44 = v44, sl b 45 = v45, sl b 46 = v46, sl b 47 = v47, sl b 48 = v48, sl b 49 = v49, sl b 50 = v50, sl b 51 = v51, sl b 52 = v52, sl b 53 = v53, sl b 54 = v54, sl b 55 = v55, sl b 56 = v56, sl b 57 = v57, sl b 58 = v58, sl b 59 = v59, sl b 60 = v60, sl b 61 = v61, sl b 62 = v62, sl b 63 = v63, sl b 64 = v64, sl b 65 = v65, sl b 66 = v66, sl b 67 = v67, sl b 68 = v68, sl b 69 = v69, sl b 70 = v70, sl b 71 = v71, sl b 72 = v72, sl b 73 = v73, sl b 74 = v74, sl b 75 = v75, sl b 76 = v76, sl b 77 = v77, sl b 78 = v78, sl b 79 = v79, sl b 80 = v80, sl b 81 = v81, sl b 82 = v82, sl b 83 = v83, sl b 84 = v84, sl b 85 = v85, sl b 86 = v86, sl b 87 = v87, sl b 88 = v88, sl b 89 = v89, sl b 90 = v90, sl b 91 = v91, sl b 92 = v92, sl b 93 = v93, sl b 94 = v94, sl b 95 = v95, sl b 96 = v96, sl b 97 = v97, sl b 98 = v98, sl b 99 = v99, sl b 100 = v100, sl b 101 = v101, sl b 102 = v102, sl b 103 = v103, sl b 104 = v104, sl b 105 = v105, sl b 106 = v106, sl b 107 = v107, sl b 108 = v108, sl b 109 = v109, sl b 110 = v110, sl b 111 = v111, sl b 112 = v112, sl b 113 = v113, sl b 114 = v114, sl b 115 = v115, sl b 116 = v116, sl b 117 = v117, sl b 118 = v118, sl b 119 = v119, sl b 120 = v120, sl b 121 = v121
      clear hB hold hsz hdf hF f7 f15 f16 f43 f1 f2 f3 f4 f5 f6
      have hX7 := hX.later hR
      have hO7 := hO4.later hR
      have B7 := b4.trans (hR.mono b4.size)
      have l7 := hR.size
      clear hX hO4 b4 hR kN' kR' kX' hR4
      obtain ⟨I, hI⟩ : ∃ I : Nat, at_ % (n : Int) = I := ⟨(at_ % (n : Int)).toNat, by have := Int.emod_nonneg at_ (show (n : Int) ≠ 0 by omega); omega⟩
      have hIn : I < n := by have := Int.emod_lt_of_pos at_ (show (0 : Int) < n by omega); omega
      have kI := fun W => within_any at_ n I (by omega) (by omega) hI W
      obtain ⟨q, hq⟩ : ∃ q, wh % 5 = q := ⟨_, rfl⟩
      have kW := fun W => within_any wh 5 q (by decide) (by decide) hq W
      have x0 := hX7.cell0
      have x1 := hX7.cell1
      have y0 := hX7.frozen1 0
      have y1 := hX7.frozen1 1
      have lX7 := hX7.lt
      have gX : w.heap.size ≤ w3.heap.size := by omega
      rcases (by omega : q = 0 ∨ q = 1 ∨ q = 2 ∨ q = 3 ∨ q = 4) with rfl | rfl | rfl | rfl | rfl
      all_goals clear hq hI
      · obtain ⟨j, hj⟩ : ∃ j, k % 4 = j := ⟨_, rfl⟩
        have kj := fun W => within_any k 4 j (by decide) (by decide) hj W
        rcases (by omega : j = 0 ∨ j = 1 ∨ j = 2 ∨ j = 3) with rfl | rfl | rfl | rfl
        all_goals clear hj
        · go_wp2_with (first
            | (go_at_call_of 11 (Value.int .i64 at_); refine (kI _).mono ?_; rintro e w7 ⟨rfl, rfl⟩)
            | (go_at_call_of 11 (Value.int .i64 wh); refine (kW _).mono ?_; rintro e w7 ⟨rfl, rfl⟩)
            | (go_at_call_of 11 (Value.int .i64 k); refine (kj _).mono ?_; rintro e w7 ⟨rfl, rfl⟩))
          have hP9 := pods_after hO7 (by omega) w3.heap.size 0 (.int .i64 (0)) hne1 hne2 (.cells #[.int .i64 0, .int .i64 999999, .int .i64 1000000, .int .i64 k] 3)
          have B9 := up (B7.setCell (p := ⟨w3.heap.size, 0, none⟩) gX (.int .i64 (0))) (.cells #[.int .i64 0, .int .i64 999999, .int .i64 1000000, .int .i64 k] 3)
          refine last_gangs (0) (a) (n) (c) (l) S w3.heap.size _ _ rfl rfl rfl ((hX7.set0 (0)).later (up (Below.refl _ _) _)) hP9 hl hnc hzl ?_
          intro b wb hbb hdf hsz h14
          go_wp2
          exact bodyPost_ret (by simp [results, Try.results5, go_sem, h14]) hdf ⟨rfl, B9.trans (hbb.mono B9.size)⟩
        · go_wp2_with (first
            | (go_at_call_of 11 (Value.int .i64 at_); refine (kI _).mono ?_; rintro e w7 ⟨rfl, rfl⟩)
            | (go_at_call_of 11 (Value.int .i64 wh); refine (kW _).mono ?_; rintro e w7 ⟨rfl, rfl⟩)
            | (go_at_call_of 11 (Value.int .i64 k); refine (kj _).mono ?_; rintro e w7 ⟨rfl, rfl⟩))
          have hP9 := pods_after hO7 (by omega) w3.heap.size 0 (.int .i64 (999999)) hne1 hne2 (.cells #[.int .i64 0, .int .i64 999999, .int .i64 1000000, .int .i64 k] 3)
          have B9 := up (B7.setCell (p := ⟨w3.heap.size, 0, none⟩) gX (.int .i64 (999999))) (.cells #[.int .i64 0, .int .i64 999999, .int .i64 1000000, .int .i64 k] 3)
          refine last_gangs (999999) (a) (n) (c) (l) S w3.heap.size _ _ rfl rfl rfl ((hX7.set0 (999999)).later (up (Below.refl _ _) _)) hP9 hl hnc hzl ?_
          intro b wb hbb hdf hsz h14
          go_wp2
          exact bodyPost_ret (by simp [results, Try.results5, go_sem, h14]) hdf ⟨rfl, B9.trans (hbb.mono B9.size)⟩
        · go_wp2_with (first
            | (go_at_call_of 11 (Value.int .i64 at_); refine (kI _).mono ?_; rintro e w7 ⟨rfl, rfl⟩)
            | (go_at_call_of 11 (Value.int .i64 wh); refine (kW _).mono ?_; rintro e w7 ⟨rfl, rfl⟩)
            | (go_at_call_of 11 (Value.int .i64 k); refine (kj _).mono ?_; rintro e w7 ⟨rfl, rfl⟩))
          have hP9 := pods_after hO7 (by omega) w3.heap.size 0 (.int .i64 (1000000)) hne1 hne2 (.cells #[.int .i64 0, .int .i64 999999, .int .i64 1000000, .int .i64 k] 3)
          have B9 := up (B7.setCell (p := ⟨w3.heap.size, 0, none⟩) gX (.int .i64 (1000000))) (.cells #[.int .i64 0, .int .i64 999999, .int .i64 1000000, .int .i64 k] 3)
          refine last_gangs (1000000) (a) (n) (c) (l) S w3.heap.size _ _ rfl rfl rfl ((hX7.set0 (1000000)).later (up (Below.refl _ _) _)) hP9 hl hnc hzl ?_
          intro b wb hbb hdf hsz h14
          go_wp2
          exact bodyPost_ret (by simp [results, Try.results5, go_sem, h14]) hdf ⟨rfl, B9.trans (hbb.mono B9.size)⟩
        · go_wp2_with (first
            | (go_at_call_of 11 (Value.int .i64 at_); refine (kI _).mono ?_; rintro e w7 ⟨rfl, rfl⟩)
            | (go_at_call_of 11 (Value.int .i64 wh); refine (kW _).mono ?_; rintro e w7 ⟨rfl, rfl⟩)
            | (go_at_call_of 11 (Value.int .i64 k); refine (kj _).mono ?_; rintro e w7 ⟨rfl, rfl⟩))
          have hP9 := pods_after hO7 (by omega) w3.heap.size 0 (.int .i64 (k)) hne1 hne2 (.cells #[.int .i64 0, .int .i64 999999, .int .i64 1000000, .int .i64 k] 3)
          have B9 := up (B7.setCell (p := ⟨w3.heap.size, 0, none⟩) gX (.int .i64 (k))) (.cells #[.int .i64 0, .int .i64 999999, .int .i64 1000000, .int .i64 k] 3)
          refine last_gangs (k) (a) (n) (c) (l) S w3.heap.size _ _ rfl rfl rfl ((hX7.set0 (k)).later (up (Below.refl _ _) _)) hP9 hl hnc hzl ?_
          intro b wb hbb hdf hsz h14
          go_wp2
          exact bodyPost_ret (by simp [results, Try.results5, go_sem, h14]) hdf ⟨rfl, B9.trans (hbb.mono B9.size)⟩
      · obtain ⟨gB, rfl, hgB, hgl⟩ := slice_form hO7 hl hn1
        have hnI : (I : Int) < n := by omega
        have hn0 : (0 : Int) < n := by omega
        have hn00 : ¬ n = 0 := by omega
        have neG : w3.heap.size ≠ gB := fun e => hne1 (by rw [e]; rfl)
        have wgB : w.heap.size ≤ gB := by omega
        have hrow7 := hO7.row
        rw [hl] at hrow7
        obtain ⟨p, hpI⟩ : ∃ p, l[I]? = some p := ⟨_, List.getElem?_eq_getElem (by omega)⟩
        obtain ⟨p0, hp0⟩ : ∃ p, l[0]? = some p := ⟨_, List.getElem?_eq_getElem (by omega)⟩
        have cI : w1.cell? ⟨gB, I * 7, none⟩ = some (.string p.name) := own_cell hrow7 (I * 7) _ (by have := flat_get l I 0 p hpI (by omega); rw [Nat.add_zero] at this; exact this)
        have cI1 : w1.cell? ⟨gB, I * 7 + 1, none⟩ = some (.int .i64 p.shard) := own_cell hrow7 (I * 7 + 1) _ (flat_get l I 1 p hpI (by omega))
        have c00 : w1.cell? ⟨gB, 0, none⟩ = some (.string p0.name) := own_cell hrow7 0 _ (flat_get l 0 0 p0 hp0 (by omega))
        have fI := own_frozen hrow7 (I * 7)
        have fI1 := own_frozen hrow7 (I * 7 + 1)
        obtain ⟨s0, hs0⟩ : ∃ s, p0.name = s := ⟨_, rfl⟩
        rw [hs0] at c00
        clear hrow7
        go_wp2_with (first
            | (go_at_call_of 11 (Value.int .i64 at_); refine (kI _).mono ?_; rintro e w7 ⟨rfl, rfl⟩)
            | (go_at_call_of 11 (Value.int .i64 wh); refine (kW _).mono ?_; rintro e w7 ⟨rfl, rfl⟩))
        refine wp_region_rely_last 10 (fun w1 => Below w7.heap.size w7 w1) (fun w1 w2 => Below w1.heap.size w1 w2) (gangsH w3.heap.size gB n c I s0) (by kernel_rfl) (by kernel_rfl) (Below.refl _ _).drew ?keep ?step ?rest
        case keep =>
          intro i v w1 w2 hS hF
          unfold gangsH at *
          split at hF <;> try exact hF
        case step =>
          intro i o d hi ho hd b w1 hR hold hdep
          have o1 : sl b 1 = .int .i64 id := hold 1 (by kernel_rfl)
          have o2 : sl b 2 = .slice a5 len5 cap5 := hold 2 (by kernel_rfl)
          have o3 : sl b 3 = .int .i64 sh := hold 3 (by kernel_rfl)
          have o4 : sl b 4 = .int .i64 wh := hold 4 (by kernel_rfl)
          have o5 : sl b 5 = .int .i64 at_ := hold 5 (by kernel_rfl)
          have o6 : sl b 6 = .int .i64 k := hold 6 (by kernel_rfl)
          have o15 : sl b 15 = .int .i64 S := hold 15 (by kernel_rfl)
          have o16 : sl b 16 = .pointer (some ⟨w3.heap.size, 0, none⟩) := hold 16 (by kernel_rfl)
          have o17 : sl b 17 = .int .i64 I := hold 17 (by kernel_rfl)
          have hb0 := Below.refl w1.heap.size w1
          have m1 := (hX7.later hR).cell1
          have z0 := cell_below hR c00 (block_lt c00)
          rcases i with _ | _ | _ | _ | _ | _ | _ | _ | _ | _ | i
          all_goals try (cases ho; cases hd)
          · exact ok_val' rfl rfl (want_none rfl b) (by simp [go_sem, o16]) hR hb0 rfl
          · have f62 : sl b 62 = .pointer (some ⟨w3.heap.size, 1, none⟩) := hdep 0 _ _ rfl rfl (by kernel_rfl)
            exact ok_val' rfl rfl (want_none rfl b) (by simp [go_sem, f62, m1]) hR hb0 rfl
          · exact ok_val' rfl rfl (want_none rfl b) (by simp [go_sem, o17]) hR hb0 rfl
          · exact ok_val' rfl rfl (want_none rfl b) (by simp [go_sem, o16]) hR hb0 rfl
          · have f65 : sl b 65 = .pointer (some ⟨w3.heap.size, 1, none⟩) := hdep 3 _ _ rfl rfl (by kernel_rfl)
            exact ok_val' rfl rfl (want_none rfl b) (by simp [go_sem, f65, m1]) hR hb0 rfl
          · have f66 : sl b 66 = .slice (some ⟨gB, 0, none⟩) n c := hdep 4 _ _ rfl rfl (by kernel_rfl)
            exact ok_val' rfl rfl (want_none rfl b) (by simp [go_sem, f66, hn0, hn00]) hR hb0 rfl
          · have f67 : sl b 67 = .pointer (some ⟨gB, 0, none⟩) := hdep 5 _ _ rfl rfl (by kernel_rfl)
            exact ok_val' rfl rfl (want_none rfl b) (by simp [go_sem, f67]) hR hb0 rfl
          · have f68 : sl b 68 = .pointer (some ⟨gB, 0, none⟩) := hdep 6 _ _ rfl rfl (by kernel_rfl)
            exact ok_val' rfl rfl (want_none rfl b) (by simp [go_sem, f68, z0]) hR hb0 rfl
          · have f63 : sl b 63 = .slice (some ⟨gB, 0, none⟩) n c := hdep 1 _ _ rfl rfl (by kernel_rfl)
            have f64 : sl b 64 = .int .i64 I := hdep 2 _ _ rfl rfl (by kernel_rfl)
            exact ok_val' rfl rfl (want_none rfl b) (by simp [go_sem, f63, f64, hnI]) hR hb0 rfl
          · have f70 : sl b 70 = .pointer (some ⟨gB, I * 7, none⟩) := hdep 8 _ _ rfl rfl (by kernel_rfl)
            exact ok_val' rfl rfl (want_none rfl b) (by simp [go_sem, f70]) hR hb0 rfl
          · omega
        case rest =>
          intro o b w1 ho hR hsz hdf hold hF
          cases ho
          have f1 : sl b 1 = .int .i64 id := hold 1 (by kernel_rfl)
          have f2 : sl b 2 = .slice a5 len5 cap5 := hold 2 (by kernel_rfl)
          have f3 : sl b 3 = .int .i64 sh := hold 3 (by kernel_rfl)
          have f4 : sl b 4 = .int .i64 wh := hold 4 (by kernel_rfl)
          have f5 : sl b 5 = .int .i64 at_ := hold 5 (by kernel_rfl)
          have f6 : sl b 6 = .int .i64 k := hold 6 (by kernel_rfl)
          have f15 : sl b 15 = .int .i64 S := hold 15 (by kernel_rfl)
          have f16 : sl b 16 = .pointer (some ⟨w3.heap.size, 0, none⟩) := hold 16 (by kernel_rfl)
          have f17 : sl b 17 = .int .i64 I := hold 17 (by kernel_rfl)
          have f71 : sl b 71 = .pointer (some ⟨gB, I * 7, none⟩) := hF 9 _ _ (by decide) rfl rfl
          have f69 : sl b 69 = .string s0 := hF 7 _ _ (by decide) rfl rfl
          have zI := cell_below hR cI (block_lt cI)
          have zf := (hR.frozen (block_lt cI)).trans fI
          refine ok_skip rfl rfl rfl (by simp [go_sem, f71, f69, zI, zf]; rfl) ?_
          have hB : b = _ := act_list b (show b.tmps.size = 122 from hsz) hdf
          rw [hB]
          simp only [List.range, List.range.loop, List.map_cons, List.map_nil, f1, f2, f3, f4, f5, f6, f15, f16, f17]
          generalize sl b 0 = v0, sl b 7 = v7, sl b 8 = v8, sl b 9 = v9, sl b 10 = v10, sl b 11 = v11, sl b 12 = v12, sl b 13 = v13, sl b 14 = v14, sl b 18 = v18, sl b 19 = v19, sl b 20 = v20, sl b 21 = v21, sl b 22 = v22, sl b 23 = v23, sl b 24 = v24, sl b 25 = v25, sl b 26 = v26, sl b 27 = v27, sl b 28 = v28, sl b 29 = v29, sl b 30 = v30, sl b 31 = v31, sl b 32 = v32, sl b 33 = v33, sl b 34 = v34, sl b 35 = v35, sl b 36 = v36, sl b 37 = v37, sl b 38 = v38, sl b 39 = v39, sl b 40 = v40, sl b 41 = v41, sl b 42 = v42, sl b 43 = v43, sl b 44 = v44, sl b 45 = v45, sl b 46 = v46, sl b 47 = v47, sl b 48 = v48, sl b 49 = v49, sl b 50 = v50, sl b 51 = v51, sl b 52 = v52, sl b 53 = v53, sl b 54 = v54, sl b 55 = v55, sl b 56 = v56, sl b 57 = v57, sl b 58 = v58, sl b 59 = v59, sl b 60 = v60, sl b 61 = v61, sl b 62 = v62, sl b 63 = v63, sl b 64 = v64, sl b 65 = v65, sl b 66 = v66, sl b 67 = v67, sl b 68 = v68, sl b 69 = v69, sl b 70 = v70, sl b 71 = v71, sl b 72 = v72, sl b 73 = v73, sl b 74 = v74, sl b 75 = v75, sl b 76 = v76, sl b 77 = v77, sl b 78 = v78, sl b 79 = v79, sl b 80 = v80, sl b 81 = v81, sl b 82 = v82, sl b 83 = v83, sl b 84 = v84, sl b 85 = v85, sl b 86 = v86, sl b 87 = v87, sl b 88 = v88, sl b 89 = v89, sl b 90 = v90, sl b 91 = v91, sl b 92 = v92, sl b 93 = v93, sl b 94 = v94, sl b 95 = v95, sl b 96 = v96, sl b 97 = v97, sl b 98 = v98, sl b 99 = v99, sl b 100 = v100, sl b 101 = v101, sl b 102 = v102, sl b 103 = v103, sl b 104 = v104, sl b 105 = v105, sl b 106 = v106, sl b 107 = v107, sl b 108 = v108, sl b 109 = v109, sl b 110 = v110, sl b 111 = v111, sl b 112 = v112, sl b 113 = v113, sl b 114 = v114, sl b 115 = v115, sl b 116 = v116, sl b 117 = v117, sl b 118 = v118, sl b 119 = v119, sl b 120 = v120, sl b 121 = v121
          clear hB hold hsz hdf hF f1 f2 f3 f4 f5 f6 f15 f16 f17
          have hX9 := (hX7.later hR).other (a := ⟨gB, I * 7, none⟩) neG (.string s0)
          have hP9 := pods_set (hO7.later hR) hl (by omega) I p { p with name := s0 } hpI (I * 7) (.string s0) rfl rfl rfl rfl (flat_set l I p s0 hpI)
          have hz9 := sizes_set hzl I { p with name := s0 } ⟨by rw [← hs0]; exact (hzl p0 (List.mem_of_getElem? hp0)).1, (hzl p (List.mem_of_getElem? hpI)).2⟩
          have B9 := (B7.trans (hR.mono B7.size)).setCell (p := ⟨gB, I * 7, none⟩) wgB (.string s0)
          go_wp2
          refine last_gangs i1 _ n c _ S w3.heap.size _ _ rfl rfl rfl hX9 hP9 (by rw [List.length_set]; exact hl) hnc hz9 ?_
          intro b wb hbb hdf hsz h14
          go_wp2
          exact bodyPost_ret (by simp [results, Try.results5, go_sem, h14]) hdf ⟨rfl, B9.trans (hbb.mono B9.size)⟩
      · obtain ⟨gB, rfl, hgB, hgl⟩ := slice_form hO7 hl hn1
        have hnI : (I : Int) < n := by omega
        have hn0 : (0 : Int) < n := by omega
        have hn00 : ¬ n = 0 := by omega
        have neG : w3.heap.size ≠ gB := fun e => hne1 (by rw [e]; rfl)
        have wgB : w.heap.size ≤ gB := by omega
        have hrow7 := hO7.row
        rw [hl] at hrow7
        obtain ⟨p, hpI⟩ : ∃ p, l[I]? = some p := ⟨_, List.getElem?_eq_getElem (by omega)⟩
        obtain ⟨p0, hp0⟩ : ∃ p, l[0]? = some p := ⟨_, List.getElem?_eq_getElem (by omega)⟩
        have cI : w1.cell? ⟨gB, I * 7, none⟩ = some (.string p.name) := own_cell hrow7 (I * 7) _ (by have := flat_get l I 0 p hpI (by omega); rw [Nat.add_zero] at this; exact this)
        have cI1 : w1.cell? ⟨gB, I * 7 + 1, none⟩ = some (.int .i64 p.shard) := own_cell hrow7 (I * 7 + 1) _ (flat_get l I 1 p hpI (by omega))
        have c00 : w1.cell? ⟨gB, 0, none⟩ = some (.string p0.name) := own_cell hrow7 0 _ (flat_get l 0 0 p0 hp0 (by omega))
        have fI := own_frozen hrow7 (I * 7)
        have fI1 := own_frozen hrow7 (I * 7 + 1)
        obtain ⟨s0, hs0⟩ : ∃ s, p0.name = s := ⟨_, rfl⟩
        rw [hs0] at c00
        clear hrow7
        obtain ⟨t, ht⟩ : ∃ t, k % 2 = t := ⟨_, rfl⟩
        have kt := fun W => within_any k 2 t (by decide) (by decide) ht W
        have hSt : IntKind.i64.wrap (S + t) = S + t := IntWalk.i64_in _ (by omega)
        clear ht
        go_wp2_with (first
            | (go_at_call_of 11 (Value.int .i64 at_); refine (kI _).mono ?_; rintro e w7 ⟨rfl, rfl⟩)
            | (go_at_call_of 11 (Value.int .i64 wh); refine (kW _).mono ?_; rintro e w7 ⟨rfl, rfl⟩))
        refine wp_region_rely_last 9 (fun w1 => Below w7.heap.size w7 w1) (fun w1 w2 => Below w1.heap.size w1 w2) (gangsI w3.heap.size gB n c I S k t) (by kernel_rfl) (by kernel_rfl) (Below.refl _ _).drew ?keep ?step ?rest
        case keep =>
          intro i v w1 w2 hS hF
          unfold gangsI at *
          split at hF <;> try exact hF
        case step =>
          intro i o d hi ho hd b w1 hR hold hdep
          have o1 : sl b 1 = .int .i64 id := hold 1 (by kernel_rfl)
          have o2 : sl b 2 = .slice a5 len5 cap5 := hold 2 (by kernel_rfl)
          have o3 : sl b 3 = .int .i64 sh := hold 3 (by kernel_rfl)
          have o4 : sl b 4 = .int .i64 wh := hold 4 (by kernel_rfl)
          have o5 : sl b 5 = .int .i64 at_ := hold 5 (by kernel_rfl)
          have o6 : sl b 6 = .int .i64 k := hold 6 (by kernel_rfl)
          have o15 : sl b 15 = .int .i64 S := hold 15 (by kernel_rfl)
          have o16 : sl b 16 = .pointer (some ⟨w3.heap.size, 0, none⟩) := hold 16 (by kernel_rfl)
          have o17 : sl b 17 = .int .i64 I := hold 17 (by kernel_rfl)
          have hb0 := Below.refl w1.heap.size w1
          have m1 := (hX7.later hR).cell1
          rcases i with _ | _ | _ | _ | _ | _ | _ | _ | _ | i
          all_goals try (cases ho; cases hd)
          · exact ok_val' rfl rfl (want_none rfl b) (by simp [go_sem, o16]) hR hb0 rfl
          · have f74 : sl b 74 = .pointer (some ⟨w3.heap.size, 1, none⟩) := hdep 0 _ _ rfl rfl (by kernel_rfl)
            exact ok_val' rfl rfl (want_none rfl b) (by simp [go_sem, f74, m1]) hR hb0 rfl
          · exact ok_val' rfl rfl (want_none rfl b) (by simp [go_sem, o17]) hR hb0 rfl
          · exact ok_val' rfl rfl (want_none rfl b) (by simp [go_sem, o15]) hR hb0 rfl
          · exact ok_val' rfl rfl (want_none rfl b) (by simp [go_sem, o6]) hR hb0 rfl
          · have f78 : sl b 78 = .int .i64 k := hdep 4 _ _ rfl rfl (by kernel_rfl)
            refine ok_enter' rfl rfl (want_none rfl b) ?_ ((kt w1).mono ?_)
            · simp [go_sem, f78, cfwithin]
            rintro e w2 ⟨rfl, rfl⟩
            exact ⟨_, rfl, hR, hb0, rfl⟩
          · have f77 : sl b 77 = .int .i64 S := hdep 3 _ _ rfl rfl (by kernel_rfl)
            have f79 : sl b 79 = .int .i64 t := hdep 5 _ _ rfl rfl (by kernel_rfl)
            exact ok_val' rfl rfl (want_none rfl b) (by simp [go_sem, f77, f79, hSt]) hR hb0 rfl
          · have f75 : sl b 75 = .slice (some ⟨gB, 0, none⟩) n c := hdep 1 _ _ rfl rfl (by kernel_rfl)
            have f76 : sl b 76 = .int .i64 I := hdep 2 _ _ rfl rfl (by kernel_rfl)
            exact ok_val' rfl rfl (want_none rfl b) (by simp [go_sem, f75, f76, hnI]) hR hb0 rfl
          · have f81 : sl b 81 = .pointer (some ⟨gB, I * 7, none⟩) := hdep 7 _ _ rfl rfl (by kernel_rfl)
            exact ok_val' rfl rfl (want_none rfl b) (by simp [go_sem, f81]) hR hb0 rfl
          · omega
        case rest =>
          intro o b w1 ho hR hsz hdf hold hF
          cases ho
          have f1 : sl b 1 = .int .i64 id := hold 1 (by kernel_rfl)
          have f2 : sl b 2 = .slice a5 len5 cap5 := hold 2 (by kernel_rfl)
          have f3 : sl b 3 = .int .i64 sh := hold 3 (by kernel_rfl)
          have f4 : sl b 4 = .int .i64 wh := hold 4 (by kernel_rfl)
          have f5 : sl b 5 = .int .i64 at_ := hold 5 (by kernel_rfl)
          have f6 : sl b 6 = .int .i64 k := hold 6 (by kernel_rfl)
          have f15 : sl b 15 = .int .i64 S := hold 15 (by kernel_rfl)
          have f16 : sl b 16 = .pointer (some ⟨w3.heap.size, 0, none⟩) := hold 16 (by kernel_rfl)
          have f17 : sl b 17 = .int .i64 I := hold 17 (by kernel_rfl)
          have f82 : sl b 82 = .pointer (some ⟨gB, I * 7 + 1, none⟩) := hF 8 _ _ (by decide) rfl rfl
          have f80 : sl b 80 = .int .i64 (S + t) := hF 6 _ _ (by decide) rfl rfl
          have zI := cell_below hR cI1 (block_lt cI1)
          have zf := (hR.frozen (block_lt cI1)).trans fI1
          refine ok_skip rfl rfl rfl (by simp [go_sem, f82, f80, zI, zf]; rfl) ?_
          have hB : b = _ := act_list b (show b.tmps.size = 122 from hsz) hdf
          rw [hB]
          simp only [List.range, List.range.loop, List.map_cons, List.map_nil, f1, f2, f3, f4, f5, f6, f15, f16, f17]
          generalize sl b 0 = v0, sl b 7 = v7, sl b 8 = v8, sl b 9 = v9, sl b 10 = v10, sl b 11 = v11, sl b 12 = v12, sl b 13 = v13, sl b 14 = v14, sl b 18 = v18, sl b 19 = v19, sl b 20 = v20, sl b 21 = v21, sl b 22 = v22, sl b 23 = v23, sl b 24 = v24, sl b 25 = v25, sl b 26 = v26, sl b 27 = v27, sl b 28 = v28, sl b 29 = v29, sl b 30 = v30, sl b 31 = v31, sl b 32 = v32, sl b 33 = v33, sl b 34 = v34, sl b 35 = v35, sl b 36 = v36, sl b 37 = v37, sl b 38 = v38, sl b 39 = v39, sl b 40 = v40, sl b 41 = v41, sl b 42 = v42, sl b 43 = v43, sl b 44 = v44, sl b 45 = v45, sl b 46 = v46, sl b 47 = v47, sl b 48 = v48, sl b 49 = v49, sl b 50 = v50, sl b 51 = v51, sl b 52 = v52, sl b 53 = v53, sl b 54 = v54, sl b 55 = v55, sl b 56 = v56, sl b 57 = v57, sl b 58 = v58, sl b 59 = v59, sl b 60 = v60, sl b 61 = v61, sl b 62 = v62, sl b 63 = v63, sl b 64 = v64, sl b 65 = v65, sl b 66 = v66, sl b 67 = v67, sl b 68 = v68, sl b 69 = v69, sl b 70 = v70, sl b 71 = v71, sl b 72 = v72, sl b 73 = v73, sl b 74 = v74, sl b 75 = v75, sl b 76 = v76, sl b 77 = v77, sl b 78 = v78, sl b 79 = v79, sl b 80 = v80, sl b 81 = v81, sl b 82 = v82, sl b 83 = v83, sl b 84 = v84, sl b 85 = v85, sl b 86 = v86, sl b 87 = v87, sl b 88 = v88, sl b 89 = v89, sl b 90 = v90, sl b 91 = v91, sl b 92 = v92, sl b 93 = v93, sl b 94 = v94, sl b 95 = v95, sl b 96 = v96, sl b 97 = v97, sl b 98 = v98, sl b 99 = v99, sl b 100 = v100, sl b 101 = v101, sl b 102 = v102, sl b 103 = v103, sl b 104 = v104, sl b 105 = v105, sl b 106 = v106, sl b 107 = v107, sl b 108 = v108, sl b 109 = v109, sl b 110 = v110, sl b 111 = v111, sl b 112 = v112, sl b 113 = v113, sl b 114 = v114, sl b 115 = v115, sl b 116 = v116, sl b 117 = v117, sl b 118 = v118, sl b 119 = v119, sl b 120 = v120, sl b 121 = v121
          clear hB hold hsz hdf hF f1 f2 f3 f4 f5 f6 f15 f16 f17
          have hX9 := (hX7.later hR).other (a := ⟨gB, I * 7 + 1, none⟩) neG (.int .i64 (S + t))
          have hP9 := pods_set (hO7.later hR) hl (by omega) I p { p with shard := S + t } hpI (I * 7 + 1) (.int .i64 (S + t)) rfl rfl rfl rfl (flat_set1 l I p (S + t) hpI)
          have hz9 := sizes_set hzl I { p with shard := S + t } (hzl p (List.mem_of_getElem? hpI))
          have B9 := (B7.trans (hR.mono B7.size)).setCell (p := ⟨gB, I * 7 + 1, none⟩) wgB (.int .i64 (S + t))
          go_wp2
          refine last_gangs i1 _ n c _ S w3.heap.size _ _ rfl rfl rfl hX9 hP9 (by rw [List.length_set]; exact hl) hnc hz9 ?_
          intro b wb hbb hdf hsz h14
          go_wp2
          exact bodyPost_ret (by simp [results, Try.results5, go_sem, h14]) hdf ⟨rfl, B9.trans (hbb.mono B9.size)⟩
      · obtain ⟨gB, rfl, hgB, hgl⟩ := slice_form hO7 hl hn1
        obtain ⟨M, hM⟩ : ∃ M : Nat, k % ((n : Int) + 1) = M := ⟨(k % ((n : Int) + 1)).toNat, by have := Int.emod_nonneg k (show (n : Int) + 1 ≠ 0 by omega); omega⟩
        have hMn : M ≤ n := by have := Int.emod_lt_of_pos k (show (0 : Int) < n + 1 by omega); omega
        have kM := fun W => within_any k ((n : Int) + 1) M (by omega) (by omega) hM W
        have hn1w : IntKind.i64.wrap ((n : Int) + 1) = n + 1 := IntWalk.i64_in _ (by omega)
        have hMc : (M : Int) ≤ c := by omega
        have hM0 : ¬ (M : Int) < 0 := by omega
        clear hM
        go_wp2_with (first
            | (go_at_call_of 11 (Value.int .i64 at_); refine (kI _).mono ?_; rintro e w7 ⟨rfl, rfl⟩)
            | (go_at_call_of 11 (Value.int .i64 wh); refine (kW _).mono ?_; rintro e w7 ⟨rfl, rfl⟩))
        refine wp_region_rely_last 10 (fun w1 => Below w7.heap.size w7 w1) (fun w1 w2 => Below w1.heap.size w1 w2) (gangsJ w3.heap.size gB n c M k) (by kernel_rfl) (by kernel_rfl) (Below.refl _ _).drew ?keep ?step ?rest
        case keep =>
          intro i v w1 w2 hS hF
          unfold gangsJ at *
          split at hF <;> try exact hF
        case step =>
          intro i o d hi ho hd b w1 hR hold hdep
          have o1 : sl b 1 = .int .i64 id := hold 1 (by kernel_rfl)
          have o2 : sl b 2 = .slice a5 len5 cap5 := hold 2 (by kernel_rfl)
          have o3 : sl b 3 = .int .i64 sh := hold 3 (by kernel_rfl)
          have o4 : sl b 4 = .int .i64 wh := hold 4 (by kernel_rfl)
          have o5 : sl b 5 = .int .i64 at_ := hold 5 (by kernel_rfl)
          have o6 : sl b 6 = .int .i64 k := hold 6 (by kernel_rfl)
          have o15 : sl b 15 = .int .i64 S := hold 15 (by kernel_rfl)
          have o16 : sl b 16 = .pointer (some ⟨w3.heap.size, 0, none⟩) := hold 16 (by kernel_rfl)
          have o17 : sl b 17 = .int .i64 I := hold 17 (by kernel_rfl)
          have hb0 := Below.refl w1.heap.size w1
          have m1 := (hX7.later hR).cell1
          rcases i with _ | _ | _ | _ | _ | _ | _ | _ | _ | _ | i
          all_goals try (cases ho; cases hd)
          · exact ok_val' rfl rfl (want_none rfl b) (by simp [go_sem, o16]) hR hb0 rfl
          · have f85 : sl b 85 = .pointer (some ⟨w3.heap.size, 1, none⟩) := hdep 0 _ _ rfl rfl (by kernel_rfl)
            exact ok_val' rfl rfl (want_none rfl b) (by simp [go_sem, f85, m1]) hR hb0 rfl
          · exact ok_val' rfl rfl (want_none rfl b) (by simp [go_sem, o6]) hR hb0 rfl
          · exact ok_val' rfl rfl (want_none rfl b) (by simp [go_sem, o16]) hR hb0 rfl
          · have f88 : sl b 88 = .pointer (some ⟨w3.heap.size, 1, none⟩) := hdep 3 _ _ rfl rfl (by kernel_rfl)
            exact ok_val' rfl rfl (want_none rfl b) (by simp [go_sem, f88, m1]) hR hb0 rfl
          · have f89 : sl b 89 = .slice (some ⟨gB, 0, none⟩) n c := hdep 4 _ _ rfl rfl (by kernel_rfl)
            exact ok_val' rfl rfl (want_none rfl b) (by simp [go_sem, f89]) hR hb0 rfl
          · have f90 : sl b 90 = .int .i64 n := hdep 5 _ _ rfl rfl (by kernel_rfl)
            exact ok_val' rfl rfl (want_none rfl b) (by simp [go_sem, f90, hn1w]) hR hb0 rfl
          · have f87 : sl b 87 = .int .i64 k := hdep 2 _ _ rfl rfl (by kernel_rfl)
            have f91 : sl b 91 = .int .i64 (n + 1) := hdep 6 _ _ rfl rfl (by kernel_rfl)
            refine ok_enter' rfl rfl (want_none rfl b) ?_ ((kM w1).mono ?_)
            · simp [go_sem, f87, f91, cfwithin]
            rintro e w2 ⟨rfl, rfl⟩
            exact ⟨_, rfl, hR, hb0, rfl⟩
          · have f86 : sl b 86 = .slice (some ⟨gB, 0, none⟩) n c := hdep 1 _ _ rfl rfl (by kernel_rfl)
            have f92 : sl b 92 = .int .i64 M := hdep 7 _ _ rfl rfl (by kernel_rfl)
            exact ok_val' rfl rfl (want_none rfl b) (by simp [go_sem, f86, f92, hMc, hM0]) hR hb0 rfl
          · exact ok_val' rfl rfl (want_none rfl b) (by simp [go_sem, o16]) hR hb0 rfl
          · omega
        case rest =>
          intro o b w1 ho hR hsz hdf hold hF
          cases ho
          have f1 : sl b 1 = .int .i64 id := hold 1 (by kernel_rfl)
          have f2 : sl b 2 = .slice a5 len5 cap5 := hold 2 (by kernel_rfl)
          have f3 : sl b 3 = .int .i64 sh := hold 3 (by kernel_rfl)
          have f4 : sl b 4 = .int .i64 wh := hold 4 (by kernel_rfl)
          have f5 : sl b 5 = .int .i64 at_ := hold 5 (by kernel_rfl)
          have f6 : sl b 6 = .int .i64 k := hold 6 (by kernel_rfl)
          have f15 : sl b 15 = .int .i64 S := hold 15 (by kernel_rfl)
          have f16 : sl b 16 = .pointer (some ⟨w3.heap.size, 0, none⟩) := hold 16 (by kernel_rfl)
          have f17 : sl b 17 = .int .i64 I := hold 17 (by kernel_rfl)
          have f94 : sl b 94 = .pointer (some ⟨w3.heap.size, 1, none⟩) := hF 9 _ _ (by decide) rfl rfl
          have f93 : sl b 93 = .slice (some ⟨gB, 0, none⟩) M c := hF 8 _ _ (by decide) rfl rfl
          have zI := (hX7.later hR).cell1
          have zf := (hX7.later hR).frozen1 1
          refine ok_skip rfl rfl rfl (by simp [go_sem, f94, f93, zI, zf]; rfl) ?_
          have hB : b = _ := act_list b (show b.tmps.size = 122 from hsz) hdf
          rw [hB]
          simp only [List.range, List.range.loop, List.map_cons, List.map_nil, f1, f2, f3, f4, f5, f6, f15, f16, f17]
          generalize sl b 0 = v0, sl b 7 = v7, sl b 8 = v8, sl b 9 = v9, sl b 10 = v10, sl b 11 = v11, sl b 12 = v12, sl b 13 = v13, sl b 14 = v14, sl b 18 = v18, sl b 19 = v19, sl b 20 = v20, sl b 21 = v21, sl b 22 = v22, sl b 23 = v23, sl b 24 = v24, sl b 25 = v25, sl b 26 = v26, sl b 27 = v27, sl b 28 = v28, sl b 29 = v29, sl b 30 = v30, sl b 31 = v31, sl b 32 = v32, sl b 33 = v33, sl b 34 = v34, sl b 35 = v35, sl b 36 = v36, sl b 37 = v37, sl b 38 = v38, sl b 39 = v39, sl b 40 = v40, sl b 41 = v41, sl b 42 = v42, sl b 43 = v43, sl b 44 = v44, sl b 45 = v45, sl b 46 = v46, sl b 47 = v47, sl b 48 = v48, sl b 49 = v49, sl b 50 = v50, sl b 51 = v51, sl b 52 = v52, sl b 53 = v53, sl b 54 = v54, sl b 55 = v55, sl b 56 = v56, sl b 57 = v57, sl b 58 = v58, sl b 59 = v59, sl b 60 = v60, sl b 61 = v61, sl b 62 = v62, sl b 63 = v63, sl b 64 = v64, sl b 65 = v65, sl b 66 = v66, sl b 67 = v67, sl b 68 = v68, sl b 69 = v69, sl b 70 = v70, sl b 71 = v71, sl b 72 = v72, sl b 73 = v73, sl b 74 = v74, sl b 75 = v75, sl b 76 = v76, sl b 77 = v77, sl b 78 = v78, sl b 79 = v79, sl b 80 = v80, sl b 81 = v81, sl b 82 = v82, sl b 83 = v83, sl b 84 = v84, sl b 85 = v85, sl b 86 = v86, sl b 87 = v87, sl b 88 = v88, sl b 89 = v89, sl b 90 = v90, sl b 91 = v91, sl b 92 = v92, sl b 93 = v93, sl b 94 = v94, sl b 95 = v95, sl b 96 = v96, sl b 97 = v97, sl b 98 = v98, sl b 99 = v99, sl b 100 = v100, sl b 101 = v101, sl b 102 = v102, sl b 103 = v103, sl b 104 = v104, sl b 105 = v105, sl b 106 = v106, sl b 107 = v107, sl b 108 = v108, sl b 109 = v109, sl b 110 = v110, sl b 111 = v111, sl b 112 = v112, sl b 113 = v113, sl b 114 = v114, sl b 115 = v115, sl b 116 = v116, sl b 117 = v117, sl b 118 = v118, sl b 119 = v119, sl b 120 = v120, sl b 121 = v121
          clear hB hold hsz hdf hF f1 f2 f3 f4 f5 f6 f15 f16 f17
          have hX9 := (hX7.later hR).set (.slice (some ⟨gB, 0, none⟩) M c)
          have hP9 := pods_front (pods_own ((hO7.later hR).grown (grown_set w1 w3.heap.size 1 (.slice (some ⟨gB, 0, none⟩) M c)) (.inr hne1) hne2) (by omega)) M
          have B9 := (B7.trans (hR.mono B7.size)).setCell (p := ⟨w3.heap.size, 1, none⟩) gX (.slice (some ⟨gB, 0, none⟩) M c)
          go_wp2
          refine last_gangs i1 _ M c _ S w3.heap.size _ _ rfl rfl rfl hX9 hP9 (by rw [List.length_take]; omega) (by omega) (fun p hp => hzl p (List.mem_of_mem_take hp)) ?_
          intro b wb hbb hdf hsz h14
          go_wp2
          exact bodyPost_ret (by simp [results, Try.results5, go_sem, h14]) hdf ⟨rfl, B9.trans (hbb.mono B9.size)⟩
      · obtain ⟨i0, hi, hz0, hz1, hz2⟩ := info_parts infoPod
        obtain ⟨J, hJ⟩ : ∃ J : Nat, k % 5 = J := ⟨(k % 5).toNat, by omega⟩
        have hJ5 : J < 5 := by omega
        have kJ := fun W => within_any k 5 J (by decide) (by decide) hJ W
        clear hJ
        obtain ⟨base, hbs⟩ : ∃ base, w2.heap.size = base := ⟨_, rfl⟩
        rw [hbs] at hO7 hbase hbas3
        clear hbs
        go_wp2_with (first
            | (go_at_call_of 11 (Value.int .i64 at_); refine (kI _).mono ?_; rintro e w7 ⟨rfl, rfl⟩)
            | (go_at_call_of 11 (Value.int .i64 wh); refine (kW _).mono ?_; rintro e w7 ⟨rfl, rfl⟩))
        go_loopw [18] (fun i wr => ∃ m : Nat, m ≤ J ∧ i = .int .i64 m ∧ ∃ a n c l, GBox wr w3.heap.size i1 (.slice a n c) ∧ OwnPods base wr (.slice a n c) l ∧ l.length = n ∧ n ≤ c ∧ n ≤ 8 + m ∧ SizesOk l ∧ Below w.heap.size w wr ∧ (Value.slice a n c).ownBlock ≠ some w3.heap.size ∧ ∀ p ∈ l, p.Off (some w3.heap.size)) (fun i _ => J - (intOf i).toNat)
        case atStart => exact ⟨0, Nat.zero_le _, rfl, a, n, c, l, hX7, hO7, hl, hnc, hn8, hzl, B7, hne1, hne2⟩
        case round =>
          clear hX7 hO7 hl hnc hn8 hzl B7 hne1 hne2 x0 x1 y0 y1 kI kW hn1 hgE HPr hIn
          obtain ⟨m, hm, rfl, a, n, c, l, hX, hO, hl, hnc, hn8, hzl, hbw, hne1, hne2⟩ := hrel
          have x0 := hX.cell0
          have x1 := hX.cell1
          have lX := hX.lt
          by_cases hlt : m < J
          · have hconv := conv_q wr m (by omega)
            obtain ⟨t, ht⟩ : ∃ t : ByteArray, (⟨#[UInt8.ofNat (97 + m)]⟩ : ByteArray) = t := ⟨_, rfl⟩
            rw [ht] at hconv
            obtain ⟨s, hs⟩ : ∃ s : ByteArray, (⟨#[113]⟩ : ByteArray) ++ t = s := ⟨_, rfl⟩
            have hsz : Hid (s.size ≤ 1000) := by
              show _ ≤ _
              rw [← hs, ByteArray.size_append, ← ht]
              exact (by decide : 1 + 1 ≤ 1000)
            have ht1 : t.size = 1 := by rw [← ht]; rfl
            clear ht
            have hrow := hO.row
            rw [hl] at hrow
            have hneG : some w3.heap.size ≠ (Value.slice a n c).ownBlock := fun e => hne1 e.symm
            have hlt1 : (m : Int) < J := by omega
            have hbw' := hbw.size
            go_wp2_with (first
              | (go_at_call 11; refine (kJ _).mono ?_; rintro e w9 ⟨rfl, rfl⟩)
              | (at_builtin; refine wpList_append_own_at _ rfl _ _ 45 rfl base 26 i0 _ 7 96 Try.underlying45 hi hz0 hz1 hz2 rfl (by decide) _ _ _ rfl ((hrow.alloc _).alloc _) ⟨_, 0, none⟩ 1 1 [.string s, .int .i64 1, .int .i64 0, .int .i64 0, .slice none 0 0, .slice none 0 0, .bool false] rfl rfl (cells_new _ _ _ _ (by simp)) (by intro u hu; simp only [List.mem_cons, List.not_mem_nil, or_false] at hu; rcases hu with rfl | rfl | rfl | rfl | rfl | rfl | rfl <;> rfl) (by unfold maxLen; omega) (by omega) (by simp; omega) ?_
                 intro v' w8 hown' hgrow hnil hat
                 obtain ⟨g, cap', rfl, hg1, hg2, hgc, _⟩ := own_slice hown' (by omega)
                 have hX2 := ((hX.grown (World.grownBy_alloc _ _ _) hneG).grown (World.grownBy_alloc _ _ _) hneG).grown hgrow hneG
                 have xc := hX2.cell1
                 have xf := hX2.frozen1 1)
              | go_in)
            have hO2 := ((hO.later (up (Below.refl _ _) (.cells #[.int .u8 (97 + (m : Int))] 5))).later (up (Below.refl _ _) (.cells #[.string s, .int .i64 1, .int .i64 0, .int .i64 0, .slice none 0 0, .slice none 0 0, .bool false] 26))).more (p := ⟨s, 1, 0, 0, none, 0, [], none, 0, [], false⟩) ⟨newNil _ _, newNil _ _⟩ ⟨(fun x hx => by cases hx), (fun x hx => by cases hx)⟩ (by rw [hl]; exact hown') hgrow hat
            have ne1' : (Value.slice (some ⟨g, 0, none⟩) (n + 1) cap').ownBlock ≠ some w3.heap.size := by
              rcases hat with e | e
              · exact fun e2 => hne1 (e.symm.trans e2)
              · intro e2; have e3 := Option.some.inj (e.symm.trans e2); simp at e3; omega
            have ne2' : ∀ p ∈ l ++ [(⟨s, 1, 0, 0, none, 0, [], none, 0, [], false⟩ : PodT)], p.Off (some w3.heap.size) := fun p hp => by
              rcases List.mem_append.1 hp with hp | hp
              · exact hne2 p hp
              · simp only [List.mem_singleton] at hp
                subst hp
                exact ⟨(fun x hx => by cases hx), (fun x hx => by cases hx)⟩
            have sz' : SizesOk (l ++ [(⟨s, 1, 0, 0, none, 0, [], none, 0, [], false⟩ : PodT)]) := fun p hp => by
              rcases List.mem_append.1 hp with hp | hp
              · exact hzl p hp
              · simp only [List.mem_singleton] at hp
                subst hp
                exact ⟨show s.size ≤ maxLen by have := hsz.out; unfold maxLen; omega, by simp, by simp⟩
            have b9 := ((up (up hbw (.cells #[.int .u8 (97 + (m : Int))] 5)) (.cells #[.string s, .int .i64 1, .int .i64 0, .int .i64 0, .slice none 0 0, .slice none 0 0, .bool false] 26)).grown hgrow (up (up hbw _) _).size (fun j hj => by have := (hrow.lt j hj).1; omega)).setCell (p := ⟨w3.heap.size, 1, none⟩) gX (.slice (some ⟨g, 0, none⟩) (n + 1) cap')
            go_roundw
            case rel => exact ⟨m + 1, hlt, by go_num, _, n + 1, cap', _, hX2.set _, hO2.grown (grown_set w8 w3.heap.size 1 (.slice (some ⟨g, 0, none⟩) (n + 1) cap')) (.inr ne1') ne2', by simp [hl], hgc, by omega, sz', b9, ne1', ne2'⟩
            case measure => simp [intOf]; omega
          · obtain rfl : J = m := by omega
            have hJb : ¬ ((J : Int) < J) := by omega
            have hPP := pods_own hO (by omega)
            have hlb := hbw
            go_wp2_with (first
              | (go_at_call 11; refine (kJ _).mono ?_; rintro e w9 ⟨rfl, rfl⟩))
            refine last_gangs i1 a n c l S w3.heap.size _ _ rfl rfl rfl hX hPP hl hnc hzl ?_
            intro b wb hbb hdf hsz h14
            go_wp2
            exact bodyPost_ret (by simp [results, Try.results5, go_sem, h14]) hdf ⟨rfl, hlb.trans (hbb.mono hlb.size)⟩

end Go.Proofs.Ytgcicillmljglaa
