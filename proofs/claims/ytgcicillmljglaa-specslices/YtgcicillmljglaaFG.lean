/- A gang that comes in: what its cells are; whether it is not too much. -/
import Derived.Test.YtgcicillmljglaaON
import Derived.Test.YtgcicillmljglaaH
namespace Go.Proofs.Ytgcicillmljglaa
open Go.ChangeShapes Go.WideShapes Go.ChangeAt Go.RowKit Go.Deep
set_option linter.unusedSimpArgs false
set_option linter.unusedVariables false

instance : Inhabited PodT := ⟨⟨ByteArray.empty, 0, 0, 0, none, 0, [], none, 0, [], false⟩⟩

/-- A row of pods that came in. -/
def PodsIn (w : World) (a : Option Addr) (l : List PodT) : Prop :=
  l.length ≤ maxLen ∧ ∀ i p, l[i]? = some p → ∃ B o, a = some ⟨B, o, none⟩ ∧ PodAt w B (o + i * 7) p ∧ StrsIn w p.pa p.ps ∧ StrsIn w p.ba p.bs ∧ p.name.size ≤ maxLen

theorem PodsIn.later {w w1 : World} {a : Option Addr} {l : List PodT} (h : PodsIn w a l) (hb : Below w.heap.size w w1) : PodsIn w1 a l :=
  ⟨h.1, fun i p hp => by
    obtain ⟨B, o, ha, h1, h2, h3, h4⟩ := h.2 i p hp
    exact ⟨B, o, ha, h1.later hb, h2.later hb, h3.later hb, h4⟩⟩

def fewG (l : List PodT) : Bool := l.all (fun p => fewP p.name p.ps p.bs) && decide (l.length ≤ 14)

theorem fewG_parts {l : List PodT} (h : fewG l = true) : l.length ≤ 14 ∧ ∀ p ∈ l, fewP p.name p.ps p.bs = true := by
  unfold fewG at h
  rw [Bool.and_eq_true, List.all_eq_true] at h
  exact ⟨of_decide_eq_true h.2, h.1⟩

theorem PodsIn.few {w : World} {a : Option Addr} {l : List PodT} (h : PodsIn w a l) (hf : fewG l = true) : Pods w a l ∧ ∀ p ∈ l, p.name.size ≤ maxLen ∧ (∀ s ∈ p.ps, s.size ≤ 1000) ∧ ∀ s ∈ p.bs, s.size ≤ 1000 := by
  obtain ⟨h14, hall⟩ := fewG_parts hf
  have parts : ∀ p ∈ l, p.ps.length ≤ 10 ∧ p.bs.length ≤ 10 ∧ (∀ s ∈ p.ps, s.size ≤ 1000) ∧ ∀ s ∈ p.bs, s.size ≤ 1000 := fun p hp => by
    have hq := hall p hp
    unfold fewP fewB at hq
    simp only [Bool.and_eq_true, decide_eq_true_eq, List.all_eq_true] at hq
    exact ⟨hq.1.2.2, hq.2.2, fun t ht => by have := hq.1.2.1 t ht; omega, fun t ht => by have := hq.2.1 t ht; omega⟩
  refine ⟨⟨by omega, fun i p hp => ?_⟩, fun p hp => ?_⟩
  · obtain ⟨B, o, ha, h1, h2, h3, h4⟩ := h.2 i p hp
    have hq := parts p (List.mem_of_getElem? hp)
    exact ⟨B, o, ha, h1, h2.few hq.1, h3.few hq.2.1⟩
  · obtain ⟨i, hi⟩ := List.getElem?_of_mem hp
    obtain ⟨B, o, ha, h1, h2, h3, h4⟩ := h.2 i p hi
    exact ⟨h4, (parts p hp).2.2.1, (parts p hp).2.2.2⟩

set_option maxRecDepth 100000 in
set_option maxHeartbeats 4000000 in
theorem fewGang_any (id : Int) (a : Option Addr) (c n : Nat) (l : List PodT) (w : World) (hl : l.length = n) (hP : PodsIn w a l) :
    Calls Try.prog 21 #[.agg #[.int .i64 id, .slice a n c]] w fun e w' => e = .returned (.bool (fewG l)) ∧ Below w.heap.size w w' := by
  have hn := hP.1
  rw [hl] at hn
  unfold maxLen at hn
  obtain ⟨A, hA⟩ : ∃ A, fewG l = A := ⟨_, rfl⟩
  have HA : Hid (((l.drop 0).all (fun p => fewP p.name p.ps p.bs) && decide (n ≤ 14)) = A) := by show _ = _; rw [← hA, fewG, hl]; rfl
  rw [hA]
  clear hA
  go_enter Try.func21, Try.ntmps21
  go_wp2
  go_loopw [3] (fun i wr => ∃ k : Nat, k ≤ n ∧ i = .int .i64 k ∧ Hid (((l.drop k).all (fun p => fewP p.name p.ps p.bs) && decide (n ≤ 14)) = A) ∧ Below w.heap.size w wr ∧ GBox wr w.heap.size id (.slice a n c)) (fun i _ => n - (intOf i).toNat)
  case atStart => exact ⟨0, Nat.zero_le _, rfl, HA, up (Below.refl _ _) _, GBox.new _ _ _⟩
  case round =>
    obtain ⟨k, hk, rfl, HS, hbw, hG⟩ := hrel
    clear HA
    have hPr := hP.later hbw
    have hcg := hG.cell1
    by_cases hlt : k < n
    · obtain ⟨B, o, rfl, hat, g1, g2, g3⟩ := hPr.2 k _ (List.getElem?_eq_getElem (by omega))
      have hd := pods_drop l k (by omega)
      obtain ⟨p, hp⟩ : ∃ p, l[k] = p := ⟨_, rfl⟩
      rw [hp] at hat g1 g2 hd
      obtain ⟨s, shard, cpu, mem, pa, pc, ps, ba, bc, bs, al⟩ := p
      obtain ⟨d0, d1, d2, d3, d4, d5, d6⟩ := hat
      simp only at d0 d1 d2 d3 d4 d5 d6 g1 g2
      have kp := fewPod_any s shard cpu mem pa ba ps.length bs.length pc bc al ps bs wr g1 g2 rfl rfl
      obtain ⟨b, hb⟩ : ∃ b, fewP s ps bs = b := ⟨_, rfl⟩
      have H2 : Hid ((b && (l.drop (k + 1)).all (fun p => fewP p.name p.ps p.bs) && decide (n ≤ 14)) = A) := by
        show _ = _
        rw [← HS.out, hd, ← hb]; rfl
      rw [hb] at kp
      obtain ⟨n1, hn1⟩ : ∃ n1, ps.length = n1 := ⟨_, rfl⟩
      obtain ⟨n2, hn2⟩ : ∃ n2, bs.length = n2 := ⟨_, rfl⟩
      rw [hn1] at d4 kp
      rw [hn2] at d5 kp
      clear HS hd hp hP hPr g1 g2 g3 hb hn1 hn2
      cases b
      · have hA : A = false := by rw [← H2.out]; rfl
        subst hA
        go_wp2_with (go_at_call 10; refine kp.mono ?_; rintro e w3 ⟨rfl, hb3⟩)
        go_ret
        exact ⟨rfl, hbw.trans (hb3.mono hbw.size)⟩
      · go_wp2_with (go_at_call 10; refine kp.mono ?_; rintro e w3 ⟨rfl, hb3⟩)
        go_roundw
        case rel => exact ⟨k + 1, hlt, by go_num, (by show _ = _; rw [← H2.out]; simp), hbw.trans (hb3.mono hbw.size), hG.later hb3⟩
        case measure => simp [intOf]; omega
    · have e1 : n - k = 0 := by omega
      have hA : A = decide (n ≤ 14) := by rw [← HS.out, List.drop_of_length_le (by omega)]; rfl
      obtain rfl : n = k := by omega
      clear HS hP hPr e1
      by_cases h14 : (n : Int) ≤ 14
      · have : A = true := by rw [hA]; exact decide_eq_true (by omega)
        subst this
        clear hA
        go_wp2
        go_ret
        exact ⟨rfl, hbw⟩
      · have : A = false := by rw [hA]; exact decide_eq_false (by omega)
        subst this
        clear hA
        go_wp2
        go_ret
        exact ⟨rfl, hbw⟩

theorem spot_none {w : World} {a : Addr} {v : Value} (h : w.cell? a = some v) : a = ⟨a.block, a.off, none⟩ := by
  obtain ⟨b, o, s⟩ := a
  cases s with
  | none => rfl
  | some x =>
    exfalso
    unfold World.cell? at h
    split at h <;> simp at h

section
variable {H : Type} {enc : TypeId × Value → H} {W : World} {base : Nat} {spare : Nat → Bool} {held : Bool}

/-- A pod's seven cells that came in. -/
theorem podcells_in {fuel : Nat} {cs : List Value} {x : DataW H × List MemPlace} (hsz : cs.length = 7) (hf : DataW.trod enc Try.prog W base spare held fuel 26 cs = some x) :
    ∃ p : PodT, cs = p.cells ∧ p.name.size ≤ maxLen ∧ StrsIn W p.pa p.ps ∧ StrsIn W p.ba p.bs := by
  obtain ⟨xs, n, _, _, hl, hlen, hF⟩ := DataW.trod_struct Try.underlying26 hf
  match cs, hsz with
  | [v0, v1, v2, v3, v4, v5, v6], _ =>
    match xs, hlen with
    | [y0, y1, y2, y3, y4, y5], _ =>
      have h0 := hF 0 _ rfl
      have h1 := hF 1 _ rfl
      have h2 := hF 2 _ rfl
      have h3 := hF 3 _ rfl
      have h4 := hF 4 _ rfl
      have h5 := hF 5 _ rfl
      have k9 : Try.prog.cellsOf 9 = 1 := by kernel_rfl
      have k3 : Try.prog.cellsOf 3 = 1 := by kernel_rfl
      have k23 : Try.prog.cellsOf 23 = 2 := by kernel_rfl
      have k24 : Try.prog.cellsOf 24 = 1 := by kernel_rfl
      have k4 : Try.prog.cellsOf 4 = 1 := by kernel_rfl
      simp [k9, k3, k23, k24, k4] at h0
      simp [k9, k3, k23, k24, k4] at h1
      simp [k9, k3, k23, k24, k4] at h2
      simp [k9, k3, k23, k24, k4] at h3
      simp [k9, k3, k23, k24, k4] at h4
      simp [k9, k3, k23, k24, k4] at h5
      obtain ⟨s, hs, -, hm⟩ := DataW.trod_string Try.underlying9 h0
      obtain ⟨sh, hsh, -, -⟩ := DataW.trod_int Try.underlying3 h1
      obtain ⟨p, q, rfl, rfl⟩ := vec_in h2
      obtain ⟨a1, n1, c1, ss, rfl, e1, i1, -, -⟩ := strs_in h3
      obtain ⟨a2, n2, c2, ts, rfl, e2, i2, -, -⟩ := strs_in h4
      obtain ⟨b, hb, -⟩ := DataW.trod_bool Try.underlying4 h5
      obtain rfl : v0 = .string s := by simpa using hs
      obtain rfl : v1 = .int .i64 sh := by simpa using hsh
      obtain rfl : v6 = .bool b := by simpa using hb
      subst e1 e2
      exact ⟨⟨s, sh, p, q, a1, c1, ss, a2, c2, ts, b⟩, rfl, hm, i1, i2⟩

theorem gang_in {r : Reach} {b0 : Nat} {v : Value} {d : DataW H} {ps : List MemPlace} (hv : Value.okWide Try.prog W r b0 47 v) (h : DataW.Trod enc Try.prog W base spare held 47 v d ps) :
    ∃ id a n c l, v = .agg #[.int .i64 id, .slice a n c] ∧ l.length = n ∧ n ≤ c ∧ PodsIn W a l := by
  obtain ⟨cs, rfl, hsz⟩ := okWide_struct Try.underlying47 hv
  obtain ⟨fuel, hf⟩ := h
  have c0 : Try.prog.cellsOf 47 = 2 := by kernel_rfl
  have k3 : Try.prog.cellsOf 3 = 1 := by kernel_rfl
  have k45 : Try.prog.cellsOf 45 = 1 := by kernel_rfl
  have k26 : Try.prog.cellsOf 26 = 7 := by kernel_rfl
  rw [c0] at hsz
  obtain ⟨l⟩ := cs
  match l, hsz with
  | [v0, v1], _ =>
    obtain ⟨y0, y1, n, _, _, h0, h1⟩ := trod_struct2 Try.underlying47 hf
    simp [Value.cells, k3, k45] at h0 h1
    obtain ⟨id, hid, -, -⟩ := DataW.trod_int Try.underlying3 h0
    obtain rfl : v0 = .int .i64 id := by simpa using hid
    rcases open_slice Try.underlying45 h1 with ⟨hcs, _⟩ | ⟨a, len, cap, m, n', D, Pl, hcs, _, hlc, hm, hmm, _, hx⟩
    · obtain rfl : v1 = .slice none 0 0 := by simpa using hcs
      exact ⟨id, none, 0, 0, [], rfl, rfl, Nat.le_refl _, ⟨by simp, fun i p hp => by simp at hp⟩⟩
    · obtain rfl : v1 = .slice (some a) len cap := by simpa using hcs
      have hlm : len ≤ m := by rw [hmm]; split <;> omega
      rw [k26] at hx
      have each : ∀ i, i < len → ∃ p : PodT, (∀ j, j < 7 → W.cell? ((a.add (i * 7)).add j) = p.cells[j]?) ∧ p.name.size ≤ maxLen ∧ StrsIn W p.pa p.ps ∧ StrsIn W p.ba p.bs := fun i hi => by
        obtain ⟨cs', h2, h3⟩ := hx i (by omega)
        obtain ⟨_, hlen', hcell⟩ := World.cells?_some h2
        obtain ⟨p, rfl, hp⟩ := podcells_in hlen' h3
        exact ⟨p, hcell, hp⟩
      obtain ⟨Pt, hPt⟩ := choose_lt each
      refine ⟨id, some a, len, cap, (List.range len).map Pt, rfl, by simp, hlc, ⟨by simp; omega, fun i p hp => ?_⟩⟩
      have hi : i < len := by
        have := (List.getElem?_eq_some_iff.1 hp).1
        simpa using this
      have hpe : Pt i = p := by
        have := hp
        simp [hi] at this
        exact this
      obtain ⟨hc, hn, hs1, hs2⟩ := hPt i hi
      rw [hpe] at hc hn hs1 hs2
      have ha : a = ⟨a.block, a.off, none⟩ := by
        obtain ⟨hc0, _⟩ := hPt 0 (by omega)
        have := hc0 0 (by omega)
        have e : (a.add (0 * 7)).add 0 = a := by simp [Addr.add]
        rw [e] at this
        exact spot_none (this.trans rfl)
      refine ⟨a.block, a.off, congrArg some ha, ?_, hs1, hs2, hn⟩
      have hadd : ∀ j, (a.add (i * 7)).add j = ⟨a.block, a.off + i * 7 + j, none⟩ := fun j => by rw [ha, add_plain, add_plain]
      have hcc := fun j (hj : j < 7) => (hadd j) ▸ hc j hj
      exact ⟨hcc 0 (by omega), hcc 1 (by omega), hcc 2 (by omega), hcc 3 (by omega), hcc 4 (by omega), hcc 5 (by omega), hcc 6 (by omega)⟩
end
end Go.Proofs.Ytgcicillmljglaa
