/- A shard of one node; the statements' own known, Open of no nodes. -/
import Derived.Test.YthneemgpifbehaaGreatDoorMg32
import Derived.Test.YthneemgpifbehaaGreatDoorMg38
import Derived.Test.YthneemgpifbehaaGreatDoorMg36
namespace Go.Proofs.YthneemgpifbehaaGreatDoor
open Go.RowKit Go.Maps
set_option linter.unusedSimpArgs false
set_option linter.unusedVariables false

theorem IsS.frame {w w' : World} {S T : Nat} {fp : Nat → Prop} {x : ShS} (h : IsS w S T fp x) (hs : w.heap.size ≤ w'.heap.size) (hk : ∀ b, fp b → w'.heap[b]? = w.heap[b]?) : IsS w' S T fp x := by
  obtain ⟨Lg, u, d, v, col, rfl, h⟩ := h
  exact ⟨Lg, u, d, v, col, rfl, h.frame hs hk⟩

/-- The one node. -/
abbrev nC (cpu mem : Int) : Core := (nB, cpu, mem, [], [], false)
/-- A shard of this node. -/
def oneS (me mode : Int) (cpu mem : Nat) : ShS := ⟨me, mode, [nodeR nB cpu mem [] [] false], [], true, [nC cpu mem], [], [], []⟩

theorem put_first {G : List (Int × Grp)} {s : ByteArray} {cpu mem : Int} {xs ys : List ByteArray} (hN : nodeE s cpu mem xs ys = 0) (hc : 0 ≤ cpu ∧ 0 ≤ mem) : ∀ E, Inv E G → E.map (fun e => e.2.core) = [] → putE E s cpu mem xs ys = 0 := fun E _ h => by
  obtain rfl : E = [] := by simpa using h
  unfold putE
  rw [hN]
  have : ((look ([] : List (ByteArray × Rec)) s).getD zrec) = zrec := rfl
  rw [this]
  have hz : zrec.u ≤ cpu ∧ zrec.m ≤ mem := ⟨hc.1, hc.2⟩
  simp [hz]

theorem qnode_one (w : World) (S T : Nat) (fp : Nat → Prop) (me mode : Int) (B : Nat) (hB : Base B w) (h : IsS w S T fp (newS me mode)) (hlow : ∀ b, fp b → B ≤ b) (cpu mem : Nat) (hc : cpu ≤ 1099511627776) (hm : mem ≤ 1099511627776) (c m : Int) (ec : (cpu : Int) = c) (em : (mem : Int) = m) :
    Calls Tryz.prog 25 #[.pointer (some ⟨S, 0, none⟩), .agg #[.string nB, .int .i64 c, .int .i64 m, .slice none 0 0, .slice none 0 0, .bool false]] w fun e w' => e = .returned (.int .i64 0) ∧ ∃ fp', IsS w' S T fp' (oneS me mode cpu mem) ∧ Turn w w' fp fp' := by
  subst ec em
  have hN := node_one cpu mem (by omega) (by omega)
  exact qnode_yes B hB h hlow (by simp [newS]) nB cpu mem none none 0 0 0 0 false [] [] (by decide) (strs_nil w) (strs_nil w) rfl rfl SP.none SP.none (fun x hx => by cases hx) (fun x hx => by cases hx) (fun x hx => by cases hx) (fun x hx => by cases hx) (fun t ht => by cases ht) (fun t ht => by cases ht) (by omega) (by omega) hN (put_first hN (by omega))

/-- Where a pod goes: to the one node, as long as there is room. -/
theorem lay_one {x : ShS} {c m : Int} (hC : x.C = [nC c m]) (s : ByteArray) (cpu mem : Int) (hf : gW (·.cpu) nB x.G + cpu ≤ c ∧ gW (·.mem) nB x.G + mem ≤ m) (hc : c ≤ 1099511627776 ∧ m ≤ 1099511627776) : layC x [podV s 1 cpu mem] = some [⟨s, nB, cpu, mem, false⟩] := by
  unfold layC
  rw [hC]
  simp only [List.map_cons, List.map_nil, layR]
  have hb := best_one (G := x.G) (mode := x.mode) (nm := s) (cpu := cpu) (mem := mem) (c := c) (m := m) (r := recOf (nC c m)) rfl
  have hu : useC x.G [] nB = gW (·.cpu) nB x.G := by simp [useC, sW]
  have hv : useM x.G [] nB = gW (·.mem) nB x.G := by simp [useM, sW]
  rw [hu, hv, if_pos (by omega)] at hb
  have : bestR x.G [] x.mode (podV s 1 cpu mem) [recOf (nC c m)] = some nB := hb
  rw [this]
  rfl
theorem lay_one_no {x : ShS} {c m : Int} (hC : x.C = [nC c m]) (s : ByteArray) (cpu mem : Int) (hf : ¬ (gW (·.cpu) nB x.G + cpu ≤ c ∧ gW (·.mem) nB x.G + mem ≤ m)) : layC x [podV s 1 cpu mem] = none := by
  unfold layC
  rw [hC]
  simp only [List.map_cons, List.map_nil, layR]
  have hb := best_one (G := x.G) (mode := x.mode) (nm := s) (cpu := cpu) (mem := mem) (c := c) (m := m) (r := recOf (nC c m)) rfl
  have hu : useC x.G [] nB = gW (·.cpu) nB x.G := by simp [useC, sW]
  have hv : useM x.G [] nB = gW (·.mem) nB x.G := by simp [useM, sW]
  rw [hu, hv, if_neg (by omega)] at hb
  have : bestR x.G [] x.mode (podV s 1 cpu mem) [recOf (nC c m)] = none := hb
  rw [this]

/-- The name of the one pod. -/
abbrev pB : ByteArray := ⟨#[112]⟩
theorem gang_one (g : Nat) (g1 : 1 ≤ g) (g2 : g ≤ 999999) (cpu mem : Int) (hc : 0 ≤ cpu ∧ cpu ≤ 1099511627776) (hm : 0 ≤ mem ∧ mem ≤ 1099511627776) : sgangE g [podV pB 1 cpu mem] 4 = 0 := by
  have e1 : isName pB = true := by decide +kernel
  have e2 : sizeB cpu mem = true := by unfold sizeB; simp; omega
  have e3 : setB [] = true := rfl
  have e4 : (podV pB 1 cpu mem).err 4 = 0 := by
    unfold PodT.err podE askE podV
    simp only [e1, e2, e3]
    rfl
  have e5 : twB [] [podV pB 1 cpu mem] = false := rfl
  unfold sgangE
  rw [if_neg (by omega), if_neg (by simp), if_pos (by simp [firstE, e4]), e5]
  rfl

theorem look_put_same {ρ : Type} (M : List (Int × ρ)) (g : Int) (z : ρ) : look (put iK M g z) g = some z := by rw [look_put iK]; simp
/-- What is held is so. -/
theorem state_setU (x : ShS) (g : Int) (z : Und) : stateS (setU x g z) g = z.state := by
  unfold stateS setU
  simp only [look_put_same]

set_option maxRecDepth 100000 in
set_option maxHeartbeats 8000000 in
theorem known10_any (w : World) (hB : Base w.heap.size w) : Calls Tryz.prog 9 #[] w fun e w' => e = .returned (.bool true) ∧ Below w.heap.size w w' := by
  obtain ⟨B, hB0⟩ : ∃ B, w.heap.size = B := ⟨_, rfl⟩
  have kt := tnew_any w
  rw [hB0] at hB kt ⊢
  have hBw : B ≤ w.heap.size := by omega
  clear hB0
  go_enter Tryz.func9, Tryz.ntmps9
  go_upto_region 5 with (first
    | (go_at_call 19; refine kt.mono ?_; rintro e w1 ⟨rfl, hT1, hb1⟩; have hB1 := hB.on hb1; have kn := qnew_nil w1 1 0 _ _ hT1 rfl)
    | (go_at_call 18; refine kn.mono ?_; rintro e w2 ⟨S, fp, rfl, h2, hSz, hfp, hb2⟩))
  have hz1 := hb1.size
  have hb2' : Below B w1 w2 := hb2.mono hB1.le
  have hB2 := hB1.on hb2'
  have hbw2 := hb1.trans hb2'
  have hlow2 : ∀ b, fp b → B ≤ b := fun b hb => (hfp b hb).elim (fun e => by omega) (fun e => Nat.le_trans hB1.le e)
  have ks := qstate_any h2 5 (wfN 5 (by decide))
  have es : stateS (newS 1 0) 5 = 0 := rfl
  rw [es] at ks
  have kn2 := qnode_one w2 S B fp 1 0 B hB2 h2 hlow2 0 0 (by decide) (by decide) 0 0 rfl rfl
  clear kn kt hfp hSz hT1
  go_upto_region 7 with (first
    | (go_at_call 16; refine ks.mono ?_; rintro e w3 ⟨rfl, rfl⟩)
    | (go_at_call 25; refine kn2.mono ?_; rintro e w4 ⟨rfl, fp4, h4, hT4⟩))
  have hb4 : Below B w w4 := hbw2.trans (hT4.on hlow2 hB2.le)
  have hB4 := hB2.on (hT4.on hlow2 hB2.le)
  have hlow4 := hT4.low' hlow2 hB2.le
  have hp0 := up (Below.refl w4.heap.size w4) (.cells #[.string pB, .int .i64 1, .int .i64 0, .int .i64 0, .slice none 0 0, .slice none 0 0, .bool false] 63)
  have bP := Box.new w4 #[.string pB, .int .i64 1, .int .i64 0, .int .i64 0, .slice none 0 0, .slice none 0 0, .bool false] 63 rfl
  have kg := qget_hold_yes (h4.later hp0) (hB4.later hp0).t (by simp [oneS]) (by simp [oneS]) 0 1 rfl 5 (by decide) (by decide) rfl rfl (some ⟨w4.heap.size, 0, none⟩) 1 1 [podV pB 1 0 0] (pods_one bP (by decide)) rfl (by decide) (by decide) (by decide) none 0 0 false (gang_one 5 (by decide) (by decide) 0 0 (by decide) (by decide)) [⟨pB, nB, 0, 0, false⟩] (lay_one rfl pB 0 0 (by decide) (by decide))
  have e5 : ((5 : Nat) : Int) = 5 := rfl
  simp only [e5] at kg
  clear ks kn2 hb1 hB1 hB2 hbw2 hlow2 h2 hT4 bP
  go_upto_region 8 with (go_at_call 14; refine kg.mono ?_; rintro e w5 ⟨R, rfl, bR, hR, fp5, x5, ⟨a5, c5, hx5⟩, h5, hn5, hT5⟩)
  obtain ⟨r0, r1, r2, r3, r4, r5, r6⟩ := bR.cells7
  have hlow4' : ∀ b, fp4 b → B ≤ b := hlow4
  have hb5 : Below B w w5 := (hb4.trans (hp0.mono hB4.le)).trans (hT5.on hlow4 (Nat.le_trans hB4.le hp0.size))
  have ks5 := qstate_any h5 5 (wfN 5 (by decide))
  have es5 : stateS x5 5 = 1 := by rw [hx5]; exact state_setU _ _ _
  rw [es5] at ks5
  have kp5 := qplaces_any h5 5 (wfN 5 (by decide)) [⟨pB, nB, 0, 0, false⟩] 1 (by rw [hx5]; simp [setU, heldS, look_put_same]) rfl
  clear kg h5 hT5 hx5 es5 hp0 hB4 h4 hlow4 hlow4'
  go_wp2_with (first
    | (go_at_call 16; refine ks5.mono ?_; rintro e w6 ⟨rfl, rfl⟩)
    | (go_at_call 29; refine kp5.mono ?_; rintro e w7 ⟨a7, c7, rfl, _, _, _, _, hb7⟩))
  go_ret
  exact ⟨rfl, hb5.trans (hb7.mono (Nat.le_trans hBw hb5.size))⟩

end Go.Proofs.YthneemgpifbehaaGreatDoor

/- The statements' Open of no nodes. -/
namespace Go.Proofs.YthneemgpifbehaaGreatDoor
open Go.RowKit Go.Maps
set_option linter.unusedSimpArgs false
set_option linter.unusedVariables false

theorem setCell_other (w : World) (b i : Nat) (v : Value) (k : Nat) (h : k ≠ b) : (w.setCell ⟨b, i, none⟩ v).heap[k]? = w.heap[k]? := Below.heap_setCell _ _ _ _ h

theorem fin_open {w W : World} {B D S T : Nat} {fp : Nat → Prop} {x : ShS} {a0 a1 a2 a3 a4 : Value} (b : Box W D #[a0, a1, a2, a3, a4] 33) (h : IsS W S T fp x) (hn : ¬ fp D) (hb : Below B w W) (hB : B ≤ D) (p q : Value) :
    Box ((W.setCell ⟨D, 0, none⟩ p).setCell ⟨D, 2, none⟩ q) D #[p, a1, q, a3, a4] 33 ∧ IsS ((W.setCell ⟨D, 0, none⟩ p).setCell ⟨D, 2, none⟩ q) S T fp x ∧ Below B w ((W.setCell ⟨D, 0, none⟩ p).setCell ⟨D, 2, none⟩ q) :=
  ⟨(b.set 0 p).set 2 q, h.frame (by simp [World.setCell]) (fun k hk => by
    have hne : k ≠ D := fun e => hn (by rw [← e]; exact hk)
    rw [setCell_other _ _ _ _ _ hne, setCell_other _ _ _ _ _ hne]), (hb.setCell (p := ⟨D, 0, none⟩) hB p).setCell (p := ⟨D, 2, none⟩) hB q⟩

/-- What Open leaves. -/
def OpenPost (w : World) (mode : Int) (W : Nat) (w' : World) : Prop :=
  ∃ S T X Y fp, Box w' W #[.pointer (some ⟨S, 0, none⟩), .pointer (some ⟨T, 0, none⟩), .pointer (some ⟨X, 0, none⟩), .pointer (some ⟨Y, 0, none⟩), .int .i64 mode] 33 ∧ IsS w' S T fp (newS 1 mode) ∧ w.heap.size ≤ W ∧ ¬ fp W ∧ (∀ b, fp b → w.heap.size ≤ b) ∧ Below w.heap.size w w'

set_option maxRecDepth 100000 in
set_option maxHeartbeats 8000000 in
theorem open10_nil (w : World) (mode : Int) :
    Calls Tryz.prog 10 #[.slice none 0 0, .int .i64 mode] w fun e w' => ∃ W, e = .returned (.pointer (some ⟨W, 0, none⟩)) ∧ OpenPost w mode W w' := by
  have kt := tnew_any w
  go_enter Tryz.func10, Tryz.ntmps10
  go_upto_region 4 with (go_at_call 19; refine kt.mono ?_; rintro e w1 ⟨rfl, hT1, hb1⟩)
  have hz1 := hb1.size
  have hT1l := hT1.box.lt
  have q0 := up (Below.refl w1.heap.size w1) (.cells #[.slice none 0 0, .int .i64 0] 73)
  have q1 := up q0 (.cells #[.pointer none, .pointer (some ⟨w.heap.size, 0, none⟩), .pointer none, .pointer (some ⟨w1.heap.size, 0, none⟩), .int .i64 mode] 33)
  have bY := (Box.new w1 #[.slice none 0 0, .int .i64 0] 73 rfl).up (.cells #[.pointer none, .pointer (some ⟨w.heap.size, 0, none⟩), .pointer none, .pointer (some ⟨w1.heap.size, 0, none⟩), .int .i64 mode] 33)
  have bW := Box.new (w1.alloc (.cells #[.slice none 0 0, .int .i64 0] 73)) #[.pointer none, .pointer (some ⟨w.heap.size, 0, none⟩), .pointer none, .pointer (some ⟨w1.heap.size, 0, none⟩), .int .i64 mode] 33 (B := w1.heap.size + 1) (by simp)
  have hT2 := hT1.later q1
  have hb2 := hb1.trans (q1.mono hz1)
  generalize (w1.alloc (.cells #[.slice none 0 0, .int .i64 0] 73)).alloc (.cells #[.pointer none, .pointer (some ⟨w.heap.size, 0, none⟩), .pointer none, .pointer (some ⟨w1.heap.size, 0, none⟩), .int .i64 mode] 33) = w2 at *
  have hS : ∀ W, Below w2.heap.size w2 W → Calls Tryz.prog 18 #[.int .i64 1, .int .i64 mode, .pointer (some ⟨w.heap.size, 0, none⟩)] W fun e w' => ∃ S, e = .returned (.pointer (some ⟨S, 0, none⟩)) ∧ (∃ fp, IsS w' S w.heap.size fp (newS 1 mode) ∧ ∀ b, fp b → b = w.heap.size ∨ w2.heap.size ≤ b) ∧ Below W.heap.size W w' ∧ Below w2.heap.size w2 w' := fun W hW =>
    (qnew_nil W 1 mode _ _ (hT2.later hW) rfl).mono fun e w' h => by
      obtain ⟨S, fp, h1, h2, h3, h4, h5⟩ := h
      exact ⟨S, h1, ⟨fp, h2, fun b hb => (h4 b hb).imp id (fun e => Nat.le_trans hW.size e)⟩, h5, fin h5 hW⟩
  have hX : ∀ W, Below w2.heap.size w2 W → Calls Tryz.prog 30 #[.int .i64 1, .int .i64 mode, .pointer (some ⟨w1.heap.size, 0, none⟩)] W fun e w' => ∃ X, e = .returned (.pointer (some ⟨X, 0, none⟩)) ∧ Below W.heap.size W w' ∧ Below w2.heap.size w2 w' := fun W hW =>
    (ynew_nil W 1 mode w1.heap.size ((bY.later hW).cell rfl)).mono fun e w' h => by
      obtain ⟨X, h1, _, h3⟩ := h
      exact ⟨X, h1, h3, fin h3 hW⟩
  have hd : Below w2.heap.size w2 w2.drew := (Below.refl _ _).drew
  obtain ⟨d0, d1, d2, d3, d4⟩ : w2.cell? ⟨w1.heap.size + 1, 0, none⟩ = some (.pointer none) ∧ w2.cell? ⟨w1.heap.size + 1, 1, none⟩ = some (.pointer (some ⟨w.heap.size, 0, none⟩)) ∧ w2.cell? ⟨w1.heap.size + 1, 2, none⟩ = some (.pointer none) ∧ w2.cell? ⟨w1.heap.size + 1, 3, none⟩ = some (.pointer (some ⟨w1.heap.size, 0, none⟩)) ∧ w2.cell? ⟨w1.heap.size + 1, 4, none⟩ = some (.int .i64 mode) := ⟨bW.cell rfl, bW.cell rfl, bW.cell rfl, bW.cell rfl, bW.cell rfl⟩
  have hz2 := q1.size
  have s1 : w1.heap.size + 1 < w2.heap.size := bW.lt
  go_cut [] (fun wx => ∃ S X fp, Box wx (w1.heap.size + 1) #[.pointer (some ⟨S, 0, none⟩), .pointer (some ⟨w.heap.size, 0, none⟩), .pointer (some ⟨X, 0, none⟩), .pointer (some ⟨w1.heap.size, 0, none⟩), .int .i64 mode] 33 ∧ IsS wx S w.heap.size fp (newS 1 mode) ∧ Below w.heap.size w wx ∧ ¬ fp (w1.heap.size + 1) ∧ ∀ b, fp b → w.heap.size ≤ b)
  case first =>
    go_region_with (first
      | (go_at_call 18; refine (hS _ (by assumption)).mono ?_; rintro e w3 ⟨S, rfl, h3, hb3, hS3⟩; have bS3 := bW.later hS3; have fS0 := bS3.frozen 0; have fS2 := bS3.frozen 2; obtain ⟨s0, s1, s2, s3, s4⟩ := bS3.cells5)
      | (go_at_call 30; refine (hX _ (by assumption)).mono ?_; rintro e w4 ⟨X, rfl, hb4, hX4⟩; have bX4 := bW.later hX4; have fX0 := bX4.frozen 0; have fX2 := bX4.frozen 2; obtain ⟨x0, x1, x2, x3, x4⟩ := bX4.cells5))
    all_goals
      obtain ⟨fp, h3, hfp⟩ := h3
      have hn : ¬ fp (w1.heap.size + 1) := fun hc => by rcases hfp _ hc with e | e <;> omega
      have hlow : ∀ b, fp b → w.heap.size ≤ b := fun b hc => by rcases hfp _ hc with e | e <;> omega
      go_wp2
      go_meet
      case rel =>
        first
        | (have z := fin_open bX4 (h3.later hb4) hn (hb2.trans (hX4.mono (Nat.le_trans hz1 hz2))) (Nat.le_succ_of_le hz1) (.pointer (some ⟨S, 0, none⟩)) (.pointer (some ⟨X, 0, none⟩))
           exact ⟨S, X, fp, z.1, z.2.1, z.2.2, hn, hlow⟩)
        | (have z := fin_open bS3 h3 hn (hb2.trans (hS3.mono (Nat.le_trans hz1 hz2))) (Nat.le_succ_of_le hz1) (.pointer (some ⟨S, 0, none⟩)) (.pointer (some ⟨X, 0, none⟩))
           exact ⟨S, X, fp, z.1, z.2.1, z.2.2, hn, hlow⟩)
  case rest =>
    obtain ⟨S, X, fp, bO, hO, hbO, hnO, hlO⟩ := hcut
    obtain ⟨o0, o1, o2, o3, o4⟩ := bO.cells5
    clear hS hX d0 d1 d2 d3 d4
    go_wp2
    go_loop [6] (fun i => i = .int .i64 0) (fun _ => 0)
    case atStart => rfl
    case round =>
      subst hrel
      go_wp2
      go_ret
      exact ⟨_, rfl, S, _, X, _, fp, bO, hO, Nat.le_succ_of_le hz1, hnO, hlO, hbO⟩

end Go.Proofs.YthneemgpifbehaaGreatDoor
