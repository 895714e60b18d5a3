/- A coordinator: Submit. -/
import Derived.Test.YtlehlbgaboifoabGreatDoorMg29
import Derived.Test.YtlehlbgaboifoabGreatDoorMg31
import Derived.Deep.DeepCutAuto
import Derived.Deep.RegionHeld3
import Derived.Test.YtlehlbgaboifoabGreatDoorMg20
namespace Go.Proofs.YtlehlbgaboifoabGreatDoor
open Go.RowKit Go.Maps Go.Shelf
set_option linter.unusedSimpArgs false
set_option linter.unusedVariables false

/-- The record of a gang. -/
def gangT (id : Nat) (ps : List Nat) : ByteArray := ⟨(vb 7 ++ (numT 32 id ++ peersT 32 ps)).toArray⟩
theorem Ints.later {w w' : World} {g : Nat} {zs : List Int} (h : Ints w g zs) (hb : Below w.heap.size w w') : Ints w' g zs := fun i z hz => cell_below hb (h i z hz) (block_lt (h i z hz))
theorem Ints.frame {w w' : World} {g : Nat} {zs : List Int} (h : Ints w g zs) (hk : w'.heap[g]? = w.heap[g]?) : Ints w' g zs := fun i z hz => (World.cell?_of_block hk).trans (h i z hz)
theorem Ints.nats {w : World} {g : Nat} {zs : List Int} {ps : List Nat} (h : Ints w g zs) (e : zs = ps.map fun (p : Nat) => (p : Int)) : Nats w (some ⟨g, 0, none⟩) ps := fun i hi => by
  refine ⟨_, rfl, ?_⟩
  have h1 := h i (ps.getD i 0 : Nat) (by rw [e]; simp [List.getD, List.getElem?_eq_getElem hi])
  cases i with
  | zero => exact h1
  | succ j => simpa [Addr.add] using h1

theorem wfN (i : Nat) (h : i ≤ 999999) : (Lit.int .i64 (i : Int)).wf = true := by
  have e1 : IntKind.i64.min = -9223372036854775808 := rfl
  have e2 : IntKind.i64.max = 9223372036854775807 := rfl
  simp only [Lit.wf, e1, e2, Bool.and_eq_true, decide_eq_true_eq]
  omega

theorem rise_le : ∀ {l : List Nat} {q : Nat}, riseB q l = true → ∀ x ∈ l, x ≤ 4
  | [], _, _, x, hx => by cases hx
  | p :: l, q, h, x, hx => by
    simp only [riseB, Bool.and_eq_true, decide_eq_true_eq] at h
    rcases List.mem_cons.1 hx with rfl | hx
    · exact h.1.2
    · exact rise_le h.2 x hx

section
variable {w : World} {C T m : Nat} {v : Value} {col : Nat → Int} {x : CoS}

set_option maxRecDepth 100000 in
set_option maxHeartbeats 8000000 in
theorem submit_ok (h : CoP w C T m v col x) (B : Nat) (hB : TabB B w) (hBw : B ≤ w.heap.size) (low : ∀ b, inC col b → B ≤ b) (hlen : x.A.length + x.L.length < 999980) (hMl : x.M.length ≤ 100000)
    (id : Nat) (h1 : 1 ≤ id) (h2 : id ≤ 999999) (a : Option Addr) (n c : Nat) (l : List PodT) (hl : l.length = n) (hn8 : n ≤ 8) (hP : Pods w a l) (hPi : PodsIn (fun k => k < w.heap.size ∧ ¬ inC col k) a l)
    (kg : ∀ W, Below w.heap.size w W → Calls Tryz.prog 32 #[.agg #[.int .i64 id, .slice a n c], .int .i64 x.n] W fun e w' => e = .returned (.int .i64 0) ∧ Below W.heap.size W w')
    (hno : look x.M (id : Int) = none) (ps : List Nat) (hps : shardsB l = ps.map fun (p : Nat) => (p : Int)) (h0 : 0 < ps.length) (h4 : ps.length ≤ 4) (hr : riseB 0 ps = true) :
    Calls Tryz.prog 12 #[ptr C, .agg #[.int .i64 id, .slice a n c]] w fun e w' => ∃ v2 v' col' b pods, e = .returned (.tuple #[v2, .int .i64 0]) ∧ MsgsN w w' v2 (toAll id ps (.hold 0 pods)) ∧ pods.map PodT.data = copD l (shardsB l) ∧
      CoP w' C T m v' col' { recC x (gangT id ps) with M := upd (put iK x.M (id : Int) ⟨b, ps, [], .nul⟩) (id : Int) ⟨b, ps, ps, .hold 0 pods⟩ } ∧ Turn w w' (inC col) (inC col') := by
  have hwf : (Lit.int .i64 (id : Int)).wf = true := wfN id (by omega)
  have bG := Box.new w #[.int .i64 id, .slice a n c] 39 rfl
  have hb0 := up (Below.refl w.heap.size w) (.cells #[.int .i64 id, .slice a n c] 39)
  have ks := fun W (hW : Below w.heap.size w W) => shards_any id a c n l W hl (hP.later hW)
  have kc := fun W hPW => copied_any id a n c l W hl hn8 hPW (by rw [hps]; simp; omega)
  have hcl := copD_length l (shardsB l) (by rw [hps]; simp; omega)
  obtain ⟨zs, hzs⟩ : ∃ zs, shardsB l = zs := ⟨_, rfl⟩
  rw [hzs] at hps hcl ⊢
  simp only [hzs] at ks kc
  have hN : zs.length = ps.length := by rw [hps]; simp
  obtain ⟨N, hNN⟩ : ∃ N, ps.length = N := ⟨_, rfl⟩
  rw [hNN] at hN h0 h4
  simp only [hN] at ks
  have hcl2 : (copD l zs).length ≤ 1000 := by omega
  have hlt := h.lt
  clear hl hcl hN hzs
  go_enter Tryz.func12, Tryz.ntmps12
  go_upto_region 1 with fail
  have hD0 := h.later hb0
  have c0 := hD0.c0
  have c0d : (w.alloc (.cells #[.int .i64 id, .slice a n c] 39)).drew.cell? ⟨C, 0, none⟩ = some (.int .i64 x.n) := c0
  obtain ⟨g0, g1⟩ := bG.cells2
  obtain ⟨g0d, g1d⟩ := bG.drew.cells2
  go_cut [6] (fun v6 wx => v6 = .int .i64 0 ∧ Below w.heap.size w wx ∧ Box wx w.heap.size #[.int .i64 id, .slice a n c] 39)
  case first =>
    clear ks kc
    go_region_with (go_at_call 32; refine (kg _ (by first | exact hb0 | exact hb0.drew)).mono ?_; rintro e w1 ⟨rfl, hb1⟩)
    all_goals
      go_wp2
      go_meet
      case rel => exact ⟨rfl, fin hb1 hb0.drew, Box.later (w := (w.alloc (.cells #[.int .i64 id, .slice a n c] 39)).drew) bG hb1⟩
  case rest =>
    clear bG hb0 kg hD0 c0 c0d g0 g1 g0d g1d
    obtain ⟨rfl, hb0, bG⟩ := hcut
    have l1 := (h.later hb0.drew).mp.look1 (.pointer none) Tryz.underlying76 (zero_pg _) id hwf
    simp only [hno, Option.map_none, Option.getD_none] at l1
    have c2 := (h.later hb0).c2
    have c2d : wc.drew.cell? ⟨C, 2, none⟩ = some (.map (some m)) := c2
    obtain ⟨g0, g1⟩ := bG.cells2
    obtain ⟨g0d, g1d⟩ := bG.drew.cells2
    go_upto_region 4 with fail
    go_cut [26] (fun v26 wx => v26 = .bool false ∧ Below w.heap.size w wx ∧ Box wx w.heap.size #[.int .i64 id, .slice a n c] 39)
    case first =>
      clear ks kc
      go_region_with (fail)
      all_goals
        go_wp2
        go_meet
        case rel => exact ⟨rfl, hb0.drew, bG⟩
    case rest =>
      clear bG hb0 l1 c2 c2d g0 g1 g0d g1d
      obtain ⟨rfl, hb0, bG⟩ := hcut
      obtain ⟨g0, g1⟩ := bG.cells2
      obtain ⟨g0d, g1d⟩ := bG.drew.cells2
      go_upto_region 6 with fail
      go_cut [7] (fun v7 wx => ∃ X gs gc, v7 = ptr X ∧ Box wx X #[.int .i64 id, .slice (some ⟨gs, 0, none⟩) N gc, .slice none 0 0, .nilIface] 83 ∧ Ints wx gs zs ∧ w.heap.size ≤ gs ∧ gs < X ∧ Box wx w.heap.size #[.int .i64 id, .slice a n c] 39 ∧ Below w.heap.size w wx)
      case first =>
        clear kc
        go_region_with (go_at_call 33; refine (ks _ (by first | exact hb0 | exact hb0.drew)).mono ?_; rintro e w2 ⟨gs, gc, rfl, hI, hgs, hb2⟩; have bG2 := Box.later bG.drew hb2; obtain ⟨z0, z1⟩ := bG2.cells2)
        all_goals
          go_wp2
          go_meet
          case rel =>
            have hA := up (Below.refl w2.heap.size w2) (.cells #[.int .i64 id, .slice (some ⟨gs, 0, none⟩) N gc, .slice none 0 0, .nilIface] 83)
            have hw2 := fin hb2 hb0.drew
            exact ⟨w2.heap.size, gs, gc, rfl, Box.new w2 _ _ rfl, hI.later hA, Nat.le_trans hb0.drew.size hgs, by
              have hz : 0 < zs.length := by rw [hps]; simp; omega
              exact block_lt (hI 0 _ (List.getElem?_eq_getElem hz)), bG2.later hA, fin hA hw2⟩
      case rest =>
        clear bG hb0 g0 g1 g0d g1d
        obtain ⟨X, gs, gc, rfl, bX, hI, hgs, hgX, bG, hb0⟩ := hcut
        obtain ⟨x0, x1, x2, x3⟩ := bX.cells4
        obtain ⟨x0d, x1d, x2d, x3d⟩ := bX.drew.cells4
        have x0a := fun o => cell_alloc x0d o
        have x1a := fun o => cell_alloc x1d o
        go_upto_region 7 with fail
        go_cut [8] (fun v8 wx => ∃ Rb, v8 = ptr Rb ∧ Box wx Rb #[.int .i64 7, .int .i64 id, .slice (some ⟨gs, 0, none⟩) N gc, .slice none 0 0, .string ⟨#[]⟩, .int .i64 0, .int .i64 0, .slice none 0 0, .slice none 0 0, .bool false] 88 ∧ Box wx X #[.int .i64 id, .slice (some ⟨gs, 0, none⟩) N gc, .slice none 0 0, .nilIface] 83 ∧ Ints wx gs zs ∧ Box wx w.heap.size #[.int .i64 id, .slice a n c] 39 ∧ Below w.heap.size w wx)
        case first =>
          clear kc ks
          go_region_held3 (fun w' => w'.cell? ⟨X, 0, none⟩ = some (.int .i64 id) ∧ w'.cell? ⟨X, 1, none⟩ = some (.slice (some ⟨gs, 0, none⟩) N gc))
            (exact ⟨by first | assumption | exact x0a _, by first | assumption | exact x1a _⟩)
            (fail)
          all_goals
            go_wp2
            go_meet
            case rel => exact ⟨wc.heap.size, rfl, (Box.new wc _ _ rfl).drew, (bX.up _).drew, (hI.later (up (Below.refl wc.heap.size wc) _).drew), (bG.up _).drew, (up hb0 _).drew⟩
        case rest =>
          clear bX hI bG hb0 x0 x1 x2 x3 x0d x1d x2d x3d x0a x1a ks
          obtain ⟨Rb, rfl, bRb, bX, hI, bG, hb0⟩ := hcut
          have hNat := hI.nats hps
          have hgl : gs < wc.heap.size := by
            have hz : 0 < zs.length := by rw [hps]; simp; omega
            exact block_lt (hI 0 _ (List.getElem?_eq_getElem hz))
          have hle := rise_le hr
          have kch := check_seven id (some ⟨gs, 0, none⟩) N gc ps wc h1 h2 hNat hNN h0 (by omega) hr
          have kf := fun W (hW : Below wc.heap.size wc W) => force_co (h.later (fin hW hb0)) hlen (.int .i64 7) (.int .i64 id) (.slice (some ⟨gs, 0, none⟩) N gc) (.slice none 0 0) (.string ⟨#[]⟩) (.int .i64 0) (.int .i64 0) (.slice none 0 0) (.slice none 0 0) (.bool false) (gangT id ps)
            (fun W' hb => check_seven id (some ⟨gs, 0, none⟩) N gc ps W' h1 h2 (hNat.later (fin hb hW)) hNN h0 (by omega) hr)
            (fun W' hb => text_seven id (some ⟨gs, 0, none⟩) N gc ps W' h2 (hNat.later (fin hb hW)) hNN (by omega) (fun y hy => by cases hy; exact Nat.lt_of_lt_of_le hgl (fin hb hW).size) (fun z hz => by have := hle z hz; omega) ((hB.on ((fin (fin hb hW) hb0).mono hBw)).up (Nat.le_trans hBw (fin (fin hb hW) hb0).size)))
          obtain ⟨y0, y1, y2, y3, y4, y5, y6, y7, y8, y9⟩ := RecBox.cells bRb
          have bRl := fun W (hW : Below wc.heap.size wc W) => bRb.later hW
          go_upto_region 12 with (first
            | (go_at_call 35; refine (kf _ hb2).mono ?_; rintro e w7 ⟨rfl, v7, col7, h7, hT7⟩)
            | (go_at_call 34; refine kch.mono ?_; rintro e w2 ⟨rfl, hb2⟩; have bR2 := bRl _ hb2; obtain ⟨r0, r1, r2, r3, r4, r5, r6, r7, r8, r9⟩ := RecBox.cells bR2))
          have hw2 := fin hb2 hb0
          have nX : ¬ inC col X := fun hc => by have := hlt X hc; omega
          have nG : ¬ inC col w.heap.size := fun hc => by have := hlt _ hc; omega
          have ngs : ¬ inC col gs := fun hc => by have := hlt gs hc; omega
          have bX7 := hT7.kept.box (bX.later hb2) nX
          have bG7 := hT7.kept.box (bG.later hb2) nG
          have hI7 : Ints w7 gs zs := (hI.later hb2).frame (hT7.kept.block gs (Nat.lt_of_lt_of_le hgl hb2.size) ngs)
          have hz7 := hT7.kept.size
          have h7d := h7.later (Below.drew (Below.refl w7.heap.size w7))
          obtain ⟨w8, hrun, hM8, hg8⟩ := h7d.mp.update Tryz.underlying76 id hwf (by show x.M.length ≤ 1000000; omega) ⟨X, ps, [], .nul⟩
          simp only [GS.val] at hrun
          have cm2 := h7.c2
          have cm2d : w7.drew.cell? ⟨C, 2, none⟩ = some (.map (some m)) := cm2
          have xd0 : w7.drew.cell? ⟨X, 0, none⟩ = some (.int .i64 id) := bX7.cell rfl
          have hmc : inC col m := by unfold inC; rw [h.cm]; decide
          have hXm : X ≠ m := fun e => nX (by rw [e]; exact hmc)
          have hgm : gs ≠ m := fun e => ngs (by rw [e]; exact hmc)
          have hGm : w.heap.size ≠ m := fun e => nG (by rw [e]; exact hmc)
          have hk8 : ∀ k, k < w7.heap.size → k ≠ m → w8.heap[k]? = w7.heap[k]? := fun k hk hn => hg8.block k hk (fun e => hn (by cases e; rfl))
          have hz8 : w7.heap.size ≤ w8.heap.size := hg8.size
          have bX8 : Box w8 X #[.int .i64 id, .slice (some ⟨gs, 0, none⟩) N gc, .slice none 0 0, .nilIface] 83 := bX7.frame (hk8 X bX7.lt hXm)
          have bG8 : Box w8 w.heap.size #[.int .i64 id, .slice a n c] 39 := bG7.frame (hk8 _ bG7.lt hGm)
          have hgl7 : gs < w7.heap.size := Nat.lt_of_lt_of_le (Nat.lt_of_lt_of_le hgl hb2.size) hz7
          have hI8 : Ints w8 gs zs := hI7.frame (hk8 gs hgl7 hgm)
          have hG8 : GA w8 C (fun k => k = X ∨ k = gs) (fun k => k = gs) id ⟨X, ps, [], .nul⟩ (some ⟨gs, 0, none⟩) gc (.slice none 0 0) .nilIface := {
            box := by show Box w8 X #[.int .i64 id, .slice (some ⟨gs, 0, none⟩) ps.length gc, .slice none 0 0, .nilIface] _; rw [hNN]; exact bX8
            ps := hI8.nats hps
            ws := World.ownsRow_nil _ _ _ _
            ph := rfl
            sub := fun k hk => .inr hk
            qb := .inl rfl
            rb := fun e => by simp only at e; omega
            pR := fun y hy => by cases hy; rfl
            pS := SP.some _ _
            wQ := fun k hk => by cases hk
            lp := by show ps.length ≤ 4; omega
            lw := by simp
            wn := fun hc => absurd rfl hc
            lt := fun k hk => hk.elim (fun e => by rw [e]; exact bX8.lt) (fun e => by rw [e]; exact Nat.lt_of_lt_of_le hgl7 hz8) }
          have n7 : ∀ k, k < w2.heap.size → ¬ inC col k → col7 k = 0 := fun k hk hn => Classical.byContradiction fun hc => by
            rcases hT7.new k hc with h9 | h9
            · exact hn h9
            · omega
          obtain ⟨col8, h8, hc8, hq8⟩ := h7d.add (n := 0) (i := (id : Int)) (g := ⟨X, ps, [], .nul⟩) ⟨by omega, by omega⟩ hno ⟨_, _, _, _, _, hG8⟩ (fun b hb => hb.elim (fun e => by rw [e]; exact n7 _ (bX.later hb2).lt nX) (fun e => by rw [e]; exact n7 _ (Nat.lt_of_lt_of_le hgl hb2.size) ngs)) hM8 hg8
          have hT8 : Turn w w8 (inC col) (inC col8) := ⟨fun b hb => (hc8 b).2 (.inl (hT7.more b hb)), fun b hb => by
            rcases (hc8 b).1 hb with h9 | rfl | rfl
            · exact (hT7.new b h9).imp (fun h => h) (fun h => Nat.le_trans hw2.size h)
            · exact .inr (by omega)
            · exact .inr hgs, ((Kept.of_below hw2).trans hT7.kept).trans (Kept.of_grown (w := w7) ⟨hg8.os, hg8.tape, hg8.output, hg8.size, hg8.block⟩ hmc)⟩
          have hP8 : Pods w8 a l := hP.frame hPi fun k hk => hT8.kept.block k hk.1 hk.2
          have kcp := kc w8 hP8
          have g08 : w8.cell? ⟨w.heap.size, 0, none⟩ = some (.int .i64 id) := bG8.cell rfl
          have g18 : w8.cell? ⟨w.heap.size, 1, none⟩ = some (.slice a n c) := bG8.cell rfl
          clear kc kf kch bRl y0 y1 y2 y3 y4 y5 y6 y7 y8 y9 bR2 r0 r1 r2 r3 r4 r5 r6 r7 r8 r9
          obtain ⟨hG8', _, _⟩ := h8.at_ (i := (id : Int)) (g := ⟨X, ps, [], .nul⟩) (by show look (put iK x.M (id : Int) _) (id : Int) = _; rw [look_put iK]; simp)
          obtain ⟨R8, pa8, pc8, wv8, vv8, hGA8⟩ := hG8'
          have kho := fun a9 n9 c9 W => holding_any C X id a9 n9 c9 W
          have hlk : look (put iK x.M (id : Int) (⟨X, ps, [], .nul⟩ : GS)) (id : Int) = some ⟨X, ps, [], .nul⟩ := by rw [look_put iK]; simp
          clear hB low hlt hno hps hr hb0 hb2 hw2 bX bG hI bRb hNat hgl hle nX nG ngs bX7 bG7 hI7 h7 hT7 h7d cm2 hM8 hmc hXm hgm hGm hk8 bX8 hI8 hG8 n7 hP hPi hgl7
          go_region_with (fail)
          all_goals
            go_wp2_with (first
              | (go_at_call 36; refine ke.mono ?_; rintro e w11 ⟨v11, Q11, rfl, hM11, hG11, hT11⟩)
              | (go_at_call 37; refine (kho _ _ _ _).mono ?_; rintro e w10 ⟨P, gb, xb, cb, pb, rfl, bP, bg, bx, bc, bp, nP, ng, nx, nc, np, hb10⟩; have ke := enter_hold' hGA8 hb9 hb10 bP bg bx bc bp nP ng nx nc np hP9 hi9)
              | (go_at_call 38; refine kcp.mono ?_; rintro e w9 ⟨v9, rfl, hC9, hb9⟩; obtain ⟨a9, c9, pods, rfl, hP9, hd9, hi9, _⟩ := hC9.pods hcl2))
            go_ret2
            obtain ⟨col11, h11, hT12⟩ := h8.gang (i := (id : Int)) (g := ⟨X, ps, [], .nul⟩) (g' := ⟨X, ps, ps, .hold 0 pods⟩) hlk rfl hG11 hT11
            exact ⟨v11, v7, col11, X, pods, rfl, hM11.low hT8.kept.size, hd9, h11, hT8.trans hT12⟩
end

end Go.Proofs.YtlehlbgaboifoabGreatDoor

/- A coordinator that is made of an empty tape; the chapter's own; a coordinator among a walk's own variables. -/
namespace Go.Proofs.YtlehlbgaboifoabGreatDoor
open Go.RowKit Go.Maps Go.Shelf
set_option linter.unusedSimpArgs false
set_option linter.unusedVariables false

theorem all_any_nil (w : World) (T : Nat) (v : Value) (h : IsTape w T v (rowOf [] [] false)) :
    Calls Tryz.prog 69 #[.pointer (some ⟨T, 0, none⟩)] w fun e w' => ∃ a c, e = .returned (.slice a 0 c) ∧ Below w.heap.size w w' :=
  (tall_any w T v [] [] false [] h rfl (fun i r hr => by simp at hr)).mono fun e w' h => by
    obtain ⟨a, c, l, h1, _, _, _, h2⟩ := h
    exact ⟨a, c, h1, h2⟩

/-- A coordinator of nothing. -/
def newC (n : Int) : CoS := ⟨n, [], [], false, []⟩

theorem CoP.made {w : World} {C T m : Nat} {v : Value} {n : Int} (box : Box w C #[.int .i64 n, .pointer (some ⟨T, 0, none⟩), .map (some m)] 78) (tp : IsTape w T v (rowOf [] [] false)) (hM : MOwn GS.val w m []) (h1 : C ≠ T) (h2 : C ≠ m) (h3 : T ≠ m) (hv : v.ownBlock = none) (hT : T < w.heap.size) :
    ∃ fp, IsC w C T fp (newC n) ∧ ∀ b, fp b → b = C ∨ b = T ∨ b = m := by
  classical
  refine ⟨inC fun b => if b = C then -1 else if b = T then -2 else if b = m then -3 else 0, ⟨m, v, _, rfl, {
    box := box
    tp := tp
    ts := fun _ => rfl
    mp := hM
    ok := fun e he => by cases he
    pos := fun e he => by cases he
    cC := if_pos rfl
    cT := by rw [if_neg (Ne.symm h1), if_pos rfl]
    cv := fun g hg => by rw [hv] at hg; cases hg
    cm := by rw [if_neg (Ne.symm h2), if_neg (Ne.symm h3), if_pos rfl]
    lt := fun b hb => by
      by_cases e1 : b = C
      · rw [e1]; exact box.lt
      by_cases e2 : b = T
      · rw [e2]; exact hT
      by_cases e3 : b = m
      · rw [e3]; exact hM.lt
      rw [if_neg e1, if_neg e2, if_neg e3] at hb
      exact absurd rfl hb }⟩, fun b hb => ?_⟩
  simp only [inC] at hb
  by_cases e1 : b = C
  · exact .inl e1
  by_cases e2 : b = T
  · exact .inr (.inl e2)
  by_cases e3 : b = m
  · exact .inr (.inr e3)
  rw [if_neg e1, if_neg e2, if_neg e3] at hb
  exact absurd rfl hb

set_option maxRecDepth 100000 in
set_option maxHeartbeats 2000000 in
theorem cnew_nil (w : World) (n : Int) (T : Nat) (v : Value) (h : IsTape w T v (rowOf [] [] false)) (hv : v.ownBlock = none) :
    Calls Tryz.prog 30 #[.int .i64 n, .pointer (some ⟨T, 0, none⟩)] w fun e w' => ∃ C fp, e = .returned (.pointer (some ⟨C, 0, none⟩)) ∧ IsC w' C T fp (newC n) ∧ w.heap.size ≤ C ∧ (∀ b, fp b → b = T ∨ w.heap.size ≤ b) ∧ Below w.heap.size w w' := by
  have hT := h.box.lt
  have ka := fun W (hb : Below w.heap.size w W) => all_any_nil W T v (h.later hb)
  have hmm := @run_makeMap Tryz.prog
  have q0 := up (Below.refl w.heap.size w) (.map #[] 0)
  have q1 := up q0 (.cells #[.int .i64 n, .pointer (some ⟨T, 0, none⟩), .map (some w.heap.size)] 78)
  have bC := Box.new (w.alloc (.map #[] 0)) #[.int .i64 n, .pointer (some ⟨T, 0, none⟩), .map (some w.heap.size)] 78 (B := w.heap.size + 1) (by simp)
  have hM : MOwn GS.val ((w.alloc (.map #[] 0)).alloc (.cells #[.int .i64 n, .pointer (some ⟨T, 0, none⟩), .map (some w.heap.size)] 78)) w.heap.size [] := (MOwn.made w).kept (Below.heap_alloc _ _ _ (by simp))
  obtain ⟨fp, hC, hfp⟩ := CoP.made bC (h.later q1) hM (by omega) (by omega) (by omega) hv (Nat.lt_of_lt_of_le hT q1.size)
  have kaW := ka _ q1
  have hend : ∀ w2, Below ((w.alloc (.map #[] 0)).alloc (.cells #[.int .i64 n, .pointer (some ⟨T, 0, none⟩), .map (some w.heap.size)] 78)).heap.size ((w.alloc (.map #[] 0)).alloc (.cells #[.int .i64 n, .pointer (some ⟨T, 0, none⟩), .map (some w.heap.size)] 78)) w2 →
      IsC w2 (w.heap.size + 1) T fp (newC n) ∧ w.heap.size ≤ w.heap.size + 1 ∧ (∀ b, fp b → b = T ∨ w.heap.size ≤ b) ∧ Below w.heap.size w w2 := fun w2 hb2 => ⟨hC.later hb2, by omega, fun b hb => by
        rcases hfp b hb with e | e | e
        · exact .inr (by omega)
        · exact .inl e
        · exact .inr (by omega), fin hb2 q1⟩
  clear ka hM bC hC hfp q0 q1 h hv
  go_enter Tryz.func30, Tryz.ntmps30
  go_wp2_with (go_at_call 69; refine kaW.mono ?_; rintro e w2 ⟨a, c, rfl, hb2⟩)
  go_loop [16] (fun i => i = .int .i64 0) (fun _ => 0)
  case atStart => rfl
  case round =>
    subst hrel
    go_wp2
    go_ret
    exact ⟨_, rfl, fp, hend _ hb2⟩

set_option maxRecDepth 100000 in
theorem yall_nil (w : World) (Y : Nat) (hY : w.cell? ⟨Y, 0, none⟩ = some (.slice none 0 0)) :
    Calls Tryz.prog 71 #[.pointer (some ⟨Y, 0, none⟩)] w fun e w' => e = .returned (.slice none 0 0) ∧ w' = w := by
  go_enter Tryz.func71, Tryz.ntmps71
  go_wp2
  go_loop [3, 4] (fun o i => o = .slice none 0 0 ∧ i = .int .i64 0) (fun _ _ => 0)
  case atStart => exact ⟨rfl, rfl⟩
  case round =>
    obtain ⟨rfl, rfl⟩ := hrel
    go_wp2
    go_ret
    exact ⟨rfl, rfl⟩

set_option maxRecDepth 100000 in
theorem x11new_nil (w : World) (n : Int) (Y : Nat) (hY : w.cell? ⟨Y, 0, none⟩ = some (.slice none 0 0)) :
    Calls Tryz.prog 31 #[.int .i64 n, .pointer (some ⟨Y, 0, none⟩)] w fun e w' => ∃ X, e = .returned (.pointer (some ⟨X, 0, none⟩)) ∧ w.heap.size ≤ X ∧ Below w.heap.size w w' := by
  have hYl := block_lt hY
  have ka := fun W (hb : Below w.heap.size w W) => yall_nil W Y (cell_below hb hY hYl)
  have hb0 : ∀ o, Below w.heap.size w (w.alloc o) := fun o => up (Below.refl _ _) o
  go_enter Tryz.func31, Tryz.ntmps31
  go_wp2_with (go_at_call 71; refine (ka _ (hb0 _)).mono ?_; rintro e w1 ⟨rfl, rfl⟩)
  go_loop [7] (fun i => i = .int .i64 0) (fun _ => 0)
  case atStart => rfl
  case round =>
    subst hrel
    go_wp2
    go_ret
    exact ⟨_, rfl, by simp, hb0 _⟩

theorem fin_open {w W : World} {B D C T : Nat} {fp : Nat → Prop} {x : CoS} {a0 a1 a2 a3 : Value} (b : Box W D #[a0, a1, a2, a3] 35) (h : IsC W C T fp x) (hn : ¬ fp D) (hb : Below B w W) (hB : B ≤ D) (p q : Value) :
    Box ((W.setCell ⟨D, 0, none⟩ p).setCell ⟨D, 2, none⟩ q) D #[p, a1, q, a3] 35 ∧ IsC ((W.setCell ⟨D, 0, none⟩ p).setCell ⟨D, 2, none⟩ q) C T fp x ∧ Below B w ((W.setCell ⟨D, 0, none⟩ p).setCell ⟨D, 2, none⟩ q) :=
  ⟨(b.set 0 p).set 2 q, h.frame (by simp [World.setCell]) (fun k hk => by
    have hne : k ≠ D := fun e => hn (by rw [← e]; exact hk)
    rw [setCell_other _ _ _ _ _ hne, setCell_other _ _ _ _ _ hne]), (hb.setCell (p := ⟨D, 0, none⟩) hB p).setCell (p := ⟨D, 2, none⟩) hB q⟩

/-- What Open leaves. -/
def OpenPost (w : World) (W : Nat) (w' : World) : Prop :=
  ∃ C T X Y fp, Box w' W #[ptr C, ptr T, ptr X, ptr Y] 35 ∧ IsC w' C T fp (newC 3) ∧ w.heap.size ≤ W ∧ ¬ fp W ∧ (∀ b, fp b → w.heap.size ≤ b) ∧ Below w.heap.size w w'

set_option maxRecDepth 100000 in
set_option maxHeartbeats 8000000 in
theorem open11 (w : World) :
    Calls Tryz.prog 11 #[] w fun e w' => ∃ W, e = .returned (ptr W) ∧ OpenPost w W w' := by
  have kt := tnew_any w
  go_enter Tryz.func11, Tryz.ntmps11
  go_upto_region 4 with (go_at_call 29; refine kt.mono ?_; rintro e w1 ⟨rfl, hT1, hb1⟩)
  have hz1 := hb1.size
  have hT1l := hT1.box.lt
  have q0 := up (Below.refl w1.heap.size w1) (.cells #[.slice none 0 0, .int .i64 0] 73)
  have q1 := up q0 (.cells #[.pointer none, .pointer (some ⟨w.heap.size, 0, none⟩), .pointer none, .pointer (some ⟨w1.heap.size, 0, none⟩)] 35)
  have bY := (Box.new w1 #[.slice none 0 0, .int .i64 0] 73 rfl).up (.cells #[.pointer none, .pointer (some ⟨w.heap.size, 0, none⟩), .pointer none, .pointer (some ⟨w1.heap.size, 0, none⟩)] 35)
  have bW := Box.new (w1.alloc (.cells #[.slice none 0 0, .int .i64 0] 73)) #[.pointer none, .pointer (some ⟨w.heap.size, 0, none⟩), .pointer none, .pointer (some ⟨w1.heap.size, 0, none⟩)] 35 (B := w1.heap.size + 1) (by simp)
  have hT2 := hT1.later q1
  have hb2 := hb1.trans (q1.mono hz1)
  generalize (w1.alloc (.cells #[.slice none 0 0, .int .i64 0] 73)).alloc (.cells #[.pointer none, .pointer (some ⟨w.heap.size, 0, none⟩), .pointer none, .pointer (some ⟨w1.heap.size, 0, none⟩)] 35) = w2 at *
  have hS : ∀ W, Below w2.heap.size w2 W → Calls Tryz.prog 30 #[.int .i64 3, .pointer (some ⟨w.heap.size, 0, none⟩)] W fun e w' => ∃ S, e = .returned (.pointer (some ⟨S, 0, none⟩)) ∧ (∃ fp, IsC w' S w.heap.size fp (newC 3) ∧ ∀ b, fp b → b = w.heap.size ∨ w2.heap.size ≤ b) ∧ Below W.heap.size W w' ∧ Below w2.heap.size w2 w' := fun W hW =>
    (cnew_nil W 3 _ _ (hT2.later hW) rfl).mono fun e w' h => by
      obtain ⟨S, fp, h1, h2, h3, h4, h5⟩ := h
      exact ⟨S, h1, ⟨fp, h2, fun b hb => (h4 b hb).imp id (fun e => Nat.le_trans hW.size e)⟩, h5, fin h5 hW⟩
  have hX : ∀ W, Below w2.heap.size w2 W → Calls Tryz.prog 31 #[.int .i64 3, .pointer (some ⟨w1.heap.size, 0, none⟩)] W fun e w' => ∃ X, e = .returned (.pointer (some ⟨X, 0, none⟩)) ∧ Below W.heap.size W w' ∧ Below w2.heap.size w2 w' := fun W hW =>
    (x11new_nil W 3 w1.heap.size ((bY.later hW).cell rfl)).mono fun e w' h => by
      obtain ⟨X, h1, _, h3⟩ := h
      exact ⟨X, h1, h3, fin h3 hW⟩
  have hd : Below w2.heap.size w2 w2.drew := (Below.refl _ _).drew
  obtain ⟨d0, d1, d2, d3⟩ := bW.cells4
  have hz2 := q1.size
  have s1 : w1.heap.size + 1 < w2.heap.size := bW.lt
  go_cut [] (fun wx => ∃ S X fp, Box wx (w1.heap.size + 1) #[ptr S, .pointer (some ⟨w.heap.size, 0, none⟩), ptr X, .pointer (some ⟨w1.heap.size, 0, none⟩)] 35 ∧ IsC wx S w.heap.size fp (newC 3) ∧ Below w.heap.size w wx ∧ ¬ fp (w1.heap.size + 1) ∧ ∀ b, fp b → w.heap.size ≤ b)
  case first =>
    go_region_with (first
      | (go_at_call 30; refine (hS _ (by assumption)).mono ?_; rintro e w3 ⟨S, rfl, h3, hb3, hS3⟩; have bS3 := bW.later hS3; have fS0 := bS3.frozen 0; have fS2 := bS3.frozen 2; obtain ⟨s0, s1, s2, s3⟩ := bS3.cells4)
      | (go_at_call 31; refine (hX _ (by assumption)).mono ?_; rintro e w4 ⟨X, rfl, hb4, hX4⟩; have bX4 := bW.later hX4; have fX0 := bX4.frozen 0; have fX2 := bX4.frozen 2; obtain ⟨x0, x1, x2, x3⟩ := bX4.cells4))
    all_goals
      obtain ⟨fp, h3, hfp⟩ := h3
      have hn : ¬ fp (w1.heap.size + 1) := fun hc => by rcases hfp _ hc with e | e <;> omega
      have hlow : ∀ b, fp b → w.heap.size ≤ b := fun b hc => by rcases hfp _ hc with e | e <;> omega
      go_wp2
      go_meet
      case rel =>
        first
        | (have z := fin_open bX4 (h3.later hb4) hn (hb2.trans (hX4.mono (Nat.le_trans hz1 hz2))) (Nat.le_succ_of_le hz1) (ptr S) (ptr X)
           exact ⟨S, X, fp, z.1, z.2.1, z.2.2, hn, hlow⟩)
        | (have z := fin_open bS3 h3 hn (hb2.trans (hS3.mono (Nat.le_trans hz1 hz2))) (Nat.le_succ_of_le hz1) (ptr S) (ptr X)
           exact ⟨S, X, fp, z.1, z.2.1, z.2.2, hn, hlow⟩)
  case rest =>
    obtain ⟨S, X, fp, bW3, h3, hb3, hn, hlow⟩ := hcut
    obtain ⟨e0, e1, e2, e3⟩ := bW3.cells4
    go_wp2
    go_ret
    exact ⟨_, rfl, S, w.heap.size, X, w1.heap.size, fp, bW3, h3, Nat.le_succ_of_le hz1, hn, hlow, hb3⟩

end Go.Proofs.YtlehlbgaboifoabGreatDoor

/- The statements' own gang: a pod in each shard. -/
namespace Go.Proofs.YtlehlbgaboifoabGreatDoor
open Go.RowKit Go.Maps Go.Shelf
set_option linter.unusedSimpArgs false
set_option linter.unusedVariables false

def pnm (s : Nat) : ByteArray := (⟨#[112]⟩ : ByteArray) ++ (⟨#[UInt8.ofNat (48 + s)]⟩ : ByteArray)
def podN (s : Nat) : PodT := ⟨pnm s, s, 0, 0, none, 0, [], none, 0, [], false⟩
def podsN : Nat → List PodT
  | 0 => []
  | k + 1 => podsN k ++ [podN (k + 1)]
theorem podsN_length : ∀ k, (podsN k).length = k
  | 0 => rfl
  | k + 1 => by rw [podsN, List.length_append, podsN_length k]; rfl
theorem podsN_bare : ∀ k, ∀ p ∈ podsN k, p.pa = none ∧ p.ba = none ∧ p.ps = [] ∧ p.bs = []
  | 0, p, h => by cases h
  | k + 1, p, h => by
    rw [podsN] at h
    rcases List.mem_append.1 h with h | h
    · exact podsN_bare k p h
    · obtain rfl := List.mem_singleton.1 h; exact ⟨rfl, rfl, rfl, rfl⟩
theorem podsN_ok (w : World) (k : Nat) : ∀ p ∈ podsN k, p.Ok w := fun p hp => by
  obtain ⟨h1, h2, h3, h4⟩ := podsN_bare k p hp
  refine ⟨?_, ?_⟩
  · rw [h1, h3]; exact strs_nil w
  · rw [h2, h4]; exact strs_nil w

theorem conv_byte (w : World) (m : Nat) (hm : m < 100) : (convert 55 9 (.slice (some ⟨w.heap.size, 0, none⟩) 1 1)).run Tryz.prog (w.alloc (.cells #[.int .u8 (48 + (m : Int))] 5)) =
    .ok (.string ⟨#[UInt8.ofNat (48 + m)]⟩) (w.alloc (.cells #[.int .u8 (48 + (m : Int))] 5)) := by
  refine run_convert_bytes_back (P := Tryz.prog) (w.alloc (.cells #[.int .u8 (48 + (m : Int))] 5)) 55 9 5 ⟨w.heap.size, 0, none⟩ 1 [UInt8.ofNat (48 + m)] Tryz.underlying55 Tryz.underlying5 Tryz.underlying9 ?_
  intro j hj
  have : j = 0 := by simp at hj; omega
  subst this
  simp [Addr.add]
  omega

set_option maxRecDepth 100000 in
set_option maxHeartbeats 4000000 in
theorem gangN_any (id : Int) (n : Nat) (hn : n ≤ 8) (w : World) :
    Calls Tryz.prog 13 #[.int .i64 id, .int .i64 n] w fun e w' => ∃ a cap, e = .returned (.agg #[.int .i64 id, .slice a n cap]) ∧ n ≤ cap ∧ Pods w' a (podsN n) ∧ PodsIn (New w w') a (podsN n) ∧ Below w.heap.size w w' := by
  obtain ⟨i0, hi, iz0, iz1, iz2⟩ := info_parts infoPod
  have h0 := Below.refl w.heap.size w
  have q0 := up h0 (.cells #[.int .i64 0, .slice none 0 0] 39)
  have q1 := up q0 (.cells #[.int .i64 id, .slice none 0 0] 39)
  have bR := (Box.new w #[.int .i64 0, .slice none 0 0] 39 rfl).up (.cells #[.int .i64 id, .slice none 0 0] 39)
  have bG : sGBox ((w.alloc (.cells #[.int .i64 0, .slice none 0 0] 39)).alloc (.cells #[.int .i64 id, .slice none 0 0] 39)) (w.heap.size + 1) id (.slice none 0 0) := by
    have := sGBox.new (w.alloc (.cells #[.int .i64 0, .slice none 0 0] 39)) id (.slice none 0 0)
    simpa using this
  go_enter Tryz.func13, Tryz.ntmps13
  go_wp2
  go_loopw [6] (fun i wr => ∃ k s : Nat, k ≤ n ∧ Hid (s = k + 1) ∧ i = .int .i64 s ∧ ∃ v, sGBox wr (w.heap.size + 1) id v ∧ wr.ownsRow (w.heap.size + 2) 60 7 v k (flat (podsN k)) ∧ Box wr w.heap.size #[.int .i64 0, .slice none 0 0] 39 ∧ Below w.heap.size w wr) (fun i _ => n + 1 - (intOf i).toNat)
  case atStart => exact ⟨0, 1, Nat.zero_le _, rfl, rfl, _, bG, World.ownsRow_nil _ _ _ _, bR, q1⟩
  case round =>
    obtain ⟨k, s, hk, hs, rfl, v, hG, hrow, hR, hbw⟩ := hrel
    have hws := hG.lt
    have hcv := hG.cell1
    have hsk := hs.out
    have hzr := hbw.size
    by_cases hlt : s ≤ n
    · have hconv := conv_byte wr s (by omega)
      obtain ⟨t, ht⟩ : ∃ t : ByteArray, (⟨#[UInt8.ofNat (48 + s)]⟩ : ByteArray) = t := ⟨_, rfl⟩
      rw [ht] at hconv
      obtain ⟨sn, hsn⟩ : ∃ sn : ByteArray, (⟨#[112]⟩ : ByteArray) ++ t = sn := ⟨_, rfl⟩
      have hpod : Hid ((podN s).cells = [.string sn, .int .i64 s, .int .i64 0, .int .i64 0, .slice none 0 0, .slice none 0 0, .bool false]) := by
        show _ = _
        rw [← hsn, ← ht]
        rfl
      have ht1 : t.size = 1 := by rw [← ht]; rfl
      clear ht
      have hne : some (w.heap.size + 1) ≠ v.ownBlock := fun e => by have := (hrow.lt _ e.symm).1; omega
      have hneR : some w.heap.size ≠ v.ownBlock := fun e => by have := (hrow.lt _ e.symm).1; omega
      have hk8 : k < 8 := by omega
      have hs8 : s ≤ 8 := by omega
      clear hsk
      go_wp2_with (first
        | (at_builtin; refine wpList_append_own _ rfl _ _ 37 rfl (w.heap.size + 2) 60 i0 _ 7 96 Tryz.underlying37 hi iz0 iz1 iz2 rfl (by decide) _ _ _ rfl ((hrow.alloc _).alloc _) ⟨_, 0, none⟩ 1 1 [.string sn, .int .i64 s, .int .i64 0, .int .i64 0, .slice none 0 0, .slice none 0 0, .bool false] rfl rfl (cells_new _ _ _ _ (by simp)) (by intro u hu; simp only [List.mem_cons, List.not_mem_nil, or_false] at hu; rcases hu with rfl | rfl | rfl | rfl | rfl | rfl | rfl <;> rfl) (by unfold maxLen; omega) (by omega) (by simp; omega) ?_
           intro v' w2 hown' hgrow hnil
           obtain ⟨g, cap, rfl, hg1, hg2, _⟩ := own_slice hown' (by omega)
           have hG2 := ((hG.grown (World.grownBy_alloc _ _ _) hne).grown (World.grownBy_alloc _ _ _) hne).grown hgrow hne
           have hR2 := ((hR.up _).up _).grown hgrow hneR
           have hcv2 := hG2.cell1
           have hfz2 := hG2.frozen1 1)
        | go_in)
      go_roundw
      case rel =>
        refine ⟨k + 1, s + 1, by have := hs.out; omega, by show _ = _; rw [hs.out], by go_num, _, hG2.set _, ?_, hR2.other (by omega) _ _, ?_⟩
        · have e : podsN (k + 1) = podsN k ++ [podN s] := by rw [hs.out]; rfl
          rw [e, flat_append, flat_one, hpod.out]
          exact own_frame hown' fun b hb => setCell_other _ _ _ _ _ (by have := (hown'.lt _ hb).1; omega)
        · exact ((up (up hbw _) _).grown hgrow (up (up hbw _) _).size (fun j hj => by have := (hrow.lt j hj).1; omega)).setCell (p := ⟨w.heap.size + 1, 1, none⟩) (by simp only; omega) _
      case measure => simp [intOf]; omega
    · have e1 : k = n := by omega
      subst e1
      obtain ⟨av, cv, rfl, hcap, _, _, hx⟩ := own_cut hrow
      obtain ⟨a', cap', e, _, _, hP, _, _⟩ := pods_of_own hrow (podsN_ok wr k) (by rw [podsN_length]; omega)
      cases e
      have rf := hR.frozen
      have c0 := hG.cell0
      have c1 := hG.cell1
      obtain ⟨r0, r1⟩ := hR.cells2
      have hfin := (hR.set 0 (.int .i64 id)).set 1 (.slice av k cv)
      obtain ⟨s0, s1⟩ := hfin.cells2
      clear hs hsk hrow
      go_wp2
      have hkk : ∀ b, b ≠ w.heap.size → ((wr.setCell ⟨w.heap.size, 0, none⟩ (.int .i64 id)).setCell ⟨w.heap.size, 1, none⟩ (.slice av k cv)).heap[b]? = wr.heap[b]? := fun b hb => (setCell_other _ _ _ _ _ hb).trans (setCell_other _ _ _ _ _ hb)
      have hzz : ((wr.setCell ⟨w.heap.size, 0, none⟩ (.int .i64 id)).setCell ⟨w.heap.size, 1, none⟩ (.slice av k cv)).heap.size = wr.heap.size := by simp [World.setCell]
      have hin : PodsIn (fun b => w.heap.size + 2 ≤ b ∧ b < wr.heap.size) av (podsN k) := ⟨fun y hy _ => ⟨(hx y hy).2.1, (hx y hy).2.2⟩, fun p hp => by
        obtain ⟨h1, h2, _, _⟩ := podsN_bare k p hp
        exact ⟨(fun y hy => by rw [h1] at hy; cases hy), (fun y hy => by rw [h2] at hy; cases hy)⟩⟩
      refine bodyPost_ret (by simp [results, Tryz.results13, go_sem, s0, s1]) rfl ⟨av, cv, rfl, hcap, hP.frame hin (fun b hb => hkk b (by omega)), hin.wide (fun b hb => ⟨by omega, by rw [hzz]; exact hb.2⟩), (hbw.setCell (p := ⟨w.heap.size, 0, none⟩) (Nat.le_refl _) _).setCell (p := ⟨w.heap.size, 1, none⟩) (Nat.le_refl _) _⟩

theorem shardsN_of (n : Nat) : shardsOf (podsN n) = (List.range' 1 n).map fun (p : Nat) => (p : Int) := by
  induction n with
  | zero => rfl
  | succ k ih =>
    have e : shardsOf (podsN (k + 1)) = shardsOf (podsN k) ++ [((k + 1 : Nat) : Int)] := by
      show ((podsN k ++ [podN (k + 1)]).map _) = _
      rw [List.map_append]; rfl
    rw [e, ih, List.range'_1_concat, List.map_append]
    simp
    omega
theorem shardsN (n : Nat) : shardsB (podsN n) = (List.range' 1 n).map fun (p : Nat) => (p : Int) := by
  obtain ⟨h1, h2⟩ := shardsB_spec (podsN n)
  refine strict_ext _ _ h1 ?_ fun z => ?_
  · rw [List.pairwise_map]
    exact List.Pairwise.imp (fun h => by omega) (List.pairwise_lt_range' (s := 1) (n := n) (step := 1))
  · rw [h2 z, shardsN_of]
theorem firstN : ∀ n : Nat, n ≤ 4 → ∀ S : Nat, S ≤ 4 → n ≤ S → firstE (S : Int) (podsN n) = 0 := by decide +kernel
theorem twN : ∀ n : Nat, n ≤ 4 → twB [] (podsN n) = false := by decide +kernel
theorem gangE_ok' (id n S : Nat) (h1 : 1 ≤ id) (h2 : id ≤ 999999) (hn0 : 1 ≤ n) (hn : n ≤ S) (hS : S ≤ 4) : sgangE (id : Int) (podsN n) (S : Int) = 0 := by
  unfold sgangE
  rw [if_neg (by omega), podsN_length, if_neg (by omega), firstN n (by omega) S hS hn, if_pos rfl, twN n (by omega)]
  simp
theorem riseN : ∀ n : Nat, n ≤ 4 → riseB 0 (List.range' 1 n) = true := by decide +kernel

end Go.Proofs.YtlehlbgaboifoabGreatDoor

/- A coordinator among a walk's own variables; rows of messages that are read; the statements' all. -/
namespace Go.Proofs.YtlehlbgaboifoabGreatDoor
open Go.RowKit Go.Maps Go.Shelf
set_option linter.unusedSimpArgs false
set_option linter.unusedVariables false

/-- A coordinator, and variables beside it, which lie in blocks of their own. -/
structure CSite (B : Nat) (w0 : World) (C T : Nat) (l : List (Nat × Array Value × TypeId)) (x : CoS) (fp : Nat → Prop) (w : World) : Prop where
  c : IsC w C T fp x
  bx : ∀ q ∈ l, Box w q.1 q.2.1 q.2.2 ∧ ¬ fp q.1
  low : ∀ b, fp b → B ≤ b
  below : Below B w0 w
  le : B ≤ w.heap.size
  tab : TabB B w

theorem turn_below {B : Nat} {w w' : World} {fp fp' : Nat → Prop} (h : Turn w w' fp fp') (low : ∀ b, fp b → B ≤ b) (hB : B ≤ w.heap.size) : Below B w w' := h.kept.below hB low

section
variable {B : Nat} {w0 w w' : World} {C T : Nat} {l : List (Nat × Array Value × TypeId)} {x x' : CoS} {fp fp' : Nat → Prop}
theorem CSite.turn (h : CSite B w0 C T l x fp w) (h' : IsC w' C T fp' x') (hT : Turn w w' fp fp') : CSite B w0 C T l x' fp' w' :=
  have hb := turn_below hT h.low h.le
  ⟨h', fun q hq => ⟨hT.kept.box (h.bx q hq).1 (h.bx q hq).2, fun hc => by
    rcases hT.new _ hc with e | e
    · exact (h.bx q hq).2 e
    · have := (h.bx q hq).1.lt; omega⟩, fun b hb' => by
    rcases hT.new _ hb' with e | e
    · exact h.low b e
    · exact Nat.le_trans h.le e, h.below.trans hb, Nat.le_trans h.le hT.kept.size, h.tab.on hb⟩
theorem CSite.later (h : CSite B w0 C T l x fp w) (hb : Below w.heap.size w w') : CSite B w0 C T l x fp w' := h.turn (h.c.later hb) (.of_below hb)
theorem CSite.add (h : CSite B w0 C T l x fp w) {D : Nat} {cs : Array Value} {t : TypeId} (hD : Box w D cs t) (hn : ¬ fp D) : CSite B w0 C T ((D, cs, t) :: l) x fp w :=
  ⟨h.c, fun q hq => by
    rcases List.mem_cons.1 hq with rfl | hq
    · exact ⟨hD, hn⟩
    · exact h.bx q hq, h.low, h.below, h.le, h.tab⟩
/-- A new variable. -/
theorem CSite.new (h : CSite B w0 C T l x fp w) (cs : Array Value) (t : TypeId) : CSite B w0 C T ((w.heap.size, cs, t) :: l) x fp (w.alloc (.cells cs t)) :=
  (h.later (up (Below.refl _ _) _)).add (Box.new w cs t rfl) fun hc => by have := h.c.lt _ hc; omega
theorem CSite.head {D : Nat} {cs : Array Value} {t : TypeId} (h : CSite B w0 C T ((D, cs, t) :: l) x fp w) : Box w D cs t := (h.bx _ (List.mem_cons_self ..)).1
theorem CSite.tail {q : Nat × Array Value × TypeId} (h : CSite B w0 C T (q :: l) x fp w) : CSite B w0 C T l x fp w := ⟨h.c, fun p hp => h.bx p (List.mem_cons_of_mem _ hp), h.low, h.below, h.le, h.tab⟩
end

/-- What Open leaves. -/
theorem open_csite {w0 w w' : World} {B W : Nat} (hB : TabB B w) (hBw : B ≤ w.heap.size) (hw : Below B w0 w) (h : OpenPost w W w') : ∃ C T X Y fp, CSite B w0 C T [(W, #[ptr C, ptr T, ptr X, ptr Y], 35)] (newC 3) fp w' := by
  obtain ⟨C, T, X, Y, fp, h1, h2, h3, h4, h5, h6⟩ := h
  have hb := h6.mono hBw
  refine ⟨C, T, X, Y, fp, h2, fun q hq => ?_, fun b hb => Nat.le_trans hBw (h5 b hb), hw.trans hb, Nat.le_trans hBw h6.size, hB.on hb⟩
  obtain rfl := List.mem_singleton.1 hq
  exact ⟨h1, h4⟩

theorem flat7 : ∀ (l : List MG) (j i : Nat), i < 7 → (l.flatMap MG.cells)[j * 7 + i]? = (l[j]?).bind fun m => m.cells[i]?
  | [], j, i, _ => by simp
  | m :: t, 0, i, hi => by
    rw [List.flatMap_cons, List.getElem?_append_left (by show _ < 7; omega)]
    simp
  | m :: t, j + 1, i, hi => by
    have e : (j + 1) * 7 + i - m.cells.length = j * 7 + i := by show (j + 1) * 7 + i - 7 = _; omega
    rw [List.flatMap_cons, List.getElem?_append_right (by show 7 ≤ _; omega), e, flat7 t j i hi]
    simp

theorem add_zero0 (g n : Nat) : (⟨g, 0, none⟩ : Addr).add n = ⟨g, n, none⟩ := by
  unfold Addr.add
  split
  · simp_all
  · simp
/-- Message j's cells. -/
def MsgAt (w : World) (a : Option Addr) (j : Nat) (d : MD) : Prop :=
  ∃ B, a = some ⟨B, 0, none⟩ ∧ w.cell? ⟨B, j * 7, none⟩ = some (.int .i64 d.k) ∧ w.cell? ⟨B, j * 7 + 1, none⟩ = some (.int .i64 0) ∧ w.cell? ⟨B, j * 7 + 2, none⟩ = some (.int .i64 d.tg) ∧ w.cell? ⟨B, j * 7 + 3, none⟩ = some (.int .i64 d.id) ∧ w.cell? ⟨B, j * 7 + 6, none⟩ = some (.bool d.yes)
theorem MsgsN.cut {w0 w : World} {v : Value} {ds : List MD} (h : MsgsN w0 w v ds) : ∃ a c, v = .slice a ds.length c ∧ (∀ x, a = some x → w0.heap.size ≤ x.block ∧ x.block < w.heap.size) ∧ ∀ j d, ds[j]? = some d → MsgAt w a j d := by
  obtain ⟨l, Q, hown, rfl, hok, _⟩ := h
  obtain ⟨a, c, rfl, _, _, h0, hx⟩ := own_cut hown
  refine ⟨a, c, by rw [List.length_map], fun x hx' => (hx x hx').2, fun j d hd => ?_⟩
  rw [List.getElem?_map] at hd
  cases hm : l[j]? with
  | none => rw [hm] at hd; cases hd
  | some m =>
    rw [hm] at hd
    simp only [Option.map_some, Option.some.injEq] at hd
    subst hd
    cases a with
    | none => have := h0 rfl; have := (List.getElem?_eq_some_iff.1 hm).1; omega
    | some x =>
      obtain ⟨e, _, _⟩ := hx x rfl
      obtain ⟨g, o, sp⟩ := x
      cases e
      have hc := fun i (hi : i < 7) (u : Value) (hu : m.cells[i]? = some u) => show w.cell? ⟨g, j * 7 + i, none⟩ = some u by have := hown.cells (g := g) rfl (j * 7 + i) u (by rw [flat7 l j i hi, hm]; exact hu); rw [add_zero0] at this; exact this
      exact ⟨g, rfl, hc 0 (by omega) _ rfl, hc 1 (by omega) _ rfl, hc 2 (by omega) _ rfl, hc 3 (by omega) _ rfl, hc 6 (by omega) _ rfl⟩
theorem toAll_length (id : Nat) (ps : List Nat) (ph : Ph) : (toAll id ps ph).length = ps.length := by simp [toAll]
theorem toAll_get (id n : Nat) (ph : Ph) (j : Nat) (hj : j < n) : (toAll id (List.range' 1 n) ph)[j]? = some (wordS (List.range' 1 n) id (j + 1) ph) := by
  rw [toAll, List.getElem?_map, List.getElem?_range' hj]
  simp
  rw [Nat.add_comm]

-- [fn joinery/joinerylaw11.all
set_option maxRecDepth 100000 in
set_option maxHeartbeats 4000000 in
theorem all_yes {w0 w1 w : World} {v : Value} {ds : List MD} (h : MsgsN w0 w1 v ds) (hb : Below w1.heap.size w1 w) (k n : Nat) (yes : Bool) (hn : ds.length = n) (hn8 : n ≤ 8) (hd : ∀ j d, ds[j]? = some d → d.k = k ∧ d.tg = j + 1 ∧ d.yes = yes) :
    Calls Tryz.prog 14 #[v, .int .i64 k, .int .i64 n, .bool yes] w fun e w' => e = .returned (.bool true) ∧ w' = w := by
  obtain ⟨a, c, rfl, _, hat⟩ := h.cut
  rw [hn]
  go_enter Tryz.func14, Tryz.ntmps14
  go_wp2
  go_loop [9] (fun i => ∃ j : Nat, j ≤ n ∧ i = .int .i64 j) (fun i => n - (intOf i).toNat)
  case atStart => exact ⟨0, Nat.zero_le _, rfl⟩
  case round =>
    obtain ⟨j, hj, rfl⟩ := hrel
    by_cases hlt : j < n
    · have hj8 : j < 8 := by omega
      obtain ⟨d, hdj⟩ : ∃ d, ds[j]? = some d := ⟨_, List.getElem?_eq_getElem (by omega)⟩
      obtain ⟨g, rfl, d0, d1, d2, d3, d6⟩ := hat j d hdj
      obtain ⟨e0, e1, e2⟩ := hd j d hdj
      rw [e0] at d0
      rw [e1] at d2
      rw [e2] at d6
      replace d0 := cell_below hb d0 (block_lt d0)
      replace d1 := cell_below hb d1 (block_lt d1)
      replace d2 := cell_below hb d2 (block_lt d2)
      replace d6 := cell_below hb d6 (block_lt d6)
      clear d3 hat hd hdj h e0 e1 e2
      go_wp2
      go_roundw
      case rel => exact ⟨j + 1, hlt, by go_num⟩
      case measure => simp [intOf]; omega
    · have e1 : j = n := by omega
      subst e1
      go_wp2
      go_ret
      exact ⟨rfl, rfl⟩
-- ]

end Go.Proofs.YtlehlbgaboifoabGreatDoor

/- A gang: hear, decided. -/
namespace Go.Proofs.YtlehlbgaboifoabGreatDoor
open Go.RowKit Go.Maps Go.Shelf
set_option linter.unusedSimpArgs false
set_option linter.unusedVariables false

section
variable {w w1 : World} {C : Nat} {Q R : Nat → Prop} {id : Nat} {g : GS} {pa : Option Addr} {pc : Nat} {wv v : Value}

set_option maxRecDepth 100000 in
set_option maxHeartbeats 2000000 in
theorem hear_none_v (h : GA w C Q R id g pa pc wv v) {n : Nat} (hd : g.ph = .dec n) (k : Nat) (t gg : Int) (who : Nat) (a1 a2 : Option Addr) (n1 c1 n2 c2 : Nat) (yes : Bool) (hk : k ≠ g.ph.ends) (h4 : k ≠ 4) :
    Calls Tryz.prog 44 #[ptr g.b, .agg #[.int .i64 k, .int .i64 who, .int .i64 t, .int .i64 gg, .slice a1 n1 c1, .slice a2 n2 c2, .bool yes]] w fun e w' => e = .returned (.slice none 0 0) ∧ Below w.heap.size w w' := by
  obtain ⟨rfl, _, h5⟩ := h.verdict hd
  have hb0 := up (Below.refl w.heap.size w) (.cells #[.int .i64 k, .int .i64 who, .int .i64 t, .int .i64 gg, .slice a1 n1 c1, .slice a2 n2 c2, .bool yes] 46)
  have hm := Box.new w #[.int .i64 k, .int .i64 who, .int .i64 t, .int .i64 gg, .slice a1 n1 c1, .slice a2 n2 c2, .bool yes] 46 rfl
  obtain ⟨q0, q1, q2, q3, q4, q5, q6⟩ := hm.cells7
  have h1 := h.later hb0
  have c3 : (w.alloc (.cells #[.int .i64 k, .int .i64 who, .int .i64 t, .int .i64 gg, .slice a1 n1 c1, .slice a2 n2 c2, .bool yes] 46)).cell? ⟨g.b, 3, none⟩ = some (.iface 140 (.int .i64 n)) := h1.box.cell rfl
  have c3d : (w.alloc (.cells #[.int .i64 k, .int .i64 who, .int .i64 t, .int .i64 gg, .slice a1 n1 c1, .slice a2 n2 c2, .bool yes] 46)).drew.cell? ⟨g.b, 3, none⟩ = some (.iface 140 (.int .i64 n)) := c3
  have m1 := fun W => mth_v_ends (.int .i64 n) W
  have m2 := fun W => nil_v_ends n W
  have m3 := fun W => mth_v_state (.int .i64 n) W
  have m4 := fun W => nil_v_state n W
  rw [hd] at hk
  obtain ⟨E, hE⟩ : ∃ E, (if n = 5 then 10 else 6) = E := ⟨_, rfl⟩
  have hE2 : ((if n = 5 then 10 else 6 : Int)) = (E : Int) := by rw [← hE]; split <;> rfl
  have ke := fun W => v_ends_any n W
  rw [hE2] at ke
  simp only [Ph.ends, hE] at hk
  have kp := poll_no g.b n _ c3d
  have hbe := beq_no k E hk
  have h4b : ((k : Int) == 4) = false := by simp; omega
  have h4c : ((k : Int) != 4) = true := by simp; omega
  clear h h1 hm hk hE hE2 h4 m3 m4 hd
  go_enter Tryz.func44, Tryz.ntmps44
  go_wp2
  go_region_with (go_at_call 261; refine (ke _).mono ?_; rintro e w1 ⟨rfl, rfl⟩)
  all_goals
    go_wp2_with (go_at_call 40; refine kp.mono ?_; rintro e w2 ⟨rfl, rfl⟩)
    go_ret
    exact ⟨rfl, hb0.drew⟩

end

end Go.Proofs.YtlehlbgaboifoabGreatDoor

/- A gang: hear, decided. -/
namespace Go.Proofs.YtlehlbgaboifoabGreatDoor
open Go.RowKit Go.Maps Go.Shelf
set_option linter.unusedSimpArgs false
set_option linter.unusedVariables false

section
variable {w w1 : World} {C : Nat} {Q R : Nat → Prop} {id : Nat} {g : GS} {pa : Option Addr} {pc : Nat} {wv v : Value}

set_option maxRecDepth 100000 in
set_option maxHeartbeats 2000000 in
theorem hear_late (h : GA w C Q R id g pa pc wv v) {n : Nat} (hd : g.ph = .dec n) (hn5 : n = 5) (t gg : Int) (who : Nat) (a1 a2 : Option Addr) (n1 c1 n2 c2 : Nat) (yes : Bool) :
    Calls Tryz.prog 44 #[ptr g.b, .agg #[.int .i64 4, .int .i64 who, .int .i64 t, .int .i64 gg, .slice a1 n1 c1, .slice a2 n2 c2, .bool yes]] w fun e w' => e = .returned (.slice none 0 0) ∧ Below w.heap.size w w' := by
  obtain ⟨rfl, _, h5⟩ := h.verdict hd
  have hb0 := up (Below.refl w.heap.size w) (.cells #[.int .i64 4, .int .i64 who, .int .i64 t, .int .i64 gg, .slice a1 n1 c1, .slice a2 n2 c2, .bool yes] 46)
  have hm := Box.new w #[.int .i64 4, .int .i64 who, .int .i64 t, .int .i64 gg, .slice a1 n1 c1, .slice a2 n2 c2, .bool yes] 46 rfl
  obtain ⟨q0, q1, q2, q3, q4, q5, q6⟩ := hm.cells7
  have h1 := h.later hb0
  have c3 : (w.alloc (.cells #[.int .i64 4, .int .i64 who, .int .i64 t, .int .i64 gg, .slice a1 n1 c1, .slice a2 n2 c2, .bool yes] 46)).cell? ⟨g.b, 3, none⟩ = some (.iface 140 (.int .i64 n)) := h1.box.cell rfl
  have c3d : (w.alloc (.cells #[.int .i64 4, .int .i64 who, .int .i64 t, .int .i64 gg, .slice a1 n1 c1, .slice a2 n2 c2, .bool yes] 46)).drew.cell? ⟨g.b, 3, none⟩ = some (.iface 140 (.int .i64 n)) := c3
  have m1 := fun W => mth_v_ends (.int .i64 n) W
  have m2 := fun W => nil_v_ends n W
  have m3 := fun W => mth_v_state (.int .i64 n) W
  have m4 := fun W => nil_v_state n W
  have ke := fun W => v_ends_any n W
  have kp := poll_no g.b n _ c3d
  have ks := fun W => v_state_any n W
  subst hn5
  clear h h1 hm h5 hd
  have e5 : ((5 : Nat) : Int) = 5 := rfl
  rw [e5] at c3 c3d
  simp only [e5, if_true] at ke ks m1 m2 m3 m4
  go_enter Tryz.func44, Tryz.ntmps44
  go_wp2
  go_region_with (go_at_call 261; refine (ke _).mono ?_; rintro e w1 ⟨rfl, rfl⟩)
  all_goals
    go_wp2_with (first
      | (go_at_call 40; refine kp.mono ?_; rintro e w2 ⟨rfl, rfl⟩)
      | (go_at_call 262; refine (ks _).mono ?_; rintro e w3 ⟨rfl, rfl⟩))
    go_ret
    exact ⟨rfl, hb0.drew⟩

end

end Go.Proofs.YtlehlbgaboifoabGreatDoor

/- A gang: hear, decided. -/
namespace Go.Proofs.YtlehlbgaboifoabGreatDoor
open Go.RowKit Go.Maps Go.Shelf
set_option linter.unusedSimpArgs false
set_option linter.unusedVariables false

section
variable {w w1 : World} {C : Nat} {Q R : Nat → Prop} {id : Nat} {g : GS} {pa : Option Addr} {pc : Nat} {wv v : Value}

set_option maxRecDepth 100000 in
set_option maxHeartbeats 2000000 in
theorem hear_vote (h : GA w C Q R id g pa pc wv v) {n : Nat} (hd : g.ph = .dec n) (hn5 : n ≠ 5) (t gg : Int) (who : Nat) (a1 a2 : Option Addr) (n1 c1 n2 c2 : Nat) (yes : Bool) :
    Calls Tryz.prog 44 #[ptr g.b, .agg #[.int .i64 4, .int .i64 who, .int .i64 t, .int .i64 gg, .slice a1 n1 c1, .slice a2 n2 c2, .bool yes]] w fun e w' => ∃ v2, e = .returned v2 ∧ MsgsN w w' v2 [wordS g.ps id who (.dec n)] ∧ Below w.heap.size w w' := by
  obtain ⟨rfl, _, h5⟩ := h.verdict hd
  have hb0 := up (Below.refl w.heap.size w) (.cells #[.int .i64 4, .int .i64 who, .int .i64 t, .int .i64 gg, .slice a1 n1 c1, .slice a2 n2 c2, .bool yes] 46)
  have hm := Box.new w #[.int .i64 4, .int .i64 who, .int .i64 t, .int .i64 gg, .slice a1 n1 c1, .slice a2 n2 c2, .bool yes] 46 rfl
  obtain ⟨q0, q1, q2, q3, q4, q5, q6⟩ := hm.cells7
  have h1 := h.later hb0
  have c3 : (w.alloc (.cells #[.int .i64 4, .int .i64 who, .int .i64 t, .int .i64 gg, .slice a1 n1 c1, .slice a2 n2 c2, .bool yes] 46)).cell? ⟨g.b, 3, none⟩ = some (.iface 140 (.int .i64 n)) := h1.box.cell rfl
  have c3d : (w.alloc (.cells #[.int .i64 4, .int .i64 who, .int .i64 t, .int .i64 gg, .slice a1 n1 c1, .slice a2 n2 c2, .bool yes] 46)).drew.cell? ⟨g.b, 3, none⟩ = some (.iface 140 (.int .i64 n)) := c3
  have m1 := fun W => mth_v_ends (.int .i64 n) W
  have m2 := fun W => nil_v_ends n W
  have m3 := fun W => mth_v_state (.int .i64 n) W
  have m4 := fun W => nil_v_state n W
  have ke := fun W => v_ends_any n W
  have kp := poll_no g.b n _ c3d
  have ks := fun W => v_state_any n W
  have h5b : ((n : Int) == 5) = false := by simp; omega
  have h5c : ((n : Int) != 5) = true := by simp; omega
  have hbA := up (Below.refl (w.alloc (.cells #[.int .i64 4, .int .i64 who, .int .i64 t, .int .i64 gg, .slice a1 n1 c1, .slice a2 n2 c2, .bool yes] 46)).drew.heap.size (w.alloc (.cells #[.int .i64 4, .int .i64 who, .int .i64 t, .int .i64 gg, .slice a1 n1 c1, .slice a2 n2 c2, .bool yes] 46)).drew) (.cells #[.int .i64 who] 3)
  have hN : Nats ((w.alloc (.cells #[.int .i64 4, .int .i64 who, .int .i64 t, .int .i64 gg, .slice a1 n1 c1, .slice a2 n2 c2, .bool yes] 46)).drew.alloc (.cells #[.int .i64 who] 3)) (some ⟨(w.alloc (.cells #[.int .i64 4, .int .i64 who, .int .i64 t, .int .i64 gg, .slice a1 n1 c1, .slice a2 n2 c2, .bool yes] 46)).drew.heap.size, 0, none⟩) [who] := fun i hi => by
    have : i = 0 := by simpa using hi
    subst this
    exact ⟨_, rfl, (Box.new (w.alloc (.cells #[.int .i64 4, .int .i64 who, .int .i64 t, .int .i64 gg, .slice a1 n1 c1, .slice a2 n2 c2, .bool yes] 46)).drew #[.int .i64 who] 3 rfl).cell rfl⟩
  have kz : ∀ y, y = (w.alloc (.cells #[.int .i64 4, .int .i64 who, .int .i64 t, .int .i64 gg, .slice a1 n1 c1, .slice a2 n2 c2, .bool yes] 46)).drew.heap.size → Calls Tryz.prog 86 #[ptr g.b, .slice (some ⟨y, 0, none⟩) 1 1] ((w.alloc (.cells #[.int .i64 4, .int .i64 who, .int .i64 t, .int .i64 gg, .slice a1 n1 c1, .slice a2 n2 c2, .bool yes] 46)).drew.alloc (.cells #[.int .i64 who] 3)) fun e w' => ∃ v, e = .returned v ∧ MsgsN w w' v [wordS g.ps id who (.dec n)] ∧ Below w.heap.size w w' := by
    rintro _ rfl
    have kz := say_any (h.later (fin hbA hb0.drew)) (by rw [hd]; simp) (some ⟨(w.alloc (.cells #[.int .i64 4, .int .i64 who, .int .i64 t, .int .i64 gg, .slice a1 n1 c1, .slice a2 n2 c2, .bool yes] 46)).drew.heap.size, 0, none⟩) 1 1 [who] hN rfl (by decide)
    rw [hd] at kz
    exact kz.mono fun e w' ⟨v, h1, h2, h3⟩ => ⟨v, h1, h2.low (fin hbA hb0.drew).size, fin h3 (fin hbA hb0.drew)⟩
  have e6 : (if n = 5 then (10 : Int) else 6) = 6 := if_neg hn5
  simp only [e6] at ke
  clear h h1 hm hN hn5 h5 hd e6
  go_enter Tryz.func44, Tryz.ntmps44
  go_upto_region 1 with fail
  go_cut [14] (fun v14 wx => v14 = .bool false ∧ wx = (w.alloc (.cells #[.int .i64 4, .int .i64 who, .int .i64 t, .int .i64 gg, .slice a1 n1 c1, .slice a2 n2 c2, .bool yes] 46)).drew)
  case first =>
    clear kz ks kp
    go_region_with (go_at_call 261; refine (ke _).mono ?_; rintro e w1 ⟨rfl, rfl⟩)
    all_goals
      go_wp2
      go_meet
      case rel => exact ⟨rfl, rfl⟩
  case rest =>
    obtain ⟨rfl, rfl⟩ := hcut
    go_wp2_with (first
      | (go_at_call 40; refine kp.mono ?_; rintro e w2 ⟨rfl, rfl⟩)
      | (go_at_call 262; refine (ks _).mono ?_; rintro e w3 ⟨rfl, rfl⟩)
      | (go_at_call 86; refine (kz _ (by simp [World.drew])).mono ?_; rintro e w4 ⟨v4, rfl, hM, hb4⟩))
    go_ret
    exact ⟨v4, rfl, hM, hb4⟩

end

end Go.Proofs.YtlehlbgaboifoabGreatDoor

/- One gang of a coordinator among a walk's own variables. -/
namespace Go.Proofs.YtlehlbgaboifoabGreatDoor
open Go.RowKit Go.Maps Go.Shelf
set_option linter.unusedSimpArgs false
set_option linter.unusedVariables false

theorem upd_one (i : Int) (g g' : GS) : upd [(i, g)] i g' = [(i, g')] := by simp [upd]
theorem look_one (i : Int) (g : GS) : look [(i, g)] i = some g := by rw [look_cons, if_pos rfl]
/-- A coordinator of this gang alone. -/
def CoS.of (x : CoS) (i : Nat) (g : GS) : CoS := { x with M := [((i : Int), g)] }
/-- A message to a coordinator. -/
def msgV (k who i : Nat) (yes : Bool) : Value := .agg #[.int .i64 k, .int .i64 who, .int .i64 0, .int .i64 i, .slice none 0 0, .slice none 0 0, .bool yes]

section
variable {B : Nat} {w0 w : World} {C T : Nat} {l : List (Nat × Array Value × TypeId)} {x : CoS} {fp : Nat → Prop}

theorem get_some (h : CSite B w0 C T l x fp w) (i : Nat) (hi : i ≤ 999999) {g : GS} (hM : x.M = [((i : Int), g)]) (ho : g.ph.open = true) (k who : Nat) (hk : k = g.ph.ends) (hk7 : k ≠ 7) (hw1 : 1 ≤ who) (hw4 : who ≤ 4) (hp : who ∈ g.ps) (hr : butW g.ws who ≠ []) :
    Calls Tryz.prog 17 #[ptr C, msgV k who i true] w fun e w' => e = .returned (.slice none 0 0) ∧ ∃ fp', CSite B w0 C T l (x.of i (g.less who)) fp' w' := by
  obtain ⟨m, v, col, rfl, hC⟩ := h.c
  have hl : look x.M (i : Int) = some g := by rw [hM, look_one]
  refine (c_get_hear (fun v w' => v = .slice none 0 0 ∧ ∃ fp', CSite B w0 C T l (x.of i (g.less who)) fp' w') hC i (wfN i hi) hl k who hk7 hw1 hw4 hp none none 0 0 0 0 true fun W hW => ?_).mono fun e w' ⟨v, e1, e2, h3⟩ => ⟨by rw [e1, e2], h3⟩
  obtain ⟨⟨R, pa, pc, wv, vv, hG⟩, _⟩ := (hC.later hW).at_ hl
  refine hear_count_p _ hG ho k 0 i who none none 0 0 0 0 true hk fun W2 hW2 => ?_
  have hW3 := fin hW2 hW
  have hC2 := hC.later hW3
  obtain ⟨⟨R, pa, pc, wv, vv, hG⟩, _⟩ := hC2.at_ hl
  refine (count_some hG ho (fun e => by rw [e] at hp; cases hp) k 0 i who none none 0 0 0 0 hr).mono fun e w' ⟨e1, hG2, hT⟩ => ⟨_, e1, rfl, ?_⟩
  obtain ⟨col5, h5, hT5⟩ := hC2.gang (i := (i : Int)) (g := g) (g' := g.less who) hl rfl hG2 hT
  rw [hM, upd_one] at h5
  exact ⟨inC col5, h.turn ⟨m, v, col5, rfl, h5⟩ (Turn.trans (.of_below hW3) hT5)⟩
theorem get_held (h : CSite B w0 C T l x fp w) (i : Nat) (hi : i ≤ 999999) {g : GS} (hM : x.M = [((i : Int), g)]) {age : Nat} {pods : List PodT} (hph : g.ph = .hold age pods) (who : Nat) (hw1 : 1 ≤ who) (hw4 : who ≤ 4) (hp : who ∈ g.ps) (hr : butW g.ws who = []) :
    Calls Tryz.prog 17 #[ptr C, msgV 2 who i true] w fun e w' => ∃ v, e = .returned v ∧ MsgsN w w' v (toAll i g.ps (.prep age)) ∧ ∃ fp', CSite B w0 C T l (x.of i (g.at (.prep age))) fp' w' := by
  obtain ⟨m, v, col, rfl, hC⟩ := h.c
  have hl : look x.M (i : Int) = some g := by rw [hM, look_one]
  have ho : g.ph.open = true := by rw [hph]; rfl
  refine c_get_hear (fun v w' => MsgsN w w' v (toAll i g.ps (.prep age)) ∧ ∃ fp', CSite B w0 C T l (x.of i (g.at (.prep age))) fp' w') hC i (wfN i hi) hl 2 who (by decide) hw1 hw4 hp none none 0 0 0 0 true fun W hW => ?_
  obtain ⟨⟨R, pa, pc, wv, vv, hG⟩, _⟩ := (hC.later hW).at_ hl
  refine hear_count_p _ hG ho 2 0 i who none none 0 0 0 0 true (by rw [hph]; rfl) fun W2 hW2 => ?_
  have hW3 := fin hW2 hW
  have hC2 := hC.later hW3
  obtain ⟨⟨R, pa, pc, wv, vv, hG⟩, _⟩ := hC2.at_ hl
  refine (count_hold hG hph (fun e => by rw [e] at hp; cases hp) 2 0 i who none none 0 0 0 0 hr).mono fun e w' ⟨v2, Q2, e1, hMs, hG2, hT⟩ => ⟨_, e1, hMs.low hW3.size, ?_⟩
  obtain ⟨col5, h5, hT5⟩ := hC2.gang (i := (i : Int)) (g := g) (g' := g.at (.prep age)) hl rfl hG2 hT
  rw [hM, upd_one] at h5
  exact ⟨inC col5, h.turn ⟨m, v, col5, rfl, h5⟩ (Turn.trans (.of_below hW3) hT5)⟩
theorem get_voted (h : CSite B w0 C T l x fp w) (hlen : x.A.length + x.L.length < 999980) (i : Nat) (hi : i ≤ 999999) {g : GS} (hM : x.M = [((i : Int), g)]) {age : Nat} (hph : g.ph = .prep age) (who : Nat) (hw1 : 1 ≤ who) (hw4 : who ≤ 4) (hp : who ∈ g.ps) (hr : butW g.ws who = []) :
    Calls Tryz.prog 17 #[ptr C, msgV 4 who i true] w fun e w' => ∃ v, e = .returned v ∧ MsgsN w w' v (toAll i g.ps (.dec 3)) ∧ ∃ fp', CSite B w0 C T l ((recC x (decT 4 i)).of i (g.at (.dec 3))) fp' w' := by
  obtain ⟨m, v, col, rfl, hC⟩ := h.c
  have hl : look x.M (i : Int) = some g := by rw [hM, look_one]
  have ho : g.ph.open = true := by rw [hph]; rfl
  refine c_get_hear (fun v w' => MsgsN w w' v (toAll i g.ps (.dec 3)) ∧ ∃ fp', CSite B w0 C T l ((recC x (decT 4 i)).of i (g.at (.dec 3))) fp' w') hC i (wfN i hi) hl 4 who (by decide) hw1 hw4 hp none none 0 0 0 0 true fun W hW => ?_
  obtain ⟨⟨R, pa, pc, wv, vv, hG⟩, _⟩ := (hC.later hW).at_ hl
  refine hear_count_p _ hG ho 4 0 i who none none 0 0 0 0 true (by rw [hph]; rfl) fun W2 hW2 => ?_
  have hW3 := fin hW2 hW
  refine (count_prep (hC.later hW3) B (h.tab.on (hW3.mono h.le)) (Nat.le_trans h.le hW3.size) h.low hlen hl hph (fun e => by rw [e] at hp; cases hp) 4 0 i who none none 0 0 0 0 hr).mono fun e w' ⟨v2, e1, hMs, v', col5, h5, hT5⟩ => ⟨_, e1, hMs.low hW3.size, ?_⟩
  rw [comS, hM, upd_one] at h5
  exact ⟨inC col5, h.turn ⟨m, v', col5, rfl, h5⟩ (Turn.trans (.of_below hW3) hT5)⟩
theorem get_late (h : CSite B w0 C T l x fp w) (i : Nat) (hi : i ≤ 999999) {g : GS} (hM : x.M = [((i : Int), g)]) {n : Nat} (hd : g.ph = .dec n) (k who : Nat) (hk7 : k ≠ 7) (hk : k ≠ g.ph.ends) (h4 : k ≠ 4) (yes : Bool) (hw1 : 1 ≤ who) (hw4 : who ≤ 4) (hp : who ∈ g.ps) :
    Calls Tryz.prog 17 #[ptr C, msgV k who i yes] w fun e w' => e = .returned (.slice none 0 0) ∧ Below w.heap.size w w' := by
  obtain ⟨m, v, col, rfl, hC⟩ := h.c
  have hl : look x.M (i : Int) = some g := by rw [hM, look_one]
  refine (c_get_hear (fun v w' => v = .slice none 0 0 ∧ Below w.heap.size w w') hC i (wfN i hi) hl k who hk7 hw1 hw4 hp none none 0 0 0 0 yes fun W hW => ?_).mono fun e w' ⟨v, e1, e2, h3⟩ => ⟨by rw [e1, e2], h3⟩
  obtain ⟨⟨R, pa, pc, wv, vv, hG⟩, _⟩ := (hC.later hW).at_ hl
  exact (hear_none_v hG hd k 0 i who none none 0 0 0 0 yes hk h4).mono fun e w' ⟨e1, hb⟩ => ⟨_, e1, rfl, fin hb hW⟩
theorem get_vote (h : CSite B w0 C T l x fp w) (i : Nat) (hi : i ≤ 999999) {g : GS} (hM : x.M = [((i : Int), g)]) {n : Nat} (hd : g.ph = .dec n) (hn5 : n ≠ 5) (who : Nat) (yes : Bool) (hw1 : 1 ≤ who) (hw4 : who ≤ 4) (hp : who ∈ g.ps) :
    Calls Tryz.prog 17 #[ptr C, msgV 4 who i yes] w fun e w' => ∃ v, e = .returned v ∧ MsgsN w w' v [wordS g.ps i who (.dec n)] ∧ Below w.heap.size w w' := by
  obtain ⟨m, v, col, rfl, hC⟩ := h.c
  have hl : look x.M (i : Int) = some g := by rw [hM, look_one]
  refine c_get_hear (fun v w' => MsgsN w w' v [wordS g.ps i who (.dec n)] ∧ Below w.heap.size w w') hC i (wfN i hi) hl 4 who (by decide) hw1 hw4 hp none none 0 0 0 0 yes fun W hW => ?_
  obtain ⟨⟨R, pa, pc, wv, vv, hG⟩, _⟩ := (hC.later hW).at_ hl
  exact (hear_vote hG hd hn5 0 i who none none 0 0 0 0 yes).mono fun e w' ⟨v2, e1, hMs, hb⟩ => ⟨_, e1, hMs.low hW.size, fin hb hW⟩

theorem state_one (h : CSite B w0 C T l x fp w) (i : Nat) (hi : i ≤ 999999) {g : GS} (hM : x.M = [((i : Int), g)]) (h0 : g.ph ≠ .nul) : Calls Tryz.prog 21 #[ptr C, .int .i64 i] w fun e w' => e = .returned (.int .i64 g.ph.state) ∧ w' = w := by
  obtain ⟨m, v, col, rfl, hC⟩ := h.c
  exact c_state_some hC i (wfN i hi) (by rw [hM, look_one]) h0
theorem state_none (h : CSite B w0 C T l x fp w) (i : Nat) (hi : i ≤ 999999) (hM : look x.M (i : Int) = none) : Calls Tryz.prog 21 #[ptr C, .int .i64 i] w fun e w' => e = .returned (.int .i64 0) ∧ w' = w := by
  obtain ⟨m, v, col, rfl, hC⟩ := h.c
  exact c_state_none hC i (wfN i hi) hM
theorem waits_one (h : CSite B w0 C T l x fp w) (i : Nat) (hi : i ≤ 999999) {g : GS} (hM : x.M = [((i : Int), g)]) : Calls Tryz.prog 23 #[ptr C, .int .i64 i] w fun e w' => ∃ a c, e = .returned (.slice a g.ws.length c) ∧ Below w.heap.size w w' := by
  obtain ⟨m, v, col, rfl, hC⟩ := h.c
  exact (c_waits_some hC i (wfN i hi) (g := g) (by rw [hM, look_one])).mono fun e w' ⟨a, c, h1, _, h2⟩ => ⟨a, c, h1, h2⟩
theorem cancel_one (h : CSite B w0 C T l x fp w) (i : Nat) (hi : i ≤ 999999) {g : GS} (hM : x.M = [((i : Int), g)]) (ho : g.ph.open = true) :
    Calls Tryz.prog 16 #[ptr C, .int .i64 i] w fun e w' => ∃ v2 fp', e = .returned (.tuple #[v2, .int .i64 0]) ∧ MsgsN w w' v2 (toAll i g.ps (.dec 4)) ∧ CSite B w0 C T l (x.of i (g.at (.dec 4))) fp' w' := by
  obtain ⟨m, v, col, rfl, hC⟩ := h.c
  refine (c_cancel_open hC i (wfN i hi) (g := g) (by rw [hM, look_one]) ho).mono fun e w' ⟨v2, v', col5, h1, h2, h5, hT5⟩ => ⟨v2, inC col5, h1, h2, ?_⟩
  rw [hM, upd_one] at h5
  exact h.turn ⟨m, v', col5, rfl, h5⟩ hT5
theorem submit_one (h : CSite B w0 C T l x fp w) (hM : x.M = []) (hlen : x.A.length + x.L.length < 999980) (id : Nat) (h1 : 1 ≤ id) (h2 : id ≤ 999999) (a : Option Addr) (n c : Nat) (L : List PodT) (hl : L.length = n) (hnc : n ≤ c) (hn8 : n ≤ 8) (hP : Pods w a L) (hPi : PodsIn (fun k => k < w.heap.size ∧ ¬ fp k) a L)
    (hE : sgangE (id : Int) L x.n = 0) (ps : List Nat) (hps : shardsB L = ps.map fun (p : Nat) => (p : Int)) (h0 : 0 < ps.length) (h4 : ps.length ≤ 4) (hr : riseB 0 ps = true) :
    Calls Tryz.prog 12 #[ptr C, .agg #[.int .i64 id, .slice a n c]] w fun e w' => ∃ v2 b pods fp', e = .returned (.tuple #[v2, .int .i64 0]) ∧ MsgsN w w' v2 (toAll id ps (.hold 0 pods)) ∧ pods.map PodT.data = copD L (shardsB L) ∧
      CSite B w0 C T l ((recC x (gangT id ps)).of id ⟨b, ps, ps, .hold 0 pods⟩) fp' w' := by
  obtain ⟨m, v, col, rfl, hC⟩ := h.c
  refine (submit_ok hC B h.tab h.le h.low hlen (by rw [hM]; decide) id h1 h2 a n c L hl hn8 hP hPi (fun W hW => (gang_any id x.n a c n L W hl hnc (hP.later hW)).mono fun e w' ⟨e1, hb⟩ => ⟨by rw [e1, hE], hb⟩) (by rw [hM]; rfl) ps hps h0 h4 hr).mono fun e w' ⟨v2, v', col5, b, pods, e1, e2, e3, h5, hT5⟩ => ⟨v2, b, pods, inC col5, e1, e2, e3, ?_⟩
  have e : put iK x.M (id : Int) ⟨b, ps, [], .nul⟩ = [((id : Int), ⟨b, ps, [], .nul⟩)] := by rw [hM]; rfl
  rw [e, upd_one] at h5
  exact h.turn ⟨m, v', col5, rfl, h5⟩ hT5
end

end Go.Proofs.YtlehlbgaboifoabGreatDoor
