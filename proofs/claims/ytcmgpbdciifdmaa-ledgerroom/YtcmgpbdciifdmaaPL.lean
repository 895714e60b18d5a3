/- The contract of the statements' own Places. -/
import Derived.Test.YtcmgpbdciifdmaaRA
import Derived.Test.YtcmgpbdciifdmaaLN
namespace Go.Proofs.Ytcmgpbdciifdmaa
open Go.RowKit Go.Maps
set_option linter.unusedSimpArgs false
set_option linter.unusedVariables false

/-- The name of a pod by its place. -/
def podName (k : Nat) : ByteArray := ⟨#[112, 97 + UInt8.ofNat k]⟩
theorem pre_p (x : UInt8) : (⟨#[112]⟩ : ByteArray) ++ ⟨#[x]⟩ = ⟨#[112, x]⟩ := by
  cases x
  rfl
/-- The place of a number. -/
def plOf (k : Nat) (z : Int) : Pl := ⟨podName k, nameAt z, wrap64 (z.tdiv 8) % 4, wrap64 (z.tdiv 32) % 4, z % 3 == 0⟩
/-- The first k of them. -/
def plsTo (n : Int) (zs : List Int) : Nat → List Pl
  | 0 => []
  | k + 1 => plsTo n zs k ++ [plOf k (wrap64 (zs.getD k 0 + n))]
theorem plsTo_len (n : Int) (zs : List Int) : ∀ k, (plsTo n zs k).length = k
  | 0 => rfl
  | k + 1 => by simp [plsTo, plsTo_len n zs k]
theorem plsTo_mem {n : Int} {zs : List Int} : ∀ {k : Nat} {p : Pl}, p ∈ plsTo n zs k → ∃ i z, p = plOf i z
  | 0, p, h => by cases h
  | k + 1, p, h => by
    rcases List.mem_append.1 h with h | h
    · exact plsTo_mem h
    · simp only [List.mem_singleton] at h
      exact ⟨_, _, h⟩

theorem cfw7 (args : Array Value) (w : World) : (callFunc 11 args).run Try.prog w = .ok (.enter 11 args) w := by kernel_rfl
theorem cfn2 (args : Array Value) (w : World) : (callFunc 16 args).run Try.prog w = .ok (.enter 16 args) w := by kernel_rfl

def plF (k : Nat) (z : Int) (v0 : Value) : Nat → Value → World → Prop
  | 0, v, _ => v = v0
  | 1, v, _ => v = .int .i64 k
  | 2, v, _ => v = .int .i64 (97 + k)
  | 3, v, _ => v = .int .u8 (97 + k)
  | 4, v, w => ∃ B, v = .slice (some ⟨B, 0, none⟩) 1 1 ∧ w.cell? ⟨B, 0, none⟩ = some (.int .u8 (97 + k))
  | 5, v, _ => v = .string ⟨#[UInt8.ofNat (97 + k)]⟩
  | 6, v, _ => v = .string (podName k)
  | 7, v, _ => v = .int .i64 z
  | 8, v, _ => v = .string (nameAt z)
  | 9, v, _ => v = .int .i64 z
  | 10, v, _ => v = .int .i64 (wrap64 (z.tdiv 8))
  | 11, v, _ => v = .int .i64 (wrap64 (z.tdiv 8) % 4)
  | 12, v, _ => v = .int .i64 z
  | 13, v, _ => v = .int .i64 (wrap64 (z.tdiv 32))
  | 14, v, _ => v = .int .i64 (wrap64 (z.tdiv 32) % 4)
  | 15, v, _ => v = .agg #[.int .i64 (wrap64 (z.tdiv 8) % 4), .int .i64 (wrap64 (z.tdiv 32) % 4)]
  | 16, v, _ => v = .int .i64 z
  | 17, v, _ => v = .int .i64 (z % 3)
  | 18, v, _ => v = .bool (z % 3 == 0)
  | 19, v, _ => v = .agg #[.string (podName k), .string (nameAt z), .int .i64 (wrap64 (z.tdiv 8) % 4), .int .i64 (wrap64 (z.tdiv 32) % 4), .bool (z % 3 == 0)]
  | 20, v, w => ∃ D, v = .slice (some ⟨D, 0, none⟩) 1 1 ∧ NewCells w D (plOf k z).cells
  | _, _, _ => True

theorem info_place : (Try.prog.info? 49).map (fun i => (i.zero, i.size, i.bytes)) = some (some (.agg #[.string ByteArray.empty, .string ByteArray.empty, .int .i64 0, .int .i64 0, .bool false]), 5, 56) := infoPl

set_option maxRecDepth 100000 in
set_option maxHeartbeats 8000000 in
theorem lPlaces_any (a0 : Option Addr) (len0 cap0 : Nat) (z0 : List Int) (n : Int) (w : World) (hrow : HasRow w a0 len0 z0) (q : Nat) (hq : min len0 3 = q) :
    Calls Try.prog 20 #[.slice a0 len0 cap0, .int .i64 n] w fun e w' => ∃ a c, e = .returned (.slice a q c) ∧ Pls w' a (plsTo n z0 q) ∧ SP a ∧ (∀ x, a = some x → w.heap.size ≤ x.block ∧ x.block < w'.heap.size) ∧ Below w.heap.size w w' := by
  obtain ⟨i0, hi, hz0, hz1, hz2⟩ := info_parts info_place
  go_enter Try.func20, Try.ntmps20
  go_wp2
  go_loopw [5, 6] (fun v i wr => ∃ k : Nat, k ≤ q ∧ i = .int .i64 k ∧ wr.ownsRow w.heap.size 49 5 v k ((plsTo n z0 k).flatMap Pl.cells) ∧ Below w.heap.size w wr) (fun _ i _ => 3 - (intOf i).toNat)
  case atStart => exact ⟨0, Nat.zero_le _, rfl, World.ownsRow_nil _ _ _ _, Below.refl _ _⟩
  case round =>
    obtain ⟨k, hk, rfl, hown, hbw⟩ := hrel
    by_cases hlt : k < len0 ∧ k < 3
    · obtain ⟨x, rfl, hcx0⟩ := hrow.2 k hlt.1
      have hcx := cell_below hbw hcx0 (block_lt hcx0)
      have h1 : k < len0 := hlt.1
      have h2 : (k : Int) < 3 := by omega
      have h3 : k < 3 := hlt.2
      obtain ⟨zc, hzc⟩ : ∃ zc, z0.getD k 0 = zc := ⟨_, rfl⟩
      have hst : Hid (plsTo n z0 (k + 1) = plsTo n z0 k ++ [plOf k (wrap64 (z0.getD k 0 + n))]) := rfl
      obtain ⟨zz, hzz⟩ : ∃ zz, wrap64 (zc + n) = zz := ⟨_, rfl⟩
      rw [hzc, hzz] at hst
      rw [hzc] at hcx
      generalize hlp : plsTo n z0 k = L at hown hst
      have hL : L.length = k := by rw [← hlp]; exact plsTo_len n z0 k
      clear hcx0 hrow hlp hlt hzc
      go_upto_region 6 with fail
      simp only [hzz]
      refine wp_region_rely_upto 21 2 (fun w1 => Below wr.heap.size wr w1) (fun w1 w2 => Below w1.heap.size w1 w2) (plF k zz u5) (by kernel_rfl) (by kernel_rfl) (by kernel_rfl) (Below.refl _ _).drew ?keep ?step ?rest
      case keep =>
        intro i v w1 w2 hS hF
        unfold plF at *
        split at hF <;> try exact hF
        · obtain ⟨B, hv, hc⟩ := hF
          exact ⟨B, hv, cell_below hS hc (block_lt hc)⟩
        · obtain ⟨D, hv, hc⟩ := hF
          exact ⟨D, hv, hc.later hS⟩
      case step =>
        intro i o d hi ho hd b w1 hR hold hdep
        have o5 : sl b 5 = u5 := hold 5 (by kernel_rfl)
        have o6 : sl b 6 = .int .i64 k := hold 6 (by kernel_rfl)
        have o7 : sl b 7 = .int .i64 zz := hold 7 (by kernel_rfl)
        have hb0 := Below.refl w1.heap.size w1
        have k1 : IntKind.i64.wrap (97 + k) = 97 + k := IntWalk.i64_in _ (by omega)
        have k2 : IntKind.u8.wrap (97 + k) = 97 + k := (show ∀ q : Fin 3, IntKind.u8.wrap (97 + (q.val : Int)) = 97 + (q.val : Int) by decide) ⟨k, h3⟩
        have hcn : ((UInt8.ofNat (97 + k)).toNat : Int) = 97 + k := (show ∀ q : Fin 3, ((UInt8.ofNat (97 + q.val)).toNat : Int) = 97 + (q.val : Int) by decide) ⟨k, h3⟩
        rcases i with _ | _ | _ | _ | _ | _ | _ | _ | _ | _ | _ | _ | _ | _ | _ | _ | _ | _ | _ | _ | _ | i
        all_goals try (cases ho; cases hd)
        · exact ok_val rfl rfl rfl (by simp [go_sem, o5]) hR hb0 rfl
        · exact ok_val rfl rfl rfl (by simp [go_sem, o6]) hR hb0 rfl
        · have f0 : sl b 25 = .int .i64 k := hdep 1 _ _ rfl rfl (by kernel_rfl)
          exact ok_val rfl rfl rfl (by simp [go_sem, f0, k1]) hR hb0 rfl
        · have f0 : sl b 26 = .int .i64 (97 + k) := hdep 2 _ _ rfl rfl (by kernel_rfl)
          exact ok_val rfl rfl rfl (by simp [go_sem, f0, k2]) hR hb0 rfl
        · have f0 : sl b 27 = .int .u8 (97 + k) := hdep 3 _ _ rfl rfl (by kernel_rfl)
          exact ok_val rfl rfl rfl (by simp [go_sem, f0]; exact ⟨rfl, rfl⟩) (hR.alloc hR.size _) (hb0.alloc (Nat.le_refl _) _) ⟨_, rfl, by simp⟩
        · obtain ⟨B, f0, hc⟩ : ∃ B, sl b 28 = .slice (some ⟨B, 0, none⟩) 1 1 ∧ w1.cell? ⟨B, 0, none⟩ = some (.int .u8 (97 + k)) := hdep 4 _ _ rfl rfl (by kernel_rfl)
          have hconv := run_convert_bytes_back (P := Try.prog) w1 63 9 5 ⟨B, 0, none⟩ 1 [UInt8.ofNat (97 + k)] (by kernel_rfl) (by kernel_rfl) (by kernel_rfl) (fun j hj => by
            have : j = 0 := by simpa using hj
            subst this
            simp only [List.getElem_cons_zero]
            rw [hcn]
            exact hc)
          rw [List.length_singleton] at hconv
          exact ok_val rfl rfl rfl (by simp only [go_sem, f0, hconv]; simp [go_sem, f0, hconv]) hR hb0 rfl
        · have f0 : sl b 29 = .string ⟨#[UInt8.ofNat (97 + k)]⟩ := hdep 5 _ _ rfl rfl (by kernel_rfl)
          exact ok_val rfl rfl rfl (by simp [go_sem, f0, pre_p, podName]) hR hb0 rfl
        · exact ok_val rfl rfl rfl (by simp [go_sem, o7]) hR hb0 rfl
        · have f0 : sl b 31 = .int .i64 zz := hdep 7 _ _ rfl rfl (by kernel_rfl)
          refine ok_enter rfl rfl rfl (by simp [go_sem, f0, cfn2]; first | done | rfl | exact ⟨rfl, rfl⟩) ((lName_is zz _ w1 w1 (Below.refl _ _) rfl).mono ?_)
          rintro e w2 ⟨rfl, hb2⟩
          exact ⟨_, rfl, hR.trans (hb2.mono hR.size), hb2, rfl⟩
        · exact ok_val rfl rfl rfl (by simp [go_sem, o7]) hR hb0 rfl
        · have f0 : sl b 33 = .int .i64 zz := hdep 9 _ _ rfl rfl (by kernel_rfl)
          exact ok_val rfl rfl rfl (by simp [go_sem, f0, IntWalk.i64_left]) hR hb0 rfl
        · have f0 : sl b 34 = .int .i64 (wrap64 (zz.tdiv 8)) := hdep 10 _ _ rfl rfl (by kernel_rfl)
          refine ok_enter rfl rfl rfl (by simp [go_sem, f0, cfw7]; exact ⟨rfl, rfl⟩) ((within_any _ _ _ (by decide) (by omega) rfl _).mono ?_)
          rintro e w2 ⟨rfl, rfl⟩
          exact ⟨_, rfl, hR, hb0, rfl⟩
        · exact ok_val rfl rfl rfl (by simp [go_sem, o7]) hR hb0 rfl
        · have f0 : sl b 36 = .int .i64 zz := hdep 12 _ _ rfl rfl (by kernel_rfl)
          exact ok_val rfl rfl rfl (by simp [go_sem, f0, IntWalk.i64_left]) hR hb0 rfl
        · have f0 : sl b 37 = .int .i64 (wrap64 (zz.tdiv 32)) := hdep 13 _ _ rfl rfl (by kernel_rfl)
          refine ok_enter rfl rfl rfl (by simp [go_sem, f0, cfw7]; exact ⟨rfl, rfl⟩) ((within_any _ _ _ (by decide) (by omega) rfl _).mono ?_)
          rintro e w2 ⟨rfl, rfl⟩
          exact ⟨_, rfl, hR, hb0, rfl⟩
        · have f0 : sl b 35 = .int .i64 (wrap64 (zz.tdiv 8) % 4) := hdep 11 _ _ rfl rfl (by kernel_rfl)
          have f1 : sl b 38 = .int .i64 (wrap64 (zz.tdiv 32) % 4) := hdep 14 _ _ rfl rfl (by kernel_rfl)
          exact ok_val rfl rfl rfl (by simp [go_sem, f0, f1]) hR hb0 rfl
        · exact ok_val rfl rfl rfl (by simp [go_sem, o7]) hR hb0 rfl
        · have f0 : sl b 40 = .int .i64 zz := hdep 16 _ _ rfl rfl (by kernel_rfl)
          refine ok_enter rfl rfl rfl (by simp [go_sem, f0, cfw7]; exact ⟨rfl, rfl⟩) ((within_any _ _ _ (by decide) (by omega) rfl _).mono ?_)
          rintro e w2 ⟨rfl, rfl⟩
          exact ⟨_, rfl, hR, hb0, rfl⟩
        · have f0 : sl b 41 = .int .i64 (zz % 3) := hdep 17 _ _ rfl rfl (by kernel_rfl)
          exact ok_val rfl rfl rfl (by simp [go_sem, f0]) hR hb0 rfl
        · have f0 : sl b 30 = .string (podName k) := hdep 6 _ _ rfl rfl (by kernel_rfl)
          have f1 : sl b 32 = .string (nameAt zz) := hdep 8 _ _ rfl rfl (by kernel_rfl)
          have f2 : sl b 39 = .agg #[.int .i64 (wrap64 (zz.tdiv 8) % 4), .int .i64 (wrap64 (zz.tdiv 32) % 4)] := hdep 15 _ _ rfl rfl (by kernel_rfl)
          have f3 : sl b 42 = .bool (zz % 3 == 0) := hdep 18 _ _ rfl rfl (by kernel_rfl)
          exact ok_val rfl rfl rfl (by simp [go_sem, f0, f1, f2, f3]) hR hb0 rfl
        · have f0 : sl b 43 = .agg #[.string (podName k), .string (nameAt zz), .int .i64 (wrap64 (zz.tdiv 8) % 4), .int .i64 (wrap64 (zz.tdiv 32) % 4), .bool (zz % 3 == 0)] := hdep 19 _ _ rfl rfl (by kernel_rfl)
          exact ok_val rfl rfl rfl (by simp [go_sem, f0] <;> first | rfl | exact ⟨rfl, rfl⟩) (hR.alloc hR.size _) (hb0.alloc (Nat.le_refl _) _) ⟨_, rfl, cells_new _ (plOf k zz).cells _ _ rfl⟩
        · omega
      case rest =>
        intro b w1 hR hsz hdf hold hF
        have f24 : sl b 24 = u5 := hF 0 _ _ (by decide) rfl rfl
        obtain ⟨D, f44, hD⟩ : ∃ D, sl b 44 = .slice (some ⟨D, 0, none⟩) 1 1 ∧ NewCells w1 D (plOf k zz).cells := hF 20 _ _ (by decide) rfl rfl
        have hb1 : Below w.heap.size w w1 := hbw.trans (hR.mono hbw.size)
        have hsz' : b.tmps.size = 47 := hsz
        refine wpK_one 21 _ (by kernel_rfl) rfl (want_none rfl b) ?_
        refine okAt_append (.tmp 24) (.tmp 44) 46 rfl w.heap.size 49 i0 _ 5 56 Try.underlying46 hi hz0 hz1 hz2 rfl (by decide) u5 k _ (by simpa [go_sem] using f24) (hown.kept (below_grown hR none) (by cases u5.ownBlock with | none => exact .inl rfl | some j => exact .inr (by simp))) ⟨D, 0, none⟩ 1 1 (plOf k zz).cells (by simpa [go_sem] using f44) rfl hD (by intro u hu; simp only [plOf, Pl.cells, List.mem_cons, List.not_mem_nil, or_false] at hu; rcases hu with rfl | rfl | rfl | rfl | rfl <;> rfl) (by unfold maxLen; omega) (by omega) hb1.size ?_
        intro v' w2 hown' hgrow hat
        have hB2 : Below w.heap.size w w2 := hb1.grown hgrow hb1.size (fun j hj => by have := (hown.lt j hj).1; omega)
        refine ⟨trivial, wpK_one 22 _ (by kernel_rfl) rfl (want_none rfl _) ?_⟩
        refine okAt_val (w2 := w2) (v := v') (by
          simp [go_sem, hsz']) ?_
        refine ⟨trivial, wpK_end (by kernel_rfl) ?_⟩
        generalize hb9 : Act.put (Act.put b _ _) _ _ = b9
        have hb8 : (b.put (some 45) v').put (some 5) v' = b9 := hb9
        have e5 : sl b9 5 = v' := sl_same (n := 47) hb8.symm (by rw [put_size]; exact hsz') (by decide)
        have e0 := sl_ne hb8.symm (by decide) (sl_ne rfl (by decide) (hold 0 (by kernel_rfl)))
        have e1 := sl_ne hb8.symm (by decide) (sl_ne rfl (by decide) (hold 1 (by kernel_rfl)))
        have e2 := sl_ne hb8.symm (by decide) (sl_ne rfl (by decide) (hold 2 (by kernel_rfl)))
        have e3 := sl_ne hb8.symm (by decide) (sl_ne rfl (by decide) (hold 3 (by kernel_rfl)))
        have e4 := sl_ne hb8.symm (by decide) (sl_ne rfl (by decide) (hold 4 (by kernel_rfl)))
        have e6 := sl_ne hb8.symm (by decide) (sl_ne rfl (by decide) (hold 6 (by kernel_rfl)))
        have e7 := sl_ne hb8.symm (by decide) (sl_ne rfl (by decide) (hold 7 (by kernel_rfl)))
        have e8 := sl_ne hb8.symm (by decide) (sl_ne rfl (by decide) (hold 8 (by kernel_rfl)))
        have e9 := sl_ne hb8.symm (by decide) (sl_ne rfl (by decide) (hold 9 (by kernel_rfl)))
        have e10 := sl_ne hb8.symm (by decide) (sl_ne rfl (by decide) (hold 10 (by kernel_rfl)))
        have e11 := sl_ne hb8.symm (by decide) (sl_ne rfl (by decide) (hold 11 (by kernel_rfl)))
        have e12 := sl_ne hb8.symm (by decide) (sl_ne rfl (by decide) (hold 12 (by kernel_rfl)))
        have e13 := sl_ne hb8.symm (by decide) (sl_ne rfl (by decide) (hold 13 (by kernel_rfl)))
        have e14 := sl_ne hb8.symm (by decide) (sl_ne rfl (by decide) (hold 14 (by kernel_rfl)))
        have e15 := sl_ne hb8.symm (by decide) (sl_ne rfl (by decide) (hold 15 (by kernel_rfl)))
        have e16 := sl_ne hb8.symm (by decide) (sl_ne rfl (by decide) (hold 16 (by kernel_rfl)))
        have e17 := sl_ne hb8.symm (by decide) (sl_ne rfl (by decide) (hold 17 (by kernel_rfl)))
        have e18 := sl_ne hb8.symm (by decide) (sl_ne rfl (by decide) (hold 18 (by kernel_rfl)))
        have e19 := sl_ne hb8.symm (by decide) (sl_ne rfl (by decide) (hold 19 (by kernel_rfl)))
        have e20 := sl_ne hb8.symm (by decide) (sl_ne rfl (by decide) (hold 20 (by kernel_rfl)))
        have e21 := sl_ne hb8.symm (by decide) (sl_ne rfl (by decide) (hold 21 (by kernel_rfl)))
        have e22 := sl_ne hb8.symm (by decide) (sl_ne rfl (by decide) (hold 22 (by kernel_rfl)))
        have e23 := sl_ne hb8.symm (by decide) (sl_ne rfl (by decide) (hold 23 (by kernel_rfl)))
        have e46 := sl_ne hb8.symm (by decide) (sl_ne rfl (by decide) (hold 46 (by kernel_rfl)))
        have hB : b9 = _ := act_list b9 (show b9.tmps.size = 47 by rw [← hb8, put_size, put_size]; exact hsz) (show b9.defers = [] by rw [← hb8]; exact hdf)
        rw [hB]
        simp only [List.range, List.range.loop, List.map_cons, List.map_nil, e0, e1, e2, e3, e4, e5, e6, e7, e8, e9, e10, e11, e12, e13, e14, e15, e16, e17, e18, e19, e20, e21, e22, e23, e46]
        generalize sl b9 24 = v24, sl b9 25 = v25, sl b9 26 = v26, sl b9 27 = v27, sl b9 28 = v28, sl b9 29 = v29, sl b9 30 = v30, sl b9 31 = v31, sl b9 32 = v32, sl b9 33 = v33, sl b9 34 = v34, sl b9 35 = v35, sl b9 36 = v36, sl b9 37 = v37, sl b9 38 = v38, sl b9 39 = v39, sl b9 40 = v40, sl b9 41 = v41, sl b9 42 = v42, sl b9 43 = v43, sl b9 44 = v44, sl b9 45 = v45
        simp only [sl, List.getElem?_toArray, List.getElem?_cons_succ, List.getElem?_cons_zero, Option.getD_some]
        clear e0 e1 e2 e3 e4 e5 e6 e7 e8 e9 e10 e11 e12 e13 e14 e15 e16 e17 e18 e19 e20 e21 e22 e23 e46 hB hb9 hb8 hF hold hdf hsz hsz' f24 f44
        go_wp2
        go_roundw
        case rel =>
          refine ⟨k + 1, by omega, by go_num, ?_, hB2⟩
          rw [hst.out, List.flatMap_append]
          simpa using hown'
        case measure => simp [intOf]; omega
    · have e1 : k = q := by omega
      subst e1
      have h1000 := plsTo_len n z0 k
      have fin : ∃ a c, u5 = .slice a k c ∧ Pls wr a (plsTo n z0 k) ∧ SP a ∧ (∀ x, a = some x → w.heap.size ≤ x.block ∧ x.block < wr.heap.size) := by
        rcases hown.2 with ⟨rfl, h0⟩ | ⟨g, cap, cur, rfl, hb, hh, hncap, hrest⟩
        · subst h0
          exact ⟨none, 0, rfl, ⟨by simp [plsTo], by simp [plsTo]⟩, SP.none, fun x hx => by cases hx⟩
        · refine ⟨some ⟨g, 0, none⟩, cap, rfl, pls_of_cells (by omega) (fun j u hj => ?_), SP.some _ _, fun x hx => by cases hx; exact ⟨hb, (Array.getElem?_eq_some_iff.1 hh).1⟩⟩
          have := hown.cells (g := g) rfl j u hj
          rwa [add_spot rfl] at this
      obtain ⟨a, c, rfl, hP, hs, hn⟩ := fin
      clear hown hrow
      by_cases h1 : k < len0
      · have h2 : ¬ (k : Int) < 3 := by omega
        go_wp2
        go_ret
        first | exact ⟨a, ⟨c, rfl⟩, hP, hs, hn, hbw⟩ | exact ⟨a, c, rfl, hP, hs, hn, hbw⟩
      · go_wp2
        go_ret
        first | exact ⟨a, ⟨c, rfl⟩, hP, hs, hn, hbw⟩ | exact ⟨a, c, rfl, hP, hs, hn, hbw⟩

end Go.Proofs.Ytcmgpbdciifdmaa
