/- The contract of the statements' own Pod: one that may be. -/
import Derived.Test.YtgcicillmljglaaLN
import Derived.Test.YtgcicillmljglaaRL
import Derived.Deep.Cut
import Derived.Laws.IdiomStrings
namespace Go.Proofs.Ytgcicillmljglaa
open Go.RowKit Go.Maps
set_option linter.unusedSimpArgs false
set_option linter.unusedVariables false

/-- A pod's name by its place, and what else it has by its number. -/
def podName (k : Nat) : ByteArray := ⟨#[112, 97 + UInt8.ofNat k]⟩
def podPicks (n : Int) : List ByteArray := if wrap64 (n.tdiv 100) % 5 = 0 then marksTo (wrap64 (n.tdiv 500)) 4 else []
def podBears (n : Int) : List ByteArray := if wrap64 (n.tdiv 7) % 3 = 0 then marksTo (wrap64 (n.tdiv 11)) 4 else []
theorem pre_p (x : UInt8) : (⟨#[112]⟩ : ByteArray) ++ ⟨#[x]⟩ = ⟨#[112, x]⟩ := by
  apply ByteArray.ext
  simp
theorem cfwithin (args : Array Value) (w : World) : (callFunc 11 args).run Try.prog w = .ok (.enter 11 args) w := by kernel_rfl

/-- The block of a pod that is a variable. -/
def PBox (w : World) (B : Nat) (s : ByteArray) (sh cpu mem : Int) (u v : Value) (al : Bool) : Prop := w.heap[B]? = some (.cells #[.string s, .int .i64 sh, .int .i64 cpu, .int .i64 mem, u, v, .bool al] 26 (0, 0))

section
variable {w w' : World} {B : Nat} {s : ByteArray} {sh cpu mem : Int} {u v : Value} {al : Bool}
theorem PBox.lt (h : PBox w B s sh cpu mem u v al) : B < w.heap.size := (Array.getElem?_eq_some_iff.1 h).1
theorem PBox.later (h : PBox w B s sh cpu mem u v al) (hb : Below w.heap.size w w') : PBox w' B s sh cpu mem u v al := by
  have := h.lt
  unfold PBox at *
  rw [hb.block B this, h]
theorem PBox.cells (h : PBox w B s sh cpu mem u v al) :
    w.cell? ⟨B, 0, none⟩ = some (.string s) ∧ w.cell? ⟨B, 1, none⟩ = some (.int .i64 sh) ∧ w.cell? ⟨B, 2, none⟩ = some (.int .i64 cpu) ∧ w.cell? ⟨B, 3, none⟩ = some (.int .i64 mem) ∧ w.cell? ⟨B, 4, none⟩ = some u ∧ w.cell? ⟨B, 5, none⟩ = some v ∧ w.cell? ⟨B, 6, none⟩ = some (.bool al) := by
  unfold PBox at h
  simp [World.cell?, h]
theorem PBox.frozen (h : PBox w B s sh cpu mem u v al) (j : Nat) : w.frozen? ⟨B, j, none⟩ = false := by
  unfold PBox at h; simp [World.frozen?, h]
theorem PBox.grown {row : Option Nat} (h : PBox w B s sh cpu mem u v al) (hg : w.grownBy w' row) (hne : some B ≠ row) : PBox w' B s sh cpu mem u v al := by
  have := h.lt
  unfold PBox at *
  rw [hg.block B this hne, h]
theorem PBox.other (h : PBox w B s sh cpu mem u v al) {b : Nat} (hne : B ≠ b) (i : Nat) (z : Value) : PBox (w.setCell ⟨b, i, none⟩ z) B s sh cpu mem u v al := by
  unfold PBox at *
  rw [Below.heap_setCell _ _ _ _ hne, h]
theorem PBox.set0 (h : PBox w B s sh cpu mem u v al) (t : ByteArray) : PBox (w.setCell ⟨B, 0, none⟩ (.string t)) B t sh cpu mem u v al := by
  unfold PBox at *
  rw [heap_setCell_same w B 0 _ _ _ h]
  simp
theorem PBox.set1 (h : PBox w B s sh cpu mem u v al) (z : Int) : PBox (w.setCell ⟨B, 1, none⟩ (.int .i64 z)) B s z cpu mem u v al := by
  unfold PBox at *
  rw [heap_setCell_same w B 1 _ _ _ h]
  simp
theorem PBox.set2 (h : PBox w B s sh cpu mem u v al) (z : Int) : PBox (w.setCell ⟨B, 2, none⟩ (.int .i64 z)) B s sh z mem u v al := by
  unfold PBox at *
  rw [heap_setCell_same w B 2 _ _ _ h]
  simp
theorem PBox.set3 (h : PBox w B s sh cpu mem u v al) (z : Int) : PBox (w.setCell ⟨B, 3, none⟩ (.int .i64 z)) B s sh cpu z u v al := by
  unfold PBox at *
  rw [heap_setCell_same w B 3 _ _ _ h]
  simp
theorem PBox.set4 (h : PBox w B s sh cpu mem u v al) (z : Value) : PBox (w.setCell ⟨B, 4, none⟩ (z)) B s sh cpu mem z v al := by
  unfold PBox at *
  rw [heap_setCell_same w B 4 _ _ _ h]
  simp
theorem PBox.set5 (h : PBox w B s sh cpu mem u v al) (z : Value) : PBox (w.setCell ⟨B, 5, none⟩ (z)) B s sh cpu mem u z al := by
  unfold PBox at *
  rw [heap_setCell_same w B 5 _ _ _ h]
  simp
theorem PBox.set6 (h : PBox w B s sh cpu mem u v al) (z : Bool) : PBox (w.setCell ⟨B, 6, none⟩ (.bool z)) B s sh cpu mem u v z := by
  unfold PBox at *
  rw [heap_setCell_same w B 6 _ _ _ h]
  simp
end

theorem newNil (B : Nat) (w : World) : NewStrs B w none 0 [] := ⟨strs_nil w, (fun x hx => by cases hx), fun _ => rfl, by simp⟩
theorem NewStrs.put {B : Nat} {w : World} {a : Option Addr} {c : Nat} {ss : List ByteArray} (h : NewStrs B w a c ss) {b : Nat} (hne : ∀ x, a = some x → x.block ≠ b) (i : Nat) (u : Value) : NewStrs B (w.setCell ⟨b, i, none⟩ u) a c ss :=
  h.grown (grown_set w b i u) (fun x hx e => hne x hx (Option.some.inj e))

/-- What each operation of the pod's making yields. -/
def podF (w0 : World) (k : Nat) (n sh c m : Int) : Nat → Value → World → Prop
  | 0, v, _ => v = .int .i64 k
  | 1, v, _ => v = .int .i64 (97 + k)
  | 2, v, _ => v = .int .u8 (97 + k)
  | 3, v, w => ∃ B, v = .slice (some ⟨B, 0, none⟩) 1 1 ∧ w.cell? ⟨B, 0, none⟩ = some (.int .u8 (97 + k))
  | 4, v, _ => v = .string ⟨#[UInt8.ofNat (97 + k)]⟩
  | 5, v, _ => v = .string (podName k)
  | 6, v, _ => v = .int .i64 n
  | 7, v, _ => v = .int .i64 sh
  | 8, v, _ => v = .int .i64 (n % sh)
  | 9, v, _ => v = .int .i64 (1 + n % sh)
  | 10, v, _ => v = .int .i64 n
  | 11, v, _ => v = .int .i64 (wrap64 (n.tdiv 4))
  | 12, v, _ => v = .int .i64 c
  | 13, v, _ => v = .int .i64 n
  | 14, v, _ => v = .int .i64 (wrap64 (n.tdiv 20))
  | 15, v, _ => v = .int .i64 m
  | 16, v, _ => v = .agg #[.int .i64 c, .int .i64 m]
  | 17, v, _ => v = .agg #[.string (podName k), .int .i64 (1 + n % sh), .int .i64 c, .int .i64 m, .slice none 0 0, .slice none 0 0, .bool false]
  | 18, v, w => ∃ B, v = .pointer (some ⟨B, 0, none⟩) ∧ w0.heap.size ≤ B ∧ PBox w B ⟨#[]⟩ 0 0 0 (.slice none 0 0) (.slice none 0 0) false
  | _, _, _ => True

set_option maxRecDepth 100000 in
set_option maxHeartbeats 8000000 in
theorem lPod_gen (k : Nat) (n sh : Int) (w : World) (hk : k < 8) (h0 : 0 < sh) (h1 : sh ≤ 4) (nm : ByteArray) (s1 cpu mem t100 t500 t7 t11 t13 q1 q2 q3 : Int) (hnm : podName k = nm) (hs1 : 1 + n % sh = s1) (hcpu : wrap64 (n.tdiv 4) % 5 = cpu) (hmem : wrap64 (n.tdiv 20) % 5 = mem)
    (g100 : wrap64 (n.tdiv 100) = t100) (g500 : wrap64 (n.tdiv 500) = t500) (g7 : wrap64 (n.tdiv 7) = t7) (g11 : wrap64 (n.tdiv 11) = t11) (g13 : wrap64 (n.tdiv 13) = t13) (h100 : t100 % 5 = q1) (h7 : t7 % 3 = q2) (h13 : t13 % 6 = q3) :
    Calls Try.prog 12 #[.int .i64 k, .int .i64 n, .int .i64 sh] w fun e w' => ∃ a1 c1 a2 c2, e = .returned (.agg #[.string nm, .int .i64 s1, .int .i64 cpu, .int .i64 mem,
        .slice a1 (if q1 = 0 then marksTo t500 4 else []).length c1, .slice a2 (if q2 = 0 then marksTo t11 4 else []).length c2, .bool (q3 == 0)]) ∧
      NewStrs w.heap.size w' a1 c1 (if q1 = 0 then marksTo t500 4 else []) ∧ NewStrs w.heap.size w' a2 c2 (if q2 = 0 then marksTo t11 4 else []) ∧ Below w.heap.size w w' := by
  go_enter Try.func12, Try.ntmps12
  go_upto_region 1 with fail
  obtain ⟨W, hW⟩ : ∃ W, W = w.alloc (.cells #[.string ⟨#[]⟩, .int .i64 0, .int .i64 0, .int .i64 0, .slice none 0 0, .slice none 0 0, .bool false] 26) := ⟨_, rfl⟩
  have hr0 : PBox W w.heap.size ⟨#[]⟩ 0 0 0 (.slice none 0 0) (.slice none 0 0) false := by rw [hW]; exact heap_alloc_new w _
  have hWb : Below w.heap.size w W := by rw [hW]; exact (Below.refl _ _).alloc (Nat.le_refl _) _
  rw [← hW]
  refine wp_region_rely_last 19 (fun w1 => Below W.heap.size W w1) (fun w1 w2 => Below w1.heap.size w1 w2) (podF W k n sh (wrap64 (n.tdiv 4) % 5) (wrap64 (n.tdiv 20) % 5)) (by kernel_rfl) (by kernel_rfl) (Below.refl _ _).drew ?keep ?step ?rest
  case keep =>
    intro i v w1 w2 hS hF
    unfold podF at *
    split at hF <;> try exact hF
    · obtain ⟨B, hv, hc⟩ := hF
      exact ⟨B, hv, cell_below hS hc (block_lt hc)⟩
    · obtain ⟨B, hv, h1, hc⟩ := hF
      exact ⟨B, hv, h1, hc.later hS⟩
  case step =>
    intro i o d hi ho hd b w1 hR hold hdep
    have nn : n % sh < sh := Int.emod_lt_of_pos n h0
    have n0 : 0 ≤ n % sh := Int.emod_nonneg n (by omega)
    have o0 : sl b 0 = .int .i64 k := hold 0 (by kernel_rfl)
    have o1 : sl b 1 = .int .i64 n := hold 1 (by kernel_rfl)
    have o2 : sl b 2 = .int .i64 sh := hold 2 (by kernel_rfl)
    have hb0 := Below.refl w1.heap.size w1
    have k1 : IntKind.i64.wrap (97 + k) = 97 + k := IntWalk.i64_in _ (by omega)
    have k2 : IntKind.u8.wrap (97 + k) = 97 + k := (show ∀ q : Fin 8, IntKind.u8.wrap (97 + (q.val : Int)) = 97 + (q.val : Int) by decide) ⟨k, hk⟩
    have k3 : IntKind.i64.wrap (1 + n % sh) = 1 + n % sh := IntWalk.i64_in _ (by omega)
    have hcn : ((UInt8.ofNat (97 + k)).toNat : Int) = 97 + k := (show ∀ q : Fin 8, ((UInt8.ofNat (97 + q.val)).toNat : Int) = 97 + (q.val : Int) by decide) ⟨k, hk⟩
    rcases i with _ | _ | _ | _ | _ | _ | _ | _ | _ | _ | _ | _ | _ | _ | _ | _ | _ | _ | _ | i
    all_goals try (cases ho; cases hd)
    · exact ok_val rfl rfl rfl (by simp [go_sem, o0]) hR hb0 rfl
    · have f0 : sl b 8 = .int .i64 k := hdep 0 _ _ rfl rfl (by kernel_rfl)
      exact ok_val rfl rfl rfl (by simp [go_sem, f0, k1]) hR hb0 rfl
    · have f0 : sl b 9 = .int .i64 (97 + k) := hdep 1 _ _ rfl rfl (by kernel_rfl)
      exact ok_val rfl rfl rfl (by simp [go_sem, f0, k2]) hR hb0 rfl
    · have f0 : sl b 10 = .int .u8 (97 + k) := hdep 2 _ _ rfl rfl (by kernel_rfl)
      exact ok_val rfl rfl rfl (by simp [go_sem, f0]; exact ⟨rfl, rfl⟩) (hR.alloc hR.size _) (hb0.alloc (Nat.le_refl _) _) ⟨_, rfl, by simp⟩
    · obtain ⟨B, f0, hc⟩ : ∃ B, sl b 11 = .slice (some ⟨B, 0, none⟩) 1 1 ∧ w1.cell? ⟨B, 0, none⟩ = some (.int .u8 (97 + k)) := hdep 3 _ _ rfl rfl (by kernel_rfl)
      have hconv := run_convert_bytes_back (P := Try.prog) w1 52 9 5 ⟨B, 0, none⟩ 1 [UInt8.ofNat (97 + k)] (by kernel_rfl) (by kernel_rfl) (by kernel_rfl) (fun j hj => by
        have : j = 0 := by simpa using hj
        subst this
        simp only [List.getElem_cons_zero]
        rw [hcn]
        exact hc)
      rw [List.length_singleton] at hconv
      exact ok_val rfl rfl rfl (by simp only [go_sem, f0, hconv]; simp [go_sem, f0, hconv]) hR hb0 rfl
    · have f0 : sl b 12 = .string ⟨#[UInt8.ofNat (97 + k)]⟩ := hdep 4 _ _ rfl rfl (by kernel_rfl)
      exact ok_val rfl rfl rfl (by simp [go_sem, f0, pre_p, podName]) hR hb0 rfl
    · exact ok_val rfl rfl rfl (by simp [go_sem, o1]) hR hb0 rfl
    · exact ok_val rfl rfl rfl (by simp [go_sem, o2]) hR hb0 rfl
    · have f0 : sl b 14 = .int .i64 n := hdep 6 _ _ rfl rfl (by kernel_rfl)
      have f1 : sl b 15 = .int .i64 sh := hdep 7 _ _ rfl rfl (by kernel_rfl)
      refine ok_enter rfl rfl rfl (by simp [go_sem, f0, f1, cfwithin]; rfl) ((within_any _ _ _ h0 (by omega) rfl _).mono ?_)
      rintro e w2 ⟨rfl, rfl⟩
      exact ⟨_, rfl, hR, hb0, rfl⟩
    · have f0 : sl b 16 = .int .i64 (n % sh) := hdep 8 _ _ rfl rfl (by kernel_rfl)
      exact ok_val rfl rfl rfl (by simp [go_sem, f0, k3]) hR hb0 rfl
    · exact ok_val rfl rfl rfl (by simp [go_sem, o1]) hR hb0 rfl
    · have f0 : sl b 18 = .int .i64 n := hdep 10 _ _ rfl rfl (by kernel_rfl)
      exact ok_val rfl rfl rfl (by simp [go_sem, f0, IntWalk.i64_left]) hR hb0 rfl
    · have f0 : sl b 19 = .int .i64 (wrap64 (n.tdiv 4)) := hdep 11 _ _ rfl rfl (by kernel_rfl)
      refine ok_enter rfl rfl rfl (by simp [go_sem, f0, cfwithin]; exact ⟨rfl, rfl⟩) ((within_any _ _ _ (by decide) (by omega) rfl _).mono ?_)
      rintro e w2 ⟨rfl, rfl⟩
      exact ⟨_, rfl, hR, hb0, rfl⟩
    · exact ok_val rfl rfl rfl (by simp [go_sem, o1]) hR hb0 rfl
    · have f0 : sl b 21 = .int .i64 n := hdep 13 _ _ rfl rfl (by kernel_rfl)
      exact ok_val rfl rfl rfl (by simp [go_sem, f0, IntWalk.i64_left]) hR hb0 rfl
    · have f0 : sl b 22 = .int .i64 (wrap64 (n.tdiv 20)) := hdep 14 _ _ rfl rfl (by kernel_rfl)
      refine ok_enter rfl rfl rfl (by simp [go_sem, f0, cfwithin]; exact ⟨rfl, rfl⟩) ((within_any _ _ _ (by decide) (by omega) rfl _).mono ?_)
      rintro e w2 ⟨rfl, rfl⟩
      exact ⟨_, rfl, hR, hb0, rfl⟩
    · have f0 : sl b 20 = .int .i64 (wrap64 (n.tdiv 4) % 5) := hdep 12 _ _ rfl rfl (by kernel_rfl)
      have f1 : sl b 23 = .int .i64 (wrap64 (n.tdiv 20) % 5) := hdep 15 _ _ rfl rfl (by kernel_rfl)
      exact ok_val rfl rfl rfl (by simp [go_sem, f0, f1]) hR hb0 rfl
    · have f0 : sl b 13 = .string (podName k) := hdep 5 _ _ rfl rfl (by kernel_rfl)
      have f1 : sl b 17 = .int .i64 (1 + n % sh) := hdep 9 _ _ rfl rfl (by kernel_rfl)
      have f2 : sl b 24 = .agg #[.int .i64 (wrap64 (n.tdiv 4) % 5), .int .i64 (wrap64 (n.tdiv 20) % 5)] := hdep 16 _ _ rfl rfl (by kernel_rfl)
      exact ok_val rfl rfl rfl (by simp [go_sem, f0, f1, f2]) hR hb0 rfl
    · exact ok_val rfl rfl rfl (by simp [go_sem]) (hR.alloc hR.size _) (hb0.alloc (Nat.le_refl _) _) ⟨_, rfl, hR.size, heap_alloc_new _ _⟩
    · omega
  case rest =>
    intro o b w1 ho hR hsz hdf hold hF
    cases ho
    have f0 : sl b 0 = .int .i64 k := hold 0 (by kernel_rfl)
    have f1 : sl b 1 = .int .i64 n := hold 1 (by kernel_rfl)
    have f2 : sl b 2 = .int .i64 sh := hold 2 (by kernel_rfl)
    have f6 : sl b 6 = .pointer (some ⟨w.heap.size, 0, none⟩) := hold 6 (by kernel_rfl)
    obtain ⟨B, f7, hge, hbx⟩ : ∃ B, sl b 7 = .pointer (some ⟨B, 0, none⟩) ∧ W.heap.size ≤ B ∧ PBox w1 B ⟨#[]⟩ 0 0 0 (.slice none 0 0) (.slice none 0 0) false := hF 18 _ _ (by decide) rfl rfl
    have f25 : sl b 25 = .agg #[.string (podName k), .int .i64 (1 + n % sh), .int .i64 (wrap64 (n.tdiv 4) % 5), .int .i64 (wrap64 (n.tdiv 20) % 5), .slice none 0 0, .slice none 0 0, .bool false] := hF 17 _ _ (by decide) rfl rfl
    have hB : b = _ := act_list b (show b.tmps.size = 48 from hsz) hdf
    have fr := hbx.frozen
    obtain ⟨c0, c1, c2, c3, c4, c5, c6⟩ := hbx.cells
    refine ok_skip rfl rfl rfl (by simp [go_sem, f7, f25, c0, c1, c2, c3, c4, c5, c6, fr]; rfl) ?_
    rw [hB]
    simp only [List.range, List.range.loop, List.map_cons, List.map_nil, f0, f1, f2, f6, f7]
    have p2 := ((((((hbx.set0 (podName k)).set1 (1 + n % sh)).set2 (wrap64 (n.tdiv 4) % 5)).set3 (wrap64 (n.tdiv 20) % 5)).set4 (.slice none 0 0)).set5 (.slice none 0 0)).set6 false
    have hWs : w.heap.size + 1 = W.heap.size := by rw [hW]; simp
    have neB : w.heap.size ≠ B := by omega
    have r2 := ((((((((hr0.later hR).other neB 0 (.string (podName k))).other neB 1 (.int .i64 (1 + n % sh))).other neB 2 (.int .i64 (wrap64 (n.tdiv 4) % 5))).other neB 3 (.int .i64 (wrap64 (n.tdiv 20) % 5))).other neB 4 (.slice none 0 0)).other neB 5 (.slice none 0 0)).other neB 6 (.bool false))
    have geB : w.heap.size ≤ B := by omega
    have b2 := ((((((((hWb.trans (hR.mono (by omega))).setCell (p := ⟨B, 0, none⟩) geB (.string (podName k))).setCell (p := ⟨B, 1, none⟩) geB (.int .i64 (1 + n % sh))).setCell (p := ⟨B, 2, none⟩) geB (.int .i64 (wrap64 (n.tdiv 4) % 5))).setCell (p := ⟨B, 3, none⟩) geB (.int .i64 (wrap64 (n.tdiv 20) % 5))).setCell (p := ⟨B, 4, none⟩) geB (.slice none 0 0)).setCell (p := ⟨B, 5, none⟩) geB (.slice none 0 0)).setCell (p := ⟨B, 6, none⟩) geB (.bool false))
    revert p2 r2 b2
    generalize (((((((w1.setCell _ _).setCell _ _).setCell _ _).setCell _ _).setCell _ _).setCell _ _).setCell _ _) = w2
    intro p2 r2 b2
    generalize sl b 3 = u3, sl b 4 = u4, sl b 5 = u5, sl b 8 = u8, sl b 9 = u9, sl b 10 = u10, sl b 11 = u11, sl b 12 = u12, sl b 13 = u13, sl b 14 = u14, sl b 15 = u15, sl b 16 = u16, sl b 17 = u17, sl b 18 = u18, sl b 19 = u19, sl b 20 = u20, sl b 21 = u21, sl b 22 = u22, sl b 23 = u23, sl b 24 = u24, sl b 25 = u25, sl b 26 = u26, sl b 27 = u27, sl b 28 = u28, sl b 29 = u29, sl b 30 = u30, sl b 31 = u31, sl b 32 = u32, sl b 33 = u33, sl b 34 = u34, sl b 35 = u35, sl b 36 = u36, sl b 37 = u37, sl b 38 = u38, sl b 39 = u39, sl b 40 = u40, sl b 41 = u41, sl b 42 = u42, sl b 43 = u43, sl b 44 = u44, sl b 45 = u45, sl b 46 = u46, sl b 47 = u47
    clear hB f0 f1 f2 f6 f7 f25 c0 c1 c2 c3 c4 c5 c6 fr hF hold hsz hdf hbx hR hr0 hWb
    clear hge hWs hW
    rw [hnm, hs1, hcpu, hmem] at p2
    clear hnm hs1 hcpu hmem
    have k5 := fun W => within_any t100 5 q1 (by decide) (by decide) h100 W
    have k3 := fun W => within_any t7 3 q2 (by decide) (by decide) h7 W
    have k6 := fun W => within_any t13 6 q3 (by decide) (by decide) h13 W
    clear h100 h7 h13
    have neB' : B ≠ w.heap.size := Ne.symm neB
    by_cases z1 : q1 = 0 <;> by_cases z2 : q2 = 0
    · subst z1 z2
      go_wp2_with (first
      | (go_at_call_of 11 (Value.int .i64 5); refine (k5 _).mono ?_; rintro e w9 ⟨rfl, rfl⟩)
      | (go_at_call_of 11 (Value.int .i64 3); refine (k3 _).mono ?_; rintro e w9 ⟨rfl, rfl⟩)
      | (go_at_call_of 11 (Value.int .i64 6); refine (k6 _).mono ?_; rintro e w9 ⟨rfl, rfl⟩)
      | (go_at_call_of 33 (Value.int .i64 t500); refine (lSet_any _ _).mono ?_; rintro e w3 ⟨a1, c1, rfl, hg1, hb3⟩
         have p3 := p2.later hb3
         have r3 := r2.later hb3
         have b3 := b2.trans (hb3.mono b2.size)
         obtain ⟨y0, y1, y2, y3, y4, y5, y6⟩ := p3.cells
         have fy := p3.frozen
         have fy4 := fy 4
         have fy5 := fy 5
         have fy6 := fy 6
         obtain ⟨x0, x1, x2, x3, x4, x5, x6⟩ := r3.cells
         have fx0 := r3.frozen 0
         have fx1 := r3.frozen 1
         have fx2 := r3.frozen 2
         have fx3 := r3.frozen 3
         have fx4 := r3.frozen 4
         have fx5 := r3.frozen 5
         have fx6 := r3.frozen 6)
      | (go_at_call_of 33 (Value.int .i64 t11); refine (lSet_any _ _).mono ?_; rintro e w4 ⟨a2, c2, rfl, hg2, hb4⟩
         have p4 := (p3.set4 (.slice a1 (marksTo t500 4).length c1)).later hb4
         have r4 := (r3.other neB 4 (.slice a1 (marksTo t500 4).length c1)).later hb4
         have b4 := (b3.setCell (p := ⟨B, 4, none⟩) geB (.slice a1 (marksTo t500 4).length c1)).trans (hb4.mono (b3.setCell (p := ⟨B, 4, none⟩) geB (.slice a1 (marksTo t500 4).length c1)).size)
         clear y0 y1 y2 y3 y4 y5 y6 fy fy4 fy5 fy6 x0 x1 x2 x3 x4 x5 x6 fx0 fx1 fx2 fx3 fx4 fx5 fx6
         obtain ⟨y0, y1, y2, y3, y4, y5, y6⟩ := p4.cells
         have fy4 := p4.frozen 4
         have fy5 := p4.frozen 5
         have fy6 := p4.frozen 6
         obtain ⟨x0, x1, x2, x3, x4, x5, x6⟩ := r4.cells
         have fx0 := r4.frozen 0
         have fx1 := r4.frozen 1
         have fx2 := r4.frozen 2
         have fx3 := r4.frozen 3
         have fx4 := r4.frozen 4
         have fx5 := r4.frozen 5
         have fx6 := r4.frozen 6))
      have ltB := p2.lt
      have ltR := r2.lt
      have le2 := b2.size
      have n1 : ∀ x, a1 = some x → x.block ≠ B := fun x hx e => by have := (hg1.2.1 x hx).1; omega
      have n2 : ∀ x, a1 = some x → x.block ≠ w.heap.size := fun x hx e => by have := (hg1.2.1 x hx).1; omega
      have n3 : ∀ x, a2 = some x → x.block ≠ B := fun x hx e => by have h9 := (hg2.2.1 x hx).1; have h8 := hb3.size; simp at h9; omega
      have n4 : ∀ x, a2 = some x → x.block ≠ w.heap.size := fun x hx e => by have h9 := (hg2.2.1 x hx).1; have h8 := hb3.size; simp at h9; omega
      refine bodyPost_ret (by simp [results, Try.results12, go_sem, x0, x1, x2, x3, x4, x5, x6, y0, y1, y2, y3, y4, y5, y6]) rfl ⟨a1, c1, a2, c2, rfl, ?_, ?_, ?_⟩
      · exact ((((((((((((hg1.low le2).put n1 4 _).later hb4).put n1 5 _).put n1 6 _).put n2 0 _).put n2 1 _).put n2 2 _).put n2 3 _).put n2 4 _).put n2 5 _).put n2 6 _)
      · exact ((((((((((hg2.low (by have h8 := hb3.size; simp; omega)).put n3 5 _).put n3 6 _).put n4 0 _).put n4 1 _).put n4 2 _).put n4 3 _).put n4 4 _).put n4 5 _).put n4 6 _)
      · exact (((((((((b4.setCell (p := ⟨B, 5, none⟩) geB _).setCell (p := ⟨B, 6, none⟩) geB _).setCell (p := ⟨w.heap.size, 0, none⟩) (Nat.le_refl _) _).setCell (p := ⟨w.heap.size, 1, none⟩) (Nat.le_refl _) _).setCell (p := ⟨w.heap.size, 2, none⟩) (Nat.le_refl _) _).setCell (p := ⟨w.heap.size, 3, none⟩) (Nat.le_refl _) _).setCell (p := ⟨w.heap.size, 4, none⟩) (Nat.le_refl _) _).setCell (p := ⟨w.heap.size, 5, none⟩) (Nat.le_refl _) _).setCell (p := ⟨w.heap.size, 6, none⟩) (Nat.le_refl _) _)
    · subst z1
      have z2b : (q2 == 0) = false := by simp [z2]
      go_wp2_with (first
      | (go_at_call_of 11 (Value.int .i64 5); refine (k5 _).mono ?_; rintro e w9 ⟨rfl, rfl⟩)
      | (go_at_call_of 11 (Value.int .i64 3); refine (k3 _).mono ?_; rintro e w9 ⟨rfl, rfl⟩)
      | (go_at_call_of 11 (Value.int .i64 6); refine (k6 _).mono ?_; rintro e w9 ⟨rfl, rfl⟩)
      | (go_at_call_of 33 (Value.int .i64 t500); refine (lSet_any _ _).mono ?_; rintro e w3 ⟨a1, c1, rfl, hg1, hb3⟩
         have p3 := p2.later hb3
         have r3 := r2.later hb3
         have b3 := b2.trans (hb3.mono b2.size)
         obtain ⟨y0, y1, y2, y3, y4, y5, y6⟩ := p3.cells
         have fy := p3.frozen
         have fy4 := fy 4
         have fy5 := fy 5
         have fy6 := fy 6
         obtain ⟨x0, x1, x2, x3, x4, x5, x6⟩ := r3.cells
         have fx0 := r3.frozen 0
         have fx1 := r3.frozen 1
         have fx2 := r3.frozen 2
         have fx3 := r3.frozen 3
         have fx4 := r3.frozen 4
         have fx5 := r3.frozen 5
         have fx6 := r3.frozen 6))
      have ltB := p2.lt
      have ltR := r2.lt
      have le2 := b2.size
      have n1 : ∀ x, a1 = some x → x.block ≠ B := fun x hx e => by have := (hg1.2.1 x hx).1; omega
      have n2 : ∀ x, a1 = some x → x.block ≠ w.heap.size := fun x hx e => by have := (hg1.2.1 x hx).1; omega
      refine bodyPost_ret (by simp [results, Try.results12, go_sem, x0, x1, x2, x3, x4, x5, x6, y0, y1, y2, y3, y4, y5, y6]) rfl ⟨a1, c1, none, 0, rfl, ?_, ?_, ?_⟩
      · exact ((((((((((hg1.low le2).put n1 4 _).put n1 6 _).put n2 0 _).put n2 1 _).put n2 2 _).put n2 3 _).put n2 4 _).put n2 5 _).put n2 6 _)
      · exact newNil _ _
      · exact (((((((((b3.setCell (p := ⟨B, 4, none⟩) geB _).setCell (p := ⟨B, 6, none⟩) geB _).setCell (p := ⟨w.heap.size, 0, none⟩) (Nat.le_refl _) _).setCell (p := ⟨w.heap.size, 1, none⟩) (Nat.le_refl _) _).setCell (p := ⟨w.heap.size, 2, none⟩) (Nat.le_refl _) _).setCell (p := ⟨w.heap.size, 3, none⟩) (Nat.le_refl _) _).setCell (p := ⟨w.heap.size, 4, none⟩) (Nat.le_refl _) _).setCell (p := ⟨w.heap.size, 5, none⟩) (Nat.le_refl _) _).setCell (p := ⟨w.heap.size, 6, none⟩) (Nat.le_refl _) _)
    · subst z2
      have z1b : (q1 == 0) = false := by simp [z1]
      go_wp2_with (first
      | (go_at_call_of 11 (Value.int .i64 5); refine (k5 _).mono ?_; rintro e w9 ⟨rfl, rfl⟩)
      | (go_at_call_of 11 (Value.int .i64 3); refine (k3 _).mono ?_; rintro e w9 ⟨rfl, rfl⟩)
      | (go_at_call_of 11 (Value.int .i64 6); refine (k6 _).mono ?_; rintro e w9 ⟨rfl, rfl⟩)
      | (go_at_call_of 33 (Value.int .i64 t11); refine (lSet_any _ _).mono ?_; rintro e w4 ⟨a2, c2, rfl, hg2, hb4⟩
         have p4 := p2.later hb4
         have r4 := r2.later hb4
         have b4 := b2.trans (hb4.mono b2.size)
         skip
         obtain ⟨y0, y1, y2, y3, y4, y5, y6⟩ := p4.cells
         have fy4 := p4.frozen 4
         have fy5 := p4.frozen 5
         have fy6 := p4.frozen 6
         obtain ⟨x0, x1, x2, x3, x4, x5, x6⟩ := r4.cells
         have fx0 := r4.frozen 0
         have fx1 := r4.frozen 1
         have fx2 := r4.frozen 2
         have fx3 := r4.frozen 3
         have fx4 := r4.frozen 4
         have fx5 := r4.frozen 5
         have fx6 := r4.frozen 6))
      have ltB := p2.lt
      have ltR := r2.lt
      have le2 := b2.size
      have n3 : ∀ x, a2 = some x → x.block ≠ B := fun x hx e => by have h9 := (hg2.2.1 x hx).1; omega
      have n4 : ∀ x, a2 = some x → x.block ≠ w.heap.size := fun x hx e => by have h9 := (hg2.2.1 x hx).1; omega
      refine bodyPost_ret (by simp [results, Try.results12, go_sem, x0, x1, x2, x3, x4, x5, x6, y0, y1, y2, y3, y4, y5, y6]) rfl ⟨none, 0, a2, c2, rfl, ?_, ?_, ?_⟩
      · exact newNil _ _
      · exact ((((((((((hg2.low le2).put n3 5 _).put n3 6 _).put n4 0 _).put n4 1 _).put n4 2 _).put n4 3 _).put n4 4 _).put n4 5 _).put n4 6 _)
      · exact (((((((((b4.setCell (p := ⟨B, 5, none⟩) geB _).setCell (p := ⟨B, 6, none⟩) geB _).setCell (p := ⟨w.heap.size, 0, none⟩) (Nat.le_refl _) _).setCell (p := ⟨w.heap.size, 1, none⟩) (Nat.le_refl _) _).setCell (p := ⟨w.heap.size, 2, none⟩) (Nat.le_refl _) _).setCell (p := ⟨w.heap.size, 3, none⟩) (Nat.le_refl _) _).setCell (p := ⟨w.heap.size, 4, none⟩) (Nat.le_refl _) _).setCell (p := ⟨w.heap.size, 5, none⟩) (Nat.le_refl _) _).setCell (p := ⟨w.heap.size, 6, none⟩) (Nat.le_refl _) _)
    · have z1b : (q1 == 0) = false := by simp [z1]
      have z2b : (q2 == 0) = false := by simp [z2]
      obtain ⟨y0, y1, y2, y3, y4, y5, y6⟩ := p2.cells
      have fy4 := p2.frozen 4
      have fy5 := p2.frozen 5
      have fy6 := p2.frozen 6
      obtain ⟨x0, x1, x2, x3, x4, x5, x6⟩ := r2.cells
      have fx0 := r2.frozen 0
      have fx1 := r2.frozen 1
      have fx2 := r2.frozen 2
      have fx3 := r2.frozen 3
      have fx4 := r2.frozen 4
      have fx5 := r2.frozen 5
      have fx6 := r2.frozen 6
      go_wp2_with (first
      | (go_at_call_of 11 (Value.int .i64 5); refine (k5 _).mono ?_; rintro e w9 ⟨rfl, rfl⟩)
      | (go_at_call_of 11 (Value.int .i64 3); refine (k3 _).mono ?_; rintro e w9 ⟨rfl, rfl⟩)
      | (go_at_call_of 11 (Value.int .i64 6); refine (k6 _).mono ?_; rintro e w9 ⟨rfl, rfl⟩))
      have ltB := p2.lt
      have ltR := r2.lt
      have le2 := b2.size
      refine bodyPost_ret (by simp [results, Try.results12, go_sem, x0, x1, x2, x3, x4, x5, x6, y0, y1, y2, y3, y4, y5, y6]) rfl ⟨none, 0, none, 0, rfl, ?_, ?_, ?_⟩
      · exact newNil _ _
      · exact newNil _ _
      · exact ((((((((b2.setCell (p := ⟨B, 6, none⟩) geB _).setCell (p := ⟨w.heap.size, 0, none⟩) (Nat.le_refl _) _).setCell (p := ⟨w.heap.size, 1, none⟩) (Nat.le_refl _) _).setCell (p := ⟨w.heap.size, 2, none⟩) (Nat.le_refl _) _).setCell (p := ⟨w.heap.size, 3, none⟩) (Nat.le_refl _) _).setCell (p := ⟨w.heap.size, 4, none⟩) (Nat.le_refl _) _).setCell (p := ⟨w.heap.size, 5, none⟩) (Nat.le_refl _) _).setCell (p := ⟨w.heap.size, 6, none⟩) (Nat.le_refl _) _)

theorem lPod_is (k : Nat) (n sh : Int) (w : World) (hk : k < 8) (h0 : 0 < sh) (h1 : sh ≤ 4) :
    Calls Try.prog 12 #[.int .i64 k, .int .i64 n, .int .i64 sh] w fun e w' => ∃ a1 c1 a2 c2, e = .returned (.agg #[.string (podName k), .int .i64 (1 + n % sh), .int .i64 (wrap64 (n.tdiv 4) % 5), .int .i64 (wrap64 (n.tdiv 20) % 5),
        .slice a1 (podPicks n).length c1, .slice a2 (podBears n).length c2, .bool (wrap64 (n.tdiv 13) % 6 == 0)]) ∧
      GoodSet w.heap.size w' a1 c1 (podPicks n) ∧ GoodSet w.heap.size w' a2 c2 (podBears n) ∧ Below w.heap.size w w' := by
  refine (lPod_gen k n sh w hk h0 h1 _ _ _ _ _ _ _ _ _ _ _ _ rfl rfl rfl rfl rfl rfl rfl rfl rfl rfl rfl rfl).mono ?_
  rintro e w' ⟨a1, c1, a2, c2, he, h1, h2, h3⟩
  refine ⟨a1, c1, a2, c2, he, ⟨h1, ?_, ?_⟩, ⟨h2, ?_, ?_⟩, h3⟩
  all_goals
    first | unfold podPicks | unfold podBears
    split
    · first | exact (marks_set _).1 | exact (marks_set _).2
    · first | rfl | simp

end Go.Proofs.Ytgcicillmljglaa
