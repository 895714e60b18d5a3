/- The walk of PackKnown. -/
import Derived.Test.YtpgchnppinbpkabDoorKB
namespace Go.Proofs.YtpgchnppinbpkabDoor
open Go.RowKit Go.Maps
set_option linter.unusedSimpArgs false
set_option linter.unusedVariables false

abbrev aB : ByteArray := ⟨#[97]⟩
abbrev bB : ByteArray := ⟨#[98]⟩
abbrev cB : ByteArray := ⟨#[99]⟩
abbrev dB : ByteArray := ⟨#[100]⟩
abbrev ssdB : ByteArray := ⟨#[115, 115, 100]⟩
abbrev westB : ByteArray := ⟨#[119, 101, 115, 116]⟩
abbrev C1 : List Core := [(aB, 4, 4, [ssdB], [], false)]
abbrev C2 : List Core := [(aB, 4, 4, [ssdB], [], false), (bB, 8, 8, [], [], false)]
abbrev C3 : List Core := [(aB, 4, 4, [ssdB], [], false), (bB, 8, 8, [], [], false), (cB, 2, 2, [], [westB], false)]
abbrev C4 : List Core := [(aB, 4, 4, [ssdB], [], false), (bB, 8, 8, [], [], false), (cB, 2, 2, [], [westB], false), (dB, 9, 9, [], [], true)]
def pods4 (x y : Option Addr) (i j : Nat) : List PodT := [⟨⟨#[112]⟩, 1, 2, 2, none, 0, [], none, 0, [], false⟩, ⟨⟨#[113]⟩, 1, 2, 2, none, 0, [], none, 0, [], false⟩, ⟨⟨#[114]⟩, 1, 0, 0, x, i, [ssdB], none, 0, [], false⟩, ⟨⟨#[115]⟩, 1, 2, 2, none, 0, [], y, j, [westB], false⟩]
/-- Where they go. -/
def goes (k : Int) : List ByteArray := if k = 0 then [bB, aB, aB, bB] else if k = 1 then [aB, aB, aB, cB] else [aB, bB, aB, cB]
theorem lay_nodes (k : Int) (hk : k = 0 ∨ k = 1 ∨ k = 2) : (layR [] k (C4.map recOf) [] ((pods4 none none 0 0).map strip)).map (fun l => l.reverse.map (·.node)) = some (goes k) := by
  rcases hk with rfl | rfl | rfl <;> decide +kernel
theorem strip4 (x y : Option Addr) (i j : Nat) : (pods4 x y i j).map strip = (pods4 none none 0 0).map strip := rfl
theorem node_a : nodeE aB 4 4 [ssdB] [] = 0 := by decide +kernel
theorem node_b : nodeE bB 8 8 [] [] = 0 := by decide +kernel
theorem node_c : nodeE cB 2 2 [] [westB] = 0 := by decide +kernel
theorem node_d : nodeE dB 9 9 [] [] = 0 := by decide +kernel

/-- The first j texts, one behind the other. -/
def catN (ns : List ByteArray) : Nat → ByteArray
  | 0 => ⟨#[]⟩
  | j + 1 => catN ns j ++ ns.getD j ByteArray.empty
theorem goes_small (k : Int) (hk : k = 0 ∨ k = 1 ∨ k = 2) : ∀ j : Nat, j < 4 → (catN (goes k) j).size + ((goes k).getD j ByteArray.empty).size ≤ 100 := by
  have h : ∀ j : Fin 4, (catN (goes 0) j.val).size + ((goes 0).getD j.val ByteArray.empty).size ≤ 100 ∧ (catN (goes 1) j.val).size + ((goes 1).getD j.val ByteArray.empty).size ≤ 100 ∧ (catN (goes 2) j.val).size + ((goes 2).getD j.val ByteArray.empty).size ≤ 100 := by decide +kernel
  intro j hj
  have := h ⟨j, hj⟩
  rcases hk with rfl | rfl | rfl
  · exact this.1
  · exact this.2.1
  · exact this.2.2
theorem strs_new1 (w : World) (s : ByteArray) : Strs (w.alloc (.cells #[.string s] 9)) (some ⟨w.heap.size, 0, none⟩) [s] := strs_one (by simp)
theorem small1 {s : ByteArray} (h : s.size ≤ maxLen) : ∀ t ∈ [s], t.size ≤ maxLen := by intro t ht; simp at ht; subst ht; exact h

theorem pods4_new (w : World) : Pods (((w.alloc (.cells #[.string ssdB] 9)).alloc (.cells #[.string westB] 9)).alloc (.cells #[.string ⟨#[112]⟩, .int .i64 1, .int .i64 2, .int .i64 2, .slice none 0 0, .slice none 0 0, .bool false, .string ⟨#[113]⟩, .int .i64 1, .int .i64 2, .int .i64 2, .slice none 0 0, .slice none 0 0, .bool false, .string ⟨#[114]⟩, .int .i64 1, .int .i64 0, .int .i64 0, .slice (some ⟨w.heap.size, 0, none⟩) 1 1, .slice none 0 0, .bool false, .string ⟨#[115]⟩, .int .i64 1, .int .i64 2, .int .i64 2, .slice none 0 0, .slice (some ⟨w.heap.size + 1, 0, none⟩) 1 1, .bool false] 32)) (some ⟨w.heap.size + 1 + 1, 0, none⟩) (pods4 (some ⟨w.heap.size, 0, none⟩) (some ⟨w.heap.size + 1, 0, none⟩) 1 1) := by
  have s1 : Strs (((w.alloc (.cells #[.string ssdB] 9)).alloc (.cells #[.string westB] 9)).alloc (.cells #[.string ⟨#[112]⟩, .int .i64 1, .int .i64 2, .int .i64 2, .slice none 0 0, .slice none 0 0, .bool false, .string ⟨#[113]⟩, .int .i64 1, .int .i64 2, .int .i64 2, .slice none 0 0, .slice none 0 0, .bool false, .string ⟨#[114]⟩, .int .i64 1, .int .i64 0, .int .i64 0, .slice (some ⟨w.heap.size, 0, none⟩) 1 1, .slice none 0 0, .bool false, .string ⟨#[115]⟩, .int .i64 1, .int .i64 2, .int .i64 2, .slice none 0 0, .slice (some ⟨w.heap.size + 1, 0, none⟩) 1 1, .bool false] 32)) (some ⟨w.heap.size, 0, none⟩) [ssdB] := ((strs_new1 w ssdB).later (up (Below.refl _ _) _)).later (up (Below.refl _ _) _)
  have s2 : Strs (((w.alloc (.cells #[.string ssdB] 9)).alloc (.cells #[.string westB] 9)).alloc (.cells #[.string ⟨#[112]⟩, .int .i64 1, .int .i64 2, .int .i64 2, .slice none 0 0, .slice none 0 0, .bool false, .string ⟨#[113]⟩, .int .i64 1, .int .i64 2, .int .i64 2, .slice none 0 0, .slice none 0 0, .bool false, .string ⟨#[114]⟩, .int .i64 1, .int .i64 0, .int .i64 0, .slice (some ⟨w.heap.size, 0, none⟩) 1 1, .slice none 0 0, .bool false, .string ⟨#[115]⟩, .int .i64 1, .int .i64 2, .int .i64 2, .slice none 0 0, .slice (some ⟨w.heap.size + 1, 0, none⟩) 1 1, .bool false] 32)) (some ⟨w.heap.size + 1, 0, none⟩) [westB] := by
    have := (strs_new1 (w.alloc (.cells #[.string ssdB] 9)) westB).later (up (Below.refl _ _) (.cells #[.string ⟨#[112]⟩, .int .i64 1, .int .i64 2, .int .i64 2, .slice none 0 0, .slice none 0 0, .bool false, .string ⟨#[113]⟩, .int .i64 1, .int .i64 2, .int .i64 2, .slice none 0 0, .slice none 0 0, .bool false, .string ⟨#[114]⟩, .int .i64 1, .int .i64 0, .int .i64 0, .slice (some ⟨w.heap.size, 0, none⟩) 1 1, .slice none 0 0, .bool false, .string ⟨#[115]⟩, .int .i64 1, .int .i64 2, .int .i64 2, .slice none 0 0, .slice (some ⟨w.heap.size + 1, 0, none⟩) 1 1, .bool false] 32))
    simpa using this
  have hb : Box (((w.alloc (.cells #[.string ssdB] 9)).alloc (.cells #[.string westB] 9)).alloc (.cells #[.string ⟨#[112]⟩, .int .i64 1, .int .i64 2, .int .i64 2, .slice none 0 0, .slice none 0 0, .bool false, .string ⟨#[113]⟩, .int .i64 1, .int .i64 2, .int .i64 2, .slice none 0 0, .slice none 0 0, .bool false, .string ⟨#[114]⟩, .int .i64 1, .int .i64 0, .int .i64 0, .slice (some ⟨w.heap.size, 0, none⟩) 1 1, .slice none 0 0, .bool false, .string ⟨#[115]⟩, .int .i64 1, .int .i64 2, .int .i64 2, .slice none 0 0, .slice (some ⟨w.heap.size + 1, 0, none⟩) 1 1, .bool false] 32)) (w.heap.size + 1 + 1) _ 32 := Box.new _ _ _ (by simp)
  generalize ((w.alloc (.cells #[.string ssdB] 9)).alloc (.cells #[.string westB] 9)).alloc (.cells #[.string ⟨#[112]⟩, .int .i64 1, .int .i64 2, .int .i64 2, .slice none 0 0, .slice none 0 0, .bool false, .string ⟨#[113]⟩, .int .i64 1, .int .i64 2, .int .i64 2, .slice none 0 0, .slice none 0 0, .bool false, .string ⟨#[114]⟩, .int .i64 1, .int .i64 0, .int .i64 0, .slice (some ⟨w.heap.size, 0, none⟩) 1 1, .slice none 0 0, .bool false, .string ⟨#[115]⟩, .int .i64 1, .int .i64 2, .int .i64 2, .slice none 0 0, .slice (some ⟨w.heap.size + 1, 0, none⟩) 1 1, .bool false] 32) = W at *
  have z : ∀ t ∈ ([] : List ByteArray), t.size ≤ maxLen := by simp
  have n : Strs W none [] := ⟨by simp, by simp⟩
  intro i p hp
  match i, hp with
  | 0, hp => cases hp; exact ⟨_, _, rfl, ⟨hb.cell rfl, hb.cell rfl, hb.cell rfl, hb.cell rfl, hb.cell rfl, hb.cell rfl, hb.cell rfl⟩, ⟨n, n, z, z, by decide⟩⟩
  | 1, hp => cases hp; exact ⟨_, _, rfl, ⟨hb.cell (i := 7) rfl, hb.cell (i := 8) rfl, hb.cell (i := 9) rfl, hb.cell (i := 10) rfl, hb.cell (i := 11) rfl, hb.cell (i := 12) rfl, hb.cell (i := 13) rfl⟩, ⟨n, n, z, z, by decide⟩⟩
  | 2, hp => cases hp; exact ⟨_, _, rfl, ⟨hb.cell (i := 14) rfl, hb.cell (i := 15) rfl, hb.cell (i := 16) rfl, hb.cell (i := 17) rfl, hb.cell (i := 18) rfl, hb.cell (i := 19) rfl, hb.cell (i := 20) rfl⟩, ⟨s1, n, small1 (by decide), z, show (0 : Int) ≤ 0 by decide, show (0 : Int) ≤ 0 by decide⟩⟩
  | 3, hp => cases hp; exact ⟨_, _, rfl, ⟨hb.cell (i := 21) rfl, hb.cell (i := 22) rfl, hb.cell (i := 23) rfl, hb.cell (i := 24) rfl, hb.cell (i := 25) rfl, hb.cell (i := 26) rfl, hb.cell (i := 27) rfl⟩, ⟨n, s2, z, small1 (by decide), show (0 : Int) ≤ 2 by decide, show (0 : Int) ≤ 2 by decide⟩⟩
  | i + 4, hp => simp [pods4] at hp

set_option maxRecDepth 100000 in
set_option maxHeartbeats 4000000 in
theorem packKnown_walk (mode : Int) (w : World) (hT : Tab w) :
    Calls Tryd.prog 5 #[.int .i64 mode] w fun e w' => e = .returned (.bool true) ∧ Below w.heap.size w w' := by
  obtain ⟨k, hk⟩ : ∃ m, mode % 3 = m := ⟨_, rfl⟩
  have km := fun W => within_any mode 3 k (by decide) (by decide) hk W
  have hk3 : k = 0 ∨ k = 1 ∨ k = 2 := by omega
  clear hk
  go_enter Tryd.func5, Tryd.ntmps5
  go_upto_region 6 with (first
    | (go_at_call 7; refine (known8_any w hT).mono ?_; rintro e w1 ⟨rfl, hb1⟩)
    | (go_at_call 16; refine (newL w1).mono ?_; rintro e w2 ⟨L, fp, rfl, hL2, hf2, hb2⟩))
  have hbw2 := hb1.trans (hb2.mono hb1.size)
  have hfw2 : ∀ b, fp b → w.heap.size ≤ b := fun b hb => Nat.le_trans hb1.size (hf2 b hb)
  have hC0 : LedC w2 L fp [] := ⟨[], hL2, rfl⟩
  clear hb1 hb2 hL2 hf2
  have k1 := put_c _ L fp [] (hC0.later (up (Below.refl _ _) (.cells #[.string ssdB] 9))) false aB 4 4 (some ⟨w2.heap.size, 0, none⟩) none 1 0 1 0 false [ssdB] [] (by decide) (strs_new1 w2 ssdB) ⟨by simp, by simp⟩ rfl rfl (SP.some _ _) SP.none (fun x hx _ hf => by cases hx; have := hC0.outs _ hf; simp at this) (fun x hx => by cases hx) (small1 (by decide)) (by simp) node_a (by decide) (by simp)
  have hb2' := up hbw2 (.cells #[.string ssdB] 9)
  clear hC0 hbw2
  go_upto_region 7 with (go_at_call 17; refine k1.mono ?_; rintro e w3 ⟨rfl, fp3, hC3, hT3⟩)
  have hb3 := hT3.below hfw2 hb2'
  have hf3 := hT3.low hfw2 hb2'.size
  have k2 := put_c _ L fp3 C1 hC3 false bB 8 8 none none 0 0 0 0 false [] [] (by decide) ⟨by simp, by simp⟩ ⟨by simp, by simp⟩ rfl rfl SP.none SP.none (fun x hx => by cases hx) (fun x hx => by cases hx) (by simp) (by simp) node_b (by decide) (by decide +kernel)
  clear k1 hT3 hfw2 hb2'
  go_upto_region 8 with (go_at_call 17; refine k2.mono ?_; rintro e w4 ⟨rfl, fp4, hC4, hT4⟩)
  have hb4 := hT4.below hf3 hb3
  have hf4 := hT4.low hf3 hb3.size
  have k3 := put_c _ L fp4 C2 (hC4.later (up (Below.refl _ _) (.cells #[.string westB] 9))) false cB 2 2 none (some ⟨w4.heap.size, 0, none⟩) 0 1 0 1 false [] [westB] (by decide) ⟨by simp, by simp⟩ (strs_new1 w4 westB) rfl rfl SP.none (SP.some _ _) (fun x hx => by cases hx) (fun x hx _ hf => by cases hx; have := hC4.outs _ hf; simp at this) (by simp) (small1 (by decide)) node_c (by decide) (by decide +kernel)
  have hb4' := up hb4 (.cells #[.string westB] 9)
  clear k2 hT4 hf3 hb3 hb4
  go_upto_region 9 with (go_at_call 17; refine k3.mono ?_; rintro e w5 ⟨rfl, fp5, hC5, hT5⟩)
  have hb5 := hT5.below hf4 hb4'
  have hf5 := hT5.low hf4 hb4'.size
  have k4 := put_c _ L fp5 C3 hC5 false dB 9 9 none none 0 0 0 0 true [] [] (by decide) ⟨by simp, by simp⟩ ⟨by simp, by simp⟩ rfl rfl SP.none SP.none (fun x hx => by cases hx) (fun x hx => by cases hx) (by simp) (by simp) node_d (by decide) (by decide +kernel)
  clear k3 hT5 hf4 hb4'
  go_upto_region 10 with (go_at_call 17; refine k4.mono ?_; rintro e w6 ⟨rfl, fp6, hC6, hT6⟩)
  have hb6 := hT6.below hf5 hb5
  have hf6 := hT6.low hf5 hb5.size
  clear k4 hT6 hf5 hb5
  go_upto_region 11 with fail
  have hP := pods4_new w6
  have hb7 := up (up (up hb6 (.cells #[.string ssdB] 9)) (.cells #[.string westB] 9)) (.cells #[.string ⟨#[112]⟩, .int .i64 1, .int .i64 2, .int .i64 2, .slice none 0 0, .slice none 0 0, .bool false, .string ⟨#[113]⟩, .int .i64 1, .int .i64 2, .int .i64 2, .slice none 0 0, .slice none 0 0, .bool false, .string ⟨#[114]⟩, .int .i64 1, .int .i64 0, .int .i64 0, .slice (some ⟨w6.heap.size, 0, none⟩) 1 1, .slice none 0 0, .bool false, .string ⟨#[115]⟩, .int .i64 1, .int .i64 2, .int .i64 2, .slice none 0 0, .slice (some ⟨w6.heap.size + 1, 0, none⟩) 1 1, .bool false] 32)
  have hC7 := ((hC6.later (up (Below.refl _ _) (.cells #[.string ssdB] 9))).later (up (Below.refl _ _) (.cells #[.string westB] 9))).later (up (Below.refl _ _) (.cells #[.string ⟨#[112]⟩, .int .i64 1, .int .i64 2, .int .i64 2, .slice none 0 0, .slice none 0 0, .bool false, .string ⟨#[113]⟩, .int .i64 1, .int .i64 2, .int .i64 2, .slice none 0 0, .slice none 0 0, .bool false, .string ⟨#[114]⟩, .int .i64 1, .int .i64 0, .int .i64 0, .slice (some ⟨w6.heap.size, 0, none⟩) 1 1, .slice none 0 0, .bool false, .string ⟨#[115]⟩, .int .i64 1, .int .i64 2, .int .i64 2, .slice none 0 0, .slice (some ⟨w6.heap.size + 1, 0, none⟩) 1 1, .bool false] 32))
  generalize ((w6.alloc (.cells #[.string ssdB] 9)).alloc (.cells #[.string westB] 9)).alloc (.cells #[.string ⟨#[112]⟩, .int .i64 1, .int .i64 2, .int .i64 2, .slice none 0 0, .slice none 0 0, .bool false, .string ⟨#[113]⟩, .int .i64 1, .int .i64 2, .int .i64 2, .slice none 0 0, .slice none 0 0, .bool false, .string ⟨#[114]⟩, .int .i64 1, .int .i64 0, .int .i64 0, .slice (some ⟨w6.heap.size, 0, none⟩) 1 1, .slice none 0 0, .bool false, .string ⟨#[115]⟩, .int .i64 1, .int .i64 2, .int .i64 2, .slice none 0 0, .slice (some ⟨w6.heap.size + 1, 0, none⟩) 1 1, .bool false] 32) = W at *
  generalize w6.heap.size + 1 + 1 = PB at *
  have hst4 : (pods4 (some ⟨w6.heap.size, 0, none⟩) (some ⟨w6.heap.size + 1, 0, none⟩) 1 1).map strip = (pods4 none none 0 0).map strip := strip4 _ _ _ _
  have hp4 : (pods4 (some ⟨w6.heap.size, 0, none⟩) (some ⟨w6.heap.size + 1, 0, none⟩) 1 1).length = 4 := rfl
  generalize pods4 (some ⟨w6.heap.size, 0, none⟩) (some ⟨w6.heap.size + 1, 0, none⟩) 1 1 = ps at *
  have hly := lay_nodes k hk3
  rw [← hst4] at hly
  obtain ⟨l, hl⟩ : ∃ l, layR [] k (C4.map recOf) [] (ps.map strip) = some l := by
    cases hx : layR [] k (C4.map recOf) [] (ps.map strip) with
    | none => rw [hx] at hly; cases hly
    | some l => exact ⟨l, rfl⟩
  rw [hl] at hly
  have hln : l.reverse.map (·.node) = goes k := by simpa using hly
  clear hst4 hly
  go_upto_region 12 with (go_at_call 13; refine (km _).mono ?_; rintro e W ⟨rfl, rfl⟩)
  rcases hk3 with rfl | hk3
  rotate_left
  rcases hk3 with rfl | rfl
  rotate_right
  · skip
    have hC8 := (show LedC W L fp6 C4 from hC7).later (up (Below.refl _ _) (.cells #[.string ⟨#[98, 97, 97, 98]⟩, .string ⟨#[97, 97, 97, 99]⟩, .string ⟨#[97, 98, 97, 99]⟩] 9))
    have hb8 := up hb7 (.cells #[.string ⟨#[98, 97, 97, 98]⟩, .string ⟨#[97, 97, 97, 99]⟩, .string ⟨#[97, 98, 97, 99]⟩] 9)
    have hl4 : l.length = 4 := by
      have := congrArg List.length hln
      simpa [goes] using this
    have kp := pack_some _ L fp6 C4 hC8 (hT.later hb8) 1 (by decide) (some ⟨PB, 0, none⟩) 4 4 ps (hP.later (up (Below.refl _ _) _)) hp4 (by decide) (by decide) 0 l hl 4 hl4
    have hq : ((catN (l.reverse.map (·.node)) 4).toList == ([98, 97, 97, 98] : List UInt8)) = true := by rw [hln]; decide +kernel
    clear hC8 hC7 hP hp4 hl hC3 hC4 hC5 hC6 km
    go_upto_region 14 with (go_at_call 14; refine kp.mono ?_; rintro e w8 ⟨a8, c8, fp8, rfl, hP8, hs8, hT8⟩)
    have hb9 := hT8.below hf6 hb8
    have hgn : ∀ j, j < 4 → ∀ p, l.reverse[j]? = some p → (l.reverse.map (·.node)).getD j ByteArray.empty = p.node := fun j hj p hp => by rw [List.getD, List.getElem?_map, hp]; rfl
    have hzs : ∀ j : Nat, j < 4 → (catN (l.reverse.map (·.node)) j).size + ((l.reverse.map (·.node)).getD j ByteArray.empty).size ≤ 100 := by rw [hln]; exact goes_small 0 (by decide)
    obtain ⟨ns, hns⟩ : ∃ ns, l.reverse.map (·.node) = ns := ⟨_, rfl⟩
    rw [hns] at hq hgn hzs
    have hrl : l.reverse.length = 4 := by simpa using hl4
    generalize l.reverse = lr at hP8 hgn hrl
    clear kp hln hns hT8 hb8
    go_wp2
    go_loopw [9, 10] (fun s i wr => ∃ j : Nat, j ≤ 4 ∧ i = .int .i64 j ∧ s = .string (catN ns j) ∧ wr = w8) (fun _ i _ => 4 - (intOf i).toNat)
    case atStart => exact ⟨0, by omega, rfl, rfl, rfl⟩
    case round =>
      obtain ⟨j, hj, rfl, rfl, rfl⟩ := hrel
      by_cases hlt : j < 4
      · obtain ⟨B, o, rfl, d0, d1, d2, d3, d4⟩ := hP8.2 j _ (List.getElem?_eq_getElem (show j < lr.length by omega))
        have hnd := hgn j hlt _ (List.getElem?_eq_getElem (show j < lr.length by omega))
        have hzj := hzs j hlt
        have hst : Hid (catN ns (j + 1) = catN ns j ++ ns.getD j ByteArray.empty) := rfl
        rw [hnd] at hst hzj
        have i1 : (j : Int) < 4 := by omega
        obtain ⟨nd, hnd2⟩ : ∃ nd, (lr[j]'(by omega)).node = nd := ⟨_, rfl⟩
        rw [hnd2] at d1 hst hzj
        obtain ⟨cj, hcj⟩ : ∃ cj, catN ns j = cj := ⟨_, rfl⟩
        rw [hcj] at hst hzj
        simp only [hcj]
        have hsz : cj.size + nd.size ≤ 9223372036854775807 := by omega
        clear hnd hgn hnd2 hcj d0 d2 d3 d4 hP8 hzs hzj
        go_wp2
        go_roundw
        case rel => exact ⟨j + 1, by omega, by go_num, by rw [hst.out], trivial⟩
        case measure => simp [intOf]; omega
      · obtain rfl : j = 4 := by omega
        clear hgn hP8 hzs
        obtain ⟨c4, hc4⟩ : ∃ c4, catN ns 4 = c4 := ⟨_, rfl⟩
        rw [hc4] at hq
        simp only [hc4]
        clear hc4
        go_wp2
        go_ret
        exact ⟨rfl, hb9⟩
  · skip
    have hC8 := (show LedC W L fp6 C4 from hC7).later (up (Below.refl _ _) (.cells #[.string ⟨#[98, 97, 97, 98]⟩, .string ⟨#[97, 97, 97, 99]⟩, .string ⟨#[97, 98, 97, 99]⟩] 9))
    have hb8 := up hb7 (.cells #[.string ⟨#[98, 97, 97, 98]⟩, .string ⟨#[97, 97, 97, 99]⟩, .string ⟨#[97, 98, 97, 99]⟩] 9)
    have hl4 : l.length = 4 := by
      have := congrArg List.length hln
      simpa [goes] using this
    have kp := pack_some _ L fp6 C4 hC8 (hT.later hb8) 1 (by decide) (some ⟨PB, 0, none⟩) 4 4 ps (hP.later (up (Below.refl _ _) _)) hp4 (by decide) (by decide) 1 l hl 4 hl4
    have hq : ((catN (l.reverse.map (·.node)) 4).toList == ([97, 97, 97, 99] : List UInt8)) = true := by rw [hln]; decide +kernel
    clear hC8 hC7 hP hp4 hl hC3 hC4 hC5 hC6 km
    go_upto_region 14 with (go_at_call 14; refine kp.mono ?_; rintro e w8 ⟨a8, c8, fp8, rfl, hP8, hs8, hT8⟩)
    have hb9 := hT8.below hf6 hb8
    have hgn : ∀ j, j < 4 → ∀ p, l.reverse[j]? = some p → (l.reverse.map (·.node)).getD j ByteArray.empty = p.node := fun j hj p hp => by rw [List.getD, List.getElem?_map, hp]; rfl
    have hzs : ∀ j : Nat, j < 4 → (catN (l.reverse.map (·.node)) j).size + ((l.reverse.map (·.node)).getD j ByteArray.empty).size ≤ 100 := by rw [hln]; exact goes_small 1 (by decide)
    obtain ⟨ns, hns⟩ : ∃ ns, l.reverse.map (·.node) = ns := ⟨_, rfl⟩
    rw [hns] at hq hgn hzs
    have hrl : l.reverse.length = 4 := by simpa using hl4
    generalize l.reverse = lr at hP8 hgn hrl
    clear kp hln hns hT8 hb8
    go_wp2
    go_loopw [9, 10] (fun s i wr => ∃ j : Nat, j ≤ 4 ∧ i = .int .i64 j ∧ s = .string (catN ns j) ∧ wr = w8) (fun _ i _ => 4 - (intOf i).toNat)
    case atStart => exact ⟨0, by omega, rfl, rfl, rfl⟩
    case round =>
      obtain ⟨j, hj, rfl, rfl, rfl⟩ := hrel
      by_cases hlt : j < 4
      · obtain ⟨B, o, rfl, d0, d1, d2, d3, d4⟩ := hP8.2 j _ (List.getElem?_eq_getElem (show j < lr.length by omega))
        have hnd := hgn j hlt _ (List.getElem?_eq_getElem (show j < lr.length by omega))
        have hzj := hzs j hlt
        have hst : Hid (catN ns (j + 1) = catN ns j ++ ns.getD j ByteArray.empty) := rfl
        rw [hnd] at hst hzj
        have i1 : (j : Int) < 4 := by omega
        obtain ⟨nd, hnd2⟩ : ∃ nd, (lr[j]'(by omega)).node = nd := ⟨_, rfl⟩
        rw [hnd2] at d1 hst hzj
        obtain ⟨cj, hcj⟩ : ∃ cj, catN ns j = cj := ⟨_, rfl⟩
        rw [hcj] at hst hzj
        simp only [hcj]
        have hsz : cj.size + nd.size ≤ 9223372036854775807 := by omega
        clear hnd hgn hnd2 hcj d0 d2 d3 d4 hP8 hzs hzj
        go_wp2
        go_roundw
        case rel => exact ⟨j + 1, by omega, by go_num, by rw [hst.out], trivial⟩
        case measure => simp [intOf]; omega
      · obtain rfl : j = 4 := by omega
        clear hgn hP8 hzs
        obtain ⟨c4, hc4⟩ : ∃ c4, catN ns 4 = c4 := ⟨_, rfl⟩
        rw [hc4] at hq
        simp only [hc4]
        clear hc4
        go_wp2
        go_ret
        exact ⟨rfl, hb9⟩
  · skip
    have hC8 := (show LedC W L fp6 C4 from hC7).later (up (Below.refl _ _) (.cells #[.string ⟨#[98, 97, 97, 98]⟩, .string ⟨#[97, 97, 97, 99]⟩, .string ⟨#[97, 98, 97, 99]⟩] 9))
    have hb8 := up hb7 (.cells #[.string ⟨#[98, 97, 97, 98]⟩, .string ⟨#[97, 97, 97, 99]⟩, .string ⟨#[97, 98, 97, 99]⟩] 9)
    have hl4 : l.length = 4 := by
      have := congrArg List.length hln
      simpa [goes] using this
    have kp := pack_some _ L fp6 C4 hC8 (hT.later hb8) 1 (by decide) (some ⟨PB, 0, none⟩) 4 4 ps (hP.later (up (Below.refl _ _) _)) hp4 (by decide) (by decide) 2 l hl 4 hl4
    have hq : ((catN (l.reverse.map (·.node)) 4).toList == ([97, 98, 97, 99] : List UInt8)) = true := by rw [hln]; decide +kernel
    clear hC8 hC7 hP hp4 hl hC3 hC4 hC5 hC6 km
    go_upto_region 14 with (go_at_call 14; refine kp.mono ?_; rintro e w8 ⟨a8, c8, fp8, rfl, hP8, hs8, hT8⟩)
    have hb9 := hT8.below hf6 hb8
    have hgn : ∀ j, j < 4 → ∀ p, l.reverse[j]? = some p → (l.reverse.map (·.node)).getD j ByteArray.empty = p.node := fun j hj p hp => by rw [List.getD, List.getElem?_map, hp]; rfl
    have hzs : ∀ j : Nat, j < 4 → (catN (l.reverse.map (·.node)) j).size + ((l.reverse.map (·.node)).getD j ByteArray.empty).size ≤ 100 := by rw [hln]; exact goes_small 2 (by decide)
    obtain ⟨ns, hns⟩ : ∃ ns, l.reverse.map (·.node) = ns := ⟨_, rfl⟩
    rw [hns] at hq hgn hzs
    have hrl : l.reverse.length = 4 := by simpa using hl4
    generalize l.reverse = lr at hP8 hgn hrl
    clear kp hln hns hT8 hb8
    go_wp2
    go_loopw [9, 10] (fun s i wr => ∃ j : Nat, j ≤ 4 ∧ i = .int .i64 j ∧ s = .string (catN ns j) ∧ wr = w8) (fun _ i _ => 4 - (intOf i).toNat)
    case atStart => exact ⟨0, by omega, rfl, rfl, rfl⟩
    case round =>
      obtain ⟨j, hj, rfl, rfl, rfl⟩ := hrel
      by_cases hlt : j < 4
      · obtain ⟨B, o, rfl, d0, d1, d2, d3, d4⟩ := hP8.2 j _ (List.getElem?_eq_getElem (show j < lr.length by omega))
        have hnd := hgn j hlt _ (List.getElem?_eq_getElem (show j < lr.length by omega))
        have hzj := hzs j hlt
        have hst : Hid (catN ns (j + 1) = catN ns j ++ ns.getD j ByteArray.empty) := rfl
        rw [hnd] at hst hzj
        have i1 : (j : Int) < 4 := by omega
        obtain ⟨nd, hnd2⟩ : ∃ nd, (lr[j]'(by omega)).node = nd := ⟨_, rfl⟩
        rw [hnd2] at d1 hst hzj
        obtain ⟨cj, hcj⟩ : ∃ cj, catN ns j = cj := ⟨_, rfl⟩
        rw [hcj] at hst hzj
        simp only [hcj]
        have hsz : cj.size + nd.size ≤ 9223372036854775807 := by omega
        clear hnd hgn hnd2 hcj d0 d2 d3 d4 hP8 hzs hzj
        go_wp2
        go_roundw
        case rel => exact ⟨j + 1, by omega, by go_num, by rw [hst.out], trivial⟩
        case measure => simp [intOf]; omega
      · obtain rfl : j = 4 := by omega
        clear hgn hP8 hzs
        obtain ⟨c4, hc4⟩ : ∃ c4, catN ns 4 = c4 := ⟨_, rfl⟩
        rw [hc4] at hq
        simp only [hc4]
        clear hc4
        go_wp2
        go_ret
        exact ⟨rfl, hb9⟩

end Go.Proofs.YtpgchnppinbpkabDoor
