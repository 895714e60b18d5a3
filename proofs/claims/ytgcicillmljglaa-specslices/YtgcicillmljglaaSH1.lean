/- The contract of the chapter's own Shards: the loops. -/
import Derived.Test.YtgcicillmljglaaSH0
import Derived.Test.YtgcicillmljglaaX
import Derived.Laws.OwnMore
namespace Go.Proofs.Ytgcicillmljglaa
open Go.RowKit Go.Maps
attribute [local go_sem ↓] Go.wp_at_zero Go.wp_at_succ
set_option linter.unusedSimpArgs false
set_option linter.unusedVariables false

theorem own_low {w : World} {base base' : Nat} {e : TypeId} {size : Nat} {v : Value} {n : Nat} {xs : List Value} (h : w.ownsRow base e size v n xs) (hb : base' ≤ base) : w.ownsRow base' e size v n xs := by
  refine ⟨h.1, ?_⟩
  rcases h.2 with h1 | ⟨g, cap, cur, h1, h2, h3⟩
  · exact .inl h1
  · exact .inr ⟨g, cap, cur, h1, by omega, h3⟩
theorem okAt_none {P : Program} {o : Oper} {a : Act} {w : World} {K : Value → World → Prop} (s x : Operand) (t : TypeId) (ho : o.op = .call { callee := .builtin .append, args := #[s, x], argTypes := #[t, t] })
    (base : Nat) (e : TypeId) (i : TypeInfo) (size : Nat) (ht : P.underlying t = some (.slice e)) (hi : P.info? e = some i) (v : Value) (n : Nat) (xs : List Value) (hs : a.eval s = v) (hown : w.ownsRow base e size v n xs) (hx : a.eval x = .slice none 0 0) (h : K v w) : okAt P o a w K := by
  have hrun := run_append_owned_none (P := P) (w := w) base t o.type e i size ht hi v n xs hown
  unfold okAt execOp
  simp only [ho, resolve, invoke, builtin, Sem.run_bind, Sem.run_pure, Result.andThen_ok, List.map_toArray, List.map_cons, List.map_nil, hs, hx, hrun, okUpon]
  exact h
theorem gen_world {P : Program} {c : Code} {Q : Exit → Act → World → Prop} {a : Act} {A B : World} (h : Below A.heap.size A B) (H : ∀ W, Below A.heap.size A W → c.wp P Q a W) : c.wp P Q a B := H B h
theorem news_at {zs : List Int} {k g : Nat} {w : World} (h : ∀ j z, zs[j]? = some z → w.cell? ⟨g, j, none⟩ = some (.int .i64 z)) {j : Nat} {u : Value} (hu : ((zs.take k).map iv)[j]? = some u) : w.cell? ((⟨g, 0, none⟩ : Addr).add j) = some u := by
  rw [List.getElem?_map] at hu
  obtain ⟨z, hz, rfl⟩ := Option.map_eq_some_iff.1 hu
  have h1 : zs[j]? = some z := by
    rw [List.getElem?_take] at hz
    split at hz
    · exact hz
    · cases hz
  have hc := h j z h1
  rcases Nat.eq_zero_or_pos j with rfl | hp
  · simpa [Addr.add] using hc
  · simpa [Addr.add, show j ≠ 0 by omega] using hc
theorem drop_at15 {zs : List Int} {k g cz : Nat} {w : World} (h : ∀ j z, zs[j]? = some z → w.cell? ⟨g, j, none⟩ = some (.int .i64 z)) (hc : zs.length ≤ cz) :
    ∃ x : Addr, (if cz = k then some (⟨g, 0, none⟩ : Addr) else some ⟨g, k, none⟩) = some x ∧ ∀ j u, ((zs.drop k).map iv)[j]? = some u → w.cell? (x.add j) = some u := by
  by_cases e : cz = k
  · refine ⟨_, if_pos e, fun j u hu => ?_⟩
    rw [List.drop_of_length_le (by omega)] at hu
    simp at hu
  · refine ⟨_, if_neg e, fun j u hu => ?_⟩
    rw [List.getElem?_map] at hu
    obtain ⟨z, hz, rfl⟩ := Option.map_eq_some_iff.1 hu
    rw [List.getElem?_drop] at hz
    have hc := h _ z hz
    rcases Nat.eq_zero_or_pos j with rfl | hp
    · simpa [Addr.add] using hc
    · simpa [Addr.add, show j ≠ 0 by omega] using hc
theorem ints_one (zs : List Int) : ∀ u ∈ zs.map iv, u.oneCell' = true := by
  intro u hu
  obtain ⟨z, _, rfl⟩ := List.mem_map.1 hu
  rfl
/-- One number laid into a rising row. -/
theorem ins_rises {zs : List Int} {k : Nat} {sh : Int} (hz : zs.Pairwise (· < ·)) (h1 : ∀ z ∈ zs.take k, z < sh) (h2 : ∀ z ∈ zs.drop k, sh < z) : (zs.take k ++ [sh] ++ zs.drop k).Pairwise (· < ·) := by
  rw [List.pairwise_append, List.pairwise_append]
  refine ⟨⟨hz.sublist (List.take_sublist _ _), by simp, fun a ha b hb => ?_⟩, hz.sublist (List.drop_sublist _ _), fun a ha b hb => ?_⟩
  · simp only [List.mem_singleton] at hb; subst hb; exact h1 a ha
  · rcases List.mem_append.1 ha with ha | ha
    · have := h1 a ha; have := h2 b hb; omega
    · simp only [List.mem_singleton] at ha; subst ha; exact h2 b hb
theorem ins_mem {zs : List Int} {k : Nat} {sh : Int} (z : Int) : z ∈ zs.take k ++ [sh] ++ zs.drop k ↔ z ∈ zs ∨ z = sh := by
  have : z ∈ zs ↔ z ∈ zs.take k ∨ z ∈ zs.drop k := by rw [← List.mem_append, List.take_append_drop]
  rw [this]
  simp only [List.mem_append, List.mem_singleton]
  constructor
  · rintro ((h | h) | h)
    · exact .inl (.inl h)
    · exact .inr h
    · exact .inl (.inr h)
  · rintro ((h | h) | h)
    · exact .inl (.inl h)
    · exact .inr h
    · exact .inl (.inr h)

set_option maxRecDepth 100000 in
set_option maxHeartbeats 8000000 in
theorem rShards_any (id : Int) (a : Option Addr) (c n : Nat) (l : List PodT) (w : World) (hl : l.length = n) (hP : Pods w a l) :
    Calls Try.prog 27 #[.agg #[.int .i64 id, .slice a n c]] w fun e w' => ∃ (v : Value) (zs : List Int), e = .returned v ∧ w'.ownsRow w.heap.size 3 1 v zs.length (zs.map iv) ∧ zs.Pairwise (· < ·) ∧ (∀ z, z ∈ zs ↔ z ∈ shardsOf l) ∧ zs.length ≤ n ∧ Below w.heap.size w w' := by
  have hn := hP.1
  rw [hl] at hn
  obtain ⟨i0, hi, hz0, hz1, hz2⟩ := info_parts info3
  go_enter Try.func27, Try.ntmps27
  go_wp2
  go_loopw [3, 4] (fun v i wr => ∃ (m : Nat) (zs : List Int), m ≤ n ∧ i = .int .i64 m ∧ zs.length ≤ m ∧ wr.ownsRow w.heap.size 3 1 v zs.length (zs.map iv) ∧ zs.Pairwise (· < ·) ∧ (∀ z, z ∈ zs ↔ z ∈ shardsOf (l.take m)) ∧ Below w.heap.size w wr ∧ GBox wr w.heap.size id (.slice a n c)) (fun _ i _ => n - (intOf i).toNat)
  case atStart => exact ⟨0, [], by omega, rfl, by simp, World.ownsRow_nil _ _ _ _, by simp, by simp [shardsOf], up (Below.refl _ _) _, GBox.new w id _⟩
  case round =>
    obtain ⟨m, zs, hm, rfl, hzl, hrow, hpw, hmem, hbw, hG⟩ := hrel
    obtain ⟨W0, hW0⟩ : ∃ W, W = wr := ⟨_, rfl⟩
    subst hW0
    have gc1 := hG.cell1
    by_cases hlt : m < n
    · obtain ⟨PB, po, rfl, hat, -⟩ := (hP.later hbw).2 m _ (List.getElem?_eq_getElem (by omega))
      have hsc := hat.2.1
      have htake : shardsOf (l.take (m + 1)) = shardsOf (l.take m) ++ [(l[m]'(by omega)).shard] := by
        unfold shardsOf
        rw [pods_take l m (by omega), List.map_append]
        rfl
      obtain ⟨sh, hsh⟩ : ∃ x, (l[m]'(by omega)).shard = x := ⟨_, rfl⟩
      rw [hsh] at hsc htake
      have hmn : (m : Int) < n := by omega
      obtain ⟨nz, hnz⟩ : ∃ x, zs.length = x := ⟨_, rfl⟩
      rw [hnz] at hrow hzl
      have hadd : ∀ zs' : List Int, (∀ z, z ∈ zs' ↔ z ∈ zs ∨ z = sh) → ∀ z, z ∈ zs' ↔ z ∈ shardsOf (l.take (m + 1)) := fun zs' h z => by rw [h, htake, List.mem_append, hmem]; simp
      rcases hrow.2 with ⟨rfl, h0⟩ | ⟨g, cz, cur, rfl, hBg, hh, hncap, hcm, hcs, hrest⟩
      · subst h0
        have hzs : zs = [] := List.length_eq_zero_iff.1 hnz
        subst hzs
        go_wp2
        go_loopw [5] (fun k wk => k = .int .i64 0 ∧ Below W0.heap.size W0 wk) (fun _ _ => 0)
        case atStart => exact ⟨rfl, Below.refl _ _⟩
        case round =>
          obtain ⟨rfl, hbk⟩ := hrel
          go_wp2
          go_quiet (fail)
          go_wp2
          go_quiet (fail)
          go_upto_region 9 with fail
          refine gen_world (below_drewN (below_drewN hbk _) _) ?_
          intro wq hbq
          have hGq := hG.later hbq
          have hsq := cell_below hbq hsc (block_lt hsc)
          refine wp_region_used 17 shU (fun w1 => Below wq.heap.size wq w1) shS (shF (.slice none 0 0) (.slice none 0 0) (.slice none 0 0) 0 m w.heap.size PB po n c wq.heap.size (1) sh ((([] : List Int)).map iv) ((([] : List Int)).map iv)) (by kernel_rfl) (by kernel_rfl) (Below.refl _ _).drew (shF_keep _ _ _ _ _ _ _ _ _ _ _ _ _ _ _ (by omega) (by kernel_rfl) (by kernel_rfl) (by kernel_rfl) (fun i hi => by rcases hi with rfl | rfl | rfl <;> kernel_rfl)) ?step ?rest
          case step =>
            intro i o d ho hd b w1 hR hold hdep
            have o1 : sl b 1 = .pointer (some ⟨w.heap.size, 0, none⟩) := hold 1 (by kernel_rfl)
            have o3 : sl b 3 = .slice none 0 0 := hold 3 (by kernel_rfl)
            have o4 : sl b 4 = .int .i64 m := hold 4 (by kernel_rfl)
            have o5 : sl b 5 = .int .i64 0 := hold 5 (by kernel_rfl)
            have hb0 := Below.refl w1.heap.size w1
            have gq1 := (hGq.later hR).cell1
            have hs1 := cell_below hR hsq (block_lt hsq)
            have hRs := hR.size
            rcases i with _ | _ | _ | _ | _ | _ | _ | _ | _ | _ | _ | _ | _ | _ | _ | _ | _ | _ | i
            all_goals try (cases ho; cases hd)
            · exact ok_valS rfl rfl (want_none rfl b) (by simp [go_sem]; first | done | exact ⟨rfl, rfl⟩) (hR.alloc hR.size _) (hb0.alloc (Nat.le_refl _) _) ⟨_, rfl, hRs, heap_alloc_new _ _⟩
            · exact ok_valS rfl rfl (want_none rfl b) (by simp [go_sem, o3]) hR hb0 rfl
            · exact ok_valS rfl rfl (want_none rfl b) (by simp [go_sem, o5]) hR hb0 rfl
            · have f50 : sl b 50 = .slice none 0 0 := hdep 1 _ _ rfl rfl (by kernel_rfl) (.inl rfl)
              have f51 : sl b 51 = .int .i64 0 := hdep 2 _ _ rfl rfl (by kernel_rfl) (.inl rfl)
              exact ok_valS rfl rfl (want_none rfl b) (by simp [go_sem, f50, f51]) hR hb0 rfl
            · obtain ⟨B, f49, hB, hh⟩ : ∃ B, sl b 49 = .slice (some ⟨B, 0, none⟩) 0 0 ∧ wq.heap.size ≤ B ∧ w1.heap[B]? = some (.cells #[] 3 (0, 0)) := hdep 0 _ _ rfl rfl (by kernel_rfl) (.inr rfl)
              have f52 : sl b 52 = .slice none 0 0 := hdep 3 _ _ rfl rfl (by kernel_rfl) (.inl rfl)
              refine ok_atS rfl rfl (want_none rfl b) (okAt_none (.tmp 49) (.tmp 52) 27 rfl wq.heap.size 3 i0 1 Try.underlying27 hi _ 0 [] (by simpa [go_sem] using f49) (show w1.ownsRow wq.heap.size 3 1 (.slice (some ⟨B, 0, none⟩) 0 0) 0 [] from ⟨rfl, .inr ⟨B, 0, #[], rfl, hB, hh, Nat.le_refl _, Nat.zero_le _, rfl, rfl⟩⟩) (by simpa [go_sem] using f52) ⟨hR, ⟨none, World.grownBy.refl _ _, (fun b hb => by cases hb)⟩, (show w1.ownsRow wq.heap.size 3 1 (.slice (some ⟨B, 0, none⟩) 0 0) 0 [] from ⟨rfl, .inr ⟨B, 0, #[], rfl, hB, hh, Nat.le_refl _, Nat.zero_le _, rfl, rfl⟩⟩)⟩)
            · exact ok_valS rfl rfl (want_none rfl b) (by simp [go_sem, o1]) hR hb0 rfl
            · have f54 : sl b 54 = .pointer (some ⟨w.heap.size, 1, none⟩) := hdep 5 _ _ rfl rfl (by kernel_rfl) (.inl rfl)
              exact ok_valS rfl rfl (want_none rfl b) (by simp [go_sem, f54, gq1]) hR hb0 rfl
            · exact ok_valS rfl rfl (want_none rfl b) (by simp [go_sem, o4]) hR hb0 rfl
            · have f55 : sl b 55 = .slice (some ⟨PB, po, none⟩) n c := hdep 6 _ _ rfl rfl (by kernel_rfl) (.inl rfl)
              have f56 : sl b 56 = .int .i64 m := hdep 7 _ _ rfl rfl (by kernel_rfl) (.inl rfl)
              exact ok_valS rfl rfl (want_none rfl b) (by simp [go_sem, f55, f56, hmn]) hR hb0 rfl
            · have f57 : sl b 57 = .pointer (some ⟨PB, po + m * 7, none⟩) := hdep 8 _ _ rfl rfl (by kernel_rfl) (.inl rfl)
              exact ok_valS rfl rfl (want_none rfl b) (by simp [go_sem, f57]) hR hb0 rfl
            · have f58 : sl b 58 = .pointer (some ⟨PB, po + m * 7 + 1, none⟩) := hdep 9 _ _ rfl rfl (by kernel_rfl) (.inl rfl)
              exact ok_valS rfl rfl (want_none rfl b) (by simp [go_sem, f58, hs1]) hR hb0 rfl
            · have f59 : sl b 59 = .int .i64 sh := hdep 10 _ _ rfl rfl (by kernel_rfl) (.inl rfl)
              exact ok_valS rfl rfl (want_none rfl b) (by simp [go_sem, f59]; first | done | exact ⟨rfl, rfl⟩) (hR.alloc hR.size _) (hb0.alloc (Nat.le_refl _) _) ⟨_, rfl, heap_alloc_new _ _⟩
            · have o53 : w1.ownsRow wq.heap.size 3 1 (sl b 53) 0 ((([] : List Int)).map iv) := hdep 4 _ _ rfl rfl (by kernel_rfl) (.inr rfl)
              obtain ⟨D, f60, hD⟩ : ∃ D, sl b 60 = .slice (some ⟨D, 0, none⟩) 1 1 ∧ w1.heap[D]? = some (.cells #[.int .i64 sh] 3 (0, 0)) := hdep 11 _ _ rfl rfl (by kernel_rfl) (.inr rfl)
              have hnw : ∀ j u, ([.int .i64 sh] : List Value)[j]? = some u → w1.cell? ((⟨D, 0, none⟩ : Addr).add j) = some u := fun j u hu => by
                cases j with
                | zero => simp at hu; subst hu; simp [Addr.add, World.cell?, hD]
                | succ j => simp at hu
              refine ok_atS rfl rfl (want_none rfl b) (okAt_append (.tmp 53) (.tmp 60) 27 rfl wq.heap.size 3 i0 (.int .i64 0) 1 8 Try.underlying27 hi hz0 hz1 hz2 rfl (by decide) (sl b 53) 0 ((([] : List Int)).map iv) (by simp [go_sem]) o53 ⟨D, 0, none⟩ 1 1 [.int .i64 sh] (by simpa [go_sem] using f60) rfl hnw (by intro u hu; simp at hu; subst hu; rfl) (by unfold maxLen; omega) (by omega) hRs ?_)
              intro v' w2 hown hgrow hat
              exact ⟨hR.grown hgrow hRs (fun j hj => (o53.lt j hj).1), trivial, hown⟩
            · exact ok_valS rfl rfl (want_none rfl b) (by simp [go_sem, o3]) hR hb0 rfl
            · exact ok_valS rfl rfl (want_none rfl b) (by simp [go_sem, o5]) hR hb0 rfl
            · have f62 : sl b 62 = .slice none 0 0 := hdep 13 _ _ rfl rfl (by kernel_rfl) (.inl rfl)
              have f63 : sl b 63 = .int .i64 0 := hdep 14 _ _ rfl rfl (by kernel_rfl) (.inl rfl)
              exact ok_valS rfl rfl (want_none rfl b) (by simp [go_sem, f62, f63]) hR hb0 rfl
            · have o61 : w1.ownsRow wq.heap.size 3 1 (sl b 61) (0 + 1) ((([] : List Int)).map iv ++ [.int .i64 sh]) := hdep 12 _ _ rfl rfl (by kernel_rfl) (.inr rfl)
              have f64 : sl b 64 = .slice none 0 0 := hdep 15 _ _ rfl rfl (by kernel_rfl) (.inl rfl)
              refine ok_atS rfl rfl (want_none rfl b) (okAt_none (.tmp 61) (.tmp 64) 27 rfl wq.heap.size 3 i0 1 Try.underlying27 hi (sl b 61) _ _ (by simp [go_sem]) o61 (by simpa [go_sem] using f64) ⟨hR, ⟨none, World.grownBy.refl _ _, (fun b hb => by cases hb)⟩, by simpa [shF] using o61⟩)
            · have o65 : w1.ownsRow wq.heap.size 3 1 (sl b 65) (1) ((([] : List Int)).map iv ++ [.int .i64 sh] ++ (([] : List Int)).map iv) := hdep 16 _ _ rfl rfl (by kernel_rfl) (.inr rfl)
              exact ok_valS (v := sl b 65) rfl rfl (want_none rfl b) (by rcases o65.2 with ⟨e, _⟩ | ⟨_, _, _, e, _⟩ <;> simp [go_sem, e]) hR hb0 o65
            · cases ho
          case rest =>
            intro b w1 hR hsz hdf hold hF
            have o3 : w1.ownsRow wq.heap.size 3 1 (sl b 3) (1) ((([] : List Int)).map iv ++ [.int .i64 sh] ++ (([] : List Int)).map iv) := hF 17 _ _ rfl rfl rfl
            obtain ⟨v9, f3⟩ : ∃ v9, sl b 3 = v9 := ⟨_, rfl⟩
            rw [f3] at o3
            have f0 := hold 0 (by kernel_rfl)
            have f1 := hold 1 (by kernel_rfl)
            have f2 := hold 2 (by kernel_rfl)
            have f4 := hold 4 (by kernel_rfl)
            have f5 := hold 5 (by kernel_rfl)
            have f6 := hold 6 (by kernel_rfl)
            have f7 := hold 7 (by kernel_rfl)
            have f8 := hold 8 (by kernel_rfl)
            have f9 := hold 9 (by kernel_rfl)
            have f10 := hold 10 (by kernel_rfl)
            have f11 := hold 11 (by kernel_rfl)
            have f12 := hold 12 (by kernel_rfl)
            have f13 := hold 13 (by kernel_rfl)
            have f14 := hold 14 (by kernel_rfl)
            have f15 := hold 15 (by kernel_rfl)
            have f16 := hold 16 (by kernel_rfl)
            have f17 := hold 17 (by kernel_rfl)
            have f18 := hold 18 (by kernel_rfl)
            have f19 := hold 19 (by kernel_rfl)
            have f20 := hold 20 (by kernel_rfl)
            have f21 := hold 21 (by kernel_rfl)
            have f22 := hold 22 (by kernel_rfl)
            have f23 := hold 23 (by kernel_rfl)
            have f24 := hold 24 (by kernel_rfl)
            have f25 := hold 25 (by kernel_rfl)
            have f26 := hold 26 (by kernel_rfl)
            have f27 := hold 27 (by kernel_rfl)
            have f28 := hold 28 (by kernel_rfl)
            have f29 := hold 29 (by kernel_rfl)
            have f30 := hold 30 (by kernel_rfl)
            have f31 := hold 31 (by kernel_rfl)
            have f32 := hold 32 (by kernel_rfl)
            have f33 := hold 33 (by kernel_rfl)
            have f34 := hold 34 (by kernel_rfl)
            have f35 := hold 35 (by kernel_rfl)
            have f36 := hold 36 (by kernel_rfl)
            have f37 := hold 37 (by kernel_rfl)
            have f38 := hold 38 (by kernel_rfl)
            have f39 := hold 39 (by kernel_rfl)
            have f40 := hold 40 (by kernel_rfl)
            have f41 := hold 41 (by kernel_rfl)
            have f42 := hold 42 (by kernel_rfl)
            have f43 := hold 43 (by kernel_rfl)
            have f44 := hold 44 (by kernel_rfl)
            have f45 := hold 45 (by kernel_rfl)
            have f46 := hold 46 (by kernel_rfl)
            have f47 := hold 47 (by kernel_rfl)
            have f48 := hold 48 (by kernel_rfl)
            have f66 := hold 66 (by kernel_rfl)
            have hB : b = _ := act_list b (show b.tmps.size = 67 from hsz) hdf
            rw [hB]
            simp only [List.range, List.range.loop, List.map_cons, List.map_nil, f0, f1, f2, f4, f5, f6, f7, f8, f9, f10, f11, f12, f13, f14, f15, f16, f17, f18, f19, f20, f21, f22, f23, f24, f25, f26, f27, f28, f29, f30, f31, f32, f33, f34, f35, f36, f37, f38, f39, f40, f41, f42, f43, f44, f45, f46, f47, f48, f66, f3]
            generalize sl b 49 = v49, sl b 50 = v50, sl b 51 = v51, sl b 52 = v52, sl b 53 = v53, sl b 54 = v54, sl b 55 = v55, sl b 56 = v56, sl b 57 = v57, sl b 58 = v58, sl b 59 = v59, sl b 60 = v60, sl b 61 = v61, sl b 62 = v62, sl b 63 = v63, sl b 64 = v64, sl b 65 = v65
            simp only [sl, List.getElem?_toArray, List.getElem?_cons_succ, List.getElem?_cons_zero, Option.getD_some]
            clear hB hold hsz hdf hF f0 f1 f2 f4 f5 f6 f7 f8 f9 f10 f11 f12 f13 f14 f15 f16 f17 f18 f19 f20 f21 f22 f23 f24 f25 f26 f27 f28 f29 f30 f31 f32 f33 f34 f35 f36 f37 f38 f39 f40 f41 f42 f43 f44 f45 f46 f47 f48 f66 f3
            have hb9 := hbq.trans (hR.mono hbq.size)
            have hG9 := hG.later hb9
            have hbw9 := fin hb9 hbw
            have ho9 : w1.ownsRow w.heap.size 3 1 v9 ((([] : List Int)) ++ [sh] ++ (([] : List Int))).length (((([] : List Int)) ++ [sh] ++ (([] : List Int))).map iv) := by
              have := own_low o3 (Nat.le_trans hbw.size hbq.size)
              have e : ((([] : List Int)) ++ [sh] ++ (([] : List Int))).length = 1 := by simp <;> omega
              rw [e]
              simpa using this
            clear o3 hR
            go_wp2
            go_roundw
            case rel => exact ⟨m + 1, (([] : List Int)) ++ [sh] ++ (([] : List Int)), by omega, by go_num, by simp <;> omega, ho9, by simp, hadd _ (fun z => by simp), hbw9, hG9⟩
            case measure => simp [intOf]; omega
      · have hints : ∀ j z, zs[j]? = some z → W0.cell? ⟨g, j, none⟩ = some (.int .i64 z) := fun j z hz => own_cell hrow j (iv z) (by simp [hz])
        have hczn : nz ≤ cz := hncap
        have hglt : g < W0.heap.size := (Array.getElem?_eq_some_iff.1 hh).1
        clear hh hrest hcs
        go_wp2
        go_loopw [5] (fun q wk => ∃ k : Nat, k ≤ nz ∧ q = .int .i64 k ∧ (∀ z ∈ zs.take k, z < sh) ∧ Below W0.heap.size W0 wk) (fun q _ => nz - (intOf q).toNat)
        case atStart => exact ⟨0, by omega, rfl, by simp, Below.refl _ _⟩
        case round =>
          obtain ⟨k, hk, rfl, hkz, hbk⟩ := hrel
          have gk1 := (hG.later hbk).cell1
          have hsk := cell_below hbk hsc (block_lt hsc)
          have hm0 : (0 : Int) ≤ m := by omega
          have hk0 : (0 : Int) ≤ k := by omega
          by_cases hkn : k < nz
          · have hzk : zs[k]? = some (zs[k]'(by omega)) := List.getElem?_eq_getElem (by omega)
            obtain ⟨z, hze⟩ : ∃ z, zs[k]'(by omega) = z := ⟨_, rfl⟩
            rw [hze] at hzk
            have hck0 := hints k z hzk
            have hck := cell_below hbk hck0 (block_lt hck0)
            have hkni : (k : Int) < nz := by omega
            have hkne : ((k : Int) == nz) = false := by simp; omega
            by_cases hzs : z < sh
            · go_wp2
              go_quiet (fail)
              go_wp2
              go_roundw
              case rel => exact ⟨k + 1, by omega, by go_num, (fun y hy => by
                rw [List.take_succ_eq_append_getElem (by omega), hze] at hy
                rcases List.mem_append.1 hy with hy | hy
                · exact hkz y hy
                · simp only [List.mem_singleton] at hy; omega), below_drewN hbk _⟩
              case measure => simp [intOf]; omega
            · by_cases hze2 : z = sh
              · subst hze2
                have hzb : (z != z) = false := by simp
                go_wp2
                go_quiet (fail)
                go_wp2
                go_quiet (fail)
                go_wp2
                go_roundw
                case rel =>
                  have hbb : ∀ p, Below W0.heap.size W0 (wr.drewN p) := fun p => below_drewN hbk p
                  exact ⟨m + 1, zs, by omega, by go_num, by omega, own_keep (by rw [hnz]; exact hrow) (hbb _), hpw, hadd zs (fun y => ⟨.inl, fun h => by
                    rcases h with h | h
                    · exact h
                    · subst h; exact List.mem_of_getElem? hzk⟩), fin (hbb _) hbw, hG.later (hbb _)⟩
                case measure => simp [intOf]; omega
              · have hzb : (z != sh) = true := by simp [hze2]
                go_wp2
                go_quiet (fail)
                go_wp2
                go_quiet (fail)
                go_upto_region 9 with fail
                have hkc : (k : Int) ≤ cz := by omega
                have hgt : ∀ y ∈ zs.drop k, sh < y := by
                  have hdk : zs.drop k = z :: zs.drop (k + 1) := by rw [List.drop_eq_getElem_cons (by omega), hze]
                  have hpd := hpw.sublist (List.drop_sublist k zs)
                  rw [hdk, List.pairwise_cons] at hpd
                  intro y hy
                  rw [hdk] at hy
                  rcases List.mem_cons.1 hy with e | e
                  · omega
                  · have := hpd.1 y e; omega
                refine gen_world (below_drewN (below_drewN hbk _) _) ?_
                intro wq hbq
                have hGq := hG.later hbq
                have hsq := cell_below hbq hsc (block_lt hsc)
                have hintq : ∀ j z, zs[j]? = some z → wq.cell? ⟨g, j, none⟩ = some (.int .i64 z) := fun j z hz => cell_below hbq (hints j z hz) (block_lt (hints j z hz))
                obtain ⟨X15, hkz15, hX15⟩ := drop_at15 (cz := cz) (k := k) hintq (show zs.length ≤ cz by omega)
                refine wp_region_used 17 shU (fun w1 => Below wq.heap.size wq w1) shS (shF (.slice (some ⟨g, 0, none⟩) nz cz) (.slice (some ⟨g, 0, none⟩) k cz) (.slice (some X15) (nz - k) (cz - k)) k m w.heap.size PB po n c wq.heap.size (nz + 1) sh ((zs.take k).map iv) ((zs.drop k).map iv)) (by kernel_rfl) (by kernel_rfl) (Below.refl _ _).drew (shF_keep _ _ _ _ _ _ _ _ _ _ _ _ _ _ _ (by omega) (by kernel_rfl) (by kernel_rfl) (by kernel_rfl) (fun i hi => by rcases hi with rfl | rfl | rfl <;> kernel_rfl)) ?step ?rest
                case step =>
                  intro i o d ho hd b w1 hR hold hdep
                  have o1 : sl b 1 = .pointer (some ⟨w.heap.size, 0, none⟩) := hold 1 (by kernel_rfl)
                  have o3 : sl b 3 = .slice (some ⟨g, 0, none⟩) nz cz := hold 3 (by kernel_rfl)
                  have o4 : sl b 4 = .int .i64 m := hold 4 (by kernel_rfl)
                  have o5 : sl b 5 = .int .i64 k := hold 5 (by kernel_rfl)
                  have hb0 := Below.refl w1.heap.size w1
                  have gq1 := (hGq.later hR).cell1
                  have hs1 := cell_below hR hsq (block_lt hsq)
                  have hRs := hR.size
                  rcases i with _ | _ | _ | _ | _ | _ | _ | _ | _ | _ | _ | _ | _ | _ | _ | _ | _ | _ | i
                  all_goals try (cases ho; cases hd)
                  · exact ok_valS rfl rfl (want_none rfl b) (by simp [go_sem]; first | done | exact ⟨rfl, rfl⟩) (hR.alloc hR.size _) (hb0.alloc (Nat.le_refl _) _) ⟨_, rfl, hRs, heap_alloc_new _ _⟩
                  · exact ok_valS rfl rfl (want_none rfl b) (by simp [go_sem, o3]) hR hb0 rfl
                  · exact ok_valS rfl rfl (want_none rfl b) (by simp [go_sem, o5]) hR hb0 rfl
                  · have f50 : sl b 50 = .slice (some ⟨g, 0, none⟩) nz cz := hdep 1 _ _ rfl rfl (by kernel_rfl) (.inl rfl)
                    have f51 : sl b 51 = .int .i64 k := hdep 2 _ _ rfl rfl (by kernel_rfl) (.inl rfl)
                    exact ok_valS rfl rfl (want_none rfl b) (by simp [go_sem, f50, f51, hkc, hk0]) hR hb0 rfl
                  · obtain ⟨B, f49, hB, hh⟩ : ∃ B, sl b 49 = .slice (some ⟨B, 0, none⟩) 0 0 ∧ wq.heap.size ≤ B ∧ w1.heap[B]? = some (.cells #[] 3 (0, 0)) := hdep 0 _ _ rfl rfl (by kernel_rfl) (.inr rfl)
                    have f52 : sl b 52 = .slice (some ⟨g, 0, none⟩) k cz := hdep 3 _ _ rfl rfl (by kernel_rfl) (.inl rfl)
                    have hnw : ∀ j u, ((zs.take k).map iv)[j]? = some u → w1.cell? ((⟨g, 0, none⟩ : Addr).add j) = some u := fun j u hu => news_at (fun j z hz => cell_below hR (hintq j z hz) (block_lt (hintq j z hz))) hu
                    refine ok_atS rfl rfl (want_none rfl b) (okAt_append (.tmp 49) (.tmp 52) 27 rfl wq.heap.size 3 i0 (.int .i64 0) 1 8 Try.underlying27 hi hz0 hz1 hz2 rfl (by decide) _ 0 [] (by simpa [go_sem] using f49) (show w1.ownsRow wq.heap.size 3 1 (.slice (some ⟨B, 0, none⟩) 0 0) 0 [] from ⟨rfl, .inr ⟨B, 0, #[], rfl, hB, hh, Nat.le_refl _, Nat.zero_le _, rfl, rfl⟩⟩) ⟨g, 0, none⟩ k _ ((zs.take k).map iv) (by simpa [go_sem] using f52) (by simp; omega) hnw (ints_one _) (by unfold maxLen; omega) (by omega) hRs ?_)
                    intro v' w2 hown hgrow hat
                    exact ⟨hR.grown hgrow hRs (fun j hj => by cases hj; exact hB), ⟨_, hgrow, fun b hb => by cases hb; exact hh⟩, by rw [Nat.zero_add, List.nil_append] at hown; exact hown⟩
                  · exact ok_valS rfl rfl (want_none rfl b) (by simp [go_sem, o1]) hR hb0 rfl
                  · have f54 : sl b 54 = .pointer (some ⟨w.heap.size, 1, none⟩) := hdep 5 _ _ rfl rfl (by kernel_rfl) (.inl rfl)
                    exact ok_valS rfl rfl (want_none rfl b) (by simp [go_sem, f54, gq1]) hR hb0 rfl
                  · exact ok_valS rfl rfl (want_none rfl b) (by simp [go_sem, o4]) hR hb0 rfl
                  · have f55 : sl b 55 = .slice (some ⟨PB, po, none⟩) n c := hdep 6 _ _ rfl rfl (by kernel_rfl) (.inl rfl)
                    have f56 : sl b 56 = .int .i64 m := hdep 7 _ _ rfl rfl (by kernel_rfl) (.inl rfl)
                    exact ok_valS rfl rfl (want_none rfl b) (by simp [go_sem, f55, f56, hmn]) hR hb0 rfl
                  · have f57 : sl b 57 = .pointer (some ⟨PB, po + m * 7, none⟩) := hdep 8 _ _ rfl rfl (by kernel_rfl) (.inl rfl)
                    exact ok_valS rfl rfl (want_none rfl b) (by simp [go_sem, f57]) hR hb0 rfl
                  · have f58 : sl b 58 = .pointer (some ⟨PB, po + m * 7 + 1, none⟩) := hdep 9 _ _ rfl rfl (by kernel_rfl) (.inl rfl)
                    exact ok_valS rfl rfl (want_none rfl b) (by simp [go_sem, f58, hs1]) hR hb0 rfl
                  · have f59 : sl b 59 = .int .i64 sh := hdep 10 _ _ rfl rfl (by kernel_rfl) (.inl rfl)
                    exact ok_valS rfl rfl (want_none rfl b) (by simp [go_sem, f59]; first | done | exact ⟨rfl, rfl⟩) (hR.alloc hR.size _) (hb0.alloc (Nat.le_refl _) _) ⟨_, rfl, heap_alloc_new _ _⟩
                  · have o53 : w1.ownsRow wq.heap.size 3 1 (sl b 53) k ((zs.take k).map iv) := hdep 4 _ _ rfl rfl (by kernel_rfl) (.inr rfl)
                    obtain ⟨D, f60, hD⟩ : ∃ D, sl b 60 = .slice (some ⟨D, 0, none⟩) 1 1 ∧ w1.heap[D]? = some (.cells #[.int .i64 sh] 3 (0, 0)) := hdep 11 _ _ rfl rfl (by kernel_rfl) (.inr rfl)
                    have hnw : ∀ j u, ([.int .i64 sh] : List Value)[j]? = some u → w1.cell? ((⟨D, 0, none⟩ : Addr).add j) = some u := fun j u hu => by
                      cases j with
                      | zero => simp at hu; subst hu; simp [Addr.add, World.cell?, hD]
                      | succ j => simp at hu
                    refine ok_atS rfl rfl (want_none rfl b) (okAt_append (.tmp 53) (.tmp 60) 27 rfl wq.heap.size 3 i0 (.int .i64 0) 1 8 Try.underlying27 hi hz0 hz1 hz2 rfl (by decide) (sl b 53) k ((zs.take k).map iv) (by simp [go_sem]) o53 ⟨D, 0, none⟩ 1 1 [.int .i64 sh] (by simpa [go_sem] using f60) rfl hnw (by intro u hu; simp at hu; subst hu; rfl) (by unfold maxLen; omega) (by omega) hRs ?_)
                    intro v' w2 hown hgrow hat
                    exact ⟨hR.grown hgrow hRs (fun j hj => (o53.lt j hj).1), trivial, hown⟩
                  · exact ok_valS rfl rfl (want_none rfl b) (by simp [go_sem, o3]) hR hb0 rfl
                  · exact ok_valS rfl rfl (want_none rfl b) (by simp [go_sem, o5]) hR hb0 rfl
                  · have f62 : sl b 62 = .slice (some ⟨g, 0, none⟩) nz cz := hdep 13 _ _ rfl rfl (by kernel_rfl) (.inl rfl)
                    have f63 : sl b 63 = .int .i64 k := hdep 14 _ _ rfl rfl (by kernel_rfl) (.inl rfl)
                    exact ok_valS rfl rfl (want_none rfl b) (by simp [go_sem, f62, f63, hk, hk0, hkz15]) hR hb0 rfl
                  · have o61 : w1.ownsRow wq.heap.size 3 1 (sl b 61) (k + 1) ((zs.take k).map iv ++ [.int .i64 sh]) := hdep 12 _ _ rfl rfl (by kernel_rfl) (.inr rfl)
                    have f64 : sl b 64 = .slice (some X15) (nz - k) (cz - k) := hdep 15 _ _ rfl rfl (by kernel_rfl) (.inl rfl)
                    have hnw : ∀ j u, ((zs.drop k).map iv)[j]? = some u → w1.cell? (X15.add j) = some u := fun j u hu => cell_below hR (hX15 j u hu) (block_lt (hX15 j u hu))
                    refine ok_atS rfl rfl (want_none rfl b) (okAt_append (.tmp 61) (.tmp 64) 27 rfl wq.heap.size 3 i0 (.int .i64 0) 1 8 Try.underlying27 hi hz0 hz1 hz2 rfl (by decide) (sl b 61) (k + 1) _ (by simp [go_sem]) o61 X15 (nz - k) _ ((zs.drop k).map iv) (by simpa [go_sem] using f64) (by simp; omega) hnw (ints_one _) (by unfold maxLen; omega) (by omega) hRs ?_)
                    intro v' w2 hown hgrow hat
                    exact ⟨hR.grown hgrow hRs (fun j hj => (o61.lt j hj).1), ⟨_, hgrow, fun b hb => own_full o61 (by omega) b hb⟩, by rw [show k + 1 + (nz - k) = nz + 1 by omega] at hown; exact hown⟩
                  · have o65 : w1.ownsRow wq.heap.size 3 1 (sl b 65) (nz + 1) ((zs.take k).map iv ++ [.int .i64 sh] ++ (zs.drop k).map iv) := hdep 16 _ _ rfl rfl (by kernel_rfl) (.inr rfl)
                    exact ok_valS (v := sl b 65) rfl rfl (want_none rfl b) (by rcases o65.2 with ⟨e, _⟩ | ⟨_, _, _, e, _⟩ <;> simp [go_sem, e]) hR hb0 o65
                  · cases ho
                case rest =>
                  intro b w1 hR hsz hdf hold hF
                  have o3 : w1.ownsRow wq.heap.size 3 1 (sl b 3) (nz + 1) ((zs.take k).map iv ++ [.int .i64 sh] ++ (zs.drop k).map iv) := hF 17 _ _ rfl rfl rfl
                  obtain ⟨v9, f3⟩ : ∃ v9, sl b 3 = v9 := ⟨_, rfl⟩
                  rw [f3] at o3
                  have f0 := hold 0 (by kernel_rfl)
                  have f1 := hold 1 (by kernel_rfl)
                  have f2 := hold 2 (by kernel_rfl)
                  have f4 := hold 4 (by kernel_rfl)
                  have f5 := hold 5 (by kernel_rfl)
                  have f6 := hold 6 (by kernel_rfl)
                  have f7 := hold 7 (by kernel_rfl)
                  have f8 := hold 8 (by kernel_rfl)
                  have f9 := hold 9 (by kernel_rfl)
                  have f10 := hold 10 (by kernel_rfl)
                  have f11 := hold 11 (by kernel_rfl)
                  have f12 := hold 12 (by kernel_rfl)
                  have f13 := hold 13 (by kernel_rfl)
                  have f14 := hold 14 (by kernel_rfl)
                  have f15 := hold 15 (by kernel_rfl)
                  have f16 := hold 16 (by kernel_rfl)
                  have f17 := hold 17 (by kernel_rfl)
                  have f18 := hold 18 (by kernel_rfl)
                  have f19 := hold 19 (by kernel_rfl)
                  have f20 := hold 20 (by kernel_rfl)
                  have f21 := hold 21 (by kernel_rfl)
                  have f22 := hold 22 (by kernel_rfl)
                  have f23 := hold 23 (by kernel_rfl)
                  have f24 := hold 24 (by kernel_rfl)
                  have f25 := hold 25 (by kernel_rfl)
                  have f26 := hold 26 (by kernel_rfl)
                  have f27 := hold 27 (by kernel_rfl)
                  have f28 := hold 28 (by kernel_rfl)
                  have f29 := hold 29 (by kernel_rfl)
                  have f30 := hold 30 (by kernel_rfl)
                  have f31 := hold 31 (by kernel_rfl)
                  have f32 := hold 32 (by kernel_rfl)
                  have f33 := hold 33 (by kernel_rfl)
                  have f34 := hold 34 (by kernel_rfl)
                  have f35 := hold 35 (by kernel_rfl)
                  have f36 := hold 36 (by kernel_rfl)
                  have f37 := hold 37 (by kernel_rfl)
                  have f38 := hold 38 (by kernel_rfl)
                  have f39 := hold 39 (by kernel_rfl)
                  have f40 := hold 40 (by kernel_rfl)
                  have f41 := hold 41 (by kernel_rfl)
                  have f42 := hold 42 (by kernel_rfl)
                  have f43 := hold 43 (by kernel_rfl)
                  have f44 := hold 44 (by kernel_rfl)
                  have f45 := hold 45 (by kernel_rfl)
                  have f46 := hold 46 (by kernel_rfl)
                  have f47 := hold 47 (by kernel_rfl)
                  have f48 := hold 48 (by kernel_rfl)
                  have f66 := hold 66 (by kernel_rfl)
                  have hB : b = _ := act_list b (show b.tmps.size = 67 from hsz) hdf
                  rw [hB]
                  simp only [List.range, List.range.loop, List.map_cons, List.map_nil, f0, f1, f2, f4, f5, f6, f7, f8, f9, f10, f11, f12, f13, f14, f15, f16, f17, f18, f19, f20, f21, f22, f23, f24, f25, f26, f27, f28, f29, f30, f31, f32, f33, f34, f35, f36, f37, f38, f39, f40, f41, f42, f43, f44, f45, f46, f47, f48, f66, f3]
                  generalize sl b 49 = v49, sl b 50 = v50, sl b 51 = v51, sl b 52 = v52, sl b 53 = v53, sl b 54 = v54, sl b 55 = v55, sl b 56 = v56, sl b 57 = v57, sl b 58 = v58, sl b 59 = v59, sl b 60 = v60, sl b 61 = v61, sl b 62 = v62, sl b 63 = v63, sl b 64 = v64, sl b 65 = v65
                  simp only [sl, List.getElem?_toArray, List.getElem?_cons_succ, List.getElem?_cons_zero, Option.getD_some]
                  clear hB hold hsz hdf hF f0 f1 f2 f4 f5 f6 f7 f8 f9 f10 f11 f12 f13 f14 f15 f16 f17 f18 f19 f20 f21 f22 f23 f24 f25 f26 f27 f28 f29 f30 f31 f32 f33 f34 f35 f36 f37 f38 f39 f40 f41 f42 f43 f44 f45 f46 f47 f48 f66 f3
                  have hb9 := hbq.trans (hR.mono hbq.size)
                  have hG9 := hG.later hb9
                  have hbw9 := fin hb9 hbw
                  have ho9 : w1.ownsRow w.heap.size 3 1 v9 ((zs.take k) ++ [sh] ++ (zs.drop k)).length (((zs.take k) ++ [sh] ++ (zs.drop k)).map iv) := by
                    have := own_low o3 (Nat.le_trans hbw.size hbq.size)
                    have e : ((zs.take k) ++ [sh] ++ (zs.drop k)).length = nz + 1 := by simp <;> omega
                    rw [e]
                    simpa using this
                  clear o3 hR
                  go_wp2
                  go_roundw
                  case rel => exact ⟨m + 1, (zs.take k) ++ [sh] ++ (zs.drop k), by omega, by go_num, by simp <;> omega, ho9, ins_rises hpw hkz hgt, hadd _ (fun y => ins_mem y), hbw9, hG9⟩
                  case measure => simp [intOf]; omega
          · have hkni : ¬ (k : Int) < nz := by omega
            have hkeq : ((k : Int) == nz) = true := by simp; omega
            go_wp2
            go_quiet (fail)
            go_wp2
            go_quiet (fail)
            go_upto_region 9 with fail
            have hgt : ∀ y ∈ zs.drop k, sh < y := by rw [List.drop_of_length_le (by omega)]; simp
            have hkc : (k : Int) ≤ cz := by omega
            refine gen_world (below_drewN (below_drewN hbk _) _) ?_
            intro wq hbq
            have hGq := hG.later hbq
            have hsq := cell_below hbq hsc (block_lt hsc)
            have hintq : ∀ j z, zs[j]? = some z → wq.cell? ⟨g, j, none⟩ = some (.int .i64 z) := fun j z hz => cell_below hbq (hints j z hz) (block_lt (hints j z hz))
            obtain ⟨X15, hkz15, hX15⟩ := drop_at15 (cz := cz) (k := k) hintq (show zs.length ≤ cz by omega)
            refine wp_region_used 17 shU (fun w1 => Below wq.heap.size wq w1) shS (shF (.slice (some ⟨g, 0, none⟩) nz cz) (.slice (some ⟨g, 0, none⟩) k cz) (.slice (some X15) (nz - k) (cz - k)) k m w.heap.size PB po n c wq.heap.size (nz + 1) sh ((zs.take k).map iv) ((zs.drop k).map iv)) (by kernel_rfl) (by kernel_rfl) (Below.refl _ _).drew (shF_keep _ _ _ _ _ _ _ _ _ _ _ _ _ _ _ (by omega) (by kernel_rfl) (by kernel_rfl) (by kernel_rfl) (fun i hi => by rcases hi with rfl | rfl | rfl <;> kernel_rfl)) ?step ?rest
            case step =>
              intro i o d ho hd b w1 hR hold hdep
              have o1 : sl b 1 = .pointer (some ⟨w.heap.size, 0, none⟩) := hold 1 (by kernel_rfl)
              have o3 : sl b 3 = .slice (some ⟨g, 0, none⟩) nz cz := hold 3 (by kernel_rfl)
              have o4 : sl b 4 = .int .i64 m := hold 4 (by kernel_rfl)
              have o5 : sl b 5 = .int .i64 k := hold 5 (by kernel_rfl)
              have hb0 := Below.refl w1.heap.size w1
              have gq1 := (hGq.later hR).cell1
              have hs1 := cell_below hR hsq (block_lt hsq)
              have hRs := hR.size
              rcases i with _ | _ | _ | _ | _ | _ | _ | _ | _ | _ | _ | _ | _ | _ | _ | _ | _ | _ | i
              all_goals try (cases ho; cases hd)
              · exact ok_valS rfl rfl (want_none rfl b) (by simp [go_sem]; first | done | exact ⟨rfl, rfl⟩) (hR.alloc hR.size _) (hb0.alloc (Nat.le_refl _) _) ⟨_, rfl, hRs, heap_alloc_new _ _⟩
              · exact ok_valS rfl rfl (want_none rfl b) (by simp [go_sem, o3]) hR hb0 rfl
              · exact ok_valS rfl rfl (want_none rfl b) (by simp [go_sem, o5]) hR hb0 rfl
              · have f50 : sl b 50 = .slice (some ⟨g, 0, none⟩) nz cz := hdep 1 _ _ rfl rfl (by kernel_rfl) (.inl rfl)
                have f51 : sl b 51 = .int .i64 k := hdep 2 _ _ rfl rfl (by kernel_rfl) (.inl rfl)
                exact ok_valS rfl rfl (want_none rfl b) (by simp [go_sem, f50, f51, hkc, hk0]) hR hb0 rfl
              · obtain ⟨B, f49, hB, hh⟩ : ∃ B, sl b 49 = .slice (some ⟨B, 0, none⟩) 0 0 ∧ wq.heap.size ≤ B ∧ w1.heap[B]? = some (.cells #[] 3 (0, 0)) := hdep 0 _ _ rfl rfl (by kernel_rfl) (.inr rfl)
                have f52 : sl b 52 = .slice (some ⟨g, 0, none⟩) k cz := hdep 3 _ _ rfl rfl (by kernel_rfl) (.inl rfl)
                have hnw : ∀ j u, ((zs.take k).map iv)[j]? = some u → w1.cell? ((⟨g, 0, none⟩ : Addr).add j) = some u := fun j u hu => news_at (fun j z hz => cell_below hR (hintq j z hz) (block_lt (hintq j z hz))) hu
                refine ok_atS rfl rfl (want_none rfl b) (okAt_append (.tmp 49) (.tmp 52) 27 rfl wq.heap.size 3 i0 (.int .i64 0) 1 8 Try.underlying27 hi hz0 hz1 hz2 rfl (by decide) _ 0 [] (by simpa [go_sem] using f49) (show w1.ownsRow wq.heap.size 3 1 (.slice (some ⟨B, 0, none⟩) 0 0) 0 [] from ⟨rfl, .inr ⟨B, 0, #[], rfl, hB, hh, Nat.le_refl _, Nat.zero_le _, rfl, rfl⟩⟩) ⟨g, 0, none⟩ k _ ((zs.take k).map iv) (by simpa [go_sem] using f52) (by simp; omega) hnw (ints_one _) (by unfold maxLen; omega) (by omega) hRs ?_)
                intro v' w2 hown hgrow hat
                exact ⟨hR.grown hgrow hRs (fun j hj => by cases hj; exact hB), ⟨_, hgrow, fun b hb => by cases hb; exact hh⟩, by rw [Nat.zero_add, List.nil_append] at hown; exact hown⟩
              · exact ok_valS rfl rfl (want_none rfl b) (by simp [go_sem, o1]) hR hb0 rfl
              · have f54 : sl b 54 = .pointer (some ⟨w.heap.size, 1, none⟩) := hdep 5 _ _ rfl rfl (by kernel_rfl) (.inl rfl)
                exact ok_valS rfl rfl (want_none rfl b) (by simp [go_sem, f54, gq1]) hR hb0 rfl
              · exact ok_valS rfl rfl (want_none rfl b) (by simp [go_sem, o4]) hR hb0 rfl
              · have f55 : sl b 55 = .slice (some ⟨PB, po, none⟩) n c := hdep 6 _ _ rfl rfl (by kernel_rfl) (.inl rfl)
                have f56 : sl b 56 = .int .i64 m := hdep 7 _ _ rfl rfl (by kernel_rfl) (.inl rfl)
                exact ok_valS rfl rfl (want_none rfl b) (by simp [go_sem, f55, f56, hmn]) hR hb0 rfl
              · have f57 : sl b 57 = .pointer (some ⟨PB, po + m * 7, none⟩) := hdep 8 _ _ rfl rfl (by kernel_rfl) (.inl rfl)
                exact ok_valS rfl rfl (want_none rfl b) (by simp [go_sem, f57]) hR hb0 rfl
              · have f58 : sl b 58 = .pointer (some ⟨PB, po + m * 7 + 1, none⟩) := hdep 9 _ _ rfl rfl (by kernel_rfl) (.inl rfl)
                exact ok_valS rfl rfl (want_none rfl b) (by simp [go_sem, f58, hs1]) hR hb0 rfl
              · have f59 : sl b 59 = .int .i64 sh := hdep 10 _ _ rfl rfl (by kernel_rfl) (.inl rfl)
                exact ok_valS rfl rfl (want_none rfl b) (by simp [go_sem, f59]; first | done | exact ⟨rfl, rfl⟩) (hR.alloc hR.size _) (hb0.alloc (Nat.le_refl _) _) ⟨_, rfl, heap_alloc_new _ _⟩
              · have o53 : w1.ownsRow wq.heap.size 3 1 (sl b 53) k ((zs.take k).map iv) := hdep 4 _ _ rfl rfl (by kernel_rfl) (.inr rfl)
                obtain ⟨D, f60, hD⟩ : ∃ D, sl b 60 = .slice (some ⟨D, 0, none⟩) 1 1 ∧ w1.heap[D]? = some (.cells #[.int .i64 sh] 3 (0, 0)) := hdep 11 _ _ rfl rfl (by kernel_rfl) (.inr rfl)
                have hnw : ∀ j u, ([.int .i64 sh] : List Value)[j]? = some u → w1.cell? ((⟨D, 0, none⟩ : Addr).add j) = some u := fun j u hu => by
                  cases j with
                  | zero => simp at hu; subst hu; simp [Addr.add, World.cell?, hD]
                  | succ j => simp at hu
                refine ok_atS rfl rfl (want_none rfl b) (okAt_append (.tmp 53) (.tmp 60) 27 rfl wq.heap.size 3 i0 (.int .i64 0) 1 8 Try.underlying27 hi hz0 hz1 hz2 rfl (by decide) (sl b 53) k ((zs.take k).map iv) (by simp [go_sem]) o53 ⟨D, 0, none⟩ 1 1 [.int .i64 sh] (by simpa [go_sem] using f60) rfl hnw (by intro u hu; simp at hu; subst hu; rfl) (by unfold maxLen; omega) (by omega) hRs ?_)
                intro v' w2 hown hgrow hat
                exact ⟨hR.grown hgrow hRs (fun j hj => (o53.lt j hj).1), trivial, hown⟩
              · exact ok_valS rfl rfl (want_none rfl b) (by simp [go_sem, o3]) hR hb0 rfl
              · exact ok_valS rfl rfl (want_none rfl b) (by simp [go_sem, o5]) hR hb0 rfl
              · have f62 : sl b 62 = .slice (some ⟨g, 0, none⟩) nz cz := hdep 13 _ _ rfl rfl (by kernel_rfl) (.inl rfl)
                have f63 : sl b 63 = .int .i64 k := hdep 14 _ _ rfl rfl (by kernel_rfl) (.inl rfl)
                exact ok_valS rfl rfl (want_none rfl b) (by simp [go_sem, f62, f63, hk, hk0, hkz15]) hR hb0 rfl
              · have o61 : w1.ownsRow wq.heap.size 3 1 (sl b 61) (k + 1) ((zs.take k).map iv ++ [.int .i64 sh]) := hdep 12 _ _ rfl rfl (by kernel_rfl) (.inr rfl)
                have f64 : sl b 64 = .slice (some X15) (nz - k) (cz - k) := hdep 15 _ _ rfl rfl (by kernel_rfl) (.inl rfl)
                have hnw : ∀ j u, ((zs.drop k).map iv)[j]? = some u → w1.cell? (X15.add j) = some u := fun j u hu => cell_below hR (hX15 j u hu) (block_lt (hX15 j u hu))
                refine ok_atS rfl rfl (want_none rfl b) (okAt_append (.tmp 61) (.tmp 64) 27 rfl wq.heap.size 3 i0 (.int .i64 0) 1 8 Try.underlying27 hi hz0 hz1 hz2 rfl (by decide) (sl b 61) (k + 1) _ (by simp [go_sem]) o61 X15 (nz - k) _ ((zs.drop k).map iv) (by simpa [go_sem] using f64) (by simp; omega) hnw (ints_one _) (by unfold maxLen; omega) (by omega) hRs ?_)
                intro v' w2 hown hgrow hat
                exact ⟨hR.grown hgrow hRs (fun j hj => (o61.lt j hj).1), ⟨_, hgrow, fun b hb => own_full o61 (by omega) b hb⟩, by rw [show k + 1 + (nz - k) = nz + 1 by omega] at hown; exact hown⟩
              · have o65 : w1.ownsRow wq.heap.size 3 1 (sl b 65) (nz + 1) ((zs.take k).map iv ++ [.int .i64 sh] ++ (zs.drop k).map iv) := hdep 16 _ _ rfl rfl (by kernel_rfl) (.inr rfl)
                exact ok_valS (v := sl b 65) rfl rfl (want_none rfl b) (by rcases o65.2 with ⟨e, _⟩ | ⟨_, _, _, e, _⟩ <;> simp [go_sem, e]) hR hb0 o65
              · cases ho
            case rest =>
              intro b w1 hR hsz hdf hold hF
              have o3 : w1.ownsRow wq.heap.size 3 1 (sl b 3) (nz + 1) ((zs.take k).map iv ++ [.int .i64 sh] ++ (zs.drop k).map iv) := hF 17 _ _ rfl rfl rfl
              obtain ⟨v9, f3⟩ : ∃ v9, sl b 3 = v9 := ⟨_, rfl⟩
              rw [f3] at o3
              have f0 := hold 0 (by kernel_rfl)
              have f1 := hold 1 (by kernel_rfl)
              have f2 := hold 2 (by kernel_rfl)
              have f4 := hold 4 (by kernel_rfl)
              have f5 := hold 5 (by kernel_rfl)
              have f6 := hold 6 (by kernel_rfl)
              have f7 := hold 7 (by kernel_rfl)
              have f8 := hold 8 (by kernel_rfl)
              have f9 := hold 9 (by kernel_rfl)
              have f10 := hold 10 (by kernel_rfl)
              have f11 := hold 11 (by kernel_rfl)
              have f12 := hold 12 (by kernel_rfl)
              have f13 := hold 13 (by kernel_rfl)
              have f14 := hold 14 (by kernel_rfl)
              have f15 := hold 15 (by kernel_rfl)
              have f16 := hold 16 (by kernel_rfl)
              have f17 := hold 17 (by kernel_rfl)
              have f18 := hold 18 (by kernel_rfl)
              have f19 := hold 19 (by kernel_rfl)
              have f20 := hold 20 (by kernel_rfl)
              have f21 := hold 21 (by kernel_rfl)
              have f22 := hold 22 (by kernel_rfl)
              have f23 := hold 23 (by kernel_rfl)
              have f24 := hold 24 (by kernel_rfl)
              have f25 := hold 25 (by kernel_rfl)
              have f26 := hold 26 (by kernel_rfl)
              have f27 := hold 27 (by kernel_rfl)
              have f28 := hold 28 (by kernel_rfl)
              have f29 := hold 29 (by kernel_rfl)
              have f30 := hold 30 (by kernel_rfl)
              have f31 := hold 31 (by kernel_rfl)
              have f32 := hold 32 (by kernel_rfl)
              have f33 := hold 33 (by kernel_rfl)
              have f34 := hold 34 (by kernel_rfl)
              have f35 := hold 35 (by kernel_rfl)
              have f36 := hold 36 (by kernel_rfl)
              have f37 := hold 37 (by kernel_rfl)
              have f38 := hold 38 (by kernel_rfl)
              have f39 := hold 39 (by kernel_rfl)
              have f40 := hold 40 (by kernel_rfl)
              have f41 := hold 41 (by kernel_rfl)
              have f42 := hold 42 (by kernel_rfl)
              have f43 := hold 43 (by kernel_rfl)
              have f44 := hold 44 (by kernel_rfl)
              have f45 := hold 45 (by kernel_rfl)
              have f46 := hold 46 (by kernel_rfl)
              have f47 := hold 47 (by kernel_rfl)
              have f48 := hold 48 (by kernel_rfl)
              have f66 := hold 66 (by kernel_rfl)
              have hB : b = _ := act_list b (show b.tmps.size = 67 from hsz) hdf
              rw [hB]
              simp only [List.range, List.range.loop, List.map_cons, List.map_nil, f0, f1, f2, f4, f5, f6, f7, f8, f9, f10, f11, f12, f13, f14, f15, f16, f17, f18, f19, f20, f21, f22, f23, f24, f25, f26, f27, f28, f29, f30, f31, f32, f33, f34, f35, f36, f37, f38, f39, f40, f41, f42, f43, f44, f45, f46, f47, f48, f66, f3]
              generalize sl b 49 = v49, sl b 50 = v50, sl b 51 = v51, sl b 52 = v52, sl b 53 = v53, sl b 54 = v54, sl b 55 = v55, sl b 56 = v56, sl b 57 = v57, sl b 58 = v58, sl b 59 = v59, sl b 60 = v60, sl b 61 = v61, sl b 62 = v62, sl b 63 = v63, sl b 64 = v64, sl b 65 = v65
              simp only [sl, List.getElem?_toArray, List.getElem?_cons_succ, List.getElem?_cons_zero, Option.getD_some]
              clear hB hold hsz hdf hF f0 f1 f2 f4 f5 f6 f7 f8 f9 f10 f11 f12 f13 f14 f15 f16 f17 f18 f19 f20 f21 f22 f23 f24 f25 f26 f27 f28 f29 f30 f31 f32 f33 f34 f35 f36 f37 f38 f39 f40 f41 f42 f43 f44 f45 f46 f47 f48 f66 f3
              have hb9 := hbq.trans (hR.mono hbq.size)
              have hG9 := hG.later hb9
              have hbw9 := fin hb9 hbw
              have ho9 : w1.ownsRow w.heap.size 3 1 v9 ((zs.take k) ++ [sh] ++ (zs.drop k)).length (((zs.take k) ++ [sh] ++ (zs.drop k)).map iv) := by
                have := own_low o3 (Nat.le_trans hbw.size hbq.size)
                have e : ((zs.take k) ++ [sh] ++ (zs.drop k)).length = nz + 1 := by simp <;> omega
                rw [e]
                simpa using this
              clear o3 hR
              go_wp2
              go_roundw
              case rel => exact ⟨m + 1, (zs.take k) ++ [sh] ++ (zs.drop k), by omega, by go_num, by simp <;> omega, ho9, ins_rises hpw hkz hgt, hadd _ (fun y => ins_mem y), hbw9, hG9⟩
              case measure => simp [intOf]; omega
    · go_wp2
      go_ret
      obtain rfl : m = n := by omega
      rw [← hl, List.take_length] at hmem
      exact ⟨_, zs, rfl, hrow, hpw, hmem, by omega, hbw⟩

end Go.Proofs.Ytgcicillmljglaa
