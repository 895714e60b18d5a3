/- The statements' own Make: a record that is prepared. -/
import Derived.Test.YtmldpihjndafaabDoorUY
import Derived.Test.YtmldpihjndafaabDoorRU
import Derived.Maps.AppendAt
namespace Go.Proofs.YtmldpihjndafaabDoor
open Go.RowKit Go.Maps
set_option linter.unusedSimpArgs false
set_option linter.unusedVariables false

section
variable {P : Program} {o : Oper} {a : Act} {w w2 : World} {K : Value → World → Prop}
theorem okAt_val {v : Value} (hrun : (execOp a.eval o).run P w = .ok (.value v) w2) (h : K v w2) : okAt P o a w K := by
  unfold okAt
  rw [hrun]
  exact h
theorem okAt_skip (hrun : (execOp a.eval o).run P w = .ok .skip w2) (h : K undef w2) : okAt P o a w K := by
  unfold okAt
  rw [hrun]
  exact h
theorem okAt_append (s x : Operand) (t : TypeId) (ho : o.op = .call { callee := .builtin .append, args := #[s, x], argTypes := #[t, t] })
    (base : Nat) (e : TypeId) (i : TypeInfo) (z : Value) (size bytes : Nat) (ht : P.underlying t = some (.slice e)) (hi : P.info? e = some i) (hz : i.zero = some z)
    (hsize : i.size = size) (hby : i.bytes = bytes) (hzs : z.cells.size = size) (hsz : 0 < size)
    (v : Value) (n : Nat) (xs : List Value) (hs : a.eval s = v) (hown : w.ownsRow base e size v n xs)
    (ad : Addr) (m c : Nat) (news : List Value) (hx : a.eval x = .slice (some ad) m c) (hl : news.length = m * size) (hnews : ∀ j u, news[j]? = some u → w.cell? (ad.add j) = some u) (h1 : ∀ u ∈ news, u.oneCell' = true)
    (h63 : n + m ≤ maxLen) (hbytes : (n + m) * bytes ≤ 140737488355328) (hbase : base ≤ w.heap.size)
    (h : ∀ v' w', w'.ownsRow base e size v' (n + m) (xs ++ news) → w.grownBy w' v.ownBlock → (v'.ownBlock = v.ownBlock ∨ v'.ownBlock = some w.heap.size) → K v' w') : okAt P o a w K := by
  obtain ⟨v', w', hr, h2, h3, h4, h5⟩ := run_append_own_at (P := P) w base t o.type e i z size bytes ht hi hz hsize hby hzs hsz v n xs hown ad m c news hl hnews h1 h63 hbytes hbase
  unfold okAt execOp
  simp only [ho, resolve, invoke, builtin, Sem.run_bind, Sem.run_pure, Result.andThen_ok, List.map_toArray, List.map_cons, List.map_nil, hs, hx, hr, okUpon]
  exact h v' w' h2 h3 h5
end


theorem cfN (args : Array Value) (w : World) : (callFunc 19 args).run Tryd.prog w = .ok (.enter 19 args) w := by kernel_rfl
theorem cfW (args : Array Value) (w : World) : (callFunc 17 args).run Tryd.prog w = .ok (.enter 17 args) w := by kernel_rfl

/-- A pod's name by its place. -/
def podN (i : Nat) : ByteArray := (⟨#[112]⟩ : ByteArray) ++ (⟨#[UInt8.ofNat (97 + i)]⟩ : ByteArray)
/-- The place of a number. -/
def placeM (i : Nat) (z : Int) : PlaceB := ⟨podN i, nameAt z, (wrap64 (z.tdiv 8) % 1099511627777).toNat, (z % 9).toNat, wrap64 (z.tdiv 3) % 3 == 0⟩
/-- The number at a place. -/
def numAt (len : Nat) (zs : List Int) (i : Nat) : Int := if i < len then zs.getD i 0 else i
/-- The first of the places. -/
def placesTo (len : Nat) (zs : List Int) : Nat → List PlaceB
  | 0 => []
  | m + 1 => placesTo len zs m ++ [placeM m (numAt len zs m)]
/-- How many there are. -/
def placesN (len : Nat) : Nat := if len = 0 then 1 else min 8 len
theorem placesTo_len (len : Nat) (zs : List Int) : ∀ m, (placesTo len zs m).length = m
  | 0 => rfl
  | m + 1 => by simp [placesTo, placesTo_len len zs m]

/-- A block's cells. -/
def NewC (w : World) (D : Nat) (l : List Value) : Prop := ∀ j y, l[j]? = some y → w.cell? ((⟨D, 0, none⟩ : Addr).add j) = some y
theorem NewC.later {w w' : World} {D : Nat} {l : List Value} (h : NewC w D l) (hb : Below w.heap.size w w') : NewC w' D l := fun j y hj => cell_below hb (h j y hj) (block_lt (h j y hj))
theorem NewC.made (w : World) (l : List Value) (t : TypeId) : NewC (w.alloc (.cells l.toArray t)) w.heap.size l := fun j y hj => by
  have := (Box.new w l.toArray t rfl).cell (i := j) (v := y) (by simpa using hj)
  rcases j with _ | j
  · simpa [Addr.add] using this
  · simpa [Addr.add] using this

theorem conv_at (w : World) (D m : Nat) (mi : Int) (hmi : mi = m) (hm : m < 100) (h : NewC w D [.int .u8 (97 + mi)]) : (convert 54 9 (.slice (some ⟨D, 0, none⟩) 1 1)).run Tryd.prog w = .ok (.string ⟨#[UInt8.ofNat (97 + m)]⟩) w := by
  subst hmi
  refine run_convert_bytes_back (P := Tryd.prog) w 54 9 5 ⟨D, 0, none⟩ 1 [UInt8.ofNat (97 + m)] Tryd.underlying54 Tryd.underlying5 Tryd.underlying9 ?_
  intro j hj
  have : j = 0 := by simp at hj; omega
  subst this
  have h0 := h 0 _ rfl
  rw [h0]
  simp
  omega

theorem wr64 (x : Int) : IntKind.i64.wrap x = wrap64 x := by
  simp [IntKind.wrap, IntKind.bits, IntKind.signed, wrap64]
  try omega
theorem wB (z : Int) (h : 0 ≤ z ∧ z < 200) : IntKind.u8.wrap z = z := by
  simp [IntKind.wrap, IntKind.signed, IntKind.bits]; omega

def makeF (R m : Nat) (mi z : Int) (nm : ByteArray) (c8 c9 c3 : Nat) (al : Bool) (v : Value) : Nat → Value → World → Prop
  | 0, u, _ => u = .pointer (some ⟨R, 3, none⟩)
  | 1, u, _ => u = v
  | 2, u, _ => u = .int .i64 mi
  | 3, u, _ => u = .int .i64 (97 + mi)
  | 4, u, _ => u = .int .u8 (97 + mi)
  | 5, u, w => ∃ D, u = .slice (some ⟨D, 0, none⟩) 1 1 ∧ NewC w D [.int .u8 (97 + mi)]
  | 6, u, _ => u = .string ⟨#[UInt8.ofNat (97 + m)]⟩
  | 7, u, _ => u = .string (podN m)
  | 8, u, _ => u = .int .i64 z
  | 9, u, _ => u = .string nm
  | 10, u, _ => u = .int .i64 z
  | 11, u, _ => u = .int .i64 (wrap64 (z.tdiv 8))
  | 12, u, _ => u = .int .i64 c8
  | 13, u, _ => u = .int .i64 z
  | 14, u, _ => u = .int .i64 c9
  | 15, u, _ => u = .agg #[.int .i64 c8, .int .i64 c9]
  | 16, u, _ => u = .int .i64 z
  | 17, u, _ => u = .int .i64 (wrap64 (z.tdiv 3))
  | 18, u, _ => u = .int .i64 c3
  | 19, u, _ => u = .bool al
  | 20, u, _ => u = .agg #[.string (podN m), .string nm, .int .i64 c8, .int .i64 c9, .bool al]
  | 21, u, w => ∃ D, u = .slice (some ⟨D, 0, none⟩) 1 1 ∧ NewC w D [.string (podN m), .string nm, .int .i64 c8, .int .i64 c9, .bool al]
  | _, _, _ => True

set_option maxRecDepth 100000 in
set_option maxHeartbeats 8000000 in
theorem make_three (kind gang name : Int) (a : Option Addr) (len cap : Nat) (zs : List Int) (g : Nat) (w : World) (hrow : HasRow w a len zs) (hk : kind % 7 = 2) (hg : gang % 999999 = g) :
    Calls Tryd.prog 7 #[.int .i64 kind, .int .i64 gang, .slice a len cap, .int .i64 name] w fun e w' => ∃ a1 c1 a2 c2, e = .returned (.agg #[.int .i64 3, .int .i64 (1 + (g : Int)), .slice a1 (peersTo name 4).length c1, .slice a2 (placesN len) c2, .string ⟨#[]⟩, .int .i64 0, .int .i64 0, .slice none 0 0, .slice none 0 0, .bool false]) ∧ w'.ownsRow w.heap.size 3 1 (.slice a1 (peersTo name 4).length c1) (peersTo name 4).length ((peersTo name 4).map natV) ∧ w'.ownsRow w.heap.size 56 5 (.slice a2 (placesN len) c2) (placesN len) ((placesTo len zs (placesN len)).flatMap placeCells) ∧ Below w.heap.size w w' := by
  have hl0 : len ≤ 9223372036854775807 := hrow.1
  obtain ⟨fn, hfn⟩ : ∃ fn, firstN len zs = fn := ⟨_, rfl⟩
  have hfn' : Hid (firstN len zs = fn) := hfn
  have hg9 : g < 999999 := by omega
  clear hfn
  have kp := fun Wx => lPeers_any name Wx
  obtain ⟨ps, hps⟩ : ∃ ps, peersTo name 4 = ps := ⟨_, rfl⟩
  rw [hps] at kp ⊢
  obtain ⟨pn, hpn⟩ : ∃ pn, ps.length = pn := ⟨_, rfl⟩
  rw [hpn] at kp ⊢
  obtain ⟨N, hN⟩ : ∃ N, placesN len = N := ⟨_, rfl⟩
  rw [hN]
  have hN' : Hid (placesN len = N) := hN
  clear hps hpn hN
  go_enter Tryd.func7, Tryd.ntmps7
  go_upto_region 3 with (first
    | (go_at_call 17; refine (within4_any _ _ _ (by decide) (by decide) (by assumption) _).mono ?_; rintro e wq ⟨rfl, rfl⟩))
  have hs1 : (w.alloc (.cells #[.int .i64 0, .int .i64 0, .slice none 0 0, .slice none 0 0, .string ⟨#[]⟩, .int .i64 0, .int .i64 0, .slice none 0 0, .slice none 0 0, .bool false] 35)).heap.size = w.heap.size + 1 := by simp
  have q8 : Box ((w.alloc (.cells #[.int .i64 0, .int .i64 0, .slice none 0 0, .slice none 0 0, .string ⟨#[]⟩, .int .i64 0, .int .i64 0, .slice none 0 0, .slice none 0 0, .bool false] 35)).alloc (.cells #[.int .i64 3, .int .i64 (1 + (g : Int)), .slice none 0 0, .slice none 0 0, .string ⟨#[]⟩, .int .i64 0, .int .i64 0, .slice none 0 0, .slice none 0 0, .bool false] 35)) w.heap.size #[.int .i64 0, .int .i64 0, .slice none 0 0, .slice none 0 0, .string ⟨#[]⟩, .int .i64 0, .int .i64 0, .slice none 0 0, .slice none 0 0, .bool false] 35 := (Box.new w _ _ rfl).up _
  have q9 : Box ((w.alloc (.cells #[.int .i64 0, .int .i64 0, .slice none 0 0, .slice none 0 0, .string ⟨#[]⟩, .int .i64 0, .int .i64 0, .slice none 0 0, .slice none 0 0, .bool false] 35)).alloc (.cells #[.int .i64 3, .int .i64 (1 + (g : Int)), .slice none 0 0, .slice none 0 0, .string ⟨#[]⟩, .int .i64 0, .int .i64 0, .slice none 0 0, .slice none 0 0, .bool false] 35)) (w.heap.size + 1) #[.int .i64 3, .int .i64 (1 + (g : Int)), .slice none 0 0, .slice none 0 0, .string ⟨#[]⟩, .int .i64 0, .int .i64 0, .slice none 0 0, .slice none 0 0, .bool false] 35 := Box.new _ _ _ hs1
  have hb0 : Below w.heap.size w ((w.alloc (.cells #[.int .i64 0, .int .i64 0, .slice none 0 0, .slice none 0 0, .string ⟨#[]⟩, .int .i64 0, .int .i64 0, .slice none 0 0, .slice none 0 0, .bool false] 35)).alloc (.cells #[.int .i64 3, .int .i64 (1 + (g : Int)), .slice none 0 0, .slice none 0 0, .string ⟨#[]⟩, .int .i64 0, .int .i64 0, .slice none 0 0, .slice none 0 0, .bool false] 35)) := up (up (Below.refl _ _) _) _
  obtain ⟨W, hW⟩ : ∃ W, (w.alloc (.cells #[.int .i64 0, .int .i64 0, .slice none 0 0, .slice none 0 0, .string ⟨#[]⟩, .int .i64 0, .int .i64 0, .slice none 0 0, .slice none 0 0, .bool false] 35)).alloc (.cells #[.int .i64 3, .int .i64 (1 + (g : Int)), .slice none 0 0, .slice none 0 0, .string ⟨#[]⟩, .int .i64 0, .int .i64 0, .slice none 0 0, .slice none 0 0, .bool false] 35) = W := ⟨_, rfl⟩
  rw [hW] at q8 q9 hb0 ⊢
  clear hW hs1 hk hg
  have q8c := RecBox.cells q8
  have q9c := RecBox.cells q9
  by_cases h0 : len = 0
  · have hl1 : ¬ ((0 : Int) < len) := by omega
    have e5 : fn = 5 := by have := hfn'.out; rw [firstN, if_pos h0] at this; exact this.symm
    subst e5
    have h0' : Hid (len = 0) := h0
    have hrow0 := hrow
    clear hrow hfn'
    obtain ⟨y0, y1, y2, y3, y4, y5, y6, y7, y8, y9⟩ := q9c
    obtain ⟨x0, x1, x2, x3, x4, x5, x6, x7, x8, x9⟩ := q8c
    go_upto_region 12 with (go_at_call 20; refine (kp _).mono ?_
                            rintro e w3 ⟨v3, rfl, ho3, hb3⟩
                            obtain ⟨a1, c1, rfl⟩ := slice_of_own ho3
                            have r8 := q8.later hb3
                            have r9 := q9.later hb3
                            have hb03 := fin hb3 hb0
                            obtain ⟨z0, z1, z2, z3, z4, z5, z6, z7, z8, z9⟩ := RecBox.cells r9
                            have g2 := r9.frozen 2)
    have hWs := q9.lt
    have s8 := r8.other (by omega : w.heap.size ≠ w.heap.size + 1) 2 (.slice a1 pn c1)
    have s9 := r9.set 2 (.slice a1 pn c1)
    have hb4 := hb03.setCell (p := ⟨w.heap.size + 1, 2, none⟩) (Nat.le_succ _) (.slice a1 pn c1)
    have ho4 := own_low (own_other ho3 (b := w.heap.size + 1) hWs 2 (.slice a1 pn c1)) (by omega : w.heap.size + 2 ≤ _)
    have hWs4 : w.heap.size + 2 ≤ (w3.setCell ⟨w.heap.size + 1, 2, none⟩ (.slice a1 pn c1)).heap.size := by have := hb3.size; simp; omega
    generalize w3.setCell ⟨w.heap.size + 1, 2, none⟩ (.slice a1 pn c1) = W4 at *
    clear x0 x1 x2 x3 x4 x5 x6 x7 x8 x9 y0 y1 y2 y3 y4 y5 y6 y7 y8 y9 z0 z1 z2 z3 z4 z5 z6 z7 z8 z9 g2 q8 q9 r8 r9 ho3 hb3 hb03
    obtain ⟨i0, hi, hz0, hz1, hz2⟩ := info_parts infoPlace
    obtain ⟨R, hR0⟩ : ∃ R, w.heap.size + 1 = R := ⟨_, rfl⟩
    rw [hR0] at s9 ⊢
    go_wp2
    go_loopw [11] (fun i wr => ∃ m : Nat, m ≤ 8 ∧ i = .int .i64 m ∧ ∃ v, Box wr R #[.int .i64 3, .int .i64 (1 + (g : Int)), .slice a1 pn c1, v, .string ⟨#[]⟩, .int .i64 0, .int .i64 0, .slice none 0 0, .slice none 0 0, .bool false] 35 ∧ Box wr w.heap.size #[.int .i64 0, .int .i64 0, .slice none 0 0, .slice none 0 0, .string ⟨#[]⟩, .int .i64 0, .int .i64 0, .slice none 0 0, .slice none 0 0, .bool false] 35 ∧ wr.ownsRow (w.heap.size + 2) 56 5 v m ((placesTo len zs m).flatMap placeCells) ∧ wr.ownsRow (w.heap.size + 2) 3 1 (.slice a1 pn c1) pn (ps.map natV) ∧ (m ≤ len ∨ m = 1) ∧ Below w.heap.size w wr ∧ w.heap.size + 2 ≤ wr.heap.size) (fun i _ => 8 - (intOf i).toNat)
    case atStart => exact ⟨0, by omega, rfl, .slice none 0 0, s9, s8, World.ownsRow_nil _ _ _ _, ho4, .inl (Nat.zero_le _), hb4, hWs4⟩
    case round =>
      obtain ⟨m, hm, rfl, v, hX, hA, hrow, hpo, hml, hbw, hws⟩ := hrel
      have hneR : some R ≠ v.ownBlock := fun e => by have := (hrow.lt _ e.symm).1; omega
      have hneA : some w.heap.size ≠ v.ownBlock := fun e => by have := (hrow.lt _ e.symm).1; omega
      obtain ⟨qs, hqs⟩ : ∃ qs, (placesTo len zs m).flatMap placeCells = qs := ⟨_, rfl⟩
      rw [hqs] at hrow
      by_cases hm0 : m = 0
      · have hmb : ((m : Int) == 0) = true := by simp [hm0]
        have hml1 : ¬ ((m : Int) < len) := by omega
        have hm8 : (m : Int) < 8 := by omega
        have hm00 : Hid (m = 0) := hm0
        clear hm0 hml
        go_upto_region 18 with fail
        generalize hzm : (m : Int) = z at *
        have hmi : Hid (z = (m : Int)) := hzm.symm
        have hnum : Hid (numAt len zs m = z) := by show _ = _; unfold numAt; rw [if_neg (by omega)]; exact hzm
        have hn : numAt len zs m = z := hnum.out
        obtain ⟨nm, hnm⟩ : ∃ nm, nameAt z = nm := ⟨_, rfl⟩
        obtain ⟨c8, h8⟩ : ∃ c8 : Nat, wrap64 (z.tdiv 8) % 1099511627777 = c8 := ⟨(wrap64 (z.tdiv 8) % 1099511627777).toNat, by omega⟩
        obtain ⟨c9, h9⟩ : ∃ c9 : Nat, z % 9 = c9 := ⟨(z % 9).toNat, by omega⟩
        obtain ⟨c3, h3⟩ : ∃ c3 : Nat, wrap64 (z.tdiv 3) % 3 = c3 := ⟨(wrap64 (z.tdiv 3) % 3).toNat, by omega⟩
        obtain ⟨al, hal⟩ : ∃ al : Bool, ((c3 : Int) == 0) = al := ⟨_, rfl⟩
        have kn := fun w1 => lName_is z nm w1 w1 (Below.refl _ _) hnm
        have hpl : Hid (placesTo len zs (m + 1) = placesTo len zs m ++ [(⟨podN m, nm, c8, c9, al⟩ : PlaceB)]) := by
          show _ = _
          rw [placesTo, hn, placeM, hnm, h8, h9, h3, hal]
          rfl
        have hw97 : IntKind.i64.wrap (97 + z) = 97 + z := w64 _ (by have := hmi.out; omega) (by have := hmi.out; omega)
        have hu97 : IntKind.u8.wrap (97 + z) = 97 + z := wB _ (by have := hmi.out; omega)
        have hsz1 : (⟨#[UInt8.ofNat (97 + m)]⟩ : ByteArray).size = 1 := rfl
        refine wp_region_rely_upto 22 3 (fun w1 => Below wr.heap.size wr w1) (fun w1 w2 => Below w1.heap.size w1 w2) (makeF R m z z nm c8 c9 c3 al v) (by kernel_rfl) (by kernel_rfl) (by kernel_rfl) (Below.refl _ _).drew ?keep ?step ?rest
        case keep =>
          intro i v w1 w2 hS hF
          unfold makeF at *
          split at hF <;> try exact hF
          · obtain ⟨D, hv, h1⟩ := hF
            exact ⟨D, hv, h1.later hS⟩
          · obtain ⟨D, hv, h1⟩ := hF
            exact ⟨D, hv, h1.later hS⟩
        case step =>
          intro i o d hi ho hd b w1 hR hold hdep
          have o9 : sl b 9 = .pointer (some ⟨R, 0, none⟩) := hold 9 (by kernel_rfl)
          have o11 : sl b 11 = .int .i64 z := hold 11 (by kernel_rfl)
          have o12 : sl b 12 = .int .i64 z := hold 12 (by kernel_rfl)
          have hb0 := Below.refl w1.heap.size w1
          have cR : w1.cell? ⟨R, 3, none⟩ = some v := (hX.later hR).cell rfl
          rcases i with _ | _ | _ | _ | _ | _ | _ | _ | _ | _ | _ | _ | _ | _ | _ | _ | _ | _ | _ | _ | _ | _ | i
          all_goals try (cases ho; cases hd)
          · exact ok_val' rfl rfl (want_none rfl b) (by simp [go_sem, o9]) hR hb0 rfl
          · have f70 : sl b 70 = .pointer (some ⟨R, 3, none⟩) := hdep 0 _ _ rfl rfl (by kernel_rfl)
            exact ok_val' rfl rfl (want_none rfl b) (by simp [go_sem, f70, cR]) hR hb0 rfl
          · exact ok_val' rfl rfl (want_none rfl b) (by simp [go_sem, o11]) hR hb0 rfl
          · have f72 : sl b 72 = .int .i64 z := hdep 2 _ _ rfl rfl (by kernel_rfl)
            exact ok_val' rfl rfl (want_none rfl b) (by simp [go_sem, f72, hw97]) hR hb0 rfl
          · have f73 : sl b 73 = .int .i64 (97 + z) := hdep 3 _ _ rfl rfl (by kernel_rfl)
            exact ok_val' rfl rfl (want_none rfl b) (by simp [go_sem, f73, hu97]) hR hb0 rfl
          · have f74 : sl b 74 = .int .u8 (97 + z) := hdep 4 _ _ rfl rfl (by kernel_rfl)
            exact ok_val' rfl rfl (want_none rfl b) (by simp [go_sem, f74] <;> first | rfl | exact ⟨rfl, rfl⟩) (hR.alloc hR.size _) (hb0.alloc (Nat.le_refl _) _) ⟨_, rfl, NewC.made w1 [.int .u8 (97 + z)] _⟩
          · obtain ⟨D5, f75, g75⟩ : ∃ D, sl b 75 = .slice (some ⟨D, 0, none⟩) 1 1 ∧ NewC w1 D [.int .u8 (97 + z)] := hdep 5 _ _ rfl rfl (by kernel_rfl)
            have hcv := conv_at w1 D5 m z hmi.out (by omega) g75
            exact ok_val' rfl rfl (want_none rfl b) (by simp [go_sem, f75, hcv]) hR hb0 rfl
          · have f76 : sl b 76 = .string ⟨#[UInt8.ofNat (97 + m)]⟩ := hdep 6 _ _ rfl rfl (by kernel_rfl)
            exact ok_val' rfl rfl (want_none rfl b) (by simp [go_sem, f76, hsz1, podN]) hR hb0 rfl
          · exact ok_val' rfl rfl (want_none rfl b) (by simp [go_sem, o12]) hR hb0 rfl
          · have f78 : sl b 78 = .int .i64 z := hdep 8 _ _ rfl rfl (by kernel_rfl)
            refine ok_enter' rfl rfl (want_none rfl b) ?_ ((kn w1).mono ?_)
            · simp [go_sem, f78, cfN]
            rintro e w2 ⟨rfl, hb2⟩
            exact ⟨_, rfl, hR.trans (hb2.mono hR.size), hb2, rfl⟩
          · exact ok_val' rfl rfl (want_none rfl b) (by simp [go_sem, o12]) hR hb0 rfl
          · have f80 : sl b 80 = .int .i64 z := hdep 10 _ _ rfl rfl (by kernel_rfl)
            exact ok_val' rfl rfl (want_none rfl b) (by simp [go_sem, f80, wr64]) hR hb0 rfl
          · have f81 : sl b 81 = .int .i64 (wrap64 (z.tdiv 8)) := hdep 11 _ _ rfl rfl (by kernel_rfl)
            refine ok_enter' rfl rfl (want_none rfl b) ?_ ((within4_any _ _ _ (by decide) (by decide) h8 w1).mono ?_)
            · simp [go_sem, f81, cfW]
            rintro e w2 ⟨rfl, rfl⟩
            exact ⟨_, rfl, hR, hb0, rfl⟩
          · exact ok_val' rfl rfl (want_none rfl b) (by simp [go_sem, o12]) hR hb0 rfl
          · have f83 : sl b 83 = .int .i64 z := hdep 13 _ _ rfl rfl (by kernel_rfl)
            refine ok_enter' rfl rfl (want_none rfl b) ?_ ((within4_any _ _ _ (by decide) (by decide) h9 w1).mono ?_)
            · simp [go_sem, f83, cfW]
            rintro e w2 ⟨rfl, rfl⟩
            exact ⟨_, rfl, hR, hb0, rfl⟩
          · have f82 : sl b 82 = .int .i64 c8 := hdep 12 _ _ rfl rfl (by kernel_rfl)
            have f84 : sl b 84 = .int .i64 c9 := hdep 14 _ _ rfl rfl (by kernel_rfl)
            exact ok_val' rfl rfl (want_none rfl b) (by simp [go_sem, f82, f84]) hR hb0 rfl
          · exact ok_val' rfl rfl (want_none rfl b) (by simp [go_sem, o12]) hR hb0 rfl
          · have f86 : sl b 86 = .int .i64 z := hdep 16 _ _ rfl rfl (by kernel_rfl)
            exact ok_val' rfl rfl (want_none rfl b) (by simp [go_sem, f86, wr64]) hR hb0 rfl
          · have f87 : sl b 87 = .int .i64 (wrap64 (z.tdiv 3)) := hdep 17 _ _ rfl rfl (by kernel_rfl)
            refine ok_enter' rfl rfl (want_none rfl b) ?_ ((within4_any _ _ _ (by decide) (by decide) h3 w1).mono ?_)
            · simp [go_sem, f87, cfW]
            rintro e w2 ⟨rfl, rfl⟩
            exact ⟨_, rfl, hR, hb0, rfl⟩
          · have f88 : sl b 88 = .int .i64 c3 := hdep 18 _ _ rfl rfl (by kernel_rfl)
            exact ok_val' rfl rfl (want_none rfl b) (by simp [go_sem, f88, hal]) hR hb0 rfl
          · have f77 : sl b 77 = .string (podN m) := hdep 7 _ _ rfl rfl (by kernel_rfl)
            have f79 : sl b 79 = .string nm := hdep 9 _ _ rfl rfl (by kernel_rfl)
            have f85 : sl b 85 = .agg #[.int .i64 c8, .int .i64 c9] := hdep 15 _ _ rfl rfl (by kernel_rfl)
            have f89 : sl b 89 = .bool al := hdep 19 _ _ rfl rfl (by kernel_rfl)
            exact ok_val' rfl rfl (want_none rfl b) (by simp [go_sem, f77, f79, f85, f89]) hR hb0 rfl
          · have f90 : sl b 90 = .agg #[.string (podN m), .string nm, .int .i64 c8, .int .i64 c9, .bool al] := hdep 20 _ _ rfl rfl (by kernel_rfl)
            exact ok_val' rfl rfl (want_none rfl b) (by simp [go_sem, f90] <;> first | rfl | exact ⟨rfl, rfl⟩) (hR.alloc hR.size _) (hb0.alloc (Nat.le_refl _) _) ⟨_, rfl, NewC.made w1 [.string (podN m), .string nm, .int .i64 c8, .int .i64 c9, .bool al] _⟩
          · omega
        case rest =>
          intro b w1 hR hsz hdf hold hF
          have f9 : sl b 9 = .pointer (some ⟨R, 0, none⟩) := hold 9 (by kernel_rfl)
          have f11 : sl b 11 = .int .i64 z := hold 11 (by kernel_rfl)
          have f12 : sl b 12 = .int .i64 z := hold 12 (by kernel_rfl)
          obtain ⟨D21, f91, g91⟩ : ∃ D, sl b 91 = .slice (some ⟨D, 0, none⟩) 1 1 ∧ NewC w1 D [.string (podN m), .string nm, .int .i64 c8, .int .i64 c9, .bool al] := hF 21 _ _ (by decide) rfl rfl
          have f71 : sl b 71 = v := hF 1 _ _ (by decide) rfl rfl
          have hsz' : b.tmps.size = 100 := hsz
          refine wpK_one 22 _ (by kernel_rfl) rfl (want_none rfl b) ?_
          have hrow1 := own_later hrow hR
          refine okAt_append (.tmp 71) (.tmp 91) 28 rfl (w.heap.size + 2) 56 i0 _ 5 56 Tryd.underlying28 hi hz0 hz1 hz2 rfl (by decide) v m qs (by simpa [go_sem] using f71) hrow1 ⟨D21, 0, none⟩ 1 1 [.string (podN m), .string nm, .int .i64 c8, .int .i64 c9, .bool al] (by simpa [go_sem] using f91) rfl g91 (by intro u hu; simp only [List.mem_cons, List.not_mem_nil, or_false] at hu; rcases hu with rfl | rfl | rfl | rfl | rfl <;> rfl) (by unfold maxLen; omega) (by omega) (by have := hR.size; omega) ?_
          intro v' w2 hown' hgrow hat
          have hX2 := (hX.later hR).grown hgrow hneR
          have hA2 := (hA.later hR).grown hgrow hneA
          have hpo2 := (own_later hpo hR).kept hgrow (own_apart (own_later hpo hR) hrow1 (by decide))
          have hcR : w2.cell? ⟨R, 3, none⟩ = some v := hX2.cell rfl
          have hfR := hX2.frozen 3
          have hB2 : Below w.heap.size w w2 := (hbw.trans (hR.mono hbw.size)).grown hgrow (hbw.trans (hR.mono hbw.size)).size (fun j hj => by have := (hrow.lt j hj).1; omega)
          refine ⟨trivial, wpK_one 23 _ (by kernel_rfl) rfl (want_none rfl _) ?_⟩
          refine okAt_val (w2 := w2) (v := .pointer (some ⟨R, 3, none⟩)) (by simp [go_sem, f9]) ?_
          refine ⟨trivial, wpK_one 24 _ (by kernel_rfl) rfl (want_none rfl _) ?_⟩
          refine okAt_skip (w2 := w2.setCell ⟨R, 3, none⟩ v') (by
            rcases hown'.2 with ⟨e, _⟩ | ⟨_, _, _, e, _⟩ <;> subst e <;> simp [go_sem, hsz', hcR, hfR]) ?_
          refine ⟨trivial, wpK_end (by kernel_rfl) ?_⟩
          generalize hb9 : Act.put (Act.put (Act.put b _ _) _ _) _ _ = b9
          have hb8 : (b.put (some 92) v').put (some 93) (.pointer (some ⟨R, 3, none⟩)) = b9 := hb9
          have e0 := sl_ne hb8.symm (by decide) (sl_ne rfl (by decide) (hold 0 (by kernel_rfl)))
          have e1 := sl_ne hb8.symm (by decide) (sl_ne rfl (by decide) (hold 1 (by kernel_rfl)))
          have e2 := sl_ne hb8.symm (by decide) (sl_ne rfl (by decide) (hold 2 (by kernel_rfl)))
          have e3 := sl_ne hb8.symm (by decide) (sl_ne rfl (by decide) (hold 3 (by kernel_rfl)))
          have e4 := sl_ne hb8.symm (by decide) (sl_ne rfl (by decide) (hold 4 (by kernel_rfl)))
          have e5 := sl_ne hb8.symm (by decide) (sl_ne rfl (by decide) (hold 5 (by kernel_rfl)))
          have e6 := sl_ne hb8.symm (by decide) (sl_ne rfl (by decide) (hold 6 (by kernel_rfl)))
          have e7 := sl_ne hb8.symm (by decide) (sl_ne rfl (by decide) (hold 7 (by kernel_rfl)))
          have e8 := sl_ne hb8.symm (by decide) (sl_ne rfl (by decide) (hold 8 (by kernel_rfl)))
          have e9 := sl_ne hb8.symm (by decide) (sl_ne rfl (by decide) (hold 9 (by kernel_rfl)))
          have e10 := sl_ne hb8.symm (by decide) (sl_ne rfl (by decide) (hold 10 (by kernel_rfl)))
          have e11 := sl_ne hb8.symm (by decide) (sl_ne rfl (by decide) (hold 11 (by kernel_rfl)))
          have e12 := sl_ne hb8.symm (by decide) (sl_ne rfl (by decide) (hold 12 (by kernel_rfl)))
          have e13 := sl_ne hb8.symm (by decide) (sl_ne rfl (by decide) (hold 13 (by kernel_rfl)))
          have e14 := sl_ne hb8.symm (by decide) (sl_ne rfl (by decide) (hold 14 (by kernel_rfl)))
          have e15 := sl_ne hb8.symm (by decide) (sl_ne rfl (by decide) (hold 15 (by kernel_rfl)))
          have e16 := sl_ne hb8.symm (by decide) (sl_ne rfl (by decide) (hold 16 (by kernel_rfl)))
          have e17 := sl_ne hb8.symm (by decide) (sl_ne rfl (by decide) (hold 17 (by kernel_rfl)))
          have e18 := sl_ne hb8.symm (by decide) (sl_ne rfl (by decide) (hold 18 (by kernel_rfl)))
          have e19 := sl_ne hb8.symm (by decide) (sl_ne rfl (by decide) (hold 19 (by kernel_rfl)))
          have e20 := sl_ne hb8.symm (by decide) (sl_ne rfl (by decide) (hold 20 (by kernel_rfl)))
          have e21 := sl_ne hb8.symm (by decide) (sl_ne rfl (by decide) (hold 21 (by kernel_rfl)))
          have e22 := sl_ne hb8.symm (by decide) (sl_ne rfl (by decide) (hold 22 (by kernel_rfl)))
          have e23 := sl_ne hb8.symm (by decide) (sl_ne rfl (by decide) (hold 23 (by kernel_rfl)))
          have e24 := sl_ne hb8.symm (by decide) (sl_ne rfl (by decide) (hold 24 (by kernel_rfl)))
          have e25 := sl_ne hb8.symm (by decide) (sl_ne rfl (by decide) (hold 25 (by kernel_rfl)))
          have e26 := sl_ne hb8.symm (by decide) (sl_ne rfl (by decide) (hold 26 (by kernel_rfl)))
          have e27 := sl_ne hb8.symm (by decide) (sl_ne rfl (by decide) (hold 27 (by kernel_rfl)))
          have e28 := sl_ne hb8.symm (by decide) (sl_ne rfl (by decide) (hold 28 (by kernel_rfl)))
          have e29 := sl_ne hb8.symm (by decide) (sl_ne rfl (by decide) (hold 29 (by kernel_rfl)))
          have e30 := sl_ne hb8.symm (by decide) (sl_ne rfl (by decide) (hold 30 (by kernel_rfl)))
          have e31 := sl_ne hb8.symm (by decide) (sl_ne rfl (by decide) (hold 31 (by kernel_rfl)))
          have e32 := sl_ne hb8.symm (by decide) (sl_ne rfl (by decide) (hold 32 (by kernel_rfl)))
          have e33 := sl_ne hb8.symm (by decide) (sl_ne rfl (by decide) (hold 33 (by kernel_rfl)))
          have e34 := sl_ne hb8.symm (by decide) (sl_ne rfl (by decide) (hold 34 (by kernel_rfl)))
          have e35 := sl_ne hb8.symm (by decide) (sl_ne rfl (by decide) (hold 35 (by kernel_rfl)))
          have e36 := sl_ne hb8.symm (by decide) (sl_ne rfl (by decide) (hold 36 (by kernel_rfl)))
          have e37 := sl_ne hb8.symm (by decide) (sl_ne rfl (by decide) (hold 37 (by kernel_rfl)))
          have e38 := sl_ne hb8.symm (by decide) (sl_ne rfl (by decide) (hold 38 (by kernel_rfl)))
          have e39 := sl_ne hb8.symm (by decide) (sl_ne rfl (by decide) (hold 39 (by kernel_rfl)))
          have e40 := sl_ne hb8.symm (by decide) (sl_ne rfl (by decide) (hold 40 (by kernel_rfl)))
          have e41 := sl_ne hb8.symm (by decide) (sl_ne rfl (by decide) (hold 41 (by kernel_rfl)))
          have e42 := sl_ne hb8.symm (by decide) (sl_ne rfl (by decide) (hold 42 (by kernel_rfl)))
          have e43 := sl_ne hb8.symm (by decide) (sl_ne rfl (by decide) (hold 43 (by kernel_rfl)))
          have e44 := sl_ne hb8.symm (by decide) (sl_ne rfl (by decide) (hold 44 (by kernel_rfl)))
          have e45 := sl_ne hb8.symm (by decide) (sl_ne rfl (by decide) (hold 45 (by kernel_rfl)))
          have e46 := sl_ne hb8.symm (by decide) (sl_ne rfl (by decide) (hold 46 (by kernel_rfl)))
          have e47 := sl_ne hb8.symm (by decide) (sl_ne rfl (by decide) (hold 47 (by kernel_rfl)))
          have e48 := sl_ne hb8.symm (by decide) (sl_ne rfl (by decide) (hold 48 (by kernel_rfl)))
          have e49 := sl_ne hb8.symm (by decide) (sl_ne rfl (by decide) (hold 49 (by kernel_rfl)))
          have e50 := sl_ne hb8.symm (by decide) (sl_ne rfl (by decide) (hold 50 (by kernel_rfl)))
          have e51 := sl_ne hb8.symm (by decide) (sl_ne rfl (by decide) (hold 51 (by kernel_rfl)))
          have e52 := sl_ne hb8.symm (by decide) (sl_ne rfl (by decide) (hold 52 (by kernel_rfl)))
          have e53 := sl_ne hb8.symm (by decide) (sl_ne rfl (by decide) (hold 53 (by kernel_rfl)))
          have e54 := sl_ne hb8.symm (by decide) (sl_ne rfl (by decide) (hold 54 (by kernel_rfl)))
          have e55 := sl_ne hb8.symm (by decide) (sl_ne rfl (by decide) (hold 55 (by kernel_rfl)))
          have e56 := sl_ne hb8.symm (by decide) (sl_ne rfl (by decide) (hold 56 (by kernel_rfl)))
          have e57 := sl_ne hb8.symm (by decide) (sl_ne rfl (by decide) (hold 57 (by kernel_rfl)))
          have e58 := sl_ne hb8.symm (by decide) (sl_ne rfl (by decide) (hold 58 (by kernel_rfl)))
          have e59 := sl_ne hb8.symm (by decide) (sl_ne rfl (by decide) (hold 59 (by kernel_rfl)))
          have e60 := sl_ne hb8.symm (by decide) (sl_ne rfl (by decide) (hold 60 (by kernel_rfl)))
          have e61 := sl_ne hb8.symm (by decide) (sl_ne rfl (by decide) (hold 61 (by kernel_rfl)))
          have e62 := sl_ne hb8.symm (by decide) (sl_ne rfl (by decide) (hold 62 (by kernel_rfl)))
          have e63 := sl_ne hb8.symm (by decide) (sl_ne rfl (by decide) (hold 63 (by kernel_rfl)))
          have e64 := sl_ne hb8.symm (by decide) (sl_ne rfl (by decide) (hold 64 (by kernel_rfl)))
          have e65 := sl_ne hb8.symm (by decide) (sl_ne rfl (by decide) (hold 65 (by kernel_rfl)))
          have e66 := sl_ne hb8.symm (by decide) (sl_ne rfl (by decide) (hold 66 (by kernel_rfl)))
          have e67 := sl_ne hb8.symm (by decide) (sl_ne rfl (by decide) (hold 67 (by kernel_rfl)))
          have e68 := sl_ne hb8.symm (by decide) (sl_ne rfl (by decide) (hold 68 (by kernel_rfl)))
          have e69 := sl_ne hb8.symm (by decide) (sl_ne rfl (by decide) (hold 69 (by kernel_rfl)))
          have e94 := sl_ne hb8.symm (by decide) (sl_ne rfl (by decide) (hold 94 (by kernel_rfl)))
          have e95 := sl_ne hb8.symm (by decide) (sl_ne rfl (by decide) (hold 95 (by kernel_rfl)))
          have e96 := sl_ne hb8.symm (by decide) (sl_ne rfl (by decide) (hold 96 (by kernel_rfl)))
          have e97 := sl_ne hb8.symm (by decide) (sl_ne rfl (by decide) (hold 97 (by kernel_rfl)))
          have e98 := sl_ne hb8.symm (by decide) (sl_ne rfl (by decide) (hold 98 (by kernel_rfl)))
          have e99 := sl_ne hb8.symm (by decide) (sl_ne rfl (by decide) (hold 99 (by kernel_rfl)))
          have hB : b9 = _ := act_list b9 (show b9.tmps.size = 100 by rw [← hb8, put_size, put_size]; exact hsz) (show b9.defers = [] by rw [← hb8]; exact hdf)
          rw [hB]
          simp only [List.range, List.range.loop, List.map_cons, List.map_nil, e0, e1, e2, e3, e4, e5, e6, e7, e8, e9, e10, e11, e12, e13, e14, e15, e16, e17, e18, e19, e20, e21, e22, e23, e24, e25, e26, e27, e28, e29, e30, e31, e32, e33, e34, e35, e36, e37, e38, e39, e40, e41, e42, e43, e44, e45, e46, e47, e48, e49, e50, e51, e52, e53, e54, e55, e56, e57, e58, e59, e60, e61, e62, e63, e64, e65, e66, e67, e68, e69, e94, e95, e96, e97, e98, e99]
          generalize sl b9 70 = V70, sl b9 71 = V71, sl b9 72 = V72, sl b9 73 = V73, sl b9 74 = V74, sl b9 75 = V75, sl b9 76 = V76, sl b9 77 = V77, sl b9 78 = V78, sl b9 79 = V79, sl b9 80 = V80, sl b9 81 = V81, sl b9 82 = V82, sl b9 83 = V83, sl b9 84 = V84, sl b9 85 = V85, sl b9 86 = V86, sl b9 87 = V87, sl b9 88 = V88, sl b9 89 = V89, sl b9 90 = V90, sl b9 91 = V91, sl b9 92 = V92, sl b9 93 = V93
          simp only [sl, List.getElem?_toArray, List.getElem?_cons_succ, List.getElem?_cons_zero, Option.getD_some]
          clear e0 e1 e2 e3 e4 e5 e6 e7 e8 e9 e10 e11 e12 e13 e14 e15 e16 e17 e18 e19 e20 e21 e22 e23 e24 e25 e26 e27 e28 e29 e30 e31 e32 e33 e34 e35 e36 e37 e38 e39 e40 e41 e42 e43 e44 e45 e46 e47 e48 e49 e50 e51 e52 e53 e54 e55 e56 e57 e58 e59 e60 e61 e62 e63 e64 e65 e66 e67 e68 e69 e94 e95 e96 e97 e98 e99
          have rX := hX2.set 3 v'
          have rA := hA2.other (by omega : w.heap.size ≠ R) 3 v'
          have hneR' : v'.ownBlock ≠ some R := fun e => by
            rcases hat with e1 | e1
            · rw [e1] at e; exact hneR e.symm
            · rw [e1] at e; have := Option.some.inj e; have := hX.lt; have := hR.size; omega
          have rrow := ownsRow_setCell_other hown' (a := ⟨R, 3, none⟩) hneR' v'
          have rpo := own_other hpo2 (b := R) (by omega) 3 v'
          have rB := hB2.setCell (p := ⟨R, 3, none⟩) (show w.heap.size ≤ R by omega) v'
          have rws : w.heap.size + 2 ≤ (w2.setCell ⟨R, 3, none⟩ v').heap.size := by have := hgrow.size; have := hR.size; simp; omega
          have hfl : Hid ((placesTo len zs (m + 1)).flatMap placeCells = qs ++ [.string (podN m), .string nm, .int .i64 c8, .int .i64 c9, .bool al]) := by
            show _ = _
            rw [hpl.out, List.flatMap_append, hqs]
            rfl
          generalize w2.setCell ⟨R, 3, none⟩ v' = w4 at *
          clear hB hb9 hb8 hF hold hdf hsz f9 f11 f12 f71 f91 hX2 hA2 hpo2 hB2 hown' hgrow hat hrow1 hX hA hrow hpo hcR hfR hw97 hu97 hsz1
          go_wp2
          go_roundw
          case rel => exact ⟨m + 1, by omega, by have := hmi.out; have h9 := hm00.out; simp; omega, v', rX, rA, (by rw [hfl.out]; exact rrow), rpo, .inr (by have h9 := hm00.out; omega), rB, rws⟩
          case measure => simp [intOf]; have := hmi.out; have h9 := hm00.out; omega
      · have hm1 : m = 1 := by omega
        subst hm1
        have hN : N = 1 := by rw [← hN'.out]; unfold placesN; rw [if_pos h0]
        subst hN
        clear hml
        obtain ⟨a2, c2, rfl⟩ := slice_of_own hrow
        obtain ⟨y0, y1, y2, y3, y4, y5, y6, y7, y8, y9⟩ := RecBox.cells hX
        obtain ⟨x0, x1, x2, x3, x4, x5, x6, x7, x8, x9⟩ := RecBox.cells hA
        have f0 := hA.frozen 0
        have f1 := hA.frozen 1
        have f2 := hA.frozen 2
        have f3 := hA.frozen 3
        have f4 := hA.frozen 4
        have f5 := hA.frozen 5
        have f6 := hA.frozen 6
        have f7 := hA.frozen 7
        have f8 := hA.frozen 8
        have f9 := hA.frozen 9
        go_wp2
        have q10 := RecBox.setAll (c0 := .int .i64 3) (c1 := .int .i64 (1 + (g : Int))) (c2 := .slice a1 pn c1) (c3 := .slice a2 1 c2) (c4 := .string ⟨#[]⟩) (c5 := .int .i64 0) (c6 := .int .i64 0) (c7 := .slice none 0 0) (c8 := .slice none 0 0) (c9 := .bool false) hA
        have hb10 := below_setAll (A := w.heap.size) (Nat.le_refl _) [.int .i64 3, .int .i64 (1 + (g : Int)), .slice a1 pn c1, .slice a2 1 c2, .string ⟨#[]⟩, .int .i64 0, .int .i64 0, .slice none 0 0, .slice none 0 0, .bool false] 0 hbw
        have hg10 : World.grownBy wr (wr.setCells w.heap.size 0 [.int .i64 3, .int .i64 (1 + (g : Int)), .slice a1 pn c1, .slice a2 1 c2, .string ⟨#[]⟩, .int .i64 0, .int .i64 0, .slice none 0 0, .slice none 0 0, .bool false]) (some w.heap.size) := grown_setAll [.int .i64 3, .int .i64 (1 + (g : Int)), .slice a1 pn c1, .slice a2 1 c2, .string ⟨#[]⟩, .int .i64 0, .int .i64 0, .slice none 0 0, .slice none 0 0, .bool false] 0 (World.grownBy.refl _ _)
        change bodyPost _ _ _ _ _ (wr.setCells w.heap.size 0 [.int .i64 3, .int .i64 (1 + (g : Int)), .slice a1 pn c1, .slice a2 1 c2, .string ⟨#[]⟩, .int .i64 0, .int .i64 0, .slice none 0 0, .slice none 0 0, .bool false])
        generalize wr.setCells w.heap.size 0 [.int .i64 3, .int .i64 (1 + (g : Int)), .slice a1 pn c1, .slice a2 1 c2, .string ⟨#[]⟩, .int .i64 0, .int .i64 0, .slice none 0 0, .slice none 0 0, .bool false] = W9 at *
        obtain ⟨z0, z1, z2, z3, z4, z5, z6, z7, z8, z9⟩ := RecBox.cells q10
        exact bodyPost_ret (by simp [results, Tryd.results7, go_sem, z0, z1, z2, z3, z4, z5, z6, z7, z8, z9]) rfl ⟨a1, c1, a2, c2, rfl, own_low (hpo.kept hg10 (.inr (fun e => by have := (hpo.lt _ e).1; omega))) (by omega), by first | exact own_low (hrow.kept hg10 (.inr (fun e => by have := (hrow.lt _ e).1; omega))) (show w.heap.size ≤ w.heap.size + 2 by omega) | (rw [hqs]; exact own_low (hrow.kept hg10 (.inr (fun e => by have := (hrow.lt _ e).1; omega))) (show w.heap.size ≤ w.heap.size + 2 by omega)), hb10⟩

  · obtain ⟨x, rfl, hc⟩ := hrow.2 0 (by omega)
    have e0 : zs.getD 0 0 = fn := by have := hfn'.out; rwa [firstN, if_neg h0] at this
    rw [e0] at hc
    have hcW : W.cell? x = some (.int .i64 fn) := by
      have := cell_below hb0 hc (block_lt hc)
      simpa [Addr.add] using this
    have hl1 : (0 : Int) < len := by omega
    have hrow0 := hrow
    clear hrow hc hfn' e0
    obtain ⟨y0, y1, y2, y3, y4, y5, y6, y7, y8, y9⟩ := q9c
    obtain ⟨x0, x1, x2, x3, x4, x5, x6, x7, x8, x9⟩ := q8c
    go_upto_region 12 with (go_at_call 20; refine (kp _).mono ?_
                            rintro e w3 ⟨v3, rfl, ho3, hb3⟩
                            obtain ⟨a1, c1, rfl⟩ := slice_of_own ho3
                            have r8 := q8.later hb3
                            have r9 := q9.later hb3
                            have hb03 := fin hb3 hb0
                            obtain ⟨z0, z1, z2, z3, z4, z5, z6, z7, z8, z9⟩ := RecBox.cells r9
                            have g2 := r9.frozen 2)
    have hWs := q9.lt
    have s8 := r8.other (by omega : w.heap.size ≠ w.heap.size + 1) 2 (.slice a1 pn c1)
    have s9 := r9.set 2 (.slice a1 pn c1)
    have hb4 := hb03.setCell (p := ⟨w.heap.size + 1, 2, none⟩) (Nat.le_succ _) (.slice a1 pn c1)
    have ho4 := own_low (own_other ho3 (b := w.heap.size + 1) hWs 2 (.slice a1 pn c1)) (by omega : w.heap.size + 2 ≤ _)
    have hWs4 : w.heap.size + 2 ≤ (w3.setCell ⟨w.heap.size + 1, 2, none⟩ (.slice a1 pn c1)).heap.size := by have := hb3.size; simp; omega
    generalize w3.setCell ⟨w.heap.size + 1, 2, none⟩ (.slice a1 pn c1) = W4 at *
    clear x0 x1 x2 x3 x4 x5 x6 x7 x8 x9 y0 y1 y2 y3 y4 y5 y6 y7 y8 y9 z0 z1 z2 z3 z4 z5 z6 z7 z8 z9 g2 q8 q9 r8 r9 ho3 hb3 hb03
    obtain ⟨i0, hi, hz0, hz1, hz2⟩ := info_parts infoPlace
    obtain ⟨R, hR0⟩ : ∃ R, w.heap.size + 1 = R := ⟨_, rfl⟩
    rw [hR0] at s9 ⊢
    go_wp2
    go_loopw [11] (fun i wr => ∃ m : Nat, m ≤ 8 ∧ i = .int .i64 m ∧ ∃ v, Box wr R #[.int .i64 3, .int .i64 (1 + (g : Int)), .slice a1 pn c1, v, .string ⟨#[]⟩, .int .i64 0, .int .i64 0, .slice none 0 0, .slice none 0 0, .bool false] 35 ∧ Box wr w.heap.size #[.int .i64 0, .int .i64 0, .slice none 0 0, .slice none 0 0, .string ⟨#[]⟩, .int .i64 0, .int .i64 0, .slice none 0 0, .slice none 0 0, .bool false] 35 ∧ wr.ownsRow (w.heap.size + 2) 56 5 v m ((placesTo len zs m).flatMap placeCells) ∧ wr.ownsRow (w.heap.size + 2) 3 1 (.slice a1 pn c1) pn (ps.map natV) ∧ (m ≤ len ∨ m = 1) ∧ Below w.heap.size w wr ∧ w.heap.size + 2 ≤ wr.heap.size) (fun i _ => 8 - (intOf i).toNat)
    case atStart => exact ⟨0, by omega, rfl, .slice none 0 0, s9, s8, World.ownsRow_nil _ _ _ _, ho4, .inl (Nat.zero_le _), hb4, hWs4⟩
    case round =>
      obtain ⟨m, hm, rfl, v, hX, hA, hrow, hpo, hml, hbw, hws⟩ := hrel
      have hneR : some R ≠ v.ownBlock := fun e => by have := (hrow.lt _ e.symm).1; omega
      have hneA : some w.heap.size ≠ v.ownBlock := fun e => by have := (hrow.lt _ e.symm).1; omega
      obtain ⟨qs, hqs⟩ : ∃ qs, (placesTo len zs m).flatMap placeCells = qs := ⟨_, rfl⟩
      rw [hqs] at hrow
      by_cases hlt : m < 8 ∧ m < len
      · obtain ⟨hm8, hml8⟩ := hlt
        obtain ⟨x', hx', hcz0⟩ := hrow0.2 m hml8
        injection hx' with hx'
        subst hx'
        obtain ⟨z, hz⟩ : ∃ z, zs.getD m 0 = z := ⟨_, rfl⟩
        rw [hz] at hcz0
        have hcz := cell_below hbw hcz0 (block_lt hcz0)
        have hmi : Hid ((m : Int) = (m : Int)) := rfl
        have hnum : Hid (numAt len zs m = z) := by show _ = _; unfold numAt; rw [if_pos hml8]; exact hz
        clear hcz0 hz
        go_upto_region 18 with fail
        have hn : numAt len zs m = z := hnum.out
        obtain ⟨nm, hnm⟩ : ∃ nm, nameAt z = nm := ⟨_, rfl⟩
        obtain ⟨c8, h8⟩ : ∃ c8 : Nat, wrap64 (z.tdiv 8) % 1099511627777 = c8 := ⟨(wrap64 (z.tdiv 8) % 1099511627777).toNat, by omega⟩
        obtain ⟨c9, h9⟩ : ∃ c9 : Nat, z % 9 = c9 := ⟨(z % 9).toNat, by omega⟩
        obtain ⟨c3, h3⟩ : ∃ c3 : Nat, wrap64 (z.tdiv 3) % 3 = c3 := ⟨(wrap64 (z.tdiv 3) % 3).toNat, by omega⟩
        obtain ⟨al, hal⟩ : ∃ al : Bool, ((c3 : Int) == 0) = al := ⟨_, rfl⟩
        have kn := fun w1 => lName_is z nm w1 w1 (Below.refl _ _) hnm
        have hpl : Hid (placesTo len zs (m + 1) = placesTo len zs m ++ [(⟨podN m, nm, c8, c9, al⟩ : PlaceB)]) := by
          show _ = _
          rw [placesTo, hn, placeM, hnm, h8, h9, h3, hal]
          rfl
        have hw97 : IntKind.i64.wrap (97 + (m : Int)) = 97 + (m : Int) := w64 _ (by have := hmi.out; omega) (by have := hmi.out; omega)
        have hu97 : IntKind.u8.wrap (97 + (m : Int)) = 97 + (m : Int) := wB _ (by have := hmi.out; omega)
        have hsz1 : (⟨#[UInt8.ofNat (97 + m)]⟩ : ByteArray).size = 1 := rfl
        refine wp_region_rely_upto 22 3 (fun w1 => Below wr.heap.size wr w1) (fun w1 w2 => Below w1.heap.size w1 w2) (makeF R m (m : Int) z nm c8 c9 c3 al v) (by kernel_rfl) (by kernel_rfl) (by kernel_rfl) (Below.refl _ _).drew ?keep ?step ?rest
        case keep =>
          intro i v w1 w2 hS hF
          unfold makeF at *
          split at hF <;> try exact hF
          · obtain ⟨D, hv, h1⟩ := hF
            exact ⟨D, hv, h1.later hS⟩
          · obtain ⟨D, hv, h1⟩ := hF
            exact ⟨D, hv, h1.later hS⟩
        case step =>
          intro i o d hi ho hd b w1 hR hold hdep
          have o9 : sl b 9 = .pointer (some ⟨R, 0, none⟩) := hold 9 (by kernel_rfl)
          have o11 : sl b 11 = .int .i64 (m : Int) := hold 11 (by kernel_rfl)
          have o12 : sl b 12 = .int .i64 z := hold 12 (by kernel_rfl)
          have hb0 := Below.refl w1.heap.size w1
          have cR : w1.cell? ⟨R, 3, none⟩ = some v := (hX.later hR).cell rfl
          rcases i with _ | _ | _ | _ | _ | _ | _ | _ | _ | _ | _ | _ | _ | _ | _ | _ | _ | _ | _ | _ | _ | _ | i
          all_goals try (cases ho; cases hd)
          · exact ok_val' rfl rfl (want_none rfl b) (by simp [go_sem, o9]) hR hb0 rfl
          · have f70 : sl b 70 = .pointer (some ⟨R, 3, none⟩) := hdep 0 _ _ rfl rfl (by kernel_rfl)
            exact ok_val' rfl rfl (want_none rfl b) (by simp [go_sem, f70, cR]) hR hb0 rfl
          · exact ok_val' rfl rfl (want_none rfl b) (by simp [go_sem, o11]) hR hb0 rfl
          · have f72 : sl b 72 = .int .i64 (m : Int) := hdep 2 _ _ rfl rfl (by kernel_rfl)
            exact ok_val' rfl rfl (want_none rfl b) (by simp [go_sem, f72, hw97]) hR hb0 rfl
          · have f73 : sl b 73 = .int .i64 (97 + (m : Int)) := hdep 3 _ _ rfl rfl (by kernel_rfl)
            exact ok_val' rfl rfl (want_none rfl b) (by simp [go_sem, f73, hu97]) hR hb0 rfl
          · have f74 : sl b 74 = .int .u8 (97 + (m : Int)) := hdep 4 _ _ rfl rfl (by kernel_rfl)
            exact ok_val' rfl rfl (want_none rfl b) (by simp [go_sem, f74] <;> first | rfl | exact ⟨rfl, rfl⟩) (hR.alloc hR.size _) (hb0.alloc (Nat.le_refl _) _) ⟨_, rfl, NewC.made w1 [.int .u8 (97 + (m : Int))] _⟩
          · obtain ⟨D5, f75, g75⟩ : ∃ D, sl b 75 = .slice (some ⟨D, 0, none⟩) 1 1 ∧ NewC w1 D [.int .u8 (97 + (m : Int))] := hdep 5 _ _ rfl rfl (by kernel_rfl)
            have hcv := conv_at w1 D5 m (m : Int) hmi.out (by omega) g75
            exact ok_val' rfl rfl (want_none rfl b) (by simp [go_sem, f75, hcv]) hR hb0 rfl
          · have f76 : sl b 76 = .string ⟨#[UInt8.ofNat (97 + m)]⟩ := hdep 6 _ _ rfl rfl (by kernel_rfl)
            exact ok_val' rfl rfl (want_none rfl b) (by simp [go_sem, f76, hsz1, podN]) hR hb0 rfl
          · exact ok_val' rfl rfl (want_none rfl b) (by simp [go_sem, o12]) hR hb0 rfl
          · have f78 : sl b 78 = .int .i64 z := hdep 8 _ _ rfl rfl (by kernel_rfl)
            refine ok_enter' rfl rfl (want_none rfl b) ?_ ((kn w1).mono ?_)
            · simp [go_sem, f78, cfN]
            rintro e w2 ⟨rfl, hb2⟩
            exact ⟨_, rfl, hR.trans (hb2.mono hR.size), hb2, rfl⟩
          · exact ok_val' rfl rfl (want_none rfl b) (by simp [go_sem, o12]) hR hb0 rfl
          · have f80 : sl b 80 = .int .i64 z := hdep 10 _ _ rfl rfl (by kernel_rfl)
            exact ok_val' rfl rfl (want_none rfl b) (by simp [go_sem, f80, wr64]) hR hb0 rfl
          · have f81 : sl b 81 = .int .i64 (wrap64 (z.tdiv 8)) := hdep 11 _ _ rfl rfl (by kernel_rfl)
            refine ok_enter' rfl rfl (want_none rfl b) ?_ ((within4_any _ _ _ (by decide) (by decide) h8 w1).mono ?_)
            · simp [go_sem, f81, cfW]
            rintro e w2 ⟨rfl, rfl⟩
            exact ⟨_, rfl, hR, hb0, rfl⟩
          · exact ok_val' rfl rfl (want_none rfl b) (by simp [go_sem, o12]) hR hb0 rfl
          · have f83 : sl b 83 = .int .i64 z := hdep 13 _ _ rfl rfl (by kernel_rfl)
            refine ok_enter' rfl rfl (want_none rfl b) ?_ ((within4_any _ _ _ (by decide) (by decide) h9 w1).mono ?_)
            · simp [go_sem, f83, cfW]
            rintro e w2 ⟨rfl, rfl⟩
            exact ⟨_, rfl, hR, hb0, rfl⟩
          · have f82 : sl b 82 = .int .i64 c8 := hdep 12 _ _ rfl rfl (by kernel_rfl)
            have f84 : sl b 84 = .int .i64 c9 := hdep 14 _ _ rfl rfl (by kernel_rfl)
            exact ok_val' rfl rfl (want_none rfl b) (by simp [go_sem, f82, f84]) hR hb0 rfl
          · exact ok_val' rfl rfl (want_none rfl b) (by simp [go_sem, o12]) hR hb0 rfl
          · have f86 : sl b 86 = .int .i64 z := hdep 16 _ _ rfl rfl (by kernel_rfl)
            exact ok_val' rfl rfl (want_none rfl b) (by simp [go_sem, f86, wr64]) hR hb0 rfl
          · have f87 : sl b 87 = .int .i64 (wrap64 (z.tdiv 3)) := hdep 17 _ _ rfl rfl (by kernel_rfl)
            refine ok_enter' rfl rfl (want_none rfl b) ?_ ((within4_any _ _ _ (by decide) (by decide) h3 w1).mono ?_)
            · simp [go_sem, f87, cfW]
            rintro e w2 ⟨rfl, rfl⟩
            exact ⟨_, rfl, hR, hb0, rfl⟩
          · have f88 : sl b 88 = .int .i64 c3 := hdep 18 _ _ rfl rfl (by kernel_rfl)
            exact ok_val' rfl rfl (want_none rfl b) (by simp [go_sem, f88, hal]) hR hb0 rfl
          · have f77 : sl b 77 = .string (podN m) := hdep 7 _ _ rfl rfl (by kernel_rfl)
            have f79 : sl b 79 = .string nm := hdep 9 _ _ rfl rfl (by kernel_rfl)
            have f85 : sl b 85 = .agg #[.int .i64 c8, .int .i64 c9] := hdep 15 _ _ rfl rfl (by kernel_rfl)
            have f89 : sl b 89 = .bool al := hdep 19 _ _ rfl rfl (by kernel_rfl)
            exact ok_val' rfl rfl (want_none rfl b) (by simp [go_sem, f77, f79, f85, f89]) hR hb0 rfl
          · have f90 : sl b 90 = .agg #[.string (podN m), .string nm, .int .i64 c8, .int .i64 c9, .bool al] := hdep 20 _ _ rfl rfl (by kernel_rfl)
            exact ok_val' rfl rfl (want_none rfl b) (by simp [go_sem, f90] <;> first | rfl | exact ⟨rfl, rfl⟩) (hR.alloc hR.size _) (hb0.alloc (Nat.le_refl _) _) ⟨_, rfl, NewC.made w1 [.string (podN m), .string nm, .int .i64 c8, .int .i64 c9, .bool al] _⟩
          · omega
        case rest =>
          intro b w1 hR hsz hdf hold hF
          have f9 : sl b 9 = .pointer (some ⟨R, 0, none⟩) := hold 9 (by kernel_rfl)
          have f11 : sl b 11 = .int .i64 (m : Int) := hold 11 (by kernel_rfl)
          have f12 : sl b 12 = .int .i64 z := hold 12 (by kernel_rfl)
          obtain ⟨D21, f91, g91⟩ : ∃ D, sl b 91 = .slice (some ⟨D, 0, none⟩) 1 1 ∧ NewC w1 D [.string (podN m), .string nm, .int .i64 c8, .int .i64 c9, .bool al] := hF 21 _ _ (by decide) rfl rfl
          have f71 : sl b 71 = v := hF 1 _ _ (by decide) rfl rfl
          have hsz' : b.tmps.size = 100 := hsz
          refine wpK_one 22 _ (by kernel_rfl) rfl (want_none rfl b) ?_
          have hrow1 := own_later hrow hR
          refine okAt_append (.tmp 71) (.tmp 91) 28 rfl (w.heap.size + 2) 56 i0 _ 5 56 Tryd.underlying28 hi hz0 hz1 hz2 rfl (by decide) v m qs (by simpa [go_sem] using f71) hrow1 ⟨D21, 0, none⟩ 1 1 [.string (podN m), .string nm, .int .i64 c8, .int .i64 c9, .bool al] (by simpa [go_sem] using f91) rfl g91 (by intro u hu; simp only [List.mem_cons, List.not_mem_nil, or_false] at hu; rcases hu with rfl | rfl | rfl | rfl | rfl <;> rfl) (by unfold maxLen; omega) (by omega) (by have := hR.size; omega) ?_
          intro v' w2 hown' hgrow hat
          have hX2 := (hX.later hR).grown hgrow hneR
          have hA2 := (hA.later hR).grown hgrow hneA
          have hpo2 := (own_later hpo hR).kept hgrow (own_apart (own_later hpo hR) hrow1 (by decide))
          have hcR : w2.cell? ⟨R, 3, none⟩ = some v := hX2.cell rfl
          have hfR := hX2.frozen 3
          have hB2 : Below w.heap.size w w2 := (hbw.trans (hR.mono hbw.size)).grown hgrow (hbw.trans (hR.mono hbw.size)).size (fun j hj => by have := (hrow.lt j hj).1; omega)
          refine ⟨trivial, wpK_one 23 _ (by kernel_rfl) rfl (want_none rfl _) ?_⟩
          refine okAt_val (w2 := w2) (v := .pointer (some ⟨R, 3, none⟩)) (by simp [go_sem, f9]) ?_
          refine ⟨trivial, wpK_one 24 _ (by kernel_rfl) rfl (want_none rfl _) ?_⟩
          refine okAt_skip (w2 := w2.setCell ⟨R, 3, none⟩ v') (by
            rcases hown'.2 with ⟨e, _⟩ | ⟨_, _, _, e, _⟩ <;> subst e <;> simp [go_sem, hsz', hcR, hfR]) ?_
          refine ⟨trivial, wpK_end (by kernel_rfl) ?_⟩
          generalize hb9 : Act.put (Act.put (Act.put b _ _) _ _) _ _ = b9
          have hb8 : (b.put (some 92) v').put (some 93) (.pointer (some ⟨R, 3, none⟩)) = b9 := hb9
          have e0 := sl_ne hb8.symm (by decide) (sl_ne rfl (by decide) (hold 0 (by kernel_rfl)))
          have e1 := sl_ne hb8.symm (by decide) (sl_ne rfl (by decide) (hold 1 (by kernel_rfl)))
          have e2 := sl_ne hb8.symm (by decide) (sl_ne rfl (by decide) (hold 2 (by kernel_rfl)))
          have e3 := sl_ne hb8.symm (by decide) (sl_ne rfl (by decide) (hold 3 (by kernel_rfl)))
          have e4 := sl_ne hb8.symm (by decide) (sl_ne rfl (by decide) (hold 4 (by kernel_rfl)))
          have e5 := sl_ne hb8.symm (by decide) (sl_ne rfl (by decide) (hold 5 (by kernel_rfl)))
          have e6 := sl_ne hb8.symm (by decide) (sl_ne rfl (by decide) (hold 6 (by kernel_rfl)))
          have e7 := sl_ne hb8.symm (by decide) (sl_ne rfl (by decide) (hold 7 (by kernel_rfl)))
          have e8 := sl_ne hb8.symm (by decide) (sl_ne rfl (by decide) (hold 8 (by kernel_rfl)))
          have e9 := sl_ne hb8.symm (by decide) (sl_ne rfl (by decide) (hold 9 (by kernel_rfl)))
          have e10 := sl_ne hb8.symm (by decide) (sl_ne rfl (by decide) (hold 10 (by kernel_rfl)))
          have e11 := sl_ne hb8.symm (by decide) (sl_ne rfl (by decide) (hold 11 (by kernel_rfl)))
          have e12 := sl_ne hb8.symm (by decide) (sl_ne rfl (by decide) (hold 12 (by kernel_rfl)))
          have e13 := sl_ne hb8.symm (by decide) (sl_ne rfl (by decide) (hold 13 (by kernel_rfl)))
          have e14 := sl_ne hb8.symm (by decide) (sl_ne rfl (by decide) (hold 14 (by kernel_rfl)))
          have e15 := sl_ne hb8.symm (by decide) (sl_ne rfl (by decide) (hold 15 (by kernel_rfl)))
          have e16 := sl_ne hb8.symm (by decide) (sl_ne rfl (by decide) (hold 16 (by kernel_rfl)))
          have e17 := sl_ne hb8.symm (by decide) (sl_ne rfl (by decide) (hold 17 (by kernel_rfl)))
          have e18 := sl_ne hb8.symm (by decide) (sl_ne rfl (by decide) (hold 18 (by kernel_rfl)))
          have e19 := sl_ne hb8.symm (by decide) (sl_ne rfl (by decide) (hold 19 (by kernel_rfl)))
          have e20 := sl_ne hb8.symm (by decide) (sl_ne rfl (by decide) (hold 20 (by kernel_rfl)))
          have e21 := sl_ne hb8.symm (by decide) (sl_ne rfl (by decide) (hold 21 (by kernel_rfl)))
          have e22 := sl_ne hb8.symm (by decide) (sl_ne rfl (by decide) (hold 22 (by kernel_rfl)))
          have e23 := sl_ne hb8.symm (by decide) (sl_ne rfl (by decide) (hold 23 (by kernel_rfl)))
          have e24 := sl_ne hb8.symm (by decide) (sl_ne rfl (by decide) (hold 24 (by kernel_rfl)))
          have e25 := sl_ne hb8.symm (by decide) (sl_ne rfl (by decide) (hold 25 (by kernel_rfl)))
          have e26 := sl_ne hb8.symm (by decide) (sl_ne rfl (by decide) (hold 26 (by kernel_rfl)))
          have e27 := sl_ne hb8.symm (by decide) (sl_ne rfl (by decide) (hold 27 (by kernel_rfl)))
          have e28 := sl_ne hb8.symm (by decide) (sl_ne rfl (by decide) (hold 28 (by kernel_rfl)))
          have e29 := sl_ne hb8.symm (by decide) (sl_ne rfl (by decide) (hold 29 (by kernel_rfl)))
          have e30 := sl_ne hb8.symm (by decide) (sl_ne rfl (by decide) (hold 30 (by kernel_rfl)))
          have e31 := sl_ne hb8.symm (by decide) (sl_ne rfl (by decide) (hold 31 (by kernel_rfl)))
          have e32 := sl_ne hb8.symm (by decide) (sl_ne rfl (by decide) (hold 32 (by kernel_rfl)))
          have e33 := sl_ne hb8.symm (by decide) (sl_ne rfl (by decide) (hold 33 (by kernel_rfl)))
          have e34 := sl_ne hb8.symm (by decide) (sl_ne rfl (by decide) (hold 34 (by kernel_rfl)))
          have e35 := sl_ne hb8.symm (by decide) (sl_ne rfl (by decide) (hold 35 (by kernel_rfl)))
          have e36 := sl_ne hb8.symm (by decide) (sl_ne rfl (by decide) (hold 36 (by kernel_rfl)))
          have e37 := sl_ne hb8.symm (by decide) (sl_ne rfl (by decide) (hold 37 (by kernel_rfl)))
          have e38 := sl_ne hb8.symm (by decide) (sl_ne rfl (by decide) (hold 38 (by kernel_rfl)))
          have e39 := sl_ne hb8.symm (by decide) (sl_ne rfl (by decide) (hold 39 (by kernel_rfl)))
          have e40 := sl_ne hb8.symm (by decide) (sl_ne rfl (by decide) (hold 40 (by kernel_rfl)))
          have e41 := sl_ne hb8.symm (by decide) (sl_ne rfl (by decide) (hold 41 (by kernel_rfl)))
          have e42 := sl_ne hb8.symm (by decide) (sl_ne rfl (by decide) (hold 42 (by kernel_rfl)))
          have e43 := sl_ne hb8.symm (by decide) (sl_ne rfl (by decide) (hold 43 (by kernel_rfl)))
          have e44 := sl_ne hb8.symm (by decide) (sl_ne rfl (by decide) (hold 44 (by kernel_rfl)))
          have e45 := sl_ne hb8.symm (by decide) (sl_ne rfl (by decide) (hold 45 (by kernel_rfl)))
          have e46 := sl_ne hb8.symm (by decide) (sl_ne rfl (by decide) (hold 46 (by kernel_rfl)))
          have e47 := sl_ne hb8.symm (by decide) (sl_ne rfl (by decide) (hold 47 (by kernel_rfl)))
          have e48 := sl_ne hb8.symm (by decide) (sl_ne rfl (by decide) (hold 48 (by kernel_rfl)))
          have e49 := sl_ne hb8.symm (by decide) (sl_ne rfl (by decide) (hold 49 (by kernel_rfl)))
          have e50 := sl_ne hb8.symm (by decide) (sl_ne rfl (by decide) (hold 50 (by kernel_rfl)))
          have e51 := sl_ne hb8.symm (by decide) (sl_ne rfl (by decide) (hold 51 (by kernel_rfl)))
          have e52 := sl_ne hb8.symm (by decide) (sl_ne rfl (by decide) (hold 52 (by kernel_rfl)))
          have e53 := sl_ne hb8.symm (by decide) (sl_ne rfl (by decide) (hold 53 (by kernel_rfl)))
          have e54 := sl_ne hb8.symm (by decide) (sl_ne rfl (by decide) (hold 54 (by kernel_rfl)))
          have e55 := sl_ne hb8.symm (by decide) (sl_ne rfl (by decide) (hold 55 (by kernel_rfl)))
          have e56 := sl_ne hb8.symm (by decide) (sl_ne rfl (by decide) (hold 56 (by kernel_rfl)))
          have e57 := sl_ne hb8.symm (by decide) (sl_ne rfl (by decide) (hold 57 (by kernel_rfl)))
          have e58 := sl_ne hb8.symm (by decide) (sl_ne rfl (by decide) (hold 58 (by kernel_rfl)))
          have e59 := sl_ne hb8.symm (by decide) (sl_ne rfl (by decide) (hold 59 (by kernel_rfl)))
          have e60 := sl_ne hb8.symm (by decide) (sl_ne rfl (by decide) (hold 60 (by kernel_rfl)))
          have e61 := sl_ne hb8.symm (by decide) (sl_ne rfl (by decide) (hold 61 (by kernel_rfl)))
          have e62 := sl_ne hb8.symm (by decide) (sl_ne rfl (by decide) (hold 62 (by kernel_rfl)))
          have e63 := sl_ne hb8.symm (by decide) (sl_ne rfl (by decide) (hold 63 (by kernel_rfl)))
          have e64 := sl_ne hb8.symm (by decide) (sl_ne rfl (by decide) (hold 64 (by kernel_rfl)))
          have e65 := sl_ne hb8.symm (by decide) (sl_ne rfl (by decide) (hold 65 (by kernel_rfl)))
          have e66 := sl_ne hb8.symm (by decide) (sl_ne rfl (by decide) (hold 66 (by kernel_rfl)))
          have e67 := sl_ne hb8.symm (by decide) (sl_ne rfl (by decide) (hold 67 (by kernel_rfl)))
          have e68 := sl_ne hb8.symm (by decide) (sl_ne rfl (by decide) (hold 68 (by kernel_rfl)))
          have e69 := sl_ne hb8.symm (by decide) (sl_ne rfl (by decide) (hold 69 (by kernel_rfl)))
          have e94 := sl_ne hb8.symm (by decide) (sl_ne rfl (by decide) (hold 94 (by kernel_rfl)))
          have e95 := sl_ne hb8.symm (by decide) (sl_ne rfl (by decide) (hold 95 (by kernel_rfl)))
          have e96 := sl_ne hb8.symm (by decide) (sl_ne rfl (by decide) (hold 96 (by kernel_rfl)))
          have e97 := sl_ne hb8.symm (by decide) (sl_ne rfl (by decide) (hold 97 (by kernel_rfl)))
          have e98 := sl_ne hb8.symm (by decide) (sl_ne rfl (by decide) (hold 98 (by kernel_rfl)))
          have e99 := sl_ne hb8.symm (by decide) (sl_ne rfl (by decide) (hold 99 (by kernel_rfl)))
          have hB : b9 = _ := act_list b9 (show b9.tmps.size = 100 by rw [← hb8, put_size, put_size]; exact hsz) (show b9.defers = [] by rw [← hb8]; exact hdf)
          rw [hB]
          simp only [List.range, List.range.loop, List.map_cons, List.map_nil, e0, e1, e2, e3, e4, e5, e6, e7, e8, e9, e10, e11, e12, e13, e14, e15, e16, e17, e18, e19, e20, e21, e22, e23, e24, e25, e26, e27, e28, e29, e30, e31, e32, e33, e34, e35, e36, e37, e38, e39, e40, e41, e42, e43, e44, e45, e46, e47, e48, e49, e50, e51, e52, e53, e54, e55, e56, e57, e58, e59, e60, e61, e62, e63, e64, e65, e66, e67, e68, e69, e94, e95, e96, e97, e98, e99]
          generalize sl b9 70 = V70, sl b9 71 = V71, sl b9 72 = V72, sl b9 73 = V73, sl b9 74 = V74, sl b9 75 = V75, sl b9 76 = V76, sl b9 77 = V77, sl b9 78 = V78, sl b9 79 = V79, sl b9 80 = V80, sl b9 81 = V81, sl b9 82 = V82, sl b9 83 = V83, sl b9 84 = V84, sl b9 85 = V85, sl b9 86 = V86, sl b9 87 = V87, sl b9 88 = V88, sl b9 89 = V89, sl b9 90 = V90, sl b9 91 = V91, sl b9 92 = V92, sl b9 93 = V93
          simp only [sl, List.getElem?_toArray, List.getElem?_cons_succ, List.getElem?_cons_zero, Option.getD_some]
          clear e0 e1 e2 e3 e4 e5 e6 e7 e8 e9 e10 e11 e12 e13 e14 e15 e16 e17 e18 e19 e20 e21 e22 e23 e24 e25 e26 e27 e28 e29 e30 e31 e32 e33 e34 e35 e36 e37 e38 e39 e40 e41 e42 e43 e44 e45 e46 e47 e48 e49 e50 e51 e52 e53 e54 e55 e56 e57 e58 e59 e60 e61 e62 e63 e64 e65 e66 e67 e68 e69 e94 e95 e96 e97 e98 e99
          have rX := hX2.set 3 v'
          have rA := hA2.other (by omega : w.heap.size ≠ R) 3 v'
          have hneR' : v'.ownBlock ≠ some R := fun e => by
            rcases hat with e1 | e1
            · rw [e1] at e; exact hneR e.symm
            · rw [e1] at e; have := Option.some.inj e; have := hX.lt; have := hR.size; omega
          have rrow := ownsRow_setCell_other hown' (a := ⟨R, 3, none⟩) hneR' v'
          have rpo := own_other hpo2 (b := R) (by omega) 3 v'
          have rB := hB2.setCell (p := ⟨R, 3, none⟩) (show w.heap.size ≤ R by omega) v'
          have rws : w.heap.size + 2 ≤ (w2.setCell ⟨R, 3, none⟩ v').heap.size := by have := hgrow.size; have := hR.size; simp; omega
          have hfl : Hid ((placesTo len zs (m + 1)).flatMap placeCells = qs ++ [.string (podN m), .string nm, .int .i64 c8, .int .i64 c9, .bool al]) := by
            show _ = _
            rw [hpl.out, List.flatMap_append, hqs]
            rfl
          generalize w2.setCell ⟨R, 3, none⟩ v' = w4 at *
          clear hB hb9 hb8 hF hold hdf hsz f9 f11 f12 f71 f91 hX2 hA2 hpo2 hB2 hown' hgrow hat hrow1 hX hA hrow hpo hcR hfR hw97 hu97 hsz1
          go_wp2
          go_roundw
          case rel => exact ⟨m + 1, by omega, by go_num, v', rX, rA, (by rw [hfl.out]; exact rrow), rpo, .inl hml8, rB, rws⟩
          case measure => simp [intOf]; omega
      · have hN : N = m := by rw [← hN'.out]; unfold placesN; rw [if_neg h0]; omega
        subst hN
        have hmb : ((N : Int) == 0) = false := by simp; omega
        rcases (by omega : N = 8 ∨ (N < 8 ∧ len ≤ N)) with hx9 | ⟨hx9, hx9'⟩
        · subst hx9
          obtain ⟨a2, c2, rfl⟩ := slice_of_own hrow
          obtain ⟨y0, y1, y2, y3, y4, y5, y6, y7, y8, y9⟩ := RecBox.cells hX
          obtain ⟨x0, x1, x2, x3, x4, x5, x6, x7, x8, x9⟩ := RecBox.cells hA
          have f0 := hA.frozen 0
          have f1 := hA.frozen 1
          have f2 := hA.frozen 2
          have f3 := hA.frozen 3
          have f4 := hA.frozen 4
          have f5 := hA.frozen 5
          have f6 := hA.frozen 6
          have f7 := hA.frozen 7
          have f8 := hA.frozen 8
          have f9 := hA.frozen 9
          go_wp2
          have q10 := RecBox.setAll (c0 := .int .i64 3) (c1 := .int .i64 (1 + (g : Int))) (c2 := .slice a1 pn c1) (c3 := .slice a2 8 c2) (c4 := .string ⟨#[]⟩) (c5 := .int .i64 0) (c6 := .int .i64 0) (c7 := .slice none 0 0) (c8 := .slice none 0 0) (c9 := .bool false) hA
          have hb10 := below_setAll (A := w.heap.size) (Nat.le_refl _) [.int .i64 3, .int .i64 (1 + (g : Int)), .slice a1 pn c1, .slice a2 8 c2, .string ⟨#[]⟩, .int .i64 0, .int .i64 0, .slice none 0 0, .slice none 0 0, .bool false] 0 hbw
          have hg10 : World.grownBy wr (wr.setCells w.heap.size 0 [.int .i64 3, .int .i64 (1 + (g : Int)), .slice a1 pn c1, .slice a2 8 c2, .string ⟨#[]⟩, .int .i64 0, .int .i64 0, .slice none 0 0, .slice none 0 0, .bool false]) (some w.heap.size) := grown_setAll [.int .i64 3, .int .i64 (1 + (g : Int)), .slice a1 pn c1, .slice a2 8 c2, .string ⟨#[]⟩, .int .i64 0, .int .i64 0, .slice none 0 0, .slice none 0 0, .bool false] 0 (World.grownBy.refl _ _)
          change bodyPost _ _ _ _ _ (wr.setCells w.heap.size 0 [.int .i64 3, .int .i64 (1 + (g : Int)), .slice a1 pn c1, .slice a2 8 c2, .string ⟨#[]⟩, .int .i64 0, .int .i64 0, .slice none 0 0, .slice none 0 0, .bool false])
          generalize wr.setCells w.heap.size 0 [.int .i64 3, .int .i64 (1 + (g : Int)), .slice a1 pn c1, .slice a2 8 c2, .string ⟨#[]⟩, .int .i64 0, .int .i64 0, .slice none 0 0, .slice none 0 0, .bool false] = W9 at *
          obtain ⟨z0, z1, z2, z3, z4, z5, z6, z7, z8, z9⟩ := RecBox.cells q10
          exact bodyPost_ret (by simp [results, Tryd.results7, go_sem, z0, z1, z2, z3, z4, z5, z6, z7, z8, z9]) rfl ⟨a1, c1, a2, c2, rfl, own_low (hpo.kept hg10 (.inr (fun e => by have := (hpo.lt _ e).1; omega))) (by omega), by first | exact own_low (hrow.kept hg10 (.inr (fun e => by have := (hrow.lt _ e).1; omega))) (show w.heap.size ≤ w.heap.size + 2 by omega) | (rw [hqs]; exact own_low (hrow.kept hg10 (.inr (fun e => by have := (hrow.lt _ e).1; omega))) (show w.heap.size ≤ w.heap.size + 2 by omega)), hb10⟩
        · have d1 : (N : Int) < 8 := by omega
          have d2 : ¬ ((N : Int) < len) := by omega
          obtain ⟨a2, c2, rfl⟩ := slice_of_own hrow
          obtain ⟨y0, y1, y2, y3, y4, y5, y6, y7, y8, y9⟩ := RecBox.cells hX
          obtain ⟨x0, x1, x2, x3, x4, x5, x6, x7, x8, x9⟩ := RecBox.cells hA
          have f0 := hA.frozen 0
          have f1 := hA.frozen 1
          have f2 := hA.frozen 2
          have f3 := hA.frozen 3
          have f4 := hA.frozen 4
          have f5 := hA.frozen 5
          have f6 := hA.frozen 6
          have f7 := hA.frozen 7
          have f8 := hA.frozen 8
          have f9 := hA.frozen 9
          go_wp2
          have q10 := RecBox.setAll (c0 := .int .i64 3) (c1 := .int .i64 (1 + (g : Int))) (c2 := .slice a1 pn c1) (c3 := .slice a2 N c2) (c4 := .string ⟨#[]⟩) (c5 := .int .i64 0) (c6 := .int .i64 0) (c7 := .slice none 0 0) (c8 := .slice none 0 0) (c9 := .bool false) hA
          have hb10 := below_setAll (A := w.heap.size) (Nat.le_refl _) [.int .i64 3, .int .i64 (1 + (g : Int)), .slice a1 pn c1, .slice a2 N c2, .string ⟨#[]⟩, .int .i64 0, .int .i64 0, .slice none 0 0, .slice none 0 0, .bool false] 0 hbw
          have hg10 : World.grownBy wr (wr.setCells w.heap.size 0 [.int .i64 3, .int .i64 (1 + (g : Int)), .slice a1 pn c1, .slice a2 N c2, .string ⟨#[]⟩, .int .i64 0, .int .i64 0, .slice none 0 0, .slice none 0 0, .bool false]) (some w.heap.size) := grown_setAll [.int .i64 3, .int .i64 (1 + (g : Int)), .slice a1 pn c1, .slice a2 N c2, .string ⟨#[]⟩, .int .i64 0, .int .i64 0, .slice none 0 0, .slice none 0 0, .bool false] 0 (World.grownBy.refl _ _)
          change bodyPost _ _ _ _ _ (wr.setCells w.heap.size 0 [.int .i64 3, .int .i64 (1 + (g : Int)), .slice a1 pn c1, .slice a2 N c2, .string ⟨#[]⟩, .int .i64 0, .int .i64 0, .slice none 0 0, .slice none 0 0, .bool false])
          generalize wr.setCells w.heap.size 0 [.int .i64 3, .int .i64 (1 + (g : Int)), .slice a1 pn c1, .slice a2 N c2, .string ⟨#[]⟩, .int .i64 0, .int .i64 0, .slice none 0 0, .slice none 0 0, .bool false] = W9 at *
          obtain ⟨z0, z1, z2, z3, z4, z5, z6, z7, z8, z9⟩ := RecBox.cells q10
          exact bodyPost_ret (by simp [results, Tryd.results7, go_sem, z0, z1, z2, z3, z4, z5, z6, z7, z8, z9]) rfl ⟨a1, c1, a2, c2, rfl, own_low (hpo.kept hg10 (.inr (fun e => by have := (hpo.lt _ e).1; omega))) (by omega), by first | exact own_low (hrow.kept hg10 (.inr (fun e => by have := (hrow.lt _ e).1; omega))) (show w.heap.size ≤ w.heap.size + 2 by omega) | (rw [hqs]; exact own_low (hrow.kept hg10 (.inr (fun e => by have := (hrow.lt _ e).1; omega))) (show w.heap.size ≤ w.heap.size + 2 by omega)), hb10⟩


end Go.Proofs.YtmldpihjndafaabDoor
