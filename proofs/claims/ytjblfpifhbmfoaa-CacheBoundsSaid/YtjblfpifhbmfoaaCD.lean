/-
  The contracts of the reference's Drop and Push.
-/
import Derived.Test.YtjblfpifhbmfoaaCS
namespace Go.Proofs.Ytjblfpifhbmfoaa
open Go.RowKit
set_option linter.unusedSimpArgs false
set_option linter.unusedVariables false

/-- A row is the old one, or lies in a new block. -/
def Fr (w w' : World) (a a2 : Option Addr) : Prop := a2 = a ∨ ∀ x, a2 = some x → w.heap.size ≤ x.block ∧ x.block < w'.heap.size
theorem Fr.wide {w v w' v' : World} {a a2 : Option Addr} (h : Fr w w' a a2) (h1 : v.heap.size ≤ w.heap.size) (h2 : w'.heap.size ≤ v'.heap.size) : Fr v v' a a2 := h.imp id fun h x hx => ⟨Nat.le_trans h1 (h x hx).1, Nat.lt_of_lt_of_le (h x hx).2 h2⟩
def Row (V0 V : World) (x : Value) (L : List (List Int)) : Prop := V.ownsRow V0.heap.size 34 32 x L.length (kcells L)
theorem Row.below {V0 V V2 : World} {x : Value} {L : List (List Int)} (h : Row V0 V x L) (hb : Below V.heap.size V V2) : Row V0 V2 x L := own_below h hb
/-- A row of keys is appended: where the new row lies. -/
theorem Row.app {V0 V : World} {x : Value} {L : List (List Int)} (h : Row V0 V x L) (hV : V0.heap.size ≤ V.heap.size) (pa : Option Addr) (m cp : Nat) (P : List (List Int)) (hP : Cs V pa (kcells P)) (hk : Kc P) (hm : P.length = m) (hl : L.length ≤ 100000) (hp : m ≤ 100000) :
    ∃ v V2, (Builtin.append_ #[30, 30] 30 #[x, .slice pa m cp]).run Try.prog V = .ok v V2 ∧ Row V0 V2 v (L ++ P) ∧ Below V0.heap.size V V2 ∧ V.grownBy V2 x.ownBlock ∧ (v.ownBlock = x.ownBlock ∨ v.ownBlock = some V.heap.size) := by
  subst hm
  have hlen : (L ++ P).length = L.length + P.length := List.length_append
  cases P with
  | nil =>
    obtain ⟨v', w', hr, hO, hb, hg⟩ := append_k h pa cp [] hP hk rfl hV hl hp
    cases pa with
    | none =>
      have e : (Builtin.append_ #[30, 30] 30 #[x, .slice none 0 cp]).run Try.prog V = .ok x V := by
        obtain ⟨i0, hi, hz0, hz1, hz2⟩ := info_parts infoK
        have hu : Try.prog.underlying 30 = some (.slice 34) := by kernel_rfl
        rcases h.2 with ⟨rfl, h0⟩ | ⟨g, cap, cur, rfl, _, _, hnc, _⟩
        · simp [Builtin.append_, run_underlying hu, sizeOf, typeInfo, hi, Builtin.lenOf, Builtin.firstCells]
        · simp [Builtin.append_, run_underlying hu, sizeOf, typeInfo, hi, Builtin.lenOf, Builtin.firstCells, hnc, storeCells]
      exact ⟨x, V, e, by rw [List.append_nil]; exact h, Below.refl _ _, World.grownBy.refl V _, .inl rfl⟩
    | some y =>
      obtain ⟨i0, hi, hz0, hz1, hz2⟩ := info_parts infoK
      obtain ⟨v2, w2, hr2, hO2, hg2, -, hat2⟩ := run_append_own_at (P := Try.prog) V V0.heap.size 30 30 34 i0 _ 32 32 (by kernel_rfl) hi hz0 hz1 hz2 (by kernel_rfl) (by omega) x L.length (kcells L) h y 0 cp [] (by simp) (fun j u h => by simp at h) (by simp) (by unfold maxLen; omega) (by omega) hV
      exact ⟨v2, w2, hr2, by unfold Row; rw [List.append_nil]; simpa using hO2, (Below.refl _ V).grown hg2 hV (fun j hj => (h.lt j hj).1), hg2, hat2⟩
  | cons p P =>
    obtain ⟨b, off, rfl, -, -⟩ := key_at hP hk (i := 0) (by simp)
    obtain ⟨i0, hi, hz0, hz1, hz2⟩ := info_parts infoK
    obtain ⟨v2, w2, hr2, hO2, hg2, -, hat2⟩ := run_append_own_at (P := Try.prog) V V0.heap.size 30 30 34 i0 _ 32 32 (by kernel_rfl) hi hz0 hz1 hz2 (by kernel_rfl) (by omega) x L.length (kcells L) h ⟨b, off, none⟩ (p :: P).length cp (kcells (p :: P)) (kcells_len _ hk) (fun j u hu => by
      obtain ⟨b2, off2, e2, -, hc⟩ := hP j u hu
      simp only [Option.some.injEq, Addr.mk.injEq, and_true] at e2
      obtain ⟨rfl, rfl⟩ := e2
      rw [Addr.add_mid]
      exact hc) (kcells_one _) (by unfold maxLen; omega) (by omega) hV
    exact ⟨v2, w2, hr2, by unfold Row; rw [hlen, kcells_app]; exact hO2, (Below.refl _ V).grown hg2 hV (fun j hj => (h.lt j hj).1), hg2, hat2⟩
/-- What a region keeps that builds a row of keys in up to three steps; and a slice of one key beside it. -/
structure CH (V0 : World) (k : List Int) (L1 L2 L3 : List (List Int)) (b0 b1 b2 b3 bk : Bool) (x0 x1 x2 x3 xk : Value) (V : World) : Prop where
  bel : Below V0.heap.size V0 V
  r0 : b0 = true → b1 = false → Row V0 V x0 []
  r1 : b1 = true → b2 = false → Row V0 V x1 L1
  r2 : b2 = true → b3 = false → Row V0 V x2 L2
  r3 : b3 = true → Row V0 V x3 L3
  c1 : b1 = true → b0 = true
  c2 : b2 = true → b1 = true
  c3 : b3 = true → b2 = true
  kx : bk = true → ∃ g, xk = .slice (some ⟨g, 0, none⟩) 1 1 ∧ Bx V g (w8s k) 34 ∧ (b0 = true → b1 = false → x0.ownBlock ≠ some g) ∧ (b1 = true → b2 = false → x1.ownBlock ≠ some g) ∧ (b2 = true → b3 = false → x2.ownBlock ≠ some g)
section
variable {V0 V V2 : World} {k : List Int} {L1 L2 L3 : List (List Int)} {b0 b1 b2 b3 bk : Bool} {x0 x1 x2 x3 xk v : Value}
theorem Row.ne {x : Value} {L : List (List Int)} (h : Row V0 V x L) : x.ownBlock ≠ some V.heap.size := fun e => Nat.lt_irrefl _ (h.lt _ e).2
theorem CH.nil (h : CH V0 k L1 L2 L3 false false false false bk x0 x1 x2 x3 xk V) : CH V0 k L1 L2 L3 true false false false bk (.slice (some ⟨V.heap.size, 0, none⟩) 0 0) x1 x2 x3 xk (V.alloc (.cells #[] 34)) :=
  have hb : Below V.heap.size V (V.alloc (.cells #[] 34)) := (Below.refl _ V).alloc (Nat.le_refl _) _
  { bel := h.bel.trans (hb.mono h.bel.size), r0 := fun _ _ => own_base (own_nil V 34 32) h.bel.size, r1 := fun h1 => (by cases h1), r2 := fun h1 => (by cases h1), r3 := fun h1 => (by cases h1), c1 := fun h1 => (by cases h1), c2 := fun h1 => (by cases h1), c3 := fun h1 => (by cases h1)
    kx := fun hk => by
      obtain ⟨g, e, hx, -⟩ := h.kx hk
      exact ⟨g, e, hx.below hx.lt hb, fun _ _ e2 => by have := hx.lt; simp only [Value.ownBlock, Option.some.injEq] at e2; omega, fun h1 => (by cases h1), fun h1 => (by cases h1)⟩ }
theorem CH.key (h : CH V0 k L1 L2 L3 b0 b1 b2 b3 false x0 x1 x2 x3 xk V) : CH V0 k L1 L2 L3 b0 b1 b2 b3 true x0 x1 x2 x3 (.slice (some ⟨V.heap.size, 0, none⟩) 1 1) (V.alloc (.cells (w8s k) 34)) :=
  have hb : Below V.heap.size V (V.alloc (.cells (w8s k) 34)) := (Below.refl _ V).alloc (Nat.le_refl _) _
  { bel := h.bel.trans (hb.mono h.bel.size), r0 := fun h1 h2 => (h.r0 h1 h2).below hb, r1 := fun h1 h2 => (h.r1 h1 h2).below hb, r2 := fun h1 h2 => (h.r2 h1 h2).below hb, r3 := fun h1 => (h.r3 h1).below hb, c1 := h.c1, c2 := h.c2, c3 := h.c3
    kx := fun _ => ⟨V.heap.size, rfl, heap_alloc_last V _, fun h1 h2 => (h.r0 h1 h2).ne, fun h1 h2 => (h.r1 h1 h2).ne, fun h1 h2 => (h.r2 h1 h2).ne⟩ }
theorem kx_grown {g : Nat} {x y : Value} (hx : Bx V g (w8s k) 34) (hn : x.ownBlock ≠ some g) (hg : V.grownBy V2 x.ownBlock) (hat : y.ownBlock = x.ownBlock ∨ y.ownBlock = some V.heap.size) : Bx V2 g (w8s k) 34 ∧ y.ownBlock ≠ some g :=
  ⟨(hg.block g hx.lt (Ne.symm hn)).trans hx, fun e => hat.elim (fun h => hn (h.symm.trans e)) fun h => by
    have h2 := h.symm.trans e
    have := hx.lt
    simp only [Option.some.injEq] at h2
    omega⟩
theorem CH.one (h : CH V0 k L1 L2 L3 true false false false bk x0 x1 x2 x3 xk V) (hO : Row V0 V2 v L1) (hb : Below V0.heap.size V V2) (hg : V.grownBy V2 x0.ownBlock) (hat : v.ownBlock = x0.ownBlock ∨ v.ownBlock = some V.heap.size) : CH V0 k L1 L2 L3 true true false false bk x0 v x2 x3 xk V2 :=
  { bel := h.bel.trans hb, r0 := fun _ h1 => (by cases h1), r1 := fun _ _ => hO, r2 := fun h1 => (by cases h1), r3 := fun h1 => (by cases h1), c1 := fun _ => rfl, c2 := fun h1 => (by cases h1), c3 := fun h1 => (by cases h1)
    kx := fun hk => by
      obtain ⟨g, e, hx, h0, -⟩ := h.kx hk
      obtain ⟨h1, h2⟩ := kx_grown hx (h0 rfl rfl) hg hat
      exact ⟨g, e, h1, fun _ h3 => (by cases h3), fun _ _ => h2, fun h3 => (by cases h3)⟩ }
theorem CH.two (h : CH V0 k L1 L2 L3 b0 true false false bk x0 x1 x2 x3 xk V) (hO : Row V0 V2 v L2) (hb : Below V0.heap.size V V2) (hg : V.grownBy V2 x1.ownBlock) (hat : v.ownBlock = x1.ownBlock ∨ v.ownBlock = some V.heap.size) : CH V0 k L1 L2 L3 b0 true true false bk x0 x1 v x3 xk V2 :=
  { bel := h.bel.trans hb, r0 := fun _ h1 => (by cases h1), r1 := fun _ h1 => (by cases h1), r2 := fun _ _ => hO, r3 := fun h1 => (by cases h1), c1 := h.c1, c2 := fun _ => rfl, c3 := fun h1 => (by cases h1)
    kx := fun hk => by
      obtain ⟨g, e, hx, -, h0, -⟩ := h.kx hk
      obtain ⟨h1, h2⟩ := kx_grown hx (h0 rfl rfl) hg hat
      exact ⟨g, e, h1, fun _ h3 => (by cases h3), fun _ h3 => (by cases h3), fun _ _ => h2⟩ }
theorem CH.three (h : CH V0 k L1 L2 L3 b0 b1 true false bk x0 x1 x2 x3 xk V) (hO : Row V0 V2 v L3) (hb : Below V0.heap.size V V2) (hg : V.grownBy V2 x2.ownBlock) (hat : v.ownBlock = x2.ownBlock ∨ v.ownBlock = some V.heap.size) : CH V0 k L1 L2 L3 b0 b1 true true bk x0 x1 x2 v xk V2 :=
  have hb1 := h.c2 rfl
  { bel := h.bel.trans hb, r0 := fun _ h1 => (by rw [hb1] at h1; cases h1), r1 := fun _ h1 => (by cases h1), r2 := fun _ h1 => (by cases h1), r3 := fun _ => hO, c1 := h.c1, c2 := h.c2, c3 := fun _ => rfl
    kx := fun hk => by
      obtain ⟨g, e, hx, -, -, h0⟩ := h.kx hk
      obtain ⟨h1, h2⟩ := kx_grown hx (h0 rfl rfl) hg hat
      exact ⟨g, e, h1, fun _ h3 => (by rw [hb1] at h3; cases h3), fun _ h3 => (by cases h3), fun _ h3 => (by cases h3)⟩ }
theorem CH.start (V0 : World) (k : List Int) (L1 L2 L3 : List (List Int)) (x0 x1 x2 x3 xk : Value) : CH V0 k L1 L2 L3 false false false false false x0 x1 x2 x3 xk { V0 with drawn := V0.drawn + 1 } :=
  { bel := (Below.refl _ V0).drew, r0 := fun h1 => (by cases h1), r1 := fun h1 => (by cases h1), r2 := fun h1 => (by cases h1), r3 := fun h1 => (by cases h1), c1 := fun h1 => (by cases h1), c2 := fun h1 => (by cases h1), c3 := fun h1 => (by cases h1), kx := fun h1 => (by cases h1) }
end
/-- What Drop and Push return. -/
def dropM (Ks : List (List Int)) (k : List Int) : List (List Int) × Bool := if idxL k Ks 0 < 0 then (Ks, false) else (Ks.take (idxL k Ks 0).toNat ++ Ks.drop ((idxL k Ks 0).toNat + 1), true)
def capN (size : Int) : Int := max 0 (min size 1024)
def pushK (Ks : List (List Int)) (size : Int) (k : List Int) : List (List Int) × Bool :=
  if idxL k Ks 0 < 0 then (if capN size < Ks.length + 1 then (Ks ++ [k]).drop 1 else Ks ++ [k], true) else (Ks.take (idxL k Ks 0).toNat ++ Ks.drop ((idxL k Ks 0).toNat + 1) ++ [k], false)
def RowO (w : World) (a : Option Addr) (L : List (List Int)) (ok : Bool) (e : Ending) (w' : World) : Prop := ∃ a2 c2, e = .returned (.tuple #[.slice a2 L.length c2, .bool ok]) ∧ Cs w' a2 (kcells L) ∧ L.length ≤ c2 ∧ Below w.heap.size w w' ∧ Fr w w' a a2
theorem RowO.of {w V0 V : World} {a : Option Addr} {x : Value} {L : List (List Int)} (ok : Bool) (h : Row V0 V x L) (hb : Below w.heap.size w V) (hV : w.heap.size ≤ V0.heap.size) : RowO w a L ok (.returned (.tuple #[x, .bool ok])) V := by
  have hlt := h.lt
  obtain ⟨a2, c2, rfl, hc, hl⟩ := own_k h
  exact ⟨a2, c2, rfl, hc, hl, hb, .inr fun y hy => by
    have := hlt y.block (by rw [hy]; rfl)
    omega⟩
theorem box_start (k : List Int) (w : World) : Below w.heap.size w (w.alloc (.cells (w8s k) 34)) ∧ Bx (w.alloc (.cells (w8s k) 34)) w.heap.size (w8s k) 34 := ⟨(Below.refl _ w).alloc (by simp) _, heap_alloc_last w _⟩
theorem build_k {k : List Int} (hk : k.length = 32) (V : World) : (Instr.buildSlice 30 1 #[(0, .agg (w8s k))]).run Try.prog V = .ok (.slice (some ⟨V.heap.size, 0, none⟩) 1 1) (V.alloc (.cells (w8s k) 34)) := build_one k hk V
set_option maxRecDepth 100000 in
set_option maxHeartbeats 4000000 in
theorem ref_drop (al : Option Addr) (c : Nat) (Ks : List (List Int)) (k : List Int) (w : World) (hk : k.length = 32) (hR : Cs w al (kcells Ks)) (hcc : Ks.length ≤ c) (hc : Kc Ks) (hl : Ks.length ≤ 1000) :
    Calls Try.prog 13 #[.slice al Ks.length c, .agg (w8s k)] w (RowO w al (dropM Ks k).1 (dropM Ks k).2) := by
  obtain ⟨hb0, hX0⟩ := box_start k w
  have HA := Lib.hid (hR.below hb0)
  have HC := Lib.hid hc
  have C1 := ref_index al c Ks k _ hk (hR.below hb0) hc (by omega)
  obtain ⟨n, hnn⟩ : ∃ n, Ks.length = n := ⟨_, rfl⟩
  have HN := Lib.hid hnn
  rcases idxL_range k Ks 0 with hi | ⟨i, hi, hil, -⟩
  · have HO : Hid (∀ W : World, Below w.heap.size w W → RowO w al (dropM Ks k).1 (dropM Ks k).2 (.returned (.tuple #[.slice al n c, .bool false])) W) := Lib.hid (fun W hb => by
      unfold dropM
      rw [if_pos (by omega)]
      exact ⟨al, c, by rw [HN.out], hR.below hb, hcc, hb, .inl rfl⟩)
    rw [hi] at C1
    generalize dropM Ks k = D at *
    rw [hnn] at hl hcc C1 ⊢
    clear hR hc hnn hi
    go_enter Try.func13, Try.ntmps13
    go_upto_region 1 with fail
    change Code.wp _ _ _ _ (w.alloc (.cells (w8s k) 34))
    generalize w.alloc (.cells (w8s k) 34) = W at *
    apply wp_region_lit
    refine gw_val (by kernel_rfl) (some 7) rfl (.slice al n c) (by kernel_rfl) ?_
    simp only [Act.put, List.setIfInBounds_toArray, List.set_cons_succ, List.set_cons_zero]
    refine gw_load (by kernel_rfl) (some 8) rfl 34 (.tmp 3) rfl ⟨w.heap.size, 0, none⟩ (.agg (w8s k)) (by kernel_rfl) (load_key hX0 hk) ?_
    simp only [Act.put, List.setIfInBounds_toArray, List.set_cons_succ, List.set_cons_zero]
    refine gw_call (by kernel_rfl) (some 9) rfl 26 #[.slice al n c, .agg (w8s k)] (.int .i64 (-1)) (Below W.heap.size W) (by kernel_rfl) C1 (fun V0 hb => ?_)
    simp only [Act.put, List.setIfInBounds_toArray, List.set_cons_succ, List.set_cons_zero]
    refine gw_val (by kernel_rfl) (some 6) rfl (.int .i64 (-1)) (by kernel_rfl) ?_
    simp only [Act.put, List.setIfInBounds_toArray, List.set_cons_succ, List.set_cons_zero]
    apply wpList_nil
    have HB := Lib.hid (hb0.trans (hb.mono hb0.size))
    clear hb0 hb C1 hX0
    go_upto_region 2 with fail
    apply wp_region_lit
    refine gw_val (by kernel_rfl) (some 10) rfl (.int .i64 (-1)) (by kernel_rfl) ?_
    simp only [Act.put, List.setIfInBounds_toArray, List.set_cons_succ, List.set_cons_zero]
    refine gw_val (by kernel_rfl) (some 11) rfl (.bool true) (by kernel_rfl) ?_
    simp only [Act.put, List.setIfInBounds_toArray, List.set_cons_succ, List.set_cons_zero]
    apply wpList_nil
    go_upto_region 3 with fail
    apply wp_region_lit
    refine gw_val (by kernel_rfl) (some 12) rfl (.slice al n c) (by kernel_rfl) ?_
    simp only [Act.put, List.setIfInBounds_toArray, List.set_cons_succ, List.set_cons_zero]
    refine gw_val (by kernel_rfl) (some 4) rfl (.slice al n c) (by kernel_rfl) ?_
    simp only [Act.put, List.setIfInBounds_toArray, List.set_cons_succ, List.set_cons_zero]
    refine gw_val (by kernel_rfl) (some 5) rfl (.bool false) (by kernel_rfl) ?_
    simp only [Act.put, List.setIfInBounds_toArray, List.set_cons_succ, List.set_cons_zero]
    apply wpList_nil
    go_wp2_with fail
    go_ret2
    exact HO.out _ HB.out
  · rw [Nat.zero_add] at hi
    have hdm : dropM Ks k = (Ks.take i ++ Ks.drop (i + 1), true) := by
      unfold dropM
      rw [hi, if_neg (by omega), Int.toNat_natCast]
    rw [hdm]
    rw [hi] at C1
    have htl : (Ks.take i).length = i := by rw [List.length_take]; omega
    have hdl : (Ks.drop (i + 1)).length = n - (i + 1) := by rw [List.length_drop, hnn]
    rw [hnn] at hl hcc hil C1 ⊢
    have hd : decide ((i : Int) < 0) = false := decide_eq_false (by omega)
    clear hR hc hnn hi hdm
    go_enter Try.func13, Try.ntmps13
    go_upto_region 1 with fail
    change Code.wp _ _ _ _ (w.alloc (.cells (w8s k) 34))
    generalize w.alloc (.cells (w8s k) 34) = W at *
    apply wp_region_lit
    refine gw_val (by kernel_rfl) (some 7) rfl (.slice al n c) (by kernel_rfl) ?_
    simp only [Act.put, List.setIfInBounds_toArray, List.set_cons_succ, List.set_cons_zero]
    refine gw_load (by kernel_rfl) (some 8) rfl 34 (.tmp 3) rfl ⟨w.heap.size, 0, none⟩ (.agg (w8s k)) (by kernel_rfl) (load_key hX0 hk) ?_
    simp only [Act.put, List.setIfInBounds_toArray, List.set_cons_succ, List.set_cons_zero]
    refine gw_call (by kernel_rfl) (some 9) rfl 26 #[.slice al n c, .agg (w8s k)] (.int .i64 i) (Below W.heap.size W) (by kernel_rfl) C1 (fun V0 hb => ?_)
    simp only [Act.put, List.setIfInBounds_toArray, List.set_cons_succ, List.set_cons_zero]
    refine gw_val (by kernel_rfl) (some 6) rfl (.int .i64 i) (by kernel_rfl) ?_
    simp only [Act.put, List.setIfInBounds_toArray, List.set_cons_succ, List.set_cons_zero]
    apply wpList_nil
    have HA0 := HA.out.below hb
    have HA := Lib.hid HA0
    have hX0 := hX0.below hX0.lt hb
    have hBw := hb0.trans (hb.mono hb0.size)
    clear hb0 hb C1 HA0
    go_upto_region 2 with fail
    apply wp_region_lit
    refine gw_val (by kernel_rfl) (some 10) rfl (.int .i64 i) (by kernel_rfl) ?_
    simp only [Act.put, List.setIfInBounds_toArray, List.set_cons_succ, List.set_cons_zero]
    refine gw_val (by kernel_rfl) (some 11) rfl (.bool (decide ((i : Int) < 0))) (by kernel_rfl) ?_
    simp only [Act.put, List.setIfInBounds_toArray, List.set_cons_succ, List.set_cons_zero]
    rw [hd]
    apply wpList_nil
    have h0 := CH.start V0 k (Ks.take i) (Ks.take i ++ Ks.drop (i + 1)) [] undef undef undef undef undef
    go_upto_region 4 with fail
    refine wp_region_inv (fun listed act9 V => ∃ b0 b1 b2 b3 b4 b5 b6 b7 b8 b9 b10 b11 : Bool, ∃ x13 x17 x22 : Value, listed = #[b0, b1, b2, b3, b4, b5, b6, b7, b8, b9, b10, b11] ∧ act9 = { tmps := #[.slice al n c, .agg (w8s k), undef, .pointer (some ⟨w.heap.size, 0, none⟩), (cond b10 (x22) (.slice none 0 0)), (cond b11 (.bool true) (.bool false)), .int .i64 i, .slice al n c, .agg (w8s k), .int .i64 i, .int .i64 i, .bool false, undef, x13, (cond b1 (.slice al n c) undef), (cond b2 (.int .i64 i) undef), (cond b3 (.slice al i c) undef), x17, (cond b5 (.slice al n c) undef), (cond b6 (.int .i64 i) undef), (cond b7 (.int .i64 (i + 1 : Nat)) undef), (cond b8 (.slice (fromS 32 al c (i + 1)) (n - (i + 1)) (c - (i + 1))) undef), x22], defers := [] } ∧ CH V0 k (Ks.take i) (Ks.take i ++ Ks.drop (i + 1)) [] b0 b4 b9 false false x13 x17 x22 undef undef V ∧ (b10 = true → b9 = true)) (by kernel_rfl) (by kernel_rfl) ?_ ?_ ?_
    · exact ⟨false, false, false, false, false, false, false, false, false, false, false, false, undef, undef, undef, rfl, rfl, h0, fun h => (by cases h)⟩
    · intro i9 listed act9 V hi9 hr hJ
      obtain ⟨b0, b1, b2, b3, b4, b5, b6, b7, b8, b9, b10, b11, x13, x17, x22, rfl, rfl, hF, hA⟩ := hJ
      have hi2 : i9 < 12 := hi9
      have hi3 : i9 = 0 ∨ i9 = 1 ∨ i9 = 2 ∨ i9 = 3 ∨ i9 = 4 ∨ i9 = 5 ∨ i9 = 6 ∨ i9 = 7 ∨ i9 = 8 ∨ i9 = 9 ∨ i9 = 10 ∨ i9 = 11 := by omega
      rcases hi3 with rfl | rfl | rfl | rfl | rfl | rfl | rfl | rfl | rfl | rfl | rfl | rfl
      · obtain rfl : b0 = false := ready_self hr
        obtain rfl : b4 = false := by cases b4; rfl; exact absurd (hF.c1 rfl) (by decide)
        obtain rfl : b9 = false := by cases b9; rfl; exact absurd (hF.c2 rfl) (by decide)
        refine st_build rfl (by kernel_rfl) (some 13) rfl 30 0 #[] rfl #[] (by kernel_rfl) (.slice (some ⟨V.heap.size, 0, none⟩) 0 0) _ (nil_k V) ?_
        exact ⟨true, b1, b2, b3, false, b5, b6, b7, b8, false, b10, b11, _, x17, x22, rfl, rfl, hF.nil, hA⟩
      · obtain rfl : b1 = false := ready_self hr
        refine st_val rfl (by kernel_rfl) (some 14) rfl (.slice al n c) V (by kernel_rfl) ?_
        exact ⟨b0, true, b2, b3, b4, b5, b6, b7, b8, b9, b10, b11, x13, x17, x22, rfl, rfl, hF, hA⟩
      · obtain rfl : b2 = false := ready_self hr
        refine st_val rfl (by kernel_rfl) (some 15) rfl (.int .i64 i) V (by kernel_rfl) ?_
        exact ⟨b0, b1, true, b3, b4, b5, b6, b7, b8, b9, b10, b11, x13, x17, x22, rfl, rfl, hF, hA⟩
      · obtain rfl : b3 = false := ready_self hr
        obtain rfl : b1 = true := ready_dep hr 1 (by kernel_rfl)
        obtain rfl : b2 = true := ready_dep hr 2 (by kernel_rfl)
        refine st_slice_to rfl (by kernel_rfl) (some 16) rfl 30 (.tmp 14) (.tmp 15) rfl (.slice al n c) (.int .i64 (i : Int)) (.slice al i c) (by kernel_rfl) (by kernel_rfl) (cut_k_to al n c i V (by omega)) ?_
        exact ⟨b0, true, true, true, b4, b5, b6, b7, b8, b9, b10, b11, x13, x17, x22, rfl, rfl, hF, hA⟩
      · obtain rfl : b4 = false := ready_self hr
        obtain rfl : b0 = true := ready_dep hr 0 (by kernel_rfl)
        obtain rfl : b3 = true := ready_dep hr 3 (by kernel_rfl)
        obtain rfl : b9 = false := by cases b9; rfl; exact absurd (hF.c2 rfl) (by decide)
        have hO := hF.r0 rfl rfl
        obtain ⟨v, V2, hap, hO2, hb2, hg2, hat2⟩ := hO.app hF.bel.size al i c (Ks.take i) (by rw [← kcells_take Ks HC.out i]; exact (HA.out.below hF.bel).take _) (HC.out.take i) htl (by simp) (by omega)
        refine st_append rfl (by kernel_rfl) (some 17) rfl 30 rfl (.tmp 13) (.tmp 16) 30 rfl x13 (.slice al i c) v V2 (by kernel_rfl) (by kernel_rfl) hap ?_
        exact ⟨true, b1, b2, true, true, b5, b6, b7, b8, false, b10, b11, x13, v, x22, rfl, rfl, hF.one (by rw [List.nil_append] at hO2; exact hO2) hb2 hg2 hat2, hA⟩
      · obtain rfl : b5 = false := ready_self hr
        refine st_val rfl (by kernel_rfl) (some 18) rfl (.slice al n c) V (by kernel_rfl) ?_
        exact ⟨b0, b1, b2, b3, b4, true, b6, b7, b8, b9, b10, b11, x13, x17, x22, rfl, rfl, hF, hA⟩
      · obtain rfl : b6 = false := ready_self hr
        refine st_val rfl (by kernel_rfl) (some 19) rfl (.int .i64 i) V (by kernel_rfl) ?_
        exact ⟨b0, b1, b2, b3, b4, b5, true, b7, b8, b9, b10, b11, x13, x17, x22, rfl, rfl, hF, hA⟩
      · obtain rfl : b7 = false := ready_self hr
        obtain rfl : b6 = true := ready_dep hr 6 (by kernel_rfl)
        refine st_val rfl (by kernel_rfl) (some 20) rfl (.int .i64 (i + 1 : Nat)) V (add_one rfl i (by omega) (by kernel_rfl) V) ?_
        exact ⟨b0, b1, b2, b3, b4, b5, true, true, b8, b9, b10, b11, x13, x17, x22, rfl, rfl, hF, hA⟩
      · obtain rfl : b8 = false := ready_self hr
        obtain rfl : b5 = true := ready_dep hr 5 (by kernel_rfl)
        obtain rfl : b7 = true := ready_dep hr 7 (by kernel_rfl)
        refine st_slice_from rfl (by kernel_rfl) (some 21) rfl 30 (.tmp 18) (.tmp 20) rfl (.slice al n c) (.int .i64 ((i + 1 : Nat) : Int)) (.slice (fromS 32 al c (i + 1)) (n - (i + 1)) (c - (i + 1))) (by kernel_rfl) (by kernel_rfl) (cut_k_from al n c (i + 1) V (by omega)) ?_
        exact ⟨b0, b1, b2, b3, b4, true, b6, true, true, b9, b10, b11, x13, x17, x22, rfl, rfl, hF, hA⟩
      · obtain rfl : b9 = false := ready_self hr
        obtain rfl : b4 = true := ready_dep hr 4 (by kernel_rfl)
        obtain rfl : b8 = true := ready_dep hr 8 (by kernel_rfl)
        obtain rfl : b10 = false := by cases b10; rfl; exact absurd (hA rfl) (by decide)
        have hO := hF.r1 rfl rfl
        obtain ⟨v, V2, hap, hO2, hb2, hg2, hat2⟩ := hO.app hF.bel.size (fromS 32 al c (i + 1)) (n - (i + 1)) (c - (i + 1)) (Ks.drop (i + 1)) (by rw [← kcells_drop Ks HC.out (i + 1)]; exact (HA.out.below hF.bel).from 32 c (i + 1) (by rw [kcells_len Ks HC.out, HN.out]; omega)) (HC.out.drop (i + 1)) hdl (by omega) (by omega)
        refine st_append rfl (by kernel_rfl) (some 22) rfl 30 rfl (.tmp 17) (.tmp 21) 30 rfl x17 (.slice (fromS 32 al c (i + 1)) (n - (i + 1)) (c - (i + 1))) v V2 (by kernel_rfl) (by kernel_rfl) hap ?_
        exact ⟨b0, b1, b2, b3, true, b5, b6, b7, true, true, false, b11, x13, x17, v, rfl, rfl, hF.two hO2 hb2 hg2 hat2, fun h => (by cases h)⟩
      · obtain rfl : b10 = false := ready_self hr
        obtain rfl : b9 = true := ready_dep hr 9 (by kernel_rfl)
        refine st_val rfl (by kernel_rfl) (some 4) rfl (x22) V (by kernel_rfl) ?_
        exact ⟨b0, b1, b2, b3, b4, b5, b6, b7, b8, true, true, b11, x13, x17, x22, rfl, rfl, hF, fun _ => rfl⟩
      · obtain rfl : b11 = false := ready_self hr
        refine st_val rfl (by kernel_rfl) (some 5) rfl (.bool true) V (by kernel_rfl) ?_
        exact ⟨b0, b1, b2, b3, b4, b5, b6, b7, b8, b9, b10, true, x13, x17, x22, rfl, rfl, hF, hA⟩
    · intro act9 V hJ
      obtain ⟨b0, b1, b2, b3, b4, b5, b6, b7, b8, b9, b10, b11, x13, x17, x22, he, rfl, hF, hA⟩ := hJ
      have he : (#[true, true, true, true, true, true, true, true, true, true, true, true] : Array Bool) = #[b0, b1, b2, b3, b4, b5, b6, b7, b8, b9, b10, b11] := he
      simp only [Array.mk.injEq, List.cons.injEq, and_true] at he
      obtain ⟨rfl, rfl, rfl, rfl, rfl, rfl, rfl, rfl, rfl, rfl, rfl, rfl⟩ := he
      simp only [cond_true]
      have hO := hF.r2 rfl rfl
      have HO := Lib.hid (RowO.of (a := al) true hO (hBw.trans (hF.bel.mono hBw.size)) hBw.size)
      clear hF h0 hO hBw hX0
      go_wp2_with fail
      go_ret2
      exact HO.out
theorem max_int {ρ : Operand → Value} {o : Oper} {x y : Operand} (ho : o.op = .call { callee := .builtin .max, args := #[x, y], argTypes := #[3, 3] }) (a b : Int) (hx : ρ x = .int .i64 a) (hy : ρ y = .int .i64 b) (w : World) : (execOp ρ o).run Try.prog w = .ok (.value (.int .i64 (max a b))) w := by
  unfold execOp
  simp only [ho, hx, hy, resolve, invoke, builtin, Sem.run_bind, Sem.run_pure, Result.andThen_ok, List.map_toArray, List.map_cons, List.map_nil]
  simp [go_sem]
  by_cases hab : a < b
  · rw [if_pos hab, Int.max_eq_right (by omega)]
  · rw [if_neg hab, Int.max_eq_left (by omega)]
theorem min_int {ρ : Operand → Value} {o : Oper} {x y : Operand} (ho : o.op = .call { callee := .builtin .min, args := #[x, y], argTypes := #[3, 3] }) (a b : Int) (hx : ρ x = .int .i64 a) (hy : ρ y = .int .i64 b) (w : World) : (execOp ρ o).run Try.prog w = .ok (.value (.int .i64 (min a b))) w := by
  unfold execOp
  simp only [ho, hx, hy, resolve, invoke, builtin, Sem.run_bind, Sem.run_pure, Result.andThen_ok, List.map_toArray, List.map_cons, List.map_nil]
  simp [go_sem]
  by_cases hab : b < a
  · rw [if_pos hab, Int.min_eq_right (by omega)]
  · rw [if_neg hab, Int.min_eq_left (by omega)]
theorem RowO.drop1 {w V0 V : World} {a : Option Addr} {x : Value} {L : List (List Int)} (h : Row V0 V x L) (hk : Kc L) (hb : Below w.heap.size w V) (hV : w.heap.size ≤ V0.heap.size) (h1 : 1 ≤ L.length) : ∃ a2 c2, x = .slice a2 L.length c2 ∧ L.length ≤ c2 ∧ RowO w a (L.drop 1) true (.returned (.tuple #[.slice (fromS 32 a2 c2 1) (L.length - 1) (c2 - 1), .bool true])) V := by
  have hlt := h.lt
  obtain ⟨a2, c2, rfl, hc, hl⟩ := own_k h
  have hdl : (L.drop 1).length = L.length - 1 := List.length_drop
  refine ⟨a2, c2, rfl, hl, _, _, by rw [hdl], ?_, by omega, hb, .inr fun y hy => ?_⟩
  · rw [← kcells_drop L hk 1]
    exact hc.from 32 c2 1 (by rw [kcells_len L hk]; omega)
  · unfold fromS at hy
    have hblk : ∃ z, a2 = some z ∧ z.block = y.block := by
      split at hy
      · exact ⟨y, hy, rfl⟩
      · cases a2 with
        | none => cases hy
        | some z =>
          simp only [Option.map_some, Option.some.injEq] at hy
          exact ⟨z, rfl, by rw [← hy]; simp [Addr.add]⟩
    obtain ⟨z, hz, hzy⟩ := hblk
    have := hlt z.block (by rw [hz]; rfl)
    omega
set_option maxRecDepth 100000 in
set_option maxHeartbeats 4000000 in
theorem ref_push (al : Option Addr) (c : Nat) (Ks : List (List Int)) (size : Int) (k : List Int) (w : World) (hk : k.length = 32) (hR : Cs w al (kcells Ks)) (hcc : Ks.length ≤ c) (hc : Kc Ks) (hl : Ks.length ≤ 1000) :
    Calls Try.prog 16 #[.slice al Ks.length c, .int .i64 size, .agg (w8s k)] w (RowO w al (pushK Ks size k).1 (pushK Ks size k).2) := by
  obtain ⟨hb0, hX0⟩ := box_start k w
  have HA := Lib.hid (hR.below hb0)
  have HC := Lib.hid hc
  have C1 := ref_index al c Ks k _ hk (hR.below hb0) hc (by omega)
  obtain ⟨n, hnn⟩ : ∃ n, Ks.length = n := ⟨_, rfl⟩
  have HN := Lib.hid hnn
  have hlast : Kc [k] := Kc.one hk
  rcases idxL_range k Ks 0 with hi | ⟨i, hi, hil, -⟩
  · obtain ⟨L2, hL2⟩ : ∃ L2, L2 = (if capN size < Ks.length + 1 then (Ks ++ [k]).drop 1 else Ks ++ [k]) := ⟨_, rfl⟩
    have hpm : pushK Ks size k = (L2, true) := by
      unfold pushK
      rw [if_pos (by omega), hL2]
    rw [hpm]
    obtain ⟨cs, hcs⟩ : ∃ cs, capN size = cs := ⟨_, rfl⟩
    rw [hcs, hnn] at hL2
    have HL2 := Lib.hid hL2
    rw [hi] at C1
    have hl1 : (Ks ++ [k]).length = n + 1 := by simp [hnn]
    have HKK := Lib.hid (hc.app hlast)
    rw [hnn] at hl hcc C1 ⊢
    clear hR hc hnn hi hpm hL2
    go_enter Try.func16, Try.ntmps16
    go_upto_region 1 with fail
    change Code.wp _ _ _ _ (w.alloc (.cells (w8s k) 34))
    generalize w.alloc (.cells (w8s k) 34) = W at *
    apply wp_region_lit
    refine gw_val (by kernel_rfl) (some 10) rfl (.int .i64 size) (by kernel_rfl) ?_
    simp only [Act.put, List.setIfInBounds_toArray, List.set_cons_succ, List.set_cons_zero]
    refine gw_val (by kernel_rfl) (some 11) rfl (.int .i64 (min size 1024)) (min_int rfl size 1024 (by kernel_rfl) (by kernel_rfl) _) ?_
    simp only [Act.put, List.setIfInBounds_toArray, List.set_cons_succ, List.set_cons_zero]
    refine gw_val (by kernel_rfl) (some 12) rfl (.int .i64 (max 0 (min size 1024))) (max_int rfl 0 (min size 1024) (by kernel_rfl) (by kernel_rfl) _) ?_
    simp only [Act.put, List.setIfInBounds_toArray, List.set_cons_succ, List.set_cons_zero]
    rw [show max 0 (min size 1024) = cs from hcs]
    refine gw_val (by kernel_rfl) (some 1) rfl (.int .i64 cs) (by kernel_rfl) ?_
    simp only [Act.put, List.setIfInBounds_toArray, List.set_cons_succ, List.set_cons_zero]
    apply wpList_nil
    go_upto_region 2 with fail
    apply wp_region_lit
    refine gw_val (by kernel_rfl) (some 13) rfl (.slice al n c) (by kernel_rfl) ?_
    simp only [Act.put, List.setIfInBounds_toArray, List.set_cons_succ, List.set_cons_zero]
    refine gw_load (by kernel_rfl) (some 14) rfl 34 (.tmp 5) rfl ⟨w.heap.size, 0, none⟩ (.agg (w8s k)) (by kernel_rfl) (load_key hX0 hk) ?_
    simp only [Act.put, List.setIfInBounds_toArray, List.set_cons_succ, List.set_cons_zero]
    refine gw_call (by kernel_rfl) (some 15) rfl 26 #[.slice al n c, .agg (w8s k)] (.int .i64 (-1)) (Below W.heap.size W) (by kernel_rfl) C1 (fun V0 hb => ?_)
    simp only [Act.put, List.setIfInBounds_toArray, List.set_cons_succ, List.set_cons_zero]
    refine gw_val (by kernel_rfl) (some 8) rfl (.int .i64 (-1)) (by kernel_rfl) ?_
    simp only [Act.put, List.setIfInBounds_toArray, List.set_cons_succ, List.set_cons_zero]
    apply wpList_nil
    have HA0 := HA.out.below hb
    have HA := Lib.hid HA0
    have hX0 := hX0.below hX0.lt hb
    have hBw := hb0.trans (hb.mono hb0.size)
    clear hb0 hb C1 HA0
    go_upto_region 3 with fail
    apply wp_region_lit
    refine gw_val (by kernel_rfl) (some 16) rfl (.int .i64 (-1)) (by kernel_rfl) ?_
    simp only [Act.put, List.setIfInBounds_toArray, List.set_cons_succ, List.set_cons_zero]
    refine gw_val (by kernel_rfl) (some 17) rfl (.bool false) (by kernel_rfl) ?_
    simp only [Act.put, List.setIfInBounds_toArray, List.set_cons_succ, List.set_cons_zero]
    apply wpList_nil
    have h0 := CH.start V0 k Ks (Ks ++ [k]) [] undef undef undef undef undef
    go_upto_region 5 with fail
    refine wp_region_inv (fun listed act9 V => ∃ b0 b1 b2 b3 b4 b5 b6 : Bool, ∃ x31 x33 x35 x36 : Value, listed = #[b0, b1, b2, b3, b4, b5, b6] ∧ act9 = { tmps := #[.slice al n c, .int .i64 cs, .agg (w8s k), undef, undef, .pointer (some ⟨w.heap.size, 0, none⟩), .slice none 0 0, .bool false, .int .i64 (-1), (cond b6 (x36) undef), .int .i64 size, .int .i64 (min size 1024), .int .i64 cs, .slice al n c, .agg (w8s k), .int .i64 (-1), .int .i64 (-1), .bool false, undef, undef, undef, undef, undef, undef, undef, undef, undef, undef, undef, undef, undef, x31, (cond b1 (.slice al n c) undef), x33, (cond b3 (.agg (w8s k)) undef), x35, x36, undef, undef, undef, undef, undef, undef, undef], defers := [] } ∧ CH V0 k Ks (Ks ++ [k]) [] b0 b2 b5 false b4 x31 x33 x36 undef x35 V ∧ (b6 = true → b5 = true)) (by kernel_rfl) (by kernel_rfl) ?_ ?_ ?_
    · exact ⟨false, false, false, false, false, false, false, undef, undef, undef, undef, rfl, rfl, h0, fun h => (by cases h)⟩
    · intro i9 listed act9 V hi9 hr hJ
      obtain ⟨b0, b1, b2, b3, b4, b5, b6, x31, x33, x35, x36, rfl, rfl, hF, hA⟩ := hJ
      have hi2 : i9 < 7 := hi9
      have hi3 : i9 = 0 ∨ i9 = 1 ∨ i9 = 2 ∨ i9 = 3 ∨ i9 = 4 ∨ i9 = 5 ∨ i9 = 6 := by omega
      rcases hi3 with rfl | rfl | rfl | rfl | rfl | rfl | rfl
      · obtain rfl : b0 = false := ready_self hr
        obtain rfl : b2 = false := by cases b2; rfl; exact absurd (hF.c1 rfl) (by decide)
        obtain rfl : b5 = false := by cases b5; rfl; exact absurd (hF.c2 rfl) (by decide)
        refine st_build rfl (by kernel_rfl) (some 31) rfl 30 0 #[] rfl #[] (by kernel_rfl) (.slice (some ⟨V.heap.size, 0, none⟩) 0 0) _ (nil_k V) ?_
        exact ⟨true, b1, false, b3, b4, false, b6, _, x33, x35, x36, rfl, rfl, hF.nil, hA⟩
      · obtain rfl : b1 = false := ready_self hr
        refine st_val rfl (by kernel_rfl) (some 32) rfl (.slice al n c) V (by kernel_rfl) ?_
        exact ⟨b0, true, b2, b3, b4, b5, b6, x31, x33, x35, x36, rfl, rfl, hF, hA⟩
      · obtain rfl : b2 = false := ready_self hr
        obtain rfl : b0 = true := ready_dep hr 0 (by kernel_rfl)
        obtain rfl : b1 = true := ready_dep hr 1 (by kernel_rfl)
        obtain rfl : b5 = false := by cases b5; rfl; exact absurd (hF.c2 rfl) (by decide)
        have hO := hF.r0 rfl rfl
        obtain ⟨v, V2, hap, hO2, hb2, hg2, hat2⟩ := hO.app hF.bel.size al n c Ks (HA.out.below hF.bel) HC.out HN.out (by simp) (by omega)
        refine st_append rfl (by kernel_rfl) (some 33) rfl 30 rfl (.tmp 31) (.tmp 32) 30 rfl x31 (.slice al n c) v V2 (by kernel_rfl) (by kernel_rfl) hap ?_
        exact ⟨true, true, true, b3, b4, false, b6, x31, v, x35, x36, rfl, rfl, hF.one (by rw [List.nil_append] at hO2; exact hO2) hb2 hg2 hat2, hA⟩
      · obtain rfl : b3 = false := ready_self hr
        refine st_load rfl (by kernel_rfl) (some 34) rfl 34 (.tmp 5) rfl ⟨w.heap.size, 0, none⟩ (.agg (w8s k)) (by kernel_rfl) (load_key (hX0.below hX0.lt hF.bel) hk) ?_
        exact ⟨b0, b1, b2, true, b4, b5, b6, x31, x33, x35, x36, rfl, rfl, hF, hA⟩
      · obtain rfl : b4 = false := ready_self hr
        obtain rfl : b3 = true := ready_dep hr 3 (by kernel_rfl)
        refine st_build rfl (by kernel_rfl) (some 35) rfl 30 1 #[(0, .tmp 34)] rfl #[(0, .agg (w8s k))] (by kernel_rfl) (.slice (some ⟨V.heap.size, 0, none⟩) 1 1) _ (build_k hk V) ?_
        exact ⟨b0, b1, b2, true, true, b5, b6, x31, x33, _, x36, rfl, rfl, hF.key, hA⟩
      · obtain rfl : b5 = false := ready_self hr
        obtain rfl : b2 = true := ready_dep hr 2 (by kernel_rfl)
        obtain rfl : b4 = true := ready_dep hr 4 (by kernel_rfl)
        obtain rfl : b6 = false := by cases b6; rfl; exact absurd (hA rfl) (by decide)
        have hO := hF.r1 rfl rfl
        obtain ⟨gk, rfl, hgx, -⟩ := hF.kx rfl
        have hgc : Cs V (some ⟨gk, 0, none⟩) (kcells [k]) := by rw [show kcells [k] = k.map (Value.int .u8) by simp [kcells]]; exact Cs.block (cs := k.map (Value.int .u8)) hgx
        obtain ⟨v, V2, hap, hO2, hb2, hg2, hat2⟩ := hO.app hF.bel.size (some ⟨gk, 0, none⟩) 1 1 [k] hgc hlast rfl (by rw [HN.out]; omega) (by omega)
        refine st_append rfl (by kernel_rfl) (some 36) rfl 30 rfl (.tmp 33) (.tmp 35) 30 rfl x33 (.slice (some ⟨gk, 0, none⟩) 1 1) v V2 (by kernel_rfl) (by kernel_rfl) hap ?_
        exact ⟨b0, b1, true, b3, true, true, false, x31, x33, _, v, rfl, rfl, hF.two hO2 hb2 hg2 hat2, fun h => (by cases h)⟩
      · obtain rfl : b6 = false := ready_self hr
        obtain rfl : b5 = true := ready_dep hr 5 (by kernel_rfl)
        refine st_val rfl (by kernel_rfl) (some 9) rfl (x36) V (by kernel_rfl) ?_
        exact ⟨b0, b1, b2, b3, b4, true, true, x31, x33, x35, x36, rfl, rfl, hF, fun _ => rfl⟩
    · intro act9 V hJ
      obtain ⟨b0, b1, b2, b3, b4, b5, b6, x31, x33, x35, x36, he, rfl, hF, hA⟩ := hJ
      have he : (#[true, true, true, true, true, true, true] : Array Bool) = #[b0, b1, b2, b3, b4, b5, b6] := he
      simp only [Array.mk.injEq, List.cons.injEq, and_true] at he
      obtain ⟨rfl, rfl, rfl, rfl, rfl, rfl, rfl⟩ := he
      simp only [cond_true]
      have hO := hF.r2 rfl rfl
      have hbel := hBw.trans (hF.bel.mono hBw.size)
      have HO := Lib.hid hO
      have hbw := hBw.size
      have hbz := hF.bel.size
      clear hF h0 hX0 hA
      by_cases hcap : cs < (n + 1 : Nat)
      · have hd : decide (cs < ((n + 1 : Nat) : Int)) = true := decide_eq_true hcap
        obtain ⟨a2, c2, rfl, hc2, hRO⟩ := RowO.drop1 (a := al) hO HKK.out hbel hbw (by omega)
        rw [hl1] at hRO hc2 ⊢
        have HRO : Hid (RowO w al L2 true (.returned (.tuple #[.slice (fromS 32 a2 c2 1) (n + 1 - 1) (c2 - 1), .bool true])) V) := Lib.hid (by rw [HL2.out, if_pos (by omega)]; exact hRO)
        have hcut := cut_k_from a2 (n + 1) c2 1 V (by omega)
        clear hO hRO hcap hbel hBw
        go_upto_region 6 with fail
        apply wp_region_lit
        refine gw_val (by kernel_rfl) (some 37) rfl (.slice a2 (n + 1) c2) (by kernel_rfl) ?_
        simp only [Act.put, List.setIfInBounds_toArray, List.set_cons_succ, List.set_cons_zero]
        refine gw_val (by kernel_rfl) (some 38) rfl (.int .i64 (n + 1 : Nat)) (by kernel_rfl) ?_
        simp only [Act.put, List.setIfInBounds_toArray, List.set_cons_succ, List.set_cons_zero]
        refine gw_val (by kernel_rfl) (some 39) rfl (.int .i64 cs) (by kernel_rfl) ?_
        simp only [Act.put, List.setIfInBounds_toArray, List.set_cons_succ, List.set_cons_zero]
        refine gw_val (by kernel_rfl) (some 40) rfl (.bool (decide (cs < ((n + 1 : Nat) : Int)))) (by kernel_rfl) ?_
        simp only [Act.put, List.setIfInBounds_toArray, List.set_cons_succ, List.set_cons_zero]
        rw [hd]
        apply wpList_nil
        go_upto_region 7 with fail
        apply wp_region_lit
        refine gw_val (by kernel_rfl) (some 41) rfl (.slice a2 (n + 1) c2) (by kernel_rfl) ?_
        simp only [Act.put, List.setIfInBounds_toArray, List.set_cons_succ, List.set_cons_zero]
        refine gw_slice_hi (by kernel_rfl) (some 42) rfl 30 (.tmp 41) (.const (.int .i64 1)) rfl (.slice a2 (n + 1) c2) (.int .i64 1) (.slice (fromS 32 a2 c2 1) (n + 1 - 1) (c2 - 1)) (by kernel_rfl) (by kernel_rfl) hcut ?_
        simp only [Act.put, List.setIfInBounds_toArray, List.set_cons_succ, List.set_cons_zero]
        refine gw_val (by kernel_rfl) (some 9) rfl (.slice (fromS 32 a2 c2 1) (n + 1 - 1) (c2 - 1)) (by kernel_rfl) ?_
        simp only [Act.put, List.setIfInBounds_toArray, List.set_cons_succ, List.set_cons_zero]
        apply wpList_nil
        go_upto_region 8 with fail
        apply wp_region_lit
        refine gw_val (by kernel_rfl) (some 43) rfl (.slice (fromS 32 a2 c2 1) (n + 1 - 1) (c2 - 1)) (by kernel_rfl) ?_
        simp only [Act.put, List.setIfInBounds_toArray, List.set_cons_succ, List.set_cons_zero]
        refine gw_val (by kernel_rfl) (some 6) rfl (.slice (fromS 32 a2 c2 1) (n + 1 - 1) (c2 - 1)) (by kernel_rfl) ?_
        simp only [Act.put, List.setIfInBounds_toArray, List.set_cons_succ, List.set_cons_zero]
        refine gw_val (by kernel_rfl) (some 7) rfl (.bool true) (by kernel_rfl) ?_
        simp only [Act.put, List.setIfInBounds_toArray, List.set_cons_succ, List.set_cons_zero]
        apply wpList_nil
        go_wp2_with fail
        go_ret2
        exact HRO.out
      · have hd : decide (cs < ((n + 1 : Nat) : Int)) = false := decide_eq_false hcap
        have HRO0 : RowO w al L2 true (.returned (.tuple #[x36, .bool true])) V := (by rw [HL2.out, if_neg (by omega)]; exact RowO.of true hO hbel hbw)
        obtain ⟨a2, c2, rfl, -, -⟩ := own_k hO
        rw [hl1] at HRO0 ⊢
        have HRO := Lib.hid HRO0
        clear hO HRO0 hcap hbel hBw
        go_upto_region 6 with fail
        apply wp_region_lit
        refine gw_val (by kernel_rfl) (some 37) rfl (.slice a2 (n + 1) c2) (by kernel_rfl) ?_
        simp only [Act.put, List.setIfInBounds_toArray, List.set_cons_succ, List.set_cons_zero]
        refine gw_val (by kernel_rfl) (some 38) rfl (.int .i64 (n + 1 : Nat)) (by kernel_rfl) ?_
        simp only [Act.put, List.setIfInBounds_toArray, List.set_cons_succ, List.set_cons_zero]
        refine gw_val (by kernel_rfl) (some 39) rfl (.int .i64 cs) (by kernel_rfl) ?_
        simp only [Act.put, List.setIfInBounds_toArray, List.set_cons_succ, List.set_cons_zero]
        refine gw_val (by kernel_rfl) (some 40) rfl (.bool (decide (cs < ((n + 1 : Nat) : Int)))) (by kernel_rfl) ?_
        simp only [Act.put, List.setIfInBounds_toArray, List.set_cons_succ, List.set_cons_zero]
        rw [hd]
        apply wpList_nil
        go_upto_region 8 with fail
        apply wp_region_lit
        refine gw_val (by kernel_rfl) (some 43) rfl (.slice a2 (n + 1) c2) (by kernel_rfl) ?_
        simp only [Act.put, List.setIfInBounds_toArray, List.set_cons_succ, List.set_cons_zero]
        refine gw_val (by kernel_rfl) (some 6) rfl (.slice a2 (n + 1) c2) (by kernel_rfl) ?_
        simp only [Act.put, List.setIfInBounds_toArray, List.set_cons_succ, List.set_cons_zero]
        refine gw_val (by kernel_rfl) (some 7) rfl (.bool true) (by kernel_rfl) ?_
        simp only [Act.put, List.setIfInBounds_toArray, List.set_cons_succ, List.set_cons_zero]
        apply wpList_nil
        go_wp2_with fail
        go_ret2
        exact HRO.out
  · rw [Nat.zero_add] at hi
    have hpm : pushK Ks size k = (Ks.take i ++ Ks.drop (i + 1) ++ [k], false) := by
      unfold pushK
      rw [hi, if_neg (by omega), Int.toNat_natCast]
    rw [hpm]
    obtain ⟨cs, hcs⟩ : ∃ cs, capN size = cs := ⟨_, rfl⟩
    rw [hi] at C1
    have htl : (Ks.take i).length = i := by rw [List.length_take]; omega
    have hdl : (Ks.drop (i + 1)).length = n - (i + 1) := by rw [List.length_drop, hnn]
    rw [hnn] at hl hcc hil C1 ⊢
    have hd : decide (0 ≤ (i : Int)) = true := decide_eq_true (by omega)
    clear hR hc hnn hi hpm
    go_enter Try.func16, Try.ntmps16
    go_upto_region 1 with fail
    change Code.wp _ _ _ _ (w.alloc (.cells (w8s k) 34))
    generalize w.alloc (.cells (w8s k) 34) = W at *
    apply wp_region_lit
    refine gw_val (by kernel_rfl) (some 10) rfl (.int .i64 size) (by kernel_rfl) ?_
    simp only [Act.put, List.setIfInBounds_toArray, List.set_cons_succ, List.set_cons_zero]
    refine gw_val (by kernel_rfl) (some 11) rfl (.int .i64 (min size 1024)) (min_int rfl size 1024 (by kernel_rfl) (by kernel_rfl) _) ?_
    simp only [Act.put, List.setIfInBounds_toArray, List.set_cons_succ, List.set_cons_zero]
    refine gw_val (by kernel_rfl) (some 12) rfl (.int .i64 (max 0 (min size 1024))) (max_int rfl 0 (min size 1024) (by kernel_rfl) (by kernel_rfl) _) ?_
    simp only [Act.put, List.setIfInBounds_toArray, List.set_cons_succ, List.set_cons_zero]
    rw [show max 0 (min size 1024) = cs from hcs]
    refine gw_val (by kernel_rfl) (some 1) rfl (.int .i64 cs) (by kernel_rfl) ?_
    simp only [Act.put, List.setIfInBounds_toArray, List.set_cons_succ, List.set_cons_zero]
    apply wpList_nil
    go_upto_region 2 with fail
    apply wp_region_lit
    refine gw_val (by kernel_rfl) (some 13) rfl (.slice al n c) (by kernel_rfl) ?_
    simp only [Act.put, List.setIfInBounds_toArray, List.set_cons_succ, List.set_cons_zero]
    refine gw_load (by kernel_rfl) (some 14) rfl 34 (.tmp 5) rfl ⟨w.heap.size, 0, none⟩ (.agg (w8s k)) (by kernel_rfl) (load_key hX0 hk) ?_
    simp only [Act.put, List.setIfInBounds_toArray, List.set_cons_succ, List.set_cons_zero]
    refine gw_call (by kernel_rfl) (some 15) rfl 26 #[.slice al n c, .agg (w8s k)] (.int .i64 i) (Below W.heap.size W) (by kernel_rfl) C1 (fun V0 hb => ?_)
    simp only [Act.put, List.setIfInBounds_toArray, List.set_cons_succ, List.set_cons_zero]
    refine gw_val (by kernel_rfl) (some 8) rfl (.int .i64 i) (by kernel_rfl) ?_
    simp only [Act.put, List.setIfInBounds_toArray, List.set_cons_succ, List.set_cons_zero]
    apply wpList_nil
    have HA0 := HA.out.below hb
    have HA := Lib.hid HA0
    have hX0 := hX0.below hX0.lt hb
    have hBw := hb0.trans (hb.mono hb0.size)
    clear hb0 hb C1 HA0
    go_upto_region 3 with fail
    apply wp_region_lit
    refine gw_val (by kernel_rfl) (some 16) rfl (.int .i64 i) (by kernel_rfl) ?_
    simp only [Act.put, List.setIfInBounds_toArray, List.set_cons_succ, List.set_cons_zero]
    refine gw_val (by kernel_rfl) (some 17) rfl (.bool (decide (0 ≤ (i : Int)))) (by kernel_rfl) ?_
    simp only [Act.put, List.setIfInBounds_toArray, List.set_cons_succ, List.set_cons_zero]
    rw [hd]
    apply wpList_nil
    have h0 := CH.start V0 k (Ks.take i) (Ks.take i ++ Ks.drop (i + 1)) (Ks.take i ++ Ks.drop (i + 1) ++ [k]) undef undef undef undef undef
    go_upto_region 4 with fail
    refine wp_region_inv (fun listed act9 V => ∃ b0 b1 b2 b3 b4 b5 b6 b7 b8 b9 b10 b11 b12 b13 b14 : Bool, ∃ x18 x22 x27 x29 x30 : Value, listed = #[b0, b1, b2, b3, b4, b5, b6, b7, b8, b9, b10, b11, b12, b13, b14] ∧ act9 = { tmps := #[.slice al n c, .int .i64 cs, .agg (w8s k), undef, undef, .pointer (some ⟨w.heap.size, 0, none⟩), (cond b13 (x30) (.slice none 0 0)), (cond b14 (.bool false) (.bool false)), .int .i64 i, undef, .int .i64 size, .int .i64 (min size 1024), .int .i64 cs, .slice al n c, .agg (w8s k), .int .i64 i, .int .i64 i, .bool true, x18, (cond b1 (.slice al n c) undef), (cond b2 (.int .i64 i) undef), (cond b3 (.slice al i c) undef), x22, (cond b5 (.slice al n c) undef), (cond b6 (.int .i64 i) undef), (cond b7 (.int .i64 (i + 1 : Nat)) undef), (cond b8 (.slice (fromS 32 al c (i + 1)) (n - (i + 1)) (c - (i + 1))) undef), x27, (cond b10 (.agg (w8s k)) undef), x29, x30, undef, undef, undef, undef, undef, undef, undef, undef, undef, undef, undef, undef, undef], defers := [] } ∧ CH V0 k (Ks.take i) (Ks.take i ++ Ks.drop (i + 1)) (Ks.take i ++ Ks.drop (i + 1) ++ [k]) b0 b4 b9 b12 b11 x18 x22 x27 x30 x29 V ∧ (b13 = true → b12 = true)) (by kernel_rfl) (by kernel_rfl) ?_ ?_ ?_
    · exact ⟨false, false, false, false, false, false, false, false, false, false, false, false, false, false, false, undef, undef, undef, undef, undef, rfl, rfl, h0, fun h => (by cases h)⟩
    · intro i9 listed act9 V hi9 hr hJ
      obtain ⟨b0, b1, b2, b3, b4, b5, b6, b7, b8, b9, b10, b11, b12, b13, b14, x18, x22, x27, x29, x30, rfl, rfl, hF, hA⟩ := hJ
      have hi2 : i9 < 15 := hi9
      have hi3 : i9 = 0 ∨ i9 = 1 ∨ i9 = 2 ∨ i9 = 3 ∨ i9 = 4 ∨ i9 = 5 ∨ i9 = 6 ∨ i9 = 7 ∨ i9 = 8 ∨ i9 = 9 ∨ i9 = 10 ∨ i9 = 11 ∨ i9 = 12 ∨ i9 = 13 ∨ i9 = 14 := by omega
      rcases hi3 with rfl | rfl | rfl | rfl | rfl | rfl | rfl | rfl | rfl | rfl | rfl | rfl | rfl | rfl | rfl
      · obtain rfl : b0 = false := ready_self hr
        obtain rfl : b4 = false := by cases b4; rfl; exact absurd (hF.c1 rfl) (by decide)
        obtain rfl : b9 = false := by cases b9; rfl; exact absurd (hF.c2 rfl) (by decide)
        obtain rfl : b12 = false := by cases b12; rfl; exact absurd (hF.c3 rfl) (by decide)
        refine st_build rfl (by kernel_rfl) (some 18) rfl 30 0 #[] rfl #[] (by kernel_rfl) (.slice (some ⟨V.heap.size, 0, none⟩) 0 0) _ (nil_k V) ?_
        exact ⟨true, b1, b2, b3, false, b5, b6, b7, b8, false, b10, b11, false, b13, b14, _, x22, x27, x29, x30, rfl, rfl, hF.nil, hA⟩
      · obtain rfl : b1 = false := ready_self hr
        refine st_val rfl (by kernel_rfl) (some 19) rfl (.slice al n c) V (by kernel_rfl) ?_
        exact ⟨b0, true, b2, b3, b4, b5, b6, b7, b8, b9, b10, b11, b12, b13, b14, x18, x22, x27, x29, x30, rfl, rfl, hF, hA⟩
      · obtain rfl : b2 = false := ready_self hr
        refine st_val rfl (by kernel_rfl) (some 20) rfl (.int .i64 i) V (by kernel_rfl) ?_
        exact ⟨b0, b1, true, b3, b4, b5, b6, b7, b8, b9, b10, b11, b12, b13, b14, x18, x22, x27, x29, x30, rfl, rfl, hF, hA⟩
      · obtain rfl : b3 = false := ready_self hr
        obtain rfl : b1 = true := ready_dep hr 1 (by kernel_rfl)
        obtain rfl : b2 = true := ready_dep hr 2 (by kernel_rfl)
        refine st_slice_to rfl (by kernel_rfl) (some 21) rfl 30 (.tmp 19) (.tmp 20) rfl (.slice al n c) (.int .i64 (i : Int)) (.slice al i c) (by kernel_rfl) (by kernel_rfl) (cut_k_to al n c i V (by omega)) ?_
        exact ⟨b0, true, true, true, b4, b5, b6, b7, b8, b9, b10, b11, b12, b13, b14, x18, x22, x27, x29, x30, rfl, rfl, hF, hA⟩
      · obtain rfl : b4 = false := ready_self hr
        obtain rfl : b0 = true := ready_dep hr 0 (by kernel_rfl)
        obtain rfl : b3 = true := ready_dep hr 3 (by kernel_rfl)
        obtain rfl : b9 = false := by cases b9; rfl; exact absurd (hF.c2 rfl) (by decide)
        obtain rfl : b12 = false := by cases b12; rfl; exact absurd (hF.c3 rfl) (by decide)
        have hO := hF.r0 rfl rfl
        obtain ⟨v, V2, hap, hO2, hb2, hg2, hat2⟩ := hO.app hF.bel.size al i c (Ks.take i) (by rw [← kcells_take Ks HC.out i]; exact (HA.out.below hF.bel).take _) (HC.out.take i) htl (by simp) (by omega)
        refine st_append rfl (by kernel_rfl) (some 22) rfl 30 rfl (.tmp 18) (.tmp 21) 30 rfl x18 (.slice al i c) v V2 (by kernel_rfl) (by kernel_rfl) hap ?_
        exact ⟨true, b1, b2, true, true, b5, b6, b7, b8, false, b10, b11, false, b13, b14, x18, v, x27, x29, x30, rfl, rfl, hF.one (by rw [List.nil_append] at hO2; exact hO2) hb2 hg2 hat2, hA⟩
      · obtain rfl : b5 = false := ready_self hr
        refine st_val rfl (by kernel_rfl) (some 23) rfl (.slice al n c) V (by kernel_rfl) ?_
        exact ⟨b0, b1, b2, b3, b4, true, b6, b7, b8, b9, b10, b11, b12, b13, b14, x18, x22, x27, x29, x30, rfl, rfl, hF, hA⟩
      · obtain rfl : b6 = false := ready_self hr
        refine st_val rfl (by kernel_rfl) (some 24) rfl (.int .i64 i) V (by kernel_rfl) ?_
        exact ⟨b0, b1, b2, b3, b4, b5, true, b7, b8, b9, b10, b11, b12, b13, b14, x18, x22, x27, x29, x30, rfl, rfl, hF, hA⟩
      · obtain rfl : b7 = false := ready_self hr
        obtain rfl : b6 = true := ready_dep hr 6 (by kernel_rfl)
        refine st_val rfl (by kernel_rfl) (some 25) rfl (.int .i64 (i + 1 : Nat)) V (add_one rfl i (by omega) (by kernel_rfl) V) ?_
        exact ⟨b0, b1, b2, b3, b4, b5, true, true, b8, b9, b10, b11, b12, b13, b14, x18, x22, x27, x29, x30, rfl, rfl, hF, hA⟩
      · obtain rfl : b8 = false := ready_self hr
        obtain rfl : b5 = true := ready_dep hr 5 (by kernel_rfl)
        obtain rfl : b7 = true := ready_dep hr 7 (by kernel_rfl)
        refine st_slice_from rfl (by kernel_rfl) (some 26) rfl 30 (.tmp 23) (.tmp 25) rfl (.slice al n c) (.int .i64 ((i + 1 : Nat) : Int)) (.slice (fromS 32 al c (i + 1)) (n - (i + 1)) (c - (i + 1))) (by kernel_rfl) (by kernel_rfl) (cut_k_from al n c (i + 1) V (by omega)) ?_
        exact ⟨b0, b1, b2, b3, b4, true, b6, true, true, b9, b10, b11, b12, b13, b14, x18, x22, x27, x29, x30, rfl, rfl, hF, hA⟩
      · obtain rfl : b9 = false := ready_self hr
        obtain rfl : b4 = true := ready_dep hr 4 (by kernel_rfl)
        obtain rfl : b8 = true := ready_dep hr 8 (by kernel_rfl)
        obtain rfl : b12 = false := by cases b12; rfl; exact absurd (hF.c3 rfl) (by decide)
        have hO := hF.r1 rfl rfl
        obtain ⟨v, V2, hap, hO2, hb2, hg2, hat2⟩ := hO.app hF.bel.size (fromS 32 al c (i + 1)) (n - (i + 1)) (c - (i + 1)) (Ks.drop (i + 1)) (by rw [← kcells_drop Ks HC.out (i + 1)]; exact (HA.out.below hF.bel).from 32 c (i + 1) (by rw [kcells_len Ks HC.out, HN.out]; omega)) (HC.out.drop (i + 1)) hdl (by omega) (by omega)
        refine st_append rfl (by kernel_rfl) (some 27) rfl 30 rfl (.tmp 22) (.tmp 26) 30 rfl x22 (.slice (fromS 32 al c (i + 1)) (n - (i + 1)) (c - (i + 1))) v V2 (by kernel_rfl) (by kernel_rfl) hap ?_
        exact ⟨b0, b1, b2, b3, true, b5, b6, b7, true, true, b10, b11, false, b13, b14, x18, x22, v, x29, x30, rfl, rfl, hF.two hO2 hb2 hg2 hat2, hA⟩
      · obtain rfl : b10 = false := ready_self hr
        refine st_load rfl (by kernel_rfl) (some 28) rfl 34 (.tmp 5) rfl ⟨w.heap.size, 0, none⟩ (.agg (w8s k)) (by kernel_rfl) (load_key (hX0.below hX0.lt hF.bel) hk) ?_
        exact ⟨b0, b1, b2, b3, b4, b5, b6, b7, b8, b9, true, b11, b12, b13, b14, x18, x22, x27, x29, x30, rfl, rfl, hF, hA⟩
      · obtain rfl : b11 = false := ready_self hr
        obtain rfl : b10 = true := ready_dep hr 10 (by kernel_rfl)
        refine st_build rfl (by kernel_rfl) (some 29) rfl 30 1 #[(0, .tmp 28)] rfl #[(0, .agg (w8s k))] (by kernel_rfl) (.slice (some ⟨V.heap.size, 0, none⟩) 1 1) _ (build_k hk V) ?_
        exact ⟨b0, b1, b2, b3, b4, b5, b6, b7, b8, b9, true, true, b12, b13, b14, x18, x22, x27, _, x30, rfl, rfl, hF.key, hA⟩
      · obtain rfl : b12 = false := ready_self hr
        obtain rfl : b9 = true := ready_dep hr 9 (by kernel_rfl)
        obtain rfl : b11 = true := ready_dep hr 11 (by kernel_rfl)
        obtain rfl : b13 = false := by cases b13; rfl; exact absurd (hA rfl) (by decide)
        have hO := hF.r2 rfl rfl
        obtain ⟨gk, rfl, hgx, -⟩ := hF.kx rfl
        have hgc : Cs V (some ⟨gk, 0, none⟩) (kcells [k]) := by rw [show kcells [k] = k.map (Value.int .u8) by simp [kcells]]; exact Cs.block (cs := k.map (Value.int .u8)) hgx
        obtain ⟨v, V2, hap, hO2, hb2, hg2, hat2⟩ := hO.app hF.bel.size (some ⟨gk, 0, none⟩) 1 1 [k] hgc hlast rfl (by rw [List.length_append, htl, hdl]; omega) (by omega)
        refine st_append rfl (by kernel_rfl) (some 30) rfl 30 rfl (.tmp 27) (.tmp 29) 30 rfl x27 (.slice (some ⟨gk, 0, none⟩) 1 1) v V2 (by kernel_rfl) (by kernel_rfl) hap ?_
        exact ⟨b0, b1, b2, b3, b4, b5, b6, b7, b8, true, b10, true, true, false, b14, x18, x22, x27, _, v, rfl, rfl, hF.three hO2 hb2 hg2 hat2, fun h => (by cases h)⟩
      · obtain rfl : b13 = false := ready_self hr
        obtain rfl : b12 = true := ready_dep hr 12 (by kernel_rfl)
        refine st_val rfl (by kernel_rfl) (some 6) rfl (x30) V (by kernel_rfl) ?_
        exact ⟨b0, b1, b2, b3, b4, b5, b6, b7, b8, b9, b10, b11, true, true, b14, x18, x22, x27, x29, x30, rfl, rfl, hF, fun _ => rfl⟩
      · obtain rfl : b14 = false := ready_self hr
        refine st_val rfl (by kernel_rfl) (some 7) rfl (.bool false) V (by kernel_rfl) ?_
        exact ⟨b0, b1, b2, b3, b4, b5, b6, b7, b8, b9, b10, b11, b12, b13, true, x18, x22, x27, x29, x30, rfl, rfl, hF, hA⟩
    · intro act9 V hJ
      obtain ⟨b0, b1, b2, b3, b4, b5, b6, b7, b8, b9, b10, b11, b12, b13, b14, x18, x22, x27, x29, x30, he, rfl, hF, hA⟩ := hJ
      have he : (#[true, true, true, true, true, true, true, true, true, true, true, true, true, true, true] : Array Bool) = #[b0, b1, b2, b3, b4, b5, b6, b7, b8, b9, b10, b11, b12, b13, b14] := he
      simp only [Array.mk.injEq, List.cons.injEq, and_true] at he
      obtain ⟨rfl, rfl, rfl, rfl, rfl, rfl, rfl, rfl, rfl, rfl, rfl, rfl, rfl, rfl, rfl⟩ := he
      simp only [cond_true]
      have hO := hF.r3 rfl
      have HO := Lib.hid (RowO.of (a := al) false hO (hBw.trans (hF.bel.mono hBw.size)) hBw.size)
      clear hF h0 hO hBw hX0 hA
      go_wp2_with fail
      go_ret2
      exact HO.out
end Go.Proofs.Ytjblfpifhbmfoaa
