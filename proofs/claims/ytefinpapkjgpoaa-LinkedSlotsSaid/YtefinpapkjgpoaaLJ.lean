/-
  The contracts of the reference's Remove and MoveToBack.
-/
import Derived.Test.YtefinpapkjgpoaaLI
namespace Go.Proofs.Ytefinpapkjgpoaa
open Go.RowKit
set_option linter.unusedSimpArgs false
set_option linter.unusedVariables false

theorem own_grown {w w' : World} {B e size n : Nat} {v : Value} {xs : List Value} {r : Option Nat} (h : w.ownsRow B e size v n xs) (hg : w.grownBy w' r) (hn : ∀ g, v.ownBlock = some g → some g ≠ r) : w'.ownsRow B e size v n xs := by
  refine ⟨h.1, ?_⟩
  rcases h.2 with h0 | ⟨k, cap, cur, ev, hB, hk, q⟩
  · exact .inl h0
  · exact .inr ⟨k, cap, cur, ev, hB, (hg.block k (Array.getElem?_eq_some_iff.1 hk).1 (hn k (by rw [ev]; rfl))).trans hk, q⟩
/-- Rows of two types lie apart. -/
theorem own_apart {w : World} {B B' e e' size size' n n' : Nat} {v v' : Value} {xs xs' : List Value} (h : w.ownsRow B e size v n xs) (h' : w.ownsRow B' e' size' v' n' xs') (hne : e ≠ e') : ∀ g, v.ownBlock = some g → some g ≠ v'.ownBlock := by
  intro g hv he
  rcases h.2 with ⟨rfl, -⟩ | ⟨k, cap, cur, rfl, -, hk, -⟩
  · cases hv
  · simp only [Value.ownBlock, Option.some.injEq] at hv
    subst hv
    rcases h'.2 with ⟨rfl, -⟩ | ⟨k', cap', cur', rfl, -, hk', -⟩
    · cases he
    · simp only [Value.ownBlock, Option.some.injEq] at he
      subst he
      rw [hk] at hk'
      simp only [Option.some.injEq, Obj.cells.injEq] at hk'
      exact hne hk'.2.1
theorem Cs.grown {w w' : World} {g : Nat} {cs : List Value} {r : Option Nat} (h : Cs w (some ⟨g, 0, none⟩) cs) (hg : w.grownBy w' r) (hn : some g ≠ r) : Cs w' (some ⟨g, 0, none⟩) cs := fun j v hj => by
  obtain ⟨b, off, e, hlt, hc⟩ := h j v hj
  simp only [Option.some.injEq, Addr.mk.injEq, and_true] at e
  obtain ⟨rfl, rfl⟩ := e
  refine ⟨_, _, rfl, Nat.lt_of_lt_of_le hlt hg.size, ?_⟩
  rw [← hc]
  unfold World.cell?
  rw [hg.block _ hlt hn]

/-- What the region of Remove keeps. -/
structure RF (w : World) (C : Array Value) (E : List (Int × Int)) (F : List Int) (i U : Nat) (s : Int) (b3 b4 b7 b9 b10 b13 b14 : Bool) (x3 x4 x7 x9 x10 : Value) (V : World) : Prop where
  t : T2 w C #[x3, x10, .int .i64 U] b14 V
  wo : b3 = true → V.ownsRow (w.heap.size + 2) 40 2 x3 (E.length - 1) (ecells (without E i))
  nil : b4 = true → b7 = false → ∃ g0, x4 = .slice (some ⟨g0, 0, none⟩) 0 0 ∧ V.ownsRow (w.heap.size + 2) 3 1 (.slice (some ⟨g0, 0, none⟩) 0 0) 0 [] ∧ g0 < V.heap.size ∧ ∀ g, b9 = true → x9 = .slice (some ⟨g, 0, none⟩) 1 1 → g ≠ g0
  cop : b7 = true → b10 = false → V.ownsRow (w.heap.size + 2) 3 1 x7 F.length (icells F)
  key : b9 = true → b10 = false → ∃ g, x9 = .slice (some ⟨g, 0, none⟩) 1 1 ∧ g < V.heap.size ∧ Cs V (some ⟨g, 0, none⟩) (icells [s])
  all : b10 = true → V.ownsRow (w.heap.size + 2) 3 1 x10 (F.length + 1) (icells (F ++ [s]))
  s10 : b10 = true → b7 = true ∧ b9 = true
  s13 : b13 = true → b3 = true ∧ b10 = true
  s14 : b14 = true → b13 = true
section
variable {w V V2 : World} {C : Array Value} {E : List (Int × Int)} {F : List Int} {i U : Nat} {s : Int} {b3 b4 b7 b9 b10 b13 b14 : Bool} {x3 x4 x7 x9 x10 v : Value}
theorem RF.start (h : T2 w C #[x3, x10, .int .i64 U] false V) : RF w C E F i U s false false false false false false false x3 x4 x7 x9 x10 { V with drawn := V.drawn + 1 } :=
  ⟨h.below (Below.refl _ V).drew, fun h => (by cases h), fun h => (by cases h), fun h => (by cases h), fun h => (by cases h), fun h => (by cases h), fun h => (by cases h), fun h => (by cases h), fun h => (by cases h)⟩
theorem RF.below (h : RF w C E F i U s b3 b4 b7 b9 b10 b13 b14 x3 x4 x7 x9 x10 V) (hb : Below V.heap.size V V2) : RF w C E F i U s b3 b4 b7 b9 b10 b13 b14 x3 x4 x7 x9 x10 V2 where
  t := h.t.below hb
  wo := fun h1 => own_below (h.wo h1) hb
  nil := fun h1 h2 => let ⟨g0, e, o, hl, hn⟩ := h.nil h1 h2; ⟨g0, e, own_below o hb, Nat.lt_of_lt_of_le hl hb.size, hn⟩
  cop := fun h1 h2 => own_below (h.cop h1 h2) hb
  key := fun h1 h2 => let ⟨g, e, hl, hc⟩ := h.key h1 h2; ⟨g, e, Nat.lt_of_lt_of_le hl hb.size, hc.below hb⟩
  all := fun h1 => own_below (h.all h1) hb
  s10 := h.s10
  s13 := h.s13
  s14 := h.s14
theorem RF.out (h : RF w C E F i U s false b4 b7 b9 b10 false false x3 x4 x7 x9 x10 V) (hO : V2.ownsRow V.heap.size 40 2 v (E.length - 1) (ecells (without E i))) (hb : Below V.heap.size V V2) : RF w C E F i U s true b4 b7 b9 b10 false false v x4 x7 x9 x10 V2 :=
  have q := h.below hb
  { t := q.t.same, wo := fun _ => own_base hO h.t.siz, nil := q.nil, cop := q.cop, key := q.key, all := q.all, s10 := q.s10, s13 := fun h => (by cases h), s14 := fun h => (by cases h) }
theorem RF.made (h : RF w C E F i U s b3 false b7 b9 b10 b13 b14 x3 x4 x7 x9 x10 V) : RF w C E F i U s b3 true b7 b9 b10 b13 b14 x3 (.slice (some ⟨V.heap.size, 0, none⟩) 0 0) x7 x9 x10 (V.alloc (.cells #[] 3)) :=
  have hb : Below V.heap.size V (V.alloc (.cells #[] 3)) := (Below.refl _ V).alloc (Nat.le_refl _) _
  have q := h.below hb
  { t := q.t, wo := q.wo, cop := q.cop, key := q.key, all := q.all, s10 := q.s10, s13 := q.s13, s14 := q.s14
    nil := fun _ h2 => ⟨V.heap.size, rfl, own_base (own_nil V 3 1) h.t.siz, by simp, fun g h9 e => by
      have h10 : b10 = false := by
        cases b10
        · rfl
        · have := (h.s10 rfl).1
          rw [h2] at this
          cases this
      obtain ⟨g', e', hl, -⟩ := h.key h9 h10
      rw [e'] at e
      simp only [Value.slice.injEq, Option.some.injEq, Addr.mk.injEq, and_true] at e
      omega⟩ }
theorem RF.built (h : RF w C E F i U s b3 b4 b7 false b10 b13 b14 x3 x4 x7 x9 x10 V) : RF w C E F i U s b3 b4 b7 true b10 b13 b14 x3 x4 x7 (.slice (some ⟨V.heap.size, 0, none⟩) 1 1) x10 (V.alloc (.cells #[.int .i64 s] 3)) :=
  have hb : Below V.heap.size V (V.alloc (.cells #[.int .i64 s] 3)) := (Below.refl _ V).alloc (Nat.le_refl _) _
  have q := h.below hb
  { t := q.t, wo := q.wo, cop := q.cop, all := q.all, s13 := q.s13, s14 := q.s14
    nil := fun h1 h2 => let ⟨g0, e, o, hl, _⟩ := h.nil h1 h2; ⟨g0, e, own_below o hb, Nat.lt_of_lt_of_le hl hb.size, fun g _ e2 => by
      simp only [Value.slice.injEq, Option.some.injEq, Addr.mk.injEq, and_true] at e2
      omega⟩
    key := fun _ _ => ⟨V.heap.size, rfl, by simp, Cs.block (t := 3) (fr := (0, 0)) (heap_alloc_last V _)⟩
    s10 := fun h1 => ⟨(h.s10 h1).1, rfl⟩ }
theorem RF.copied {g0 : Nat} (h : RF w C E F i U s b3 true false b9 false false false x3 (.slice (some ⟨g0, 0, none⟩) 0 0) x7 x9 x10 V) (ho0 : V.ownsRow (w.heap.size + 2) 3 1 (.slice (some ⟨g0, 0, none⟩) 0 0) 0 []) (hn : ∀ g, b9 = true → x9 = .slice (some ⟨g, 0, none⟩) 1 1 → g ≠ g0)
    (hO : V2.ownsRow (w.heap.size + 2) 3 1 v F.length (icells F)) (hb : Below (w.heap.size + 2) V V2) (hg : V.grownBy V2 (some g0)) : RF w C E F i U s b3 true true b9 false false false x3 (.slice (some ⟨g0, 0, none⟩) 0 0) v x9 x10 V2 :=
  { t := h.t.low hb
    wo := fun h1 => own_grown (h.wo h1) hg (own_apart (h.wo h1) ho0 (by decide))
    nil := fun _ h2 => (by cases h2)
    cop := fun _ _ => hO
    key := fun h1 h2 => let ⟨g, e, hl, hc⟩ := h.key h1 h2; ⟨g, e, Nat.lt_of_lt_of_le hl hg.size, hc.grown hg (by
      have := hn g h1 e
      simpa using this)⟩
    all := fun h1 => (by cases h1), s10 := fun h => (by cases h), s13 := fun h => (by cases h), s14 := fun h => (by cases h) }
theorem RF.done (h : RF w C E F i U s b3 b4 true true false false false x3 x4 x7 x9 x10 V) (ho7 : V.ownsRow (w.heap.size + 2) 3 1 x7 F.length (icells F)) (hO : V2.ownsRow (w.heap.size + 2) 3 1 v (F.length + 1) (icells (F ++ [s]))) (hb : Below (w.heap.size + 2) V V2) (hg : V.grownBy V2 x7.ownBlock) : RF w C E F i U s b3 b4 true true true false false x3 x4 x7 x9 v V2 :=
  { t := (h.t.low hb).same
    wo := fun h1 => own_grown (h.wo h1) hg (own_apart (h.wo h1) ho7 (by decide))
    nil := fun _ h2 => (by cases h2), cop := fun _ h2 => (by cases h2), key := fun _ h2 => (by cases h2)
    all := fun _ => hO, s10 := fun _ => ⟨rfl, rfl⟩, s13 := fun h => (by cases h), s14 := fun h => (by cases h) }
theorem RF.joined (h : RF w C E F i U s true b4 b7 b9 true false b14 x3 x4 x7 x9 x10 V) : RF w C E F i U s true b4 b7 b9 true true b14 x3 x4 x7 x9 x10 V := { h with s13 := fun _ => ⟨rfl, rfl⟩, s14 := fun _ => rfl }
theorem RF.stored (h : RF w C E F i U s true b4 b7 b9 true true false x3 x4 x7 x9 x10 V) : RF w C E F i U s true b4 b7 b9 true true true x3 x4 x7 x9 x10 (V.setRow (w.heap.size + 1) #[x3, x10, .int .i64 U]) :=
  have hb : But (w.heap.size + 1) V (V.setRow (w.heap.size + 1) #[x3, x10, .int .i64 U]) := But.setRow V _
  { t := h.t.stored, wo := fun h1 => own_but (h.wo h1) hb (by omega)
    nil := fun h1 h2 => let ⟨g0, e, o, hl, hn⟩ := h.nil h1 h2; ⟨g0, e, own_but o hb (by omega), Nat.lt_of_lt_of_le hl hb.1.size, hn⟩
    cop := fun _ h2 => (by cases h2), key := fun _ h2 => (by cases h2), all := fun h1 => own_but (h.all h1) hb (by omega), s10 := h.s10, s13 := h.s13, s14 := fun _ => rfl }
end

set_option maxRecDepth 100000 in
set_option maxHeartbeats 4000000 in
theorem ref_remove (m : LM) (s : Int) (ea fa : Option Addr) (ec fc : Nat) (w : World) (h : LV w ea fa ec fc m) (hfl : m.F.length + 1 ≤ 1000) :
    Calls Try.prog 32 #[.agg (lv ea fa ec fc m), .int .i64 s] w fun e w' => ∃ ea2 fa2 ec2 fc2, e = .returned (.tuple #[.agg (lv ea2 fa2 ec2 fc2 (removeM m s).1), .bool (removeM m s).2]) ∧ LV w' ea2 fa2 ec2 fc2 (removeM m s).1 ∧ Below w.heap.size w w' ∧ Fr w w' ea ea2 ∧ Fr w w' fa fa2 := by
  have hT := fun R => T2.start w (lv ea fa ec fc m) R
  have h0 := h.below (hT #[]).bel
  have CP := fun V (h : LV V ea fa ec fc m) => ref_place m s ea fa ec fc V h
  have hr := placeM_range m s
  obtain ⟨p, hp⟩ : ∃ p, placeM m s = p := ⟨_, rfl⟩
  obtain ⟨S, hS⟩ : ∃ S, S = removeM m s := ⟨_, rfl⟩
  rw [← hS]
  unfold removeM at hS
  rw [hp] at hr hS CP
  by_cases hp0 : p < 0
  · rw [if_pos hp0] at hS
    have hd : decide (p < 0) = true := decide_eq_true hp0
    have HS := Lib.hid hS
    clear hS hp hr
    go_enter Try.func32, Try.ntmps32
    go_upto_region 1 with fail
    change Code.wp _ _ _ _ ((w.alloc (.cells (lv ea fa ec fc m) 28)).alloc (.cells zl 28))
    generalize ((w.alloc (.cells (lv ea fa ec fc m) 28)).alloc (.cells zl 28)) = W at *
    apply wp_region_lit
    refine gw_load (by kernel_rfl) (some 7) rfl 28 (.tmp 2) rfl ⟨w.heap.size, 0, none⟩ (.agg (lv ea fa ec fc m)) (by kernel_rfl) (load_lv (hT #[]).bx) ?_
    simp only [Act.put, List.setIfInBounds_toArray, List.set_cons_succ, List.set_cons_zero]
    refine gw_val (by kernel_rfl) (some 8) rfl (.int .i64 s) (by kernel_rfl) ?_
    simp only [Act.put, List.setIfInBounds_toArray, List.set_cons_succ, List.set_cons_zero]
    refine gw_call (by kernel_rfl) (some 9) rfl 19 #[.agg (lv ea fa ec fc m), .int .i64 s] (.int .i64 p) (Below W.heap.size W) (by kernel_rfl) (CP W h0) (fun V1 hb1 => ?_)
    simp only [Act.put, List.setIfInBounds_toArray, List.set_cons_succ, List.set_cons_zero]
    refine gw_val (by kernel_rfl) (some 6) rfl (.int .i64 p) (by kernel_rfl) ?_
    simp only [Act.put, List.setIfInBounds_toArray, List.set_cons_succ, List.set_cons_zero]
    apply wpList_nil
    have hT1 := fun R => (hT R).below hb1
    have hL1 := h0.below hb1
    clear hT h0 hb1 CP
    go_upto_region 3 with fail
    apply wp_region_lit
    refine gw_load (by kernel_rfl) (some 12) rfl 28 (.tmp 2) rfl ⟨w.heap.size, 0, none⟩ (.agg (lv ea fa ec fc m)) (by kernel_rfl) (load_lv (hT1 #[]).bx) ?_
    simp only [Act.put, List.setIfInBounds_toArray, List.set_cons_succ, List.set_cons_zero]
    refine gw_store (by kernel_rfl) rfl 28 (.tmp 4) (.tmp 12) rfl (.pointer (some ⟨w.heap.size + 1, 0, none⟩)) (.agg (lv ea fa ec fc m)) (by kernel_rfl) (by kernel_rfl) _ (run_store_all (hT1 #[]).z rfl (one_lv _ _ _ _ _ _ _) (by kernel_rfl)) ?_
    refine gw_val (by kernel_rfl) (some 5) rfl (.bool false) (by kernel_rfl) ?_
    simp only [Act.put, List.setIfInBounds_toArray, List.set_cons_succ, List.set_cons_zero]
    apply wpList_nil
    have hT2 := (hT1 (lv ea fa ec fc m)).stored
    have hz : Bx (V1.setRow (w.heap.size + 1) (lv ea fa ec fc m)) (w.heap.size + 1) (lv ea fa ec fc m) 28 := hT2.z
    have HL := Lib.hid (h.below hT2.bel)
    have HZ := Lib.hid hz
    have HB := Lib.hid hT2.bel
    generalize V1.setRow (w.heap.size + 1) (lv ea fa ec fc m) = V2 at *
    clear hT1 hT2 hz hL1
    go_wp2_with fail
    exact bodyPost_ret (results_lv (p := 4) (q := 5) (by kernel_rfl) (by kernel_rfl) (by kernel_rfl) HZ.out (by kernel_rfl)) rfl ⟨ea, fa, ec, fc, by rw [HS.out], by rw [HS.out]; exact HL.out, HB.out, .inl rfl, .inl rfl⟩
  · rw [if_neg hp0] at hS
    have hd : decide (p < 0) = false := decide_eq_false hp0
    obtain ⟨i, rfl⟩ := Int.eq_ofNat_of_zero_le (show 0 ≤ p by omega)
    rw [Int.toNat_natCast] at hS
    have HE := Lib.hid h.e
    have HC := Lib.hid h.f
    obtain ⟨E, hE⟩ : ∃ E, E = m.E := ⟨_, rfl⟩
    obtain ⟨F, hF⟩ : ∃ F, F = m.F := ⟨_, rfl⟩
    obtain ⟨U, hU⟩ : ∃ U, U = m.U := ⟨_, rfl⟩
    obtain ⟨en, hen⟩ : ∃ en, E.length = en := ⟨_, rfl⟩
    obtain ⟨fn, hfn⟩ : ∃ fn, F.length = fn := ⟨_, rfl⟩
    have hec := h.ec
    have hfc := h.fc
    have hen9 := h.en
    have hfn9 := h.fn
    have hun9 := h.un
    have hlv : lv ea fa ec fc m = #[.slice ea en ec, .slice fa fn fc, .int .i64 U] := by rw [← hen, ← hfn, hE, hF, hU]; rfl
    rw [← hE] at HE hS hec hen9 hr
    rw [← hF] at HC hS hfc hfn9
    rw [← hU] at hS hun9
    have HN := Lib.hid hfn
    have HEN := Lib.hid hen
    have HLV := Lib.hid hlv
    have CW := fun (V : World) (hb : Below w.heap.size w V) => ref_without E ea ec i V (HE.out.below hb) hec hen9 (by omega)
    rw [hen] at CW hec hen9 hr
    rw [hfn] at hfc hfn9
    have hfl2 : fn + 1 ≤ 1000 := by rw [← hfn, hF]; exact hfl
    have HS := Lib.hid hS
    have HU := Lib.hid hU
    clear hS hp hE hF hU hen hfn hfl hlv
    go_enter Try.func32, Try.ntmps32
    go_upto_region 1 with fail
    change Code.wp _ _ _ _ ((w.alloc (.cells (lv ea fa ec fc m) 28)).alloc (.cells zl 28))
    generalize ((w.alloc (.cells (lv ea fa ec fc m) 28)).alloc (.cells zl 28)) = W at *
    apply wp_region_lit
    refine gw_load (by kernel_rfl) (some 7) rfl 28 (.tmp 2) rfl ⟨w.heap.size, 0, none⟩ (.agg (lv ea fa ec fc m)) (by kernel_rfl) (load_lv (hT #[]).bx) ?_
    simp only [Act.put, List.setIfInBounds_toArray, List.set_cons_succ, List.set_cons_zero]
    refine gw_val (by kernel_rfl) (some 8) rfl (.int .i64 s) (by kernel_rfl) ?_
    simp only [Act.put, List.setIfInBounds_toArray, List.set_cons_succ, List.set_cons_zero]
    refine gw_call (by kernel_rfl) (some 9) rfl 19 #[.agg (lv ea fa ec fc m), .int .i64 s] (.int .i64 i) (Below W.heap.size W) (by kernel_rfl) (CP W h0) (fun V1 hb1 => ?_)
    simp only [Act.put, List.setIfInBounds_toArray, List.set_cons_succ, List.set_cons_zero]
    refine gw_val (by kernel_rfl) (some 6) rfl (.int .i64 i) (by kernel_rfl) ?_
    simp only [Act.put, List.setIfInBounds_toArray, List.set_cons_succ, List.set_cons_zero]
    apply wpList_nil
    have hT1 := fun R => (hT R).below hb1
    clear hT h0 hb1 CP h
    go_upto_region 4 with fail
    have h0 : RF w #[.slice ea en ec, .slice fa fn fc, .int .i64 U] E F i U s false false false false false false false undef undef undef undef undef { V1 with drawn := V1.drawn + 1 } := by
      rw [← HLV.out]
      exact RF.start (hT1 _)
    clear hT1
    refine wp_region_inv (fun listed act9 V => ∃ b0 b1 b2 b3 b4 b5 b6 b7 b8 b9 b10 b11 b12 b13 b14 b15 : Bool, ∃ x16 x17 x20 x22 x23 : Value, listed = #[b0, b1, b2, b3, b4, b5, b6, b7, b8, b9, b10, b11, b12, b13, b14, b15] ∧ act9 = { tmps := #[.agg (lv ea fa ec fc m), .int .i64 s, .pointer (some ⟨w.heap.size, 0, none⟩), undef, .pointer (some ⟨w.heap.size + 1, 0, none⟩), (cond b15 (.bool true) (.bool false)), .int .i64 i, .agg (lv ea fa ec fc m), .int .i64 s, .int .i64 i, .int .i64 i, .bool false, undef, (cond b0 (.pointer (some ⟨w.heap.size, 0, none⟩)) undef), (cond b1 (.slice ea en ec) undef), (cond b2 (.int .i64 i) undef), x16, x17, (cond b5 (.pointer (some ⟨w.heap.size, 1, none⟩)) undef), (cond b6 (.slice fa fn fc) undef), x20, (cond b8 (.int .i64 s) undef), x22, x23, (cond b11 (.pointer (some ⟨w.heap.size, 2, none⟩)) undef), (cond b12 (.int .i64 U) undef), (cond b13 (.agg #[x16, x23, .int .i64 U]) undef)], defers := [] } ∧ RF w #[.slice ea en ec, .slice fa fn fc, .int .i64 U] E F i U s b3 b4 b7 b9 b10 b13 b14 x16 x17 x20 x22 x23 V) (by kernel_rfl) (by kernel_rfl) ?_ ?_ ?_
    · exact ⟨false, false, false, false, false, false, false, false, false, false, false, false, false, false, false, false, undef, undef, undef, undef, undef, rfl, rfl, h0⟩
    · intro i9 listed act9 V hi hr hJ
      obtain ⟨b0, b1, b2, b3, b4, b5, b6, b7, b8, b9, b10, b11, b12, b13, b14, b15, x16, x17, x20, x22, x23, rfl, rfl, hF⟩ := hJ
      have hi2 : i9 < 16 := hi
      have hi3 : i9 = 0 ∨ i9 = 1 ∨ i9 = 2 ∨ i9 = 3 ∨ i9 = 4 ∨ i9 = 5 ∨ i9 = 6 ∨ i9 = 7 ∨ i9 = 8 ∨ i9 = 9 ∨ i9 = 10 ∨ i9 = 11 ∨ i9 = 12 ∨ i9 = 13 ∨ i9 = 14 ∨ i9 = 15 := by omega
      rcases hi3 with rfl | rfl | rfl | rfl | rfl | rfl | rfl | rfl | rfl | rfl | rfl | rfl | rfl | rfl | rfl | rfl
      · obtain rfl : b0 = false := ready_self hr
        refine st_val rfl (by kernel_rfl) (some 13) rfl (.pointer (some ⟨w.heap.size, 0, none⟩)) V (by kernel_rfl) ?_
        exact ⟨true, b1, b2, b3, b4, b5, b6, b7, b8, b9, b10, b11, b12, b13, b14, b15, x16, x17, x20, x22, x23, rfl, rfl, hF⟩
      · obtain rfl : b1 = false := ready_self hr
        obtain rfl : b0 = true := ready_dep hr 0 (by kernel_rfl)
        refine st_load rfl (by kernel_rfl) (some 14) rfl 26 (.tmp 13) rfl ⟨w.heap.size, 0, none⟩ (.slice ea en ec) (by kernel_rfl) (hF.t.bx.load rfl (by kernel_rfl)) ?_
        exact ⟨true, true, b2, b3, b4, b5, b6, b7, b8, b9, b10, b11, b12, b13, b14, b15, x16, x17, x20, x22, x23, rfl, rfl, hF⟩
      · obtain rfl : b2 = false := ready_self hr
        refine st_val rfl (by kernel_rfl) (some 15) rfl (.int .i64 i) V (by kernel_rfl) ?_
        exact ⟨b0, b1, true, b3, b4, b5, b6, b7, b8, b9, b10, b11, b12, b13, b14, b15, x16, x17, x20, x22, x23, rfl, rfl, hF⟩
      · obtain rfl : b3 = false := ready_self hr
        obtain rfl : b1 = true := ready_dep hr 1 (by kernel_rfl)
        obtain rfl : b2 = true := ready_dep hr 2 (by kernel_rfl)
        obtain rfl : b13 = false := by cases b13; rfl; exact absurd (hF.s13 rfl).1 (by decide)
        obtain rfl : b14 = false := by cases b14; rfl; exact absurd (hF.s14 rfl) (by decide)
        refine st_call rfl (by kernel_rfl) (some 16) rfl 40 #[.slice ea en ec, .int .i64 i] (by kernel_rfl) ((CW V hF.t.bel).mono ?_)
        rintro e V2 ⟨v, rfl, hO, hb⟩
        exact ⟨v, rfl, b0, true, true, true, b4, b5, b6, b7, b8, b9, b10, b11, b12, false, false, b15, v, x17, x20, x22, x23, rfl, rfl, hF.out (by rw [HEN.out]; exact hO) hb⟩
      · obtain rfl : b4 = false := ready_self hr
        refine st_build rfl (by kernel_rfl) (some 17) rfl 22 0 #[] rfl #[] (by kernel_rfl) (.slice (some ⟨V.heap.size, 0, none⟩) 0 0) _ (nil_int V) ?_
        exact ⟨b0, b1, b2, b3, true, b5, b6, b7, b8, b9, b10, b11, b12, b13, b14, b15, x16, _, x20, x22, x23, rfl, rfl, hF.made⟩
      · obtain rfl : b5 = false := ready_self hr
        refine st_val rfl (by kernel_rfl) (some 18) rfl (.pointer (some ⟨w.heap.size, 1, none⟩)) V (by kernel_rfl) ?_
        exact ⟨b0, b1, b2, b3, b4, true, b6, b7, b8, b9, b10, b11, b12, b13, b14, b15, x16, x17, x20, x22, x23, rfl, rfl, hF⟩
      · obtain rfl : b6 = false := ready_self hr
        obtain rfl : b5 = true := ready_dep hr 5 (by kernel_rfl)
        refine st_load rfl (by kernel_rfl) (some 19) rfl 22 (.tmp 18) rfl ⟨w.heap.size, 1, none⟩ (.slice fa fn fc) (by kernel_rfl) (hF.t.bx.load rfl (by kernel_rfl)) ?_
        exact ⟨b0, b1, b2, b3, b4, true, true, b7, b8, b9, b10, b11, b12, b13, b14, b15, x16, x17, x20, x22, x23, rfl, rfl, hF⟩
      · obtain rfl : b7 = false := ready_self hr
        obtain rfl : b4 = true := ready_dep hr 4 (by kernel_rfl)
        obtain rfl : b6 = true := ready_dep hr 6 (by kernel_rfl)
        obtain rfl : b10 = false := by cases b10; rfl; exact absurd (hF.s10 rfl).1 (by decide)
        obtain rfl : b13 = false := by cases b13; rfl; exact absurd (hF.s13 rfl).2 (by decide)
        obtain rfl : b14 = false := by cases b14; rfl; exact absurd (hF.s14 rfl) (by decide)
        obtain ⟨g0, rfl, hO, hl0, hne⟩ := hF.nil rfl rfl
        obtain ⟨v, V2, hap, hO2, hb2, hgr⟩ := append_int hO fa fc F (HC.out.below hF.t.bel) HN.out hF.t.siz (by omega) (by omega)
        rw [List.nil_append, Nat.zero_add] at hO2
        rw [← HN.out] at hO2
        refine st_append rfl (by kernel_rfl) (some 20) rfl 22 rfl (.tmp 17) (.tmp 19) 22 rfl (.slice (some ⟨g0, 0, none⟩) 0 0) (.slice fa fn fc) v V2 (by kernel_rfl) (by kernel_rfl) hap ?_
        exact ⟨b0, b1, b2, b3, true, b5, true, true, b8, b9, false, b11, b12, false, false, b15, x16, _, v, x22, x23, rfl, rfl, hF.copied hO hne hO2 hb2 hgr⟩
      · obtain rfl : b8 = false := ready_self hr
        refine st_val rfl (by kernel_rfl) (some 21) rfl (.int .i64 s) V (by kernel_rfl) ?_
        exact ⟨b0, b1, b2, b3, b4, b5, b6, b7, true, b9, b10, b11, b12, b13, b14, b15, x16, x17, x20, x22, x23, rfl, rfl, hF⟩
      · obtain rfl : b9 = false := ready_self hr
        obtain rfl : b8 = true := ready_dep hr 8 (by kernel_rfl)
        refine st_build rfl (by kernel_rfl) (some 22) rfl 22 1 #[(0, .tmp 21)] rfl #[(0, .int .i64 s)] (by kernel_rfl) (.slice (some ⟨V.heap.size, 0, none⟩) 1 1) _ (one_int s V) ?_
        exact ⟨b0, b1, b2, b3, b4, b5, b6, b7, true, true, b10, b11, b12, b13, b14, b15, x16, x17, x20, _, x23, rfl, rfl, hF.built⟩
      · obtain rfl : b10 = false := ready_self hr
        obtain rfl : b7 = true := ready_dep hr 7 (by kernel_rfl)
        obtain rfl : b9 = true := ready_dep hr 9 (by kernel_rfl)
        obtain rfl : b13 = false := by cases b13; rfl; exact absurd (hF.s13 rfl).2 (by decide)
        obtain rfl : b14 = false := by cases b14; rfl; exact absurd (hF.s14 rfl) (by decide)
        have hO := hF.cop rfl rfl
        obtain ⟨g9, rfl, -, hC9⟩ := hF.key rfl rfl
        obtain ⟨v, V2, hap, hO2, hb2, hgr⟩ := append_int hO (some ⟨g9, 0, none⟩) 1 [s] hC9 (m := 1) rfl hF.t.siz (by rw [HN.out]; omega) (by omega)
        rw [← icells_app] at hO2
        refine st_append rfl (by kernel_rfl) (some 23) rfl 22 rfl (.tmp 20) (.tmp 22) 22 rfl x20 (.slice (some ⟨g9, 0, none⟩) 1 1) v V2 (by kernel_rfl) (by kernel_rfl) hap ?_
        exact ⟨b0, b1, b2, b3, b4, b5, b6, true, b8, true, true, b11, b12, false, false, b15, x16, x17, x20, _, v, rfl, rfl, hF.done hO hO2 hb2 hgr⟩
      · obtain rfl : b11 = false := ready_self hr
        refine st_val rfl (by kernel_rfl) (some 24) rfl (.pointer (some ⟨w.heap.size, 2, none⟩)) V (by kernel_rfl) ?_
        exact ⟨b0, b1, b2, b3, b4, b5, b6, b7, b8, b9, b10, true, b12, b13, b14, b15, x16, x17, x20, x22, x23, rfl, rfl, hF⟩
      · obtain rfl : b12 = false := ready_self hr
        obtain rfl : b11 = true := ready_dep hr 11 (by kernel_rfl)
        refine st_load rfl (by kernel_rfl) (some 25) rfl 3 (.tmp 24) rfl ⟨w.heap.size, 2, none⟩ (.int .i64 U) (by kernel_rfl) (hF.t.bx.load rfl (by kernel_rfl)) ?_
        exact ⟨b0, b1, b2, b3, b4, b5, b6, b7, b8, b9, b10, true, true, b13, b14, b15, x16, x17, x20, x22, x23, rfl, rfl, hF⟩
      · obtain rfl : b13 = false := ready_self hr
        obtain rfl : b3 = true := ready_dep hr 3 (by kernel_rfl)
        obtain rfl : b10 = true := ready_dep hr 10 (by kernel_rfl)
        obtain rfl : b12 = true := ready_dep hr 12 (by kernel_rfl)
        obtain ⟨a3, c3, rfl, -, -⟩ := own_cs (hF.wo rfl)
        obtain ⟨a9, c9, rfl, -, -⟩ := own_cs (hF.all rfl)
        refine st_val rfl (by kernel_rfl) (some 26) rfl (.agg #[.slice a3 (E.length - 1) c3, .slice a9 (F.length + 1) c9, .int .i64 U]) V (by kernel_rfl) ?_
        exact ⟨b0, b1, b2, true, b4, b5, b6, b7, b8, b9, true, b11, true, true, b14, b15, _, x17, x20, x22, _, rfl, rfl, hF.joined⟩
      · obtain rfl : b14 = false := ready_self hr
        obtain rfl : b13 = true := ready_dep hr 13 (by kernel_rfl)
        obtain ⟨h3, h10⟩ := hF.s13 rfl
        obtain rfl : b3 = true := h3
        obtain rfl : b10 = true := h10
        obtain ⟨a3, c3, rfl, -, -⟩ := own_cs (hF.wo rfl)
        obtain ⟨a9, c9, rfl, -, -⟩ := own_cs (hF.all rfl)
        refine st_store rfl (by kernel_rfl) rfl 28 (.tmp 4) (.tmp 26) rfl (w.heap.size + 1) zl #[.slice a3 (E.length - 1) c3, .slice a9 (F.length + 1) c9, .int .i64 U] (by kernel_rfl) (by kernel_rfl) hF.t.z (by kernel_rfl) rfl (one_lv _ _ _ _ _ _ _) ?_
        exact ⟨b0, b1, b2, true, b4, b5, b6, b7, b8, b9, true, b11, b12, true, true, b15, _, x17, x20, x22, _, rfl, rfl, hF.stored⟩
      · obtain rfl : b15 = false := ready_self hr
        obtain rfl : b0 = true := ready_dep hr 0 (by kernel_rfl)
        obtain rfl : b1 = true := ready_dep hr 1 (by kernel_rfl)
        obtain rfl : b2 = true := ready_dep hr 2 (by kernel_rfl)
        obtain rfl : b3 = true := ready_dep hr 3 (by kernel_rfl)
        obtain rfl : b4 = true := ready_dep hr 4 (by kernel_rfl)
        obtain rfl : b5 = true := ready_dep hr 5 (by kernel_rfl)
        obtain rfl : b6 = true := ready_dep hr 6 (by kernel_rfl)
        obtain rfl : b7 = true := ready_dep hr 7 (by kernel_rfl)
        obtain rfl : b8 = true := ready_dep hr 8 (by kernel_rfl)
        obtain rfl : b9 = true := ready_dep hr 9 (by kernel_rfl)
        obtain rfl : b10 = true := ready_dep hr 10 (by kernel_rfl)
        obtain rfl : b11 = true := ready_dep hr 11 (by kernel_rfl)
        obtain rfl : b12 = true := ready_dep hr 12 (by kernel_rfl)
        obtain rfl : b13 = true := ready_dep hr 13 (by kernel_rfl)
        obtain rfl : b14 = true := ready_dep hr 14 (by kernel_rfl)
        refine st_val rfl (by kernel_rfl) (some 5) rfl (.bool true) V (by kernel_rfl) ?_
        exact ⟨true, true, true, true, true, true, true, true, true, true, true, true, true, true, true, true, x16, x17, x20, x22, x23, rfl, rfl, hF⟩
    · intro act9 V hJ
      obtain ⟨b0, b1, b2, b3, b4, b5, b6, b7, b8, b9, b10, b11, b12, b13, b14, b15, x16, x17, x20, x22, x23, he, rfl, hF⟩ := hJ
      have he : (#[true, true, true, true, true, true, true, true, true, true, true, true, true, true, true, true] : Array Bool) = #[b0, b1, b2, b3, b4, b5, b6, b7, b8, b9, b10, b11, b12, b13, b14, b15] := he
      simp only [Array.mk.injEq, List.cons.injEq, and_true] at he
      obtain ⟨rfl, rfl, rfl, rfl, rfl, rfl, rfl, rfl, rfl, rfl, rfl, rfl, rfl, rfl, rfl, rfl⟩ := he
      simp only [cond_true]
      obtain ⟨a3, c3, rfl, hC3, hc3⟩ := own_cs (hF.wo rfl)
      obtain ⟨a9, c9, rfl, hC9, hc9⟩ := own_cs (hF.all rfl)
      have hz : Bx V (w.heap.size + 1) #[.slice a3 (E.length - 1) c3, .slice a9 (F.length + 1) c9, .int .i64 U] 28 := hF.t.z
      have hwl : (without E i).length = E.length - 1 := without_len E i (by rw [HEN.out]; omega)
      have hlv2 : lv a3 a9 c3 c9 S.1 = #[.slice a3 (E.length - 1) c3, .slice a9 (F.length + 1) c9, .int .i64 U] := by
        rw [HS.out]
        unfold lv
        simp only [hwl, List.length_append, List.length_singleton]
      rw [← hlv2] at hz
      have HL : Hid (LV V a3 a9 c3 c9 S.1) := Lib.hid (by
        rw [HS.out]
        exact ⟨hC3, by rw [hwl]; exact hc3, hC9, by rw [List.length_append]; exact hc9, by rw [hwl, HEN.out]; omega, by rw [List.length_append, HN.out]; exact hfl2, hun9⟩)
      have HZ := Lib.hid hz
      have HB := Lib.hid hF.t.bel
      have HS2 : Hid (S.2 = true) := Lib.hid (by rw [HS.out])
      have HFR : Hid (Fr w V ea a3) := Lib.hid (own_fr (hF.wo rfl) (by omega))
      have HFR2 : Hid (Fr w V fa a9) := Lib.hid (own_fr (hF.all rfl) (by omega))
      clear hF h0 hz hC3 hC9 hlv2 hwl CW
      go_wp2_with fail
      exact bodyPost_ret (results_lv (p := 4) (q := 5) (by kernel_rfl) (by kernel_rfl) (by kernel_rfl) HZ.out (by kernel_rfl)) rfl ⟨a3, a9, c3, c9, by rw [HS2.out], HL.out, HB.out, HFR.out, HFR2.out⟩
end Go.Proofs.Ytefinpapkjgpoaa
