/-
  The program's cache: a key is pushed.
-/
import Derived.Test.YtjblfpifhbmfoaaQR
namespace Go.Proofs.Ytjblfpifhbmfoaa
open Go.RowKit
set_option linter.unusedSimpArgs false
set_option linter.unusedVariables false

theorem eq_nat {ρ : Operand → Value} {o : Oper} {x y : Operand} (ho : o.op = .binOp .eql 3 x y 3) (a b : Nat) (R : Bool) (hR : decide (a = b) = R) (hx : ρ x = .int .i64 a) (hy : ρ y = .int .i64 b) (w : World) : (execOp ρ o).run Try.prog w = .ok (.value (.bool R)) w := by
  unfold execOp
  simp only [ho, hx, hy]
  simp [go_sem, ← hR]
  rw [Bool.eq_iff_iff]
  simp
  exact ⟨fun h => by omega, fun h => by omega⟩
/-- How far a new key has come: its index, its slot, its place in the map. -/
structure NP (P : Nat → World → Prop) (b1 b2 b3 : Bool) (V : World) : Prop where
  st : P (cond b3 3 (cond b2 2 (cond b1 1 0))) V
  c2 : b2 = true → b1 = true
  c3 : b3 = true → b2 = true
section
variable {P : Nat → World → Prop} {b1 b2 b3 : Bool} {V : World}
theorem NP.s1 (h : NP P false b2 b3 V) : P 0 V ∧ ∀ V', P 1 V' → NP P true b2 b3 V' := by
  obtain ⟨e, c2, c3⟩ := h
  have h2 : b2 = false := by
    cases b2 with
    | false => rfl
    | true => exact absurd (c2 rfl) (by decide)
  have h3 : b3 = false := by
    cases b3 with
    | false => rfl
    | true => rw [h2] at c3; exact absurd (c3 rfl) (by decide)
  subst h2 h3
  exact ⟨e, fun V' h => ⟨h, ff, ff⟩⟩
theorem NP.s2 (h : NP P true false b3 V) : P 1 V ∧ ∀ V', P 2 V' → NP P true true b3 V' := by
  obtain ⟨e, c2, c3⟩ := h
  have h3 : b3 = false := by
    cases b3 with
    | false => rfl
    | true => exact absurd (c3 rfl) (by decide)
  subst h3
  exact ⟨e, fun V' h => ⟨h, fun _ => rfl, ff⟩⟩
theorem NP.s3 (h : NP P b1 true false V) : P 2 V ∧ ∀ V', P 3 V' → NP P b1 true true V' :=
  ⟨h.st, fun V' h2 => ⟨h2, h.c2, fun _ => rfl⟩⟩
end
def P9S (Bd g z : Nat) (d : Cd) (Sl : Nat → Prop) (L : List (List Int × Int)) (m : LM) (W0 : World) (x : List Int) : Nat → World → Prop
  | 0, V => V = W0
  | 1, V => TkP Bd g z d Sl L m W0 x V
  | 2, V => ∃ ka kc Sl2, Gt Bd g z d Sl W0 { d with ka := ka, kc := kc, A := tkA d.A d.F x, F := tkF d.F } L (pushB m (tkI d.A d.F)).1 Sl2 V
  | _, V => ∃ ka kc Sl2, Gt Bd g z d Sl W0 { d with ka := ka, kc := kc, A := tkA d.A d.F x, F := tkF d.F } (L ++ [(x, (pushB m (tkI d.A d.F)).2)]) (pushB m (tkI d.A d.F)).1 Sl2 V
theorem P9S.any {Bd g z : Nat} {d : Cd} {Sl : Nat → Prop} {L : List (List Int × Int)} {m : LM} {W0 V : World} {x : List Int} (h : Mem W0 g z d L m Sl) : ∀ n, P9S Bd g z d Sl L m W0 x n V → ∃ d2 L2 m2 Sl2, Gt Bd g z d Sl W0 d2 L2 m2 Sl2 V ∧ d2.B = d.B ∧ d2.gl = d.gl
  | 0, e => by
    obtain rfl : V = W0 := e
    exact ⟨d, L, m, Sl, Gt.refl h, rfl, rfl⟩
  | 1, ⟨ka, kc, hG⟩ => ⟨_, _, _, _, hG, rfl, rfl⟩
  | 2, ⟨ka, kc, Sl2, hG⟩ => ⟨_, _, _, _, hG, rfl, rfl⟩
  | _ + 3, ⟨ka, kc, Sl2, hG⟩ => ⟨_, _, _, _, hG, rfl, rfl⟩
theorem Out.trans {Bd g z : Nat} {d d1 : Cd} {Sl Sl1 : Nat → Prop} {L1 : List (List Int × Int)} {m1 : LM} {w w1 w2 : World} {Ks' : List (List Int)} (h : Gt Bd g z d Sl w d1 L1 m1 Sl1 w1) (k : Out Bd g z d1 Sl1 w1 Ks' w2) : Out Bd g z d Sl w Ks' w2 := by
  obtain ⟨d2, L2, m2, Sl2, hG, hI⟩ := k
  exact ⟨d2, L2, m2, Sl2, h.trans hG, hI⟩
/-- What the region that puts a new key in goes by. -/
theorem nine {Bd g z : Nat} {d : Cd} {Sl : Nat → Prop} {Ks : List (List Int)} {L : List (List Int × Int)} {m : LM} {w : World} (h : Mem w g z d L m Sl) (hi : Inv z d Ks L m) (hB : ∀ k, Sc g d Sl k → Bd ≤ k) (hw : Bd ≤ w.heap.size) (hc : Wc z Ks) {x : List Int} (hx : x.length = 32) {g0 : Nat} (hf : foundK x L 0 = none) (hlt : Ks.length < z) (hX : Bx w g0 (w8s x) 34) (hg0 : ¬ Sc g d Sl g0) :
    ∃ (P : Nat → World → Prop) (I s : Int), P 0 w ∧ (∀ V, P 0 V → Calls Try.prog 32 #[.pointer (some ⟨g, 0, none⟩), .agg (w8s x)] V fun e w' => e = .returned (.int .i64 I) ∧ P 1 w') ∧
      (∀ V, P 1 V → Calls Try.prog 31 #[.pointer (some ⟨d.gl, 0, none⟩), .int .i64 I] V fun e w' => e = .returned (.int .i64 s) ∧ P 2 w') ∧
      (∀ V, P 2 V → ∃ w', (Instr.mapUpdate 51 (.map (some d.B)) (.agg (w8s x)) (.int .i64 s)).run Try.prog V = .ok () w' ∧ P 3 w') ∧
      (∀ V, P 3 V → Out Bd g z d Sl w (Ks ++ [x]) V) ∧
      (∀ n V, P n V → (Instr.loadAt 51 (.pointer (some ⟨g, 1, none⟩))).run Try.prog V = .ok (.map (some d.B)) V ∧ (Instr.loadAt 52 (.pointer (some ⟨g, 2, none⟩))).run Try.prog V = .ok (.pointer (some ⟨d.gl, 0, none⟩)) V ∧ (Instr.loadAt 34 (.pointer (some ⟨g0, 0, none⟩))).run Try.prog V = .ok (.agg (w8s x)) V) := by
  have hk := hi.ct.keys32 hc.kc
  have hidx := hi.idx
  have hI64 : I64 (tkI d.A d.F) := by unfold I64; omega
  refine ⟨P9S Bd g z d Sl L m w x, tkI d.A d.F, (pushB m (tkI d.A d.F)).2, rfl, ?_, ?_, ?_, ?_, ?_⟩
  · intro V hV
    obtain rfl : V = w := hV
    exact q_take h hi hB hw hx
  · rintro V ⟨ka, kc, hG⟩
    refine (list_pushB V d.gl Sl m (tkI d.A d.F) Bd hG.mem.ls hi.ct.wm hi.ok hI64 (fun k hk => hB k ⟨2, hk⟩) (hG.size hw)).mono fun e w' q => ⟨q.1, ?_⟩
    obtain ⟨Sl2, hG2⟩ := Gt.list hG.mem q.2
    exact ⟨ka, kc, Sl2, hG.trans hG2⟩
  · rintro V ⟨ka, kc, Sl2, hG⟩
    obtain ⟨w', hr, hm, -, hg⟩ := map_put hG.mem.mp hk x hx (pushB m (tkI d.A d.F)).2 hf
    exact ⟨w', hr, ka, kc, Sl2, hG.trans (Gt.map hG.mem (hB d.B ⟨1, rfl⟩) hm hg)⟩
  · rintro V ⟨ka, kc, Sl2, hG⟩
    exact ⟨_, _, _, _, hG, hi.push hx hlt ka kc⟩
  · intro n V hV
    obtain ⟨d2, L2, m2, Sl2, hG, e1, e2⟩ := P9S.any h n hV
    refine ⟨?_, ?_, load_key (hX.buts hG.but hg0) hx⟩
    · rw [← e1]; exact hG.mem.ld1
    · rw [← e2]; exact hG.mem.ld2
set_option maxRecDepth 100000 in
set_option maxHeartbeats 4000000 in
theorem q_push0 {Bd g z : Nat} {d : Cd} {Sl : Nat → Prop} {Ks : List (List Int)} {L : List (List Int × Int)} {m : LM} {w : World} (h : Mem w g z d L m Sl) (hi : Inv z d Ks L m) (hB : ∀ k, Sc g d Sl k → Bd ≤ k) (hw : Bd ≤ w.heap.size) (hc : Wc z Ks) {x : List Int} (hx : x.length = 32) (h0 : z = 0) : Calls Try.prog 17 #[.pointer (some ⟨g, 0, none⟩), .agg (w8s x)] w fun e w' => e = .returned (.bool (pushZ Ks z x).2) ∧ Out Bd g z d Sl w (pushZ Ks z x).1 w' := by
  obtain rfl : Ks = [] := List.eq_nil_of_length_eq_zero (by have := hc.le; omega)
  subst h0
  have HL0 := Lib.hid (fun U (hU : Below w.heap.size w U) => (h.below hU).ld0)
  have HO := Lib.hid (fun U (hU : Below w.heap.size w U) => (⟨d, L, m, Sl, Gt.below h hU hw, hi⟩ : Out Bd g 0 d Sl w [] U))
  rw [show pushZ [] 0 x = ([], true) from rfl]
  obtain ⟨hb0, hX0⟩ := box_start x w
  clear h hi hB hw hc
  go_enter Try.func17, Try.ntmps17
  go_upto_region 1 with fail
  change Code.wp _ _ _ _ (w.alloc (.cells (w8s x) 34))
  generalize w.alloc (.cells (w8s x) 34) = W at *
  generalize hg0 : w.heap.size = g0 at hX0 ⊢
  have HG0 := Lib.hid hg0
  have HB0 := Lib.hid hb0
  clear hg0
  apply wp_region_lit
  refine gw_val (by kernel_rfl) (some 7) rfl (.pointer (some ⟨g, 0, none⟩)) (by kernel_rfl) ?_
  simp only [Act.put, List.setIfInBounds_toArray, List.set_cons_succ, List.set_cons_zero]
  refine gw_val (by kernel_rfl) (some 8) rfl (.bool false) (by kernel_rfl) ?_
  simp only [Act.put, List.setIfInBounds_toArray, List.set_cons_succ, List.set_cons_zero]
  refine gw_val (by kernel_rfl) (some 9) rfl (.bool false) (by kernel_rfl) ?_
  simp only [Act.put, List.setIfInBounds_toArray, List.set_cons_succ, List.set_cons_zero]
  refine gw_val (by kernel_rfl) (some 10) rfl (.pointer (some ⟨g, 0, none⟩)) (by kernel_rfl) ?_
  simp only [Act.put, List.setIfInBounds_toArray, List.set_cons_succ, List.set_cons_zero]
  refine gw_val (by kernel_rfl) (some 11) rfl (.pointer (some ⟨g, 0, none⟩)) (by kernel_rfl) ?_
  simp only [Act.put, List.setIfInBounds_toArray, List.set_cons_succ, List.set_cons_zero]
  refine gw_val (by kernel_rfl) (some 12) rfl (.pointer (some ⟨g, 0, none⟩)) (by kernel_rfl) ?_
  simp only [Act.put, List.setIfInBounds_toArray, List.set_cons_succ, List.set_cons_zero]
  refine gw_load (by kernel_rfl) (some 13) rfl 3 (.tmp 12) rfl ⟨g, 0, none⟩ (.int .i64 (0 : Nat)) (by kernel_rfl) (HL0.out W HB0.out) ?_
  simp only [Act.put, List.setIfInBounds_toArray, List.set_cons_succ, List.set_cons_zero]
  refine gw_val (by kernel_rfl) (some 14) rfl (.bool true) (by kernel_rfl) ?_
  simp only [Act.put, List.setIfInBounds_toArray, List.set_cons_succ, List.set_cons_zero]
  refine gw_val (by kernel_rfl) (some 15) rfl (.bool true) (by kernel_rfl) ?_
  simp only [Act.put, List.setIfInBounds_toArray, List.set_cons_succ, List.set_cons_zero]
  apply wpList_nil
  have HV := Lib.hid (HO.out W HB0.out)
  clear HO HL0 hX0 hb0
  go_upto_region 2 with fail
  apply wp_region_lit
  refine gw_val (by kernel_rfl) (some 4) rfl (.bool true) (by kernel_rfl) ?_
  simp only [Act.put, List.setIfInBounds_toArray, List.set_cons_succ, List.set_cons_zero]
  apply wpList_nil
  go_wp2_with fail
  go_ret
  exact ⟨rfl, HV.out⟩
set_option maxRecDepth 100000 in
set_option maxHeartbeats 4000000 in
theorem q_push1 {Bd g z : Nat} {d : Cd} {Sl : Nat → Prop} {Ks : List (List Int)} {L : List (List Int × Int)} {m : LM} {w : World} (h : Mem w g z d L m Sl) (hi : Inv z d Ks L m) (hB : ∀ k, Sc g d Sl k → Bd ≤ k) (hw : Bd ≤ w.heap.size) (hc : Wc z Ks) {x : List Int} (hx : x.length = 32) (n : Nat) (h0 : z = n + 1) {i j : Nat} (hie : idxL x Ks 0 = (i : Int)) (hil : i < m.E.length) (hkf : kfA d.A (m.E.getD i (0, 0)) = x) (hf : foundK x L 0 = some (j, (m.E.getD i (0, 0)).1)) (hp : placeM m (m.E.getD i (0, 0)).1 = (i : Int)) : Calls Try.prog 17 #[.pointer (some ⟨g, 0, none⟩), .agg (w8s x)] w fun e w' => e = .returned (.bool (pushZ Ks z x).2) ∧ Out Bd g z d Sl w (pushZ Ks z x).1 w' := by
  subst h0
  have hk := hi.ct.keys32 hc.kc
  have hmv := hi.move hil hkf hp
  have hs64 := hi.slot hil
  rw [show pushZ Ks (n + 1) x = (Ks.take i ++ Ks.drop (i + 1) ++ [x], false) by unfold pushZ; rw [hie, if_neg (by omega), Int.toNat_natCast]]
  generalize Ks.take i ++ Ks.drop (i + 1) ++ [x] = Ks2 at *
  generalize (m.E.getD i (0, 0)).1 = s at *
  have HL0 := Lib.hid (fun U (hU : Below w.heap.size w U) => (h.below hU).ld0)
  have HL1 := Lib.hid (fun U (hU : Below w.heap.size w U) => (h.below hU).ld1)
  have HM := Lib.hid (fun U (hU : Below w.heap.size w U) => (by
    have := map_look (h.below hU).mp hk x hx true
    unfold lookV at this
    rw [hf] at this
    exact this : (Instr.lookup 51 (.map (some d.B)) (.agg (w8s x)) true).run Try.prog U = .ok (.tuple #[.int .i64 s, .bool true]) U))
  have HL2 := Lib.hid (fun U (hU : Below w.heap.size w U) => (h.below hU).ld2)
  have HMV := Lib.hid (fun U (hU : Below w.heap.size w U) => list_move U d.gl Sl m s Bd (h.below hU).ls hi.ct.wm hi.ok hs64 (fun k hk => hB k ⟨2, hk⟩) (Nat.le_trans hw hU.size))
  have HO := Lib.hid (fun U (hU : Below w.heap.size w U) U2 (q : Upd RepP d.gl Bd Sl (moveM m s).1 U U2) => (by
    obtain ⟨Sl2, hG⟩ := Gt.list (h.below hU) q
    exact ⟨d, L, _, Sl2, (Gt.below h hU hw).trans hG, hmv⟩ : Out Bd g (n + 1) d Sl w Ks2 U2))
  obtain ⟨hb0, hX0⟩ := box_start x w
  clear h hi hB hw hc hie hil hkf hf hp hk hmv hs64
  go_enter Try.func17, Try.ntmps17
  go_upto_region 1 with fail
  change Code.wp _ _ _ _ (w.alloc (.cells (w8s x) 34))
  generalize w.alloc (.cells (w8s x) 34) = W at *
  generalize hg0 : w.heap.size = g0 at hX0 ⊢
  have HG0 := Lib.hid hg0
  have HB0 := Lib.hid hb0
  clear hg0
  apply wp_region_lit
  refine gw_val (by kernel_rfl) (some 7) rfl (.pointer (some ⟨g, 0, none⟩)) (by kernel_rfl) ?_
  simp only [Act.put, List.setIfInBounds_toArray, List.set_cons_succ, List.set_cons_zero]
  refine gw_val (by kernel_rfl) (some 8) rfl (.bool false) (by kernel_rfl) ?_
  simp only [Act.put, List.setIfInBounds_toArray, List.set_cons_succ, List.set_cons_zero]
  refine gw_val (by kernel_rfl) (some 9) rfl (.bool false) (by kernel_rfl) ?_
  simp only [Act.put, List.setIfInBounds_toArray, List.set_cons_succ, List.set_cons_zero]
  refine gw_val (by kernel_rfl) (some 10) rfl (.pointer (some ⟨g, 0, none⟩)) (by kernel_rfl) ?_
  simp only [Act.put, List.setIfInBounds_toArray, List.set_cons_succ, List.set_cons_zero]
  refine gw_val (by kernel_rfl) (some 11) rfl (.pointer (some ⟨g, 0, none⟩)) (by kernel_rfl) ?_
  simp only [Act.put, List.setIfInBounds_toArray, List.set_cons_succ, List.set_cons_zero]
  refine gw_val (by kernel_rfl) (some 12) rfl (.pointer (some ⟨g, 0, none⟩)) (by kernel_rfl) ?_
  simp only [Act.put, List.setIfInBounds_toArray, List.set_cons_succ, List.set_cons_zero]
  refine gw_load (by kernel_rfl) (some 13) rfl 3 (.tmp 12) rfl ⟨g, 0, none⟩ (.int .i64 (n + 1 : Nat)) (by kernel_rfl) (HL0.out W HB0.out) ?_
  simp only [Act.put, List.setIfInBounds_toArray, List.set_cons_succ, List.set_cons_zero]
  refine gw_val (by kernel_rfl) (some 14) rfl (.bool false) (by kernel_rfl) ?_
  simp only [Act.put, List.setIfInBounds_toArray, List.set_cons_succ, List.set_cons_zero]
  refine gw_val (by kernel_rfl) (some 15) rfl (.bool false) (by kernel_rfl) ?_
  simp only [Act.put, List.setIfInBounds_toArray, List.set_cons_succ, List.set_cons_zero]
  apply wpList_nil
  go_upto_region 3 with fail
  refine wp_region_class (C := fun U => Below w.heap.size w U ∧ Bx U g0 (w8s x) 34) (by kernel_rfl) (by kernel_rfl) (⟨HB0.out.drew, hX0⟩) ?_
  refine gq_val (by kernel_rfl) (some 17) rfl (.pointer (some ⟨g, 0, none⟩)) (fun U hU => by kernel_rfl) ?_
  simp only [Act.put, List.setIfInBounds_toArray, List.set_cons_succ, List.set_cons_zero]
  refine gq_val (by kernel_rfl) (some 18) rfl (.pointer (some ⟨g, 0, none⟩)) (fun U hU => by kernel_rfl) ?_
  simp only [Act.put, List.setIfInBounds_toArray, List.set_cons_succ, List.set_cons_zero]
  refine gq_val (by kernel_rfl) (some 19) rfl (.pointer (some ⟨g, 1, none⟩)) (fun U hU => by kernel_rfl) ?_
  simp only [Act.put, List.setIfInBounds_toArray, List.set_cons_succ, List.set_cons_zero]
  refine gq_load (by kernel_rfl) (some 20) rfl 51 (.tmp 19) rfl ⟨g, 1, none⟩ (.map (some d.B)) (by kernel_rfl) (fun U hU => HL1.out U hU.1) ?_
  simp only [Act.put, List.setIfInBounds_toArray, List.set_cons_succ, List.set_cons_zero]
  refine gq_load (by kernel_rfl) (some 21) rfl 34 (.tmp 3) rfl ⟨g0, 0, none⟩ (.agg (w8s x)) (by kernel_rfl) (fun U hU => load_key hU.2 hx) ?_
  simp only [Act.put, List.setIfInBounds_toArray, List.set_cons_succ, List.set_cons_zero]
  refine gq_val (by kernel_rfl) (some 22) rfl (.tuple #[.int .i64 s, .bool true]) (fun U hU => ex_look 51 (.tmp 20) (.tmp 21) true rfl (.map (some d.B)) (.agg (w8s x)) _ (by kernel_rfl) (by kernel_rfl) (HM.out U hU.1)) ?_
  simp only [Act.put, List.setIfInBounds_toArray, List.set_cons_succ, List.set_cons_zero]
  refine gq_val (by kernel_rfl) (some 16) rfl (.tuple #[.int .i64 s, .bool true]) (fun U hU => by kernel_rfl) ?_
  simp only [Act.put, List.setIfInBounds_toArray, List.set_cons_succ, List.set_cons_zero]
  refine gq_val (by kernel_rfl) (some 23) rfl (.int .i64 s) (fun U hU => by kernel_rfl) ?_
  simp only [Act.put, List.setIfInBounds_toArray, List.set_cons_succ, List.set_cons_zero]
  refine gq_val (by kernel_rfl) (some 24) rfl (.bool true) (fun U hU => by kernel_rfl) ?_
  simp only [Act.put, List.setIfInBounds_toArray, List.set_cons_succ, List.set_cons_zero]
  refine gq_val (by kernel_rfl) (some 5) rfl (.int .i64 s) (fun U hU => by kernel_rfl) ?_
  simp only [Act.put, List.setIfInBounds_toArray, List.set_cons_succ, List.set_cons_zero]
  refine gq_val (by kernel_rfl) (some 6) rfl (.bool true) (fun U hU => by kernel_rfl) ?_
  simp only [Act.put, List.setIfInBounds_toArray, List.set_cons_succ, List.set_cons_zero]
  apply wpQuiet_nil
  intro V hV
  have HV1 := Lib.hid hV
  clear hV HM HL1 hX0 hb0
  go_upto_region 4 with fail
  apply wp_region_lit
  refine gw_val (by kernel_rfl) (some 25) rfl (.bool true) (by kernel_rfl) ?_
  simp only [Act.put, List.setIfInBounds_toArray, List.set_cons_succ, List.set_cons_zero]
  apply wpList_nil
  go_upto_region 5 with fail
  apply wp_region_lit
  refine gw_val (by kernel_rfl) (some 26) rfl (.pointer (some ⟨g, 0, none⟩)) (by kernel_rfl) ?_
  simp only [Act.put, List.setIfInBounds_toArray, List.set_cons_succ, List.set_cons_zero]
  refine gw_val (by kernel_rfl) (some 27) rfl (.pointer (some ⟨g, 0, none⟩)) (by kernel_rfl) ?_
  simp only [Act.put, List.setIfInBounds_toArray, List.set_cons_succ, List.set_cons_zero]
  refine gw_val (by kernel_rfl) (some 28) rfl (.pointer (some ⟨g, 2, none⟩)) (by kernel_rfl) ?_
  simp only [Act.put, List.setIfInBounds_toArray, List.set_cons_succ, List.set_cons_zero]
  refine gw_load (by kernel_rfl) (some 29) rfl 52 (.tmp 28) rfl ⟨g, 2, none⟩ (.pointer (some ⟨d.gl, 0, none⟩)) (by kernel_rfl) (HL2.out V HV1.out.1) ?_
  simp only [Act.put, List.setIfInBounds_toArray, List.set_cons_succ, List.set_cons_zero]
  refine gw_val (by kernel_rfl) (some 30) rfl (.int .i64 s) (by kernel_rfl) ?_
  simp only [Act.put, List.setIfInBounds_toArray, List.set_cons_succ, List.set_cons_zero]
  refine gw_call (by kernel_rfl) (some 31) rfl 29 #[.pointer (some ⟨d.gl, 0, none⟩), .int .i64 s] (.bool (moveM m s).2) (Upd RepP d.gl Bd Sl (moveM m s).1 V) (by kernel_rfl) (HMV.out V HV1.out.1) (fun V2 hV2 => ?_)
  simp only [Act.put, List.setIfInBounds_toArray, List.set_cons_succ, List.set_cons_zero]
  apply wpList_nil
  have HE := Lib.hid (HO.out V HV1.out.1 V2 hV2)
  clear hV2 HMV HO HL2 HL0
  generalize (moveM m s).2 = rr at *
  go_upto_region 6 with fail
  apply wp_region_lit
  refine gw_val (by kernel_rfl) (some 4) rfl (.bool false) (by kernel_rfl) ?_
  simp only [Act.put, List.setIfInBounds_toArray, List.set_cons_succ, List.set_cons_zero]
  apply wpList_nil
  go_wp2_with fail
  go_ret
  exact ⟨rfl, HE.out⟩
theorem hid9 {P : Nat → World → Prop} {A1 A2 A3 A4 A5 : Prop} {w : World} (h : P 0 w ∧ A1 ∧ A2 ∧ A3 ∧ A4 ∧ A5) : NP P false false false w ∧ Hid A1 ∧ Hid A2 ∧ Hid A3 ∧ Hid A4 ∧ Hid A5 :=
  ⟨⟨h.1, ff, ff⟩, Lib.hid h.2.1, Lib.hid h.2.2.1, Lib.hid h.2.2.2.1, Lib.hid h.2.2.2.2.1, Lib.hid h.2.2.2.2.2⟩
set_option maxRecDepth 100000 in
set_option maxHeartbeats 4000000 in
theorem q_push2 {Bd g z : Nat} {d : Cd} {Sl : Nat → Prop} {Ks : List (List Int)} {L : List (List Int × Int)} {m : LM} {w : World} (h : Mem w g z d L m Sl) (hi : Inv z d Ks L m) (hB : ∀ k, Sc g d Sl k → Bd ≤ k) (hw : Bd ≤ w.heap.size) (hc : Wc z Ks) {x : List Int} (hx : x.length = 32) (n : Nat) (h0 : z = n + 1) (hie : idxL x Ks 0 = -1) (hf : foundK x L 0 = none) (hlt : Ks.length < z) : Calls Try.prog 17 #[.pointer (some ⟨g, 0, none⟩), .agg (w8s x)] w fun e w' => e = .returned (.bool (pushZ Ks z x).2) ∧ Out Bd g z d Sl w (pushZ Ks z x).1 w' := by
  subst h0
  have hk := hi.ct.keys32 hc.kc
  have hml := hi.mlen
  rw [show pushZ Ks (n + 1) x = (Ks ++ [x], true) by unfold pushZ; rw [hie, if_pos (by omega), if_neg (by omega)]]
  have HL0 := Lib.hid (fun U (hU : Below w.heap.size w U) => (h.below hU).ld0)
  have HL1 := Lib.hid (fun U (hU : Below w.heap.size w U) => (h.below hU).ld1)
  have HM := Lib.hid (fun U (hU : Below w.heap.size w U) => (by
    have := map_look (h.below hU).mp hk x hx true
    unfold lookV at this
    rw [hf] at this
    exact this : (Instr.lookup 51 (.map (some d.B)) (.agg (w8s x)) true).run Try.prog U = .ok (.tuple #[.int .i64 0, .bool false]) U))
  have HLN := Lib.hid (fun U (hU : Below w.heap.size w U) => q_len (h.below hU))
  have HNE : Hid (decide (L.length = n + 1) = false) := Lib.hid (decide_eq_false (by omega))
  have HNI := Lib.hid (Gt.notin h (Nat.le_refl _))
  have H9 := Lib.hid (fun g0 U (hU : Below w.heap.size w U) (hX : Bx U g0 (w8s x) 34) (hg0 : ¬ Sc g d Sl g0) => nine (h.below hU) hi hB (Nat.le_trans hw hU.size) hc hx hf hlt hX hg0)
  have HTR := Lib.hid (fun U (hU : Below w.heap.size w U) U2 (q : Out Bd g (n + 1) d Sl U (Ks ++ [x]) U2) => Out.trans (Gt.below h hU hw) q)
  obtain ⟨hb0, hX0⟩ := box_start x w
  clear h hi hB hw hc hie hf hk hlt hml
  go_enter Try.func17, Try.ntmps17
  go_upto_region 1 with fail
  change Code.wp _ _ _ _ (w.alloc (.cells (w8s x) 34))
  generalize w.alloc (.cells (w8s x) 34) = W at *
  generalize hg0 : w.heap.size = g0 at hX0 ⊢
  have HG0 := Lib.hid hg0
  have HB0 := Lib.hid hb0
  clear hg0
  apply wp_region_lit
  refine gw_val (by kernel_rfl) (some 7) rfl (.pointer (some ⟨g, 0, none⟩)) (by kernel_rfl) ?_
  simp only [Act.put, List.setIfInBounds_toArray, List.set_cons_succ, List.set_cons_zero]
  refine gw_val (by kernel_rfl) (some 8) rfl (.bool false) (by kernel_rfl) ?_
  simp only [Act.put, List.setIfInBounds_toArray, List.set_cons_succ, List.set_cons_zero]
  refine gw_val (by kernel_rfl) (some 9) rfl (.bool false) (by kernel_rfl) ?_
  simp only [Act.put, List.setIfInBounds_toArray, List.set_cons_succ, List.set_cons_zero]
  refine gw_val (by kernel_rfl) (some 10) rfl (.pointer (some ⟨g, 0, none⟩)) (by kernel_rfl) ?_
  simp only [Act.put, List.setIfInBounds_toArray, List.set_cons_succ, List.set_cons_zero]
  refine gw_val (by kernel_rfl) (some 11) rfl (.pointer (some ⟨g, 0, none⟩)) (by kernel_rfl) ?_
  simp only [Act.put, List.setIfInBounds_toArray, List.set_cons_succ, List.set_cons_zero]
  refine gw_val (by kernel_rfl) (some 12) rfl (.pointer (some ⟨g, 0, none⟩)) (by kernel_rfl) ?_
  simp only [Act.put, List.setIfInBounds_toArray, List.set_cons_succ, List.set_cons_zero]
  refine gw_load (by kernel_rfl) (some 13) rfl 3 (.tmp 12) rfl ⟨g, 0, none⟩ (.int .i64 (n + 1 : Nat)) (by kernel_rfl) (HL0.out W HB0.out) ?_
  simp only [Act.put, List.setIfInBounds_toArray, List.set_cons_succ, List.set_cons_zero]
  refine gw_val (by kernel_rfl) (some 14) rfl (.bool false) (by kernel_rfl) ?_
  simp only [Act.put, List.setIfInBounds_toArray, List.set_cons_succ, List.set_cons_zero]
  refine gw_val (by kernel_rfl) (some 15) rfl (.bool false) (by kernel_rfl) ?_
  simp only [Act.put, List.setIfInBounds_toArray, List.set_cons_succ, List.set_cons_zero]
  apply wpList_nil
  go_upto_region 3 with fail
  refine wp_region_class (C := fun U => Below w.heap.size w U ∧ Bx U g0 (w8s x) 34) (by kernel_rfl) (by kernel_rfl) (⟨HB0.out.drew, hX0⟩) ?_
  refine gq_val (by kernel_rfl) (some 17) rfl (.pointer (some ⟨g, 0, none⟩)) (fun U hU => by kernel_rfl) ?_
  simp only [Act.put, List.setIfInBounds_toArray, List.set_cons_succ, List.set_cons_zero]
  refine gq_val (by kernel_rfl) (some 18) rfl (.pointer (some ⟨g, 0, none⟩)) (fun U hU => by kernel_rfl) ?_
  simp only [Act.put, List.setIfInBounds_toArray, List.set_cons_succ, List.set_cons_zero]
  refine gq_val (by kernel_rfl) (some 19) rfl (.pointer (some ⟨g, 1, none⟩)) (fun U hU => by kernel_rfl) ?_
  simp only [Act.put, List.setIfInBounds_toArray, List.set_cons_succ, List.set_cons_zero]
  refine gq_load (by kernel_rfl) (some 20) rfl 51 (.tmp 19) rfl ⟨g, 1, none⟩ (.map (some d.B)) (by kernel_rfl) (fun U hU => HL1.out U hU.1) ?_
  simp only [Act.put, List.setIfInBounds_toArray, List.set_cons_succ, List.set_cons_zero]
  refine gq_load (by kernel_rfl) (some 21) rfl 34 (.tmp 3) rfl ⟨g0, 0, none⟩ (.agg (w8s x)) (by kernel_rfl) (fun U hU => load_key hU.2 hx) ?_
  simp only [Act.put, List.setIfInBounds_toArray, List.set_cons_succ, List.set_cons_zero]
  refine gq_val (by kernel_rfl) (some 22) rfl (.tuple #[.int .i64 0, .bool false]) (fun U hU => ex_look 51 (.tmp 20) (.tmp 21) true rfl (.map (some d.B)) (.agg (w8s x)) _ (by kernel_rfl) (by kernel_rfl) (HM.out U hU.1)) ?_
  simp only [Act.put, List.setIfInBounds_toArray, List.set_cons_succ, List.set_cons_zero]
  refine gq_val (by kernel_rfl) (some 16) rfl (.tuple #[.int .i64 0, .bool false]) (fun U hU => by kernel_rfl) ?_
  simp only [Act.put, List.setIfInBounds_toArray, List.set_cons_succ, List.set_cons_zero]
  refine gq_val (by kernel_rfl) (some 23) rfl (.int .i64 0) (fun U hU => by kernel_rfl) ?_
  simp only [Act.put, List.setIfInBounds_toArray, List.set_cons_succ, List.set_cons_zero]
  refine gq_val (by kernel_rfl) (some 24) rfl (.bool false) (fun U hU => by kernel_rfl) ?_
  simp only [Act.put, List.setIfInBounds_toArray, List.set_cons_succ, List.set_cons_zero]
  refine gq_val (by kernel_rfl) (some 5) rfl (.int .i64 0) (fun U hU => by kernel_rfl) ?_
  simp only [Act.put, List.setIfInBounds_toArray, List.set_cons_succ, List.set_cons_zero]
  refine gq_val (by kernel_rfl) (some 6) rfl (.bool false) (fun U hU => by kernel_rfl) ?_
  simp only [Act.put, List.setIfInBounds_toArray, List.set_cons_succ, List.set_cons_zero]
  apply wpQuiet_nil
  intro V hV
  have HV1 := Lib.hid hV
  clear hV HM HL1 hX0 hb0
  go_upto_region 4 with fail
  apply wp_region_lit
  refine gw_val (by kernel_rfl) (some 25) rfl (.bool false) (by kernel_rfl) ?_
  simp only [Act.put, List.setIfInBounds_toArray, List.set_cons_succ, List.set_cons_zero]
  apply wpList_nil
  go_upto_region 7 with fail
  refine wp_region_class (C := fun U => Below w.heap.size w U ∧ Bx U g0 (w8s x) 34) (by kernel_rfl) (by kernel_rfl) (⟨HV1.out.1.drew, HV1.out.2⟩) ?_
  refine gq_val (by kernel_rfl) (some 32) rfl (.pointer (some ⟨g, 0, none⟩)) (fun U hU => by kernel_rfl) ?_
  simp only [Act.put, List.setIfInBounds_toArray, List.set_cons_succ, List.set_cons_zero]
  refine gq_call (by kernel_rfl) (some 33) rfl 20 #[.pointer (some ⟨g, 0, none⟩)] (.int .i64 L.length) (fun U hU => by kernel_rfl) (fun U hU => (HLN.out U hU.1).mono (fun e w2 q => by obtain ⟨e1, rfl⟩ := q; exact ⟨e1, hU⟩)) ?_
  simp only [Act.put, List.setIfInBounds_toArray, List.set_cons_succ, List.set_cons_zero]
  refine gq_val (by kernel_rfl) (some 34) rfl (.pointer (some ⟨g, 0, none⟩)) (fun U hU => by kernel_rfl) ?_
  simp only [Act.put, List.setIfInBounds_toArray, List.set_cons_succ, List.set_cons_zero]
  refine gq_val (by kernel_rfl) (some 35) rfl (.pointer (some ⟨g, 0, none⟩)) (fun U hU => by kernel_rfl) ?_
  simp only [Act.put, List.setIfInBounds_toArray, List.set_cons_succ, List.set_cons_zero]
  refine gq_val (by kernel_rfl) (some 36) rfl (.pointer (some ⟨g, 0, none⟩)) (fun U hU => by kernel_rfl) ?_
  simp only [Act.put, List.setIfInBounds_toArray, List.set_cons_succ, List.set_cons_zero]
  refine gq_load (by kernel_rfl) (some 37) rfl 3 (.tmp 36) rfl ⟨g, 0, none⟩ (.int .i64 (n + 1 : Nat)) (by kernel_rfl) (fun U hU => HL0.out U hU.1) ?_
  simp only [Act.put, List.setIfInBounds_toArray, List.set_cons_succ, List.set_cons_zero]
  refine gq_val (by kernel_rfl) (some 38) rfl (.bool false) (fun U hU => eq_nat rfl L.length (n + 1) false HNE.out (by kernel_rfl) (by kernel_rfl) _) ?_
  simp only [Act.put, List.setIfInBounds_toArray, List.set_cons_succ, List.set_cons_zero]
  apply wpQuiet_nil
  intro V2 hV2
  have HV2 := Lib.hid hV2
  clear hV2 HLN HL0
  have hG9 := H9.out g0 V2.drew HV2.out.1.drew HV2.out.2 (HG0.out ▸ HNI.out)
  obtain ⟨P, I, s, hG9⟩ := hG9
  obtain ⟨h0, HT, HPB, HU, HEE0, HA⟩ := hid9 hG9
  have HEE := Lib.hid (fun U q => HTR.out V2.drew HV2.out.1.drew U (HEE0.out U q))
  clear hG9 H9 HTR HEE0 HV1
  go_upto_region 9 with fail
  refine wp_region_inv (fun listed act9 V => ∃ b0 b1 b2 b3 b4 b5 b6 b7 b8 b9 b10 b11 b12 b13 : Bool, listed = #[b0, b1, b2, b3, b4, b5, b6, b7, b8, b9, b10, b11, b12, b13] ∧ act9 = { tmps := #[.pointer (some ⟨g, 0, none⟩), .agg (w8s x), undef, .pointer (some ⟨g0, 0, none⟩), .bool false, .int .i64 0, .bool false, .pointer (some ⟨g, 0, none⟩), .bool false, .bool false, .pointer (some ⟨g, 0, none⟩), .pointer (some ⟨g, 0, none⟩), .pointer (some ⟨g, 0, none⟩), .int .i64 (n + 1 : Nat), .bool false, .bool false, .tuple #[.int .i64 0, .bool false], .pointer (some ⟨g, 0, none⟩), .pointer (some ⟨g, 0, none⟩), .pointer (some ⟨g, 1, none⟩), .map (some d.B), .agg (w8s x), .tuple #[.int .i64 0, .bool false], .int .i64 0, .bool false, .bool false, undef, undef, undef, undef, undef, undef, .pointer (some ⟨g, 0, none⟩), .int .i64 L.length, .pointer (some ⟨g, 0, none⟩), .pointer (some ⟨g, 0, none⟩), .pointer (some ⟨g, 0, none⟩), .int .i64 (n + 1 : Nat), .bool false, undef, undef, undef, undef, (cond b0 (.pointer (some ⟨g, 0, none⟩)) undef), (cond b1 (.pointer (some ⟨g, 0, none⟩)) undef), (cond b2 (.pointer (some ⟨g, 1, none⟩)) undef), (cond b3 (.map (some d.B)) undef), (cond b4 (.agg (w8s x)) undef), (cond b5 (.pointer (some ⟨g, 0, none⟩)) undef), (cond b6 (.pointer (some ⟨g, 0, none⟩)) undef), (cond b7 (.pointer (some ⟨g, 2, none⟩)) undef), (cond b8 (.pointer (some ⟨d.gl, 0, none⟩)) undef), (cond b9 (.pointer (some ⟨g, 0, none⟩)) undef), (cond b10 (.agg (w8s x)) undef), (cond b11 (.int .i64 I) undef), (cond b12 (.int .i64 s) undef)], defers := [] } ∧ NP P b11 b12 b13 V) (by kernel_rfl) (by kernel_rfl) ?_ ?_ ?_
  · exact ⟨false, false, false, false, false, false, false, false, false, false, false, false, false, false, rfl, rfl, h0⟩
  · intro i9 listed act9 V hi hr hJ
    obtain ⟨b0, b1, b2, b3, b4, b5, b6, b7, b8, b9, b10, b11, b12, b13, rfl, rfl, hF⟩ := hJ
    have hi2 : i9 < 14 := hi
    have hi3 : i9 = 0 ∨ i9 = 1 ∨ i9 = 2 ∨ i9 = 3 ∨ i9 = 4 ∨ i9 = 5 ∨ i9 = 6 ∨ i9 = 7 ∨ i9 = 8 ∨ i9 = 9 ∨ i9 = 10 ∨ i9 = 11 ∨ i9 = 12 ∨ i9 = 13 := by omega
    rcases hi3 with rfl | rfl | rfl | rfl | rfl | rfl | rfl | rfl | rfl | rfl | rfl | rfl | rfl | rfl
    · obtain rfl : b0 = false := ready_self hr
      refine st_val rfl (by kernel_rfl) (some 43) rfl (.pointer (some ⟨g, 0, none⟩)) V (by kernel_rfl) ?_
      exact ⟨true, b1, b2, b3, b4, b5, b6, b7, b8, b9, b10, b11, b12, b13, rfl, rfl, hF⟩
    · obtain rfl : b1 = false := ready_self hr
      obtain rfl : b0 = true := ready_dep hr 0 (by kernel_rfl)
      refine st_val rfl (by kernel_rfl) (some 44) rfl (.pointer (some ⟨g, 0, none⟩)) V (by kernel_rfl) ?_
      exact ⟨true, true, b2, b3, b4, b5, b6, b7, b8, b9, b10, b11, b12, b13, rfl, rfl, hF⟩
    · obtain rfl : b2 = false := ready_self hr
      obtain rfl : b1 = true := ready_dep hr 1 (by kernel_rfl)
      refine st_val rfl (by kernel_rfl) (some 45) rfl (.pointer (some ⟨g, 1, none⟩)) V (by kernel_rfl) ?_
      exact ⟨b0, true, true, b3, b4, b5, b6, b7, b8, b9, b10, b11, b12, b13, rfl, rfl, hF⟩
    · obtain rfl : b3 = false := ready_self hr
      obtain rfl : b2 = true := ready_dep hr 2 (by kernel_rfl)
      refine st_load rfl (by kernel_rfl) (some 46) rfl 51 (.tmp 45) rfl ⟨g, 1, none⟩ (.map (some d.B)) (by kernel_rfl) (HA.out _ _ hF.st).1 ?_
      exact ⟨b0, b1, true, true, b4, b5, b6, b7, b8, b9, b10, b11, b12, b13, rfl, rfl, hF⟩
    · obtain rfl : b4 = false := ready_self hr
      refine st_load rfl (by kernel_rfl) (some 47) rfl 34 (.tmp 3) rfl ⟨g0, 0, none⟩ (.agg (w8s x)) (by kernel_rfl) (HA.out _ _ hF.st).2.2 ?_
      exact ⟨b0, b1, b2, b3, true, b5, b6, b7, b8, b9, b10, b11, b12, b13, rfl, rfl, hF⟩
    · obtain rfl : b5 = false := ready_self hr
      refine st_val rfl (by kernel_rfl) (some 48) rfl (.pointer (some ⟨g, 0, none⟩)) V (by kernel_rfl) ?_
      exact ⟨b0, b1, b2, b3, b4, true, b6, b7, b8, b9, b10, b11, b12, b13, rfl, rfl, hF⟩
    · obtain rfl : b6 = false := ready_self hr
      obtain rfl : b5 = true := ready_dep hr 5 (by kernel_rfl)
      refine st_val rfl (by kernel_rfl) (some 49) rfl (.pointer (some ⟨g, 0, none⟩)) V (by kernel_rfl) ?_
      exact ⟨b0, b1, b2, b3, b4, true, true, b7, b8, b9, b10, b11, b12, b13, rfl, rfl, hF⟩
    · obtain rfl : b7 = false := ready_self hr
      obtain rfl : b6 = true := ready_dep hr 6 (by kernel_rfl)
      refine st_val rfl (by kernel_rfl) (some 50) rfl (.pointer (some ⟨g, 2, none⟩)) V (by kernel_rfl) ?_
      exact ⟨b0, b1, b2, b3, b4, b5, true, true, b8, b9, b10, b11, b12, b13, rfl, rfl, hF⟩
    · obtain rfl : b8 = false := ready_self hr
      obtain rfl : b7 = true := ready_dep hr 7 (by kernel_rfl)
      refine st_load rfl (by kernel_rfl) (some 51) rfl 52 (.tmp 50) rfl ⟨g, 2, none⟩ (.pointer (some ⟨d.gl, 0, none⟩)) (by kernel_rfl) (HA.out _ _ hF.st).2.1 ?_
      exact ⟨b0, b1, b2, b3, b4, b5, b6, true, true, b9, b10, b11, b12, b13, rfl, rfl, hF⟩
    · obtain rfl : b9 = false := ready_self hr
      refine st_val rfl (by kernel_rfl) (some 52) rfl (.pointer (some ⟨g, 0, none⟩)) V (by kernel_rfl) ?_
      exact ⟨b0, b1, b2, b3, b4, b5, b6, b7, b8, true, b10, b11, b12, b13, rfl, rfl, hF⟩
    · obtain rfl : b10 = false := ready_self hr
      refine st_load rfl (by kernel_rfl) (some 53) rfl 34 (.tmp 3) rfl ⟨g0, 0, none⟩ (.agg (w8s x)) (by kernel_rfl) (HA.out _ _ hF.st).2.2 ?_
      exact ⟨b0, b1, b2, b3, b4, b5, b6, b7, b8, b9, true, b11, b12, b13, rfl, rfl, hF⟩
    · obtain rfl : b11 = false := ready_self hr
      obtain rfl : b9 = true := ready_dep hr 9 (by kernel_rfl)
      obtain rfl : b10 = true := ready_dep hr 10 (by kernel_rfl)
      obtain ⟨q1, q2⟩ := hF.s1
      refine st_call rfl (by kernel_rfl) (some 54) rfl 32 #[.pointer (some ⟨g, 0, none⟩), .agg (w8s x)] (by kernel_rfl) ((HT.out V q1).mono ?_)
      rintro e w9 ⟨rfl, hw9⟩
      exact ⟨_, rfl, b0, b1, b2, b3, b4, b5, b6, b7, b8, true, true, true, b12, b13, rfl, rfl, q2 _ hw9⟩
    · obtain rfl : b12 = false := ready_self hr
      obtain rfl : b8 = true := ready_dep hr 8 (by kernel_rfl)
      obtain rfl : b11 = true := ready_dep hr 11 (by kernel_rfl)
      obtain ⟨q1, q2⟩ := hF.s2
      refine st_call rfl (by kernel_rfl) (some 55) rfl 31 #[.pointer (some ⟨d.gl, 0, none⟩), .int .i64 I] (by kernel_rfl) ((HPB.out V q1).mono ?_)
      rintro e w9 ⟨rfl, hw9⟩
      exact ⟨_, rfl, b0, b1, b2, b3, b4, b5, b6, b7, true, b9, b10, true, true, b13, rfl, rfl, q2 _ hw9⟩
    · obtain rfl : b13 = false := ready_self hr
      obtain rfl : b3 = true := ready_dep hr 3 (by kernel_rfl)
      obtain rfl : b4 = true := ready_dep hr 4 (by kernel_rfl)
      obtain rfl : b12 = true := ready_dep hr 12 (by kernel_rfl)
      obtain ⟨q1, q2⟩ := hF.s3
      obtain ⟨w9, hr9, hp9⟩ := HU.out V q1
      refine st_skip rfl (by kernel_rfl) rfl w9 (ex_put 51 (.tmp 46) (.tmp 47) (.tmp 55) rfl (.map (some d.B)) (.agg (w8s x)) (.int .i64 s) (by kernel_rfl) (by kernel_rfl) (by kernel_rfl) hr9) ?_
      exact ⟨b0, b1, b2, true, true, b5, b6, b7, b8, b9, b10, b11, true, true, rfl, rfl, q2 _ hp9⟩
  · intro act9 V hJ
    obtain ⟨b0, b1, b2, b3, b4, b5, b6, b7, b8, b9, b10, b11, b12, b13, he, rfl, hF⟩ := hJ
    have he : (#[true, true, true, true, true, true, true, true, true, true, true, true, true, true] : Array Bool) = #[b0, b1, b2, b3, b4, b5, b6, b7, b8, b9, b10, b11, b12, b13] := he
    simp only [Array.mk.injEq, List.cons.injEq, and_true] at he
    obtain ⟨rfl, rfl, rfl, rfl, rfl, rfl, rfl, rfl, rfl, rfl, rfl, rfl, rfl, rfl⟩ := he
    simp only [cond_true]
    have HE := Lib.hid (HEE.out V hF.st)
    clear hF h0 HT HPB HU HEE HA
    go_upto_region 10 with fail
    apply wp_region_lit
    refine gw_val (by kernel_rfl) (some 4) rfl (.bool true) (by kernel_rfl) ?_
    simp only [Act.put, List.setIfInBounds_toArray, List.set_cons_succ, List.set_cons_zero]
    apply wpList_nil
    go_wp2_with fail
    go_ret
    exact ⟨rfl, HE.out⟩
set_option maxRecDepth 100000 in
set_option maxHeartbeats 4000000 in
theorem q_push3 {Bd g z : Nat} {d : Cd} {Sl : Nat → Prop} {Ks : List (List Int)} {L : List (List Int × Int)} {m : LM} {w : World} (h : Mem w g z d L m Sl) (hi : Inv z d Ks L m) (hB : ∀ k, Sc g d Sl k → Bd ≤ k) (hw : Bd ≤ w.heap.size) (hc : Wc z Ks) {x : List Int} (hx : x.length = 32) (n : Nat) (h0 : z = n + 1) (hie : idxL x Ks 0 = -1) (hf : foundK x L 0 = none) (hlt : Ks.length = z) : Calls Try.prog 17 #[.pointer (some ⟨g, 0, none⟩), .agg (w8s x)] w fun e w' => e = .returned (.bool (pushZ Ks z x).2) ∧ Out Bd g z d Sl w (pushZ Ks z x).1 w' := by
  subst h0
  have hk := hi.ct.keys32 hc.kc
  have hml := hi.mlen
  have hp : 0 < Ks.length := by omega
  have hnx : x ∉ Ks := fun hm => by
    have := (idxL_mem x Ks 0).1 hm
    omega
  have hr : pushZ Ks (n + 1) x = (Ks.drop 1 ++ [x], true) := by
    unfold pushZ
    rw [hie, if_pos (by omega), if_pos (by omega), List.drop_append_of_le_length (by omega)]
  rw [hr]
  have hy32 : (Ks.getD 0 []).length = 32 := hc.kc.at hp
  have hdr := (idx_first hp).2
  have HL0 := Lib.hid (fun U (hU : Below w.heap.size w U) => (h.below hU).ld0)
  have HL1 := Lib.hid (fun U (hU : Below w.heap.size w U) => (h.below hU).ld1)
  have HM := Lib.hid (fun U (hU : Below w.heap.size w U) => (by
    have := map_look (h.below hU).mp hk x hx true
    unfold lookV at this
    rw [hf] at this
    exact this : (Instr.lookup 51 (.map (some d.B)) (.agg (w8s x)) true).run Try.prog U = .ok (.tuple #[.int .i64 0, .bool false]) U))
  have HLN := Lib.hid (fun U (hU : Below w.heap.size w U) => q_len (h.below hU))
  have HEQ : Hid (decide (L.length = n + 1) = true) := Lib.hid (decide_eq_true (by omega))
  have HNI := Lib.hid (Gt.notin h (Nat.le_refl _))
  have HOL := Lib.hid (fun U (hU : Below w.heap.size w U) => q_oldest (h.below hU) hi hp)
  have HRM := Lib.hid (fun U (hU : Below w.heap.size w U) => (by
    have := q_remove (h.below hU) hi hB (Nat.le_trans hw hU.size) hc hy32
    rw [hdr] at this
    exact this : Calls Try.prog 14 #[.pointer (some ⟨g, 0, none⟩), .agg (w8s (Ks.getD 0 []))] U fun e w' => e = .returned (.bool (dropM Ks (Ks.getD 0 [])).2) ∧ Out Bd g (n + 1) d Sl U (Ks.drop 1) w'))
  have H9 := Lib.hid (fun U (hU : Below w.heap.size w U) d1 L1 m1 Sl1 W (hG : Gt Bd g (n + 1) d Sl U d1 L1 m1 Sl1 W) (hI : Inv (n + 1) d1 (Ks.drop 1) L1 m1) g0 (hX : Bx W g0 (w8s x) 34) (hg0 : ¬ Sc g d1 Sl1 g0) => (by
    have hw2 := Nat.le_trans hw hU.size
    have hc2 : Wc (n + 1) (Ks.drop 1) := ⟨hc.kc.drop 1, hc.nd.sublist (List.drop_sublist 1 _), by rw [List.length_drop]; omega, hc.zm⟩
    have hf2 : foundK x L1 0 = none := by
      rcases hI.ct.look hc2.nd x with ⟨-, -, h2⟩ | ⟨-, -, -, -, hm, -⟩
      · exact h2
      · exact absurd (List.mem_of_mem_drop hm) hnx
    exact nine hG.mem.drew hI (hG.base hB hw2) (hG.size hw2) hc2 hx hf2 (by rw [List.length_drop]; omega) hX hg0))
  have HTR := Lib.hid (fun U (hU : Below w.heap.size w U) d1 L1 m1 Sl1 W (hG : Gt Bd g (n + 1) d Sl U d1 L1 m1 Sl1 W) U2 (q : Out Bd g (n + 1) d1 Sl1 W.drew (Ks.drop 1 ++ [x]) U2) => Out.trans ((Gt.below h hU hw).trans (hG.trans (Gt.below hG.mem (Below.refl _ W).drew (hG.size (Nat.le_trans hw hU.size))))) q)
  obtain ⟨hb0, hX0⟩ := box_start x w
  clear h hi hB hw hc hie hf hk hlt hml hp hnx hr hy32 hdr
  generalize Ks.drop 1 = K1 at *
  generalize (dropM Ks (Ks.getD 0 [])).2 = rr at *
  generalize Ks.getD 0 [] = y at *
  go_enter Try.func17, Try.ntmps17
  go_upto_region 1 with fail
  change Code.wp _ _ _ _ (w.alloc (.cells (w8s x) 34))
  generalize w.alloc (.cells (w8s x) 34) = W at *
  generalize hg0 : w.heap.size = g0 at hX0 ⊢
  have HG0 := Lib.hid hg0
  have HB0 := Lib.hid hb0
  clear hg0
  apply wp_region_lit
  refine gw_val (by kernel_rfl) (some 7) rfl (.pointer (some ⟨g, 0, none⟩)) (by kernel_rfl) ?_
  simp only [Act.put, List.setIfInBounds_toArray, List.set_cons_succ, List.set_cons_zero]
  refine gw_val (by kernel_rfl) (some 8) rfl (.bool false) (by kernel_rfl) ?_
  simp only [Act.put, List.setIfInBounds_toArray, List.set_cons_succ, List.set_cons_zero]
  refine gw_val (by kernel_rfl) (some 9) rfl (.bool false) (by kernel_rfl) ?_
  simp only [Act.put, List.setIfInBounds_toArray, List.set_cons_succ, List.set_cons_zero]
  refine gw_val (by kernel_rfl) (some 10) rfl (.pointer (some ⟨g, 0, none⟩)) (by kernel_rfl) ?_
  simp only [Act.put, List.setIfInBounds_toArray, List.set_cons_succ, List.set_cons_zero]
  refine gw_val (by kernel_rfl) (some 11) rfl (.pointer (some ⟨g, 0, none⟩)) (by kernel_rfl) ?_
  simp only [Act.put, List.setIfInBounds_toArray, List.set_cons_succ, List.set_cons_zero]
  refine gw_val (by kernel_rfl) (some 12) rfl (.pointer (some ⟨g, 0, none⟩)) (by kernel_rfl) ?_
  simp only [Act.put, List.setIfInBounds_toArray, List.set_cons_succ, List.set_cons_zero]
  refine gw_load (by kernel_rfl) (some 13) rfl 3 (.tmp 12) rfl ⟨g, 0, none⟩ (.int .i64 (n + 1 : Nat)) (by kernel_rfl) (HL0.out W HB0.out) ?_
  simp only [Act.put, List.setIfInBounds_toArray, List.set_cons_succ, List.set_cons_zero]
  refine gw_val (by kernel_rfl) (some 14) rfl (.bool false) (by kernel_rfl) ?_
  simp only [Act.put, List.setIfInBounds_toArray, List.set_cons_succ, List.set_cons_zero]
  refine gw_val (by kernel_rfl) (some 15) rfl (.bool false) (by kernel_rfl) ?_
  simp only [Act.put, List.setIfInBounds_toArray, List.set_cons_succ, List.set_cons_zero]
  apply wpList_nil
  go_upto_region 3 with fail
  refine wp_region_class (C := fun U => Below w.heap.size w U ∧ Bx U g0 (w8s x) 34) (by kernel_rfl) (by kernel_rfl) (⟨HB0.out.drew, hX0⟩) ?_
  refine gq_val (by kernel_rfl) (some 17) rfl (.pointer (some ⟨g, 0, none⟩)) (fun U hU => by kernel_rfl) ?_
  simp only [Act.put, List.setIfInBounds_toArray, List.set_cons_succ, List.set_cons_zero]
  refine gq_val (by kernel_rfl) (some 18) rfl (.pointer (some ⟨g, 0, none⟩)) (fun U hU => by kernel_rfl) ?_
  simp only [Act.put, List.setIfInBounds_toArray, List.set_cons_succ, List.set_cons_zero]
  refine gq_val (by kernel_rfl) (some 19) rfl (.pointer (some ⟨g, 1, none⟩)) (fun U hU => by kernel_rfl) ?_
  simp only [Act.put, List.setIfInBounds_toArray, List.set_cons_succ, List.set_cons_zero]
  refine gq_load (by kernel_rfl) (some 20) rfl 51 (.tmp 19) rfl ⟨g, 1, none⟩ (.map (some d.B)) (by kernel_rfl) (fun U hU => HL1.out U hU.1) ?_
  simp only [Act.put, List.setIfInBounds_toArray, List.set_cons_succ, List.set_cons_zero]
  refine gq_load (by kernel_rfl) (some 21) rfl 34 (.tmp 3) rfl ⟨g0, 0, none⟩ (.agg (w8s x)) (by kernel_rfl) (fun U hU => load_key hU.2 hx) ?_
  simp only [Act.put, List.setIfInBounds_toArray, List.set_cons_succ, List.set_cons_zero]
  refine gq_val (by kernel_rfl) (some 22) rfl (.tuple #[.int .i64 0, .bool false]) (fun U hU => ex_look 51 (.tmp 20) (.tmp 21) true rfl (.map (some d.B)) (.agg (w8s x)) _ (by kernel_rfl) (by kernel_rfl) (HM.out U hU.1)) ?_
  simp only [Act.put, List.setIfInBounds_toArray, List.set_cons_succ, List.set_cons_zero]
  refine gq_val (by kernel_rfl) (some 16) rfl (.tuple #[.int .i64 0, .bool false]) (fun U hU => by kernel_rfl) ?_
  simp only [Act.put, List.setIfInBounds_toArray, List.set_cons_succ, List.set_cons_zero]
  refine gq_val (by kernel_rfl) (some 23) rfl (.int .i64 0) (fun U hU => by kernel_rfl) ?_
  simp only [Act.put, List.setIfInBounds_toArray, List.set_cons_succ, List.set_cons_zero]
  refine gq_val (by kernel_rfl) (some 24) rfl (.bool false) (fun U hU => by kernel_rfl) ?_
  simp only [Act.put, List.setIfInBounds_toArray, List.set_cons_succ, List.set_cons_zero]
  refine gq_val (by kernel_rfl) (some 5) rfl (.int .i64 0) (fun U hU => by kernel_rfl) ?_
  simp only [Act.put, List.setIfInBounds_toArray, List.set_cons_succ, List.set_cons_zero]
  refine gq_val (by kernel_rfl) (some 6) rfl (.bool false) (fun U hU => by kernel_rfl) ?_
  simp only [Act.put, List.setIfInBounds_toArray, List.set_cons_succ, List.set_cons_zero]
  apply wpQuiet_nil
  intro V hV
  have HV1 := Lib.hid hV
  clear hV HM HL1 hX0 hb0
  go_upto_region 4 with fail
  apply wp_region_lit
  refine gw_val (by kernel_rfl) (some 25) rfl (.bool false) (by kernel_rfl) ?_
  simp only [Act.put, List.setIfInBounds_toArray, List.set_cons_succ, List.set_cons_zero]
  apply wpList_nil
  go_upto_region 7 with fail
  refine wp_region_class (C := fun U => Below w.heap.size w U ∧ Bx U g0 (w8s x) 34) (by kernel_rfl) (by kernel_rfl) (⟨HV1.out.1.drew, HV1.out.2⟩) ?_
  refine gq_val (by kernel_rfl) (some 32) rfl (.pointer (some ⟨g, 0, none⟩)) (fun U hU => by kernel_rfl) ?_
  simp only [Act.put, List.setIfInBounds_toArray, List.set_cons_succ, List.set_cons_zero]
  refine gq_call (by kernel_rfl) (some 33) rfl 20 #[.pointer (some ⟨g, 0, none⟩)] (.int .i64 L.length) (fun U hU => by kernel_rfl) (fun U hU => (HLN.out U hU.1).mono (fun e w2 q => by obtain ⟨e1, rfl⟩ := q; exact ⟨e1, hU⟩)) ?_
  simp only [Act.put, List.setIfInBounds_toArray, List.set_cons_succ, List.set_cons_zero]
  refine gq_val (by kernel_rfl) (some 34) rfl (.pointer (some ⟨g, 0, none⟩)) (fun U hU => by kernel_rfl) ?_
  simp only [Act.put, List.setIfInBounds_toArray, List.set_cons_succ, List.set_cons_zero]
  refine gq_val (by kernel_rfl) (some 35) rfl (.pointer (some ⟨g, 0, none⟩)) (fun U hU => by kernel_rfl) ?_
  simp only [Act.put, List.setIfInBounds_toArray, List.set_cons_succ, List.set_cons_zero]
  refine gq_val (by kernel_rfl) (some 36) rfl (.pointer (some ⟨g, 0, none⟩)) (fun U hU => by kernel_rfl) ?_
  simp only [Act.put, List.setIfInBounds_toArray, List.set_cons_succ, List.set_cons_zero]
  refine gq_load (by kernel_rfl) (some 37) rfl 3 (.tmp 36) rfl ⟨g, 0, none⟩ (.int .i64 (n + 1 : Nat)) (by kernel_rfl) (fun U hU => HL0.out U hU.1) ?_
  simp only [Act.put, List.setIfInBounds_toArray, List.set_cons_succ, List.set_cons_zero]
  refine gq_val (by kernel_rfl) (some 38) rfl (.bool true) (fun U hU => eq_nat rfl L.length (n + 1) true HEQ.out (by kernel_rfl) (by kernel_rfl) _) ?_
  simp only [Act.put, List.setIfInBounds_toArray, List.set_cons_succ, List.set_cons_zero]
  apply wpQuiet_nil
  intro V2 hV2
  have HV2 := Lib.hid hV2
  clear hV2 HLN HL0
  go_upto_region 8 with fail
  apply wp_region_lit
  refine gw_val (by kernel_rfl) (some 39) rfl (.pointer (some ⟨g, 0, none⟩)) (by kernel_rfl) ?_
  simp only [Act.put, List.setIfInBounds_toArray, List.set_cons_succ, List.set_cons_zero]
  refine gw_val (by kernel_rfl) (some 40) rfl (.pointer (some ⟨g, 0, none⟩)) (by kernel_rfl) ?_
  simp only [Act.put, List.setIfInBounds_toArray, List.set_cons_succ, List.set_cons_zero]
  refine gw_call (by kernel_rfl) (some 41) rfl 30 #[.pointer (some ⟨g, 0, none⟩)] (.agg (w8s y)) (fun w9 => Below V2.heap.size V2 w9) (by kernel_rfl) (HOL.out V2 HV2.out.1) (fun V3 hV3 => ?_)
  have HB3 := Lib.hid (HV2.out.1.trans (hV3.mono HV2.out.1.size))
  have HX3 := Lib.hid (HV2.out.2.below HV2.out.2.lt hV3)
  clear hV3 HOL
  simp only [Act.put, List.setIfInBounds_toArray, List.set_cons_succ, List.set_cons_zero]
  refine gw_call (by kernel_rfl) (some 42) rfl 14 #[.pointer (some ⟨g, 0, none⟩), .agg (w8s y)] (.bool rr) (fun w' => Out Bd g (n + 1) d Sl V3 K1 w') (by kernel_rfl) (HRM.out V3 HB3.out) (fun W5 hW5 => ?_)
  obtain ⟨d1, L1, m1, Sl1, hG5, hI5⟩ := hW5
  have HN5 : Hid (¬ Sc g d1 Sl1 g0) := Lib.hid (fun h2 => (hG5.sub g0 h2).elim (fun h3 => HNI.out (HG0.out ▸ h3)) (fun h3 => absurd HX3.out.lt (Nat.not_lt.2 h3)))
  have HX5 := Lib.hid (HX3.out.buts hG5.but (fun h2 => HNI.out (HG0.out ▸ h2)))
  obtain ⟨P, I, s, hG9⟩ := H9.out V3 HB3.out d1 L1 m1 Sl1 W5 hG5 hI5 g0 HX5.out HN5.out
  obtain ⟨h0, HT, HPB, HU, HEE0, HA⟩ := hid9 hG9
  have HEE := Lib.hid (fun U q => HTR.out V3 HB3.out d1 L1 m1 Sl1 W5 hG5 U (HEE0.out U q))
  clear hG9 H9 HTR HEE0 HV1 HRM HX3 HB3 HX5 hG5 hI5
  simp only [Act.put, List.setIfInBounds_toArray, List.set_cons_succ, List.set_cons_zero]
  apply wpList_nil
  go_upto_region 9 with fail
  refine wp_region_inv (fun listed act9 V => ∃ b0 b1 b2 b3 b4 b5 b6 b7 b8 b9 b10 b11 b12 b13 : Bool, listed = #[b0, b1, b2, b3, b4, b5, b6, b7, b8, b9, b10, b11, b12, b13] ∧ act9 = { tmps := #[.pointer (some ⟨g, 0, none⟩), .agg (w8s x), undef, .pointer (some ⟨g0, 0, none⟩), .bool false, .int .i64 0, .bool false, .pointer (some ⟨g, 0, none⟩), .bool false, .bool false, .pointer (some ⟨g, 0, none⟩), .pointer (some ⟨g, 0, none⟩), .pointer (some ⟨g, 0, none⟩), .int .i64 (n + 1 : Nat), .bool false, .bool false, .tuple #[.int .i64 0, .bool false], .pointer (some ⟨g, 0, none⟩), .pointer (some ⟨g, 0, none⟩), .pointer (some ⟨g, 1, none⟩), .map (some d.B), .agg (w8s x), .tuple #[.int .i64 0, .bool false], .int .i64 0, .bool false, .bool false, undef, undef, undef, undef, undef, undef, .pointer (some ⟨g, 0, none⟩), .int .i64 L.length, .pointer (some ⟨g, 0, none⟩), .pointer (some ⟨g, 0, none⟩), .pointer (some ⟨g, 0, none⟩), .int .i64 (n + 1 : Nat), .bool true, .pointer (some ⟨g, 0, none⟩), .pointer (some ⟨g, 0, none⟩), .agg (w8s y), .bool rr, (cond b0 (.pointer (some ⟨g, 0, none⟩)) undef), (cond b1 (.pointer (some ⟨g, 0, none⟩)) undef), (cond b2 (.pointer (some ⟨g, 1, none⟩)) undef), (cond b3 (.map (some d1.B)) undef), (cond b4 (.agg (w8s x)) undef), (cond b5 (.pointer (some ⟨g, 0, none⟩)) undef), (cond b6 (.pointer (some ⟨g, 0, none⟩)) undef), (cond b7 (.pointer (some ⟨g, 2, none⟩)) undef), (cond b8 (.pointer (some ⟨d1.gl, 0, none⟩)) undef), (cond b9 (.pointer (some ⟨g, 0, none⟩)) undef), (cond b10 (.agg (w8s x)) undef), (cond b11 (.int .i64 I) undef), (cond b12 (.int .i64 s) undef)], defers := [] } ∧ NP P b11 b12 b13 V) (by kernel_rfl) (by kernel_rfl) ?_ ?_ ?_
  · exact ⟨false, false, false, false, false, false, false, false, false, false, false, false, false, false, rfl, rfl, h0⟩
  · intro i9 listed act9 V hi hr hJ
    obtain ⟨b0, b1, b2, b3, b4, b5, b6, b7, b8, b9, b10, b11, b12, b13, rfl, rfl, hF⟩ := hJ
    have hi2 : i9 < 14 := hi
    have hi3 : i9 = 0 ∨ i9 = 1 ∨ i9 = 2 ∨ i9 = 3 ∨ i9 = 4 ∨ i9 = 5 ∨ i9 = 6 ∨ i9 = 7 ∨ i9 = 8 ∨ i9 = 9 ∨ i9 = 10 ∨ i9 = 11 ∨ i9 = 12 ∨ i9 = 13 := by omega
    rcases hi3 with rfl | rfl | rfl | rfl | rfl | rfl | rfl | rfl | rfl | rfl | rfl | rfl | rfl | rfl
    · obtain rfl : b0 = false := ready_self hr
      refine st_val rfl (by kernel_rfl) (some 43) rfl (.pointer (some ⟨g, 0, none⟩)) V (by kernel_rfl) ?_
      exact ⟨true, b1, b2, b3, b4, b5, b6, b7, b8, b9, b10, b11, b12, b13, rfl, rfl, hF⟩
    · obtain rfl : b1 = false := ready_self hr
      obtain rfl : b0 = true := ready_dep hr 0 (by kernel_rfl)
      refine st_val rfl (by kernel_rfl) (some 44) rfl (.pointer (some ⟨g, 0, none⟩)) V (by kernel_rfl) ?_
      exact ⟨true, true, b2, b3, b4, b5, b6, b7, b8, b9, b10, b11, b12, b13, rfl, rfl, hF⟩
    · obtain rfl : b2 = false := ready_self hr
      obtain rfl : b1 = true := ready_dep hr 1 (by kernel_rfl)
      refine st_val rfl (by kernel_rfl) (some 45) rfl (.pointer (some ⟨g, 1, none⟩)) V (by kernel_rfl) ?_
      exact ⟨b0, true, true, b3, b4, b5, b6, b7, b8, b9, b10, b11, b12, b13, rfl, rfl, hF⟩
    · obtain rfl : b3 = false := ready_self hr
      obtain rfl : b2 = true := ready_dep hr 2 (by kernel_rfl)
      refine st_load rfl (by kernel_rfl) (some 46) rfl 51 (.tmp 45) rfl ⟨g, 1, none⟩ (.map (some d1.B)) (by kernel_rfl) (HA.out _ _ hF.st).1 ?_
      exact ⟨b0, b1, true, true, b4, b5, b6, b7, b8, b9, b10, b11, b12, b13, rfl, rfl, hF⟩
    · obtain rfl : b4 = false := ready_self hr
      refine st_load rfl (by kernel_rfl) (some 47) rfl 34 (.tmp 3) rfl ⟨g0, 0, none⟩ (.agg (w8s x)) (by kernel_rfl) (HA.out _ _ hF.st).2.2 ?_
      exact ⟨b0, b1, b2, b3, true, b5, b6, b7, b8, b9, b10, b11, b12, b13, rfl, rfl, hF⟩
    · obtain rfl : b5 = false := ready_self hr
      refine st_val rfl (by kernel_rfl) (some 48) rfl (.pointer (some ⟨g, 0, none⟩)) V (by kernel_rfl) ?_
      exact ⟨b0, b1, b2, b3, b4, true, b6, b7, b8, b9, b10, b11, b12, b13, rfl, rfl, hF⟩
    · obtain rfl : b6 = false := ready_self hr
      obtain rfl : b5 = true := ready_dep hr 5 (by kernel_rfl)
      refine st_val rfl (by kernel_rfl) (some 49) rfl (.pointer (some ⟨g, 0, none⟩)) V (by kernel_rfl) ?_
      exact ⟨b0, b1, b2, b3, b4, true, true, b7, b8, b9, b10, b11, b12, b13, rfl, rfl, hF⟩
    · obtain rfl : b7 = false := ready_self hr
      obtain rfl : b6 = true := ready_dep hr 6 (by kernel_rfl)
      refine st_val rfl (by kernel_rfl) (some 50) rfl (.pointer (some ⟨g, 2, none⟩)) V (by kernel_rfl) ?_
      exact ⟨b0, b1, b2, b3, b4, b5, true, true, b8, b9, b10, b11, b12, b13, rfl, rfl, hF⟩
    · obtain rfl : b8 = false := ready_self hr
      obtain rfl : b7 = true := ready_dep hr 7 (by kernel_rfl)
      refine st_load rfl (by kernel_rfl) (some 51) rfl 52 (.tmp 50) rfl ⟨g, 2, none⟩ (.pointer (some ⟨d1.gl, 0, none⟩)) (by kernel_rfl) (HA.out _ _ hF.st).2.1 ?_
      exact ⟨b0, b1, b2, b3, b4, b5, b6, true, true, b9, b10, b11, b12, b13, rfl, rfl, hF⟩
    · obtain rfl : b9 = false := ready_self hr
      refine st_val rfl (by kernel_rfl) (some 52) rfl (.pointer (some ⟨g, 0, none⟩)) V (by kernel_rfl) ?_
      exact ⟨b0, b1, b2, b3, b4, b5, b6, b7, b8, true, b10, b11, b12, b13, rfl, rfl, hF⟩
    · obtain rfl : b10 = false := ready_self hr
      refine st_load rfl (by kernel_rfl) (some 53) rfl 34 (.tmp 3) rfl ⟨g0, 0, none⟩ (.agg (w8s x)) (by kernel_rfl) (HA.out _ _ hF.st).2.2 ?_
      exact ⟨b0, b1, b2, b3, b4, b5, b6, b7, b8, b9, true, b11, b12, b13, rfl, rfl, hF⟩
    · obtain rfl : b11 = false := ready_self hr
      obtain rfl : b9 = true := ready_dep hr 9 (by kernel_rfl)
      obtain rfl : b10 = true := ready_dep hr 10 (by kernel_rfl)
      obtain ⟨q1, q2⟩ := hF.s1
      refine st_call rfl (by kernel_rfl) (some 54) rfl 32 #[.pointer (some ⟨g, 0, none⟩), .agg (w8s x)] (by kernel_rfl) ((HT.out V q1).mono ?_)
      rintro e w9 ⟨rfl, hw9⟩
      exact ⟨_, rfl, b0, b1, b2, b3, b4, b5, b6, b7, b8, true, true, true, b12, b13, rfl, rfl, q2 _ hw9⟩
    · obtain rfl : b12 = false := ready_self hr
      obtain rfl : b8 = true := ready_dep hr 8 (by kernel_rfl)
      obtain rfl : b11 = true := ready_dep hr 11 (by kernel_rfl)
      obtain ⟨q1, q2⟩ := hF.s2
      refine st_call rfl (by kernel_rfl) (some 55) rfl 31 #[.pointer (some ⟨d1.gl, 0, none⟩), .int .i64 I] (by kernel_rfl) ((HPB.out V q1).mono ?_)
      rintro e w9 ⟨rfl, hw9⟩
      exact ⟨_, rfl, b0, b1, b2, b3, b4, b5, b6, b7, true, b9, b10, true, true, b13, rfl, rfl, q2 _ hw9⟩
    · obtain rfl : b13 = false := ready_self hr
      obtain rfl : b3 = true := ready_dep hr 3 (by kernel_rfl)
      obtain rfl : b4 = true := ready_dep hr 4 (by kernel_rfl)
      obtain rfl : b12 = true := ready_dep hr 12 (by kernel_rfl)
      obtain ⟨q1, q2⟩ := hF.s3
      obtain ⟨w9, hr9, hp9⟩ := HU.out V q1
      refine st_skip rfl (by kernel_rfl) rfl w9 (ex_put 51 (.tmp 46) (.tmp 47) (.tmp 55) rfl (.map (some d1.B)) (.agg (w8s x)) (.int .i64 s) (by kernel_rfl) (by kernel_rfl) (by kernel_rfl) hr9) ?_
      exact ⟨b0, b1, b2, true, true, b5, b6, b7, b8, b9, b10, b11, true, true, rfl, rfl, q2 _ hp9⟩
  · intro act9 V hJ
    obtain ⟨b0, b1, b2, b3, b4, b5, b6, b7, b8, b9, b10, b11, b12, b13, he, rfl, hF⟩ := hJ
    have he : (#[true, true, true, true, true, true, true, true, true, true, true, true, true, true] : Array Bool) = #[b0, b1, b2, b3, b4, b5, b6, b7, b8, b9, b10, b11, b12, b13] := he
    simp only [Array.mk.injEq, List.cons.injEq, and_true] at he
    obtain ⟨rfl, rfl, rfl, rfl, rfl, rfl, rfl, rfl, rfl, rfl, rfl, rfl, rfl, rfl⟩ := he
    simp only [cond_true]
    have HE := Lib.hid (HEE.out V hF.st)
    clear hF h0 HT HPB HU HEE HA
    go_upto_region 10 with fail
    apply wp_region_lit
    refine gw_val (by kernel_rfl) (some 4) rfl (.bool true) (by kernel_rfl) ?_
    simp only [Act.put, List.setIfInBounds_toArray, List.set_cons_succ, List.set_cons_zero]
    apply wpList_nil
    go_wp2_with fail
    go_ret
    exact ⟨rfl, HE.out⟩
theorem q_push {Bd g z : Nat} {d : Cd} {Sl : Nat → Prop} {Ks : List (List Int)} {L : List (List Int × Int)} {m : LM} {w : World} (h : Mem w g z d L m Sl) (hi : Inv z d Ks L m) (hB : ∀ k, Sc g d Sl k → Bd ≤ k) (hw : Bd ≤ w.heap.size) (hc : Wc z Ks) {x : List Int} (hx : x.length = 32)  : Calls Try.prog 17 #[.pointer (some ⟨g, 0, none⟩), .agg (w8s x)] w fun e w' => e = .returned (.bool (pushZ Ks z x).2) ∧ Out Bd g z d Sl w (pushZ Ks z x).1 w' := by
  rcases Nat.eq_zero_or_pos z with h0 | h0
  · exact q_push0 h hi hB hw hc hx h0
  · have h1 : z = (z - 1) + 1 := by omega
    rcases hi.ct.look hc.nd x with ⟨a1, -, a2⟩ | ⟨i, j, a1, a2, -, a3, a4, -, -, a6⟩
    · rcases Nat.lt_or_ge Ks.length z with h2 | h2
      · exact q_push2 h hi hB hw hc hx _ h1 a1 a2 h2
      · exact q_push3 h hi hB hw hc hx _ h1 a1 a2 (Nat.le_antisymm hc.le h2)
    · exact q_push1 h hi hB hw hc hx _ h1 a1 a2 a3 a4 a6
end Go.Proofs.Ytjblfpifhbmfoaa
