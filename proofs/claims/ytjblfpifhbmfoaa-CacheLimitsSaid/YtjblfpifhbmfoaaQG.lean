/-
  The program's cache: the oldest key, an index for a new key.
-/
import Derived.Test.YtjblfpifhbmfoaaQF
namespace Go.Proofs.Ytjblfpifhbmfoaa
open Go.RowKit
set_option linter.unusedSimpArgs false
set_option linter.unusedVariables false

theorem idx_key0 (b n c k : Nat) (hk : k < n) (V : World) (ρ : Operand → Value) (o : Oper) {x y : Operand} (ho : o.op = .indexAddr 30 x y) (hx : ρ x = .slice (some ⟨b, 0, none⟩) n c) (hy : ρ y = .int .i64 k) : (execOp ρ o).run Try.prog V = .ok (.value (.pointer (some ⟨b, k * 32, none⟩))) V := by
  have := idx_key b 0 n c k hk V ρ o ho hx hy
  rwa [Nat.zero_add] at this
theorem idx_int0 (b n c k : Nat) (hk : k < n) (V : World) (ρ : Operand → Value) (o : Oper) {x y : Operand} (ho : o.op = .indexAddr 22 x y) (hx : ρ x = .slice (some ⟨b, 0, none⟩) n c) (hy : ρ y = .int .i64 k) : (execOp ρ o).run Try.prog V = .ok (.value (.pointer (some ⟨b, k, none⟩))) V := by
  have := idx_int b 0 n c k hk V ρ o ho hx hy
  rwa [Nat.zero_add] at this
theorem Mem.key {w : World} {g z : Nat} {d : Cd} {L : List (List Int × Int)} {m : LM} {Sl : Nat → Prop} (h : Mem w g z d L m Sl) (hk : Kc d.A) {b i : Nat} (hb : d.ka = some ⟨b, 0, none⟩) (hi : i < d.A.length) : (Instr.loadAt 34 (.pointer (some ⟨b, i * 32, none⟩))).run Try.prog w = .ok (.agg (w8s (d.A.getD i []))) w := by
  obtain ⟨b2, off, e, -, hr⟩ := key_at h.cs hk hi
  rw [hb] at e
  simp only [Option.some.injEq, Addr.mk.injEq, and_true] at e
  obtain ⟨rfl, rfl⟩ := e
  rw [Nat.zero_add] at hr
  exact load_mid hr (hk.at hi)
theorem Mem.capF {w : World} {g z : Nat} {d : Cd} {L : List (List Int × Int)} {m : LM} {Sl : Nat → Prop} (h : Mem w g z d L m Sl) : d.F.length ≤ d.fc := by
  obtain ⟨a, c, e, -, hle⟩ := own_cs h.rf
  simp only [Value.slice.injEq, true_and] at e
  rw [e.2]
  exact hle
theorem Mem.free {w : World} {g z : Nat} {d : Cd} {L : List (List Int × Int)} {m : LM} {Sl : Nat → Prop} (h : Mem w g z d L m Sl) {b i : Nat} (hb : d.fa = some ⟨b, 0, none⟩) (hi : i < d.F.length) : (Instr.loadAt 3 (.pointer (some ⟨b, i, none⟩))).run Try.prog w = .ok (.int .i64 (d.F.getD i 0)) w := by
  obtain ⟨b2, off, e, -, hr⟩ := int_at h.csF hi
  rw [hb] at e
  simp only [Option.some.injEq, Addr.mk.injEq, and_true] at e
  obtain ⟨rfl, rfl⟩ := e
  rw [Nat.zero_add] at hr
  exact load_cell hr (by kernel_rfl)
set_option maxRecDepth 100000 in
set_option maxHeartbeats 4000000 in
theorem q_oldest {w : World} {g z : Nat} {d : Cd} {Ks : List (List Int)} {L : List (List Int × Int)} {m : LM} {Sl : Nat → Prop} (h : Mem w g z d L m Sl) (hi : Inv z d Ks L m) (hp : 0 < Ks.length) :
    Calls Try.prog 30 #[.pointer (some ⟨g, 0, none⟩)] w fun e w' => e = .returned (.agg (w8s (Ks.getD 0 []))) ∧ Below w.heap.size w w' := by
  have hie : 0 < m.E.length := by rw [← hi.len]; exact hp
  obtain ⟨k, hk, hkl⟩ := hi.at hie
  obtain ⟨hs, hkey, hval⟩ := hi.ct.first hp
  obtain ⟨b, hb⟩ := h.addr hkl
  have hkk : Ks.getD 0 [] = d.A.getD k [] := by
    rw [hkey]
    unfold kfA
    rw [hk, Int.toNat_natCast]
  have hx32 : (d.A.getD k []).length = 32 := hi.ka.at hkl
  have HL2 := Lib.hid (fun U (hU : Below w.heap.size w U) => (h.below hU).ld2)
  have HL3 := Lib.hid (fun U (hU : Below w.heap.size w U) => (by
    have := (h.below hU).ld3
    rw [hb] at this
    exact this : (Instr.loadAt 30 (.pointer (some ⟨g, 3, none⟩))).run Try.prog U = .ok (.slice (some ⟨b, 0, none⟩) d.A.length d.kc) U))
  have HK := Lib.hid (fun U (hU : Below w.heap.size w U) => (h.below hU).key hi.ka hb hkl)
  have HF := Lib.hid (fun U (hU : Below w.heap.size w U) => list_first U d.gl Sl m (h.below hU).ls hi.ct.wm hi.ok)
  have hs64 : I64 (slotAt m 0) := by rw [hs]; exact hi.slot hie
  have HV0 := Lib.hid (fun U (hU : Below w.heap.size w U) => (by
    have := list_value U d.gl Sl m (slotAt m 0) (h.below hU).ls hi.ct.wm hi.ok hs64
    rw [hval] at this
    simp only [hk] at this
    exact this : Calls Try.prog 27 #[.pointer (some ⟨d.gl, 0, none⟩), .int .i64 (slotAt m 0)] U fun e w' => e = .returned (.tuple #[.int .i64 (k : Int), .bool true]) ∧ Below U.heap.size U w'))
  rw [hkk]
  have hsk := size_key hx32
  have hzk : (w8s zeroK).size = (w8s (d.A.getD k [])).size := by rw [size_w8s, size_w8s, hx32]; rfl
  generalize slotAt m 0 = s at *
  obtain ⟨hb0, hX0⟩ := box_start zeroK w
  clear h hi hp hie hs hkey hval hb hkk hk hs64
  go_enter Try.func30, Try.ntmps30
  go_upto_region 1 with fail
  change Code.wp _ _ _ _ (w.alloc (.cells (w8s zeroK) 34))
  generalize w.alloc (.cells (w8s zeroK) 34) = W at *
  generalize hg0 : w.heap.size = g0 at hX0 ⊢
  have HG0 := Lib.hid hg0
  have HB0 := Lib.hid hb0
  have HKL := Lib.hid hkl
  clear hg0
  refine wp_region_class (C := fun U => Below w.heap.size w U ∧ Bx U g0 (w8s zeroK) 34) (by kernel_rfl) (by kernel_rfl) (⟨HB0.out.drew, hX0⟩) ?_
  refine gq_val (by kernel_rfl) (some 6) rfl (.pointer (some ⟨g, 0, none⟩)) (fun U hU => by kernel_rfl) ?_
  simp only [Act.put, List.setIfInBounds_toArray, List.set_cons_succ, List.set_cons_zero]
  refine gq_val (by kernel_rfl) (some 7) rfl (.pointer (some ⟨g, 0, none⟩)) (fun U hU => by kernel_rfl) ?_
  simp only [Act.put, List.setIfInBounds_toArray, List.set_cons_succ, List.set_cons_zero]
  refine gq_val (by kernel_rfl) (some 8) rfl (.pointer (some ⟨g, 2, none⟩)) (fun U hU => by kernel_rfl) ?_
  simp only [Act.put, List.setIfInBounds_toArray, List.set_cons_succ, List.set_cons_zero]
  refine gq_load (by kernel_rfl) (some 9) rfl 52 (.tmp 8) rfl ⟨g, 2, none⟩ (.pointer (some ⟨d.gl, 0, none⟩)) (by kernel_rfl) (fun U hU => HL2.out U hU.1) ?_
  simp only [Act.put, List.setIfInBounds_toArray, List.set_cons_succ, List.set_cons_zero]
  refine gq_val (by kernel_rfl) (some 10) rfl (.pointer (some ⟨g, 0, none⟩)) (fun U hU => by kernel_rfl) ?_
  simp only [Act.put, List.setIfInBounds_toArray, List.set_cons_succ, List.set_cons_zero]
  refine gq_val (by kernel_rfl) (some 11) rfl (.pointer (some ⟨g, 0, none⟩)) (fun U hU => by kernel_rfl) ?_
  simp only [Act.put, List.setIfInBounds_toArray, List.set_cons_succ, List.set_cons_zero]
  refine gq_val (by kernel_rfl) (some 12) rfl (.pointer (some ⟨g, 2, none⟩)) (fun U hU => by kernel_rfl) ?_
  simp only [Act.put, List.setIfInBounds_toArray, List.set_cons_succ, List.set_cons_zero]
  refine gq_load (by kernel_rfl) (some 13) rfl 52 (.tmp 12) rfl ⟨g, 2, none⟩ (.pointer (some ⟨d.gl, 0, none⟩)) (by kernel_rfl) (fun U hU => HL2.out U hU.1) ?_
  simp only [Act.put, List.setIfInBounds_toArray, List.set_cons_succ, List.set_cons_zero]
  refine gq_call (by kernel_rfl) (some 14) rfl 38 #[.pointer (some ⟨d.gl, 0, none⟩)] (.int .i64 s) (fun U hU => by kernel_rfl) (fun U hU => (HF.out U hU.1).mono (fun e w2 q => by obtain ⟨e1, e2⟩ := q; exact ⟨e1, hU.1.trans (e2.mono hU.1.size), hU.2.below hU.2.lt e2⟩)) ?_
  simp only [Act.put, List.setIfInBounds_toArray, List.set_cons_succ, List.set_cons_zero]
  refine gq_call (by kernel_rfl) (some 15) rfl 27 #[.pointer (some ⟨d.gl, 0, none⟩), .int .i64 s] (.tuple #[.int .i64 (k : Int), .bool true]) (fun U hU => by kernel_rfl) (fun U hU => (HV0.out U hU.1).mono (fun e w2 q => by obtain ⟨e1, e2⟩ := q; exact ⟨e1, hU.1.trans (e2.mono hU.1.size), hU.2.below hU.2.lt e2⟩)) ?_
  simp only [Act.put, List.setIfInBounds_toArray, List.set_cons_succ, List.set_cons_zero]
  refine gq_val (by kernel_rfl) (some 5) rfl (.tuple #[.int .i64 (k : Int), .bool true]) (fun U hU => by kernel_rfl) ?_
  simp only [Act.put, List.setIfInBounds_toArray, List.set_cons_succ, List.set_cons_zero]
  refine gq_val (by kernel_rfl) (some 16) rfl (.int .i64 (k : Int)) (fun U hU => by kernel_rfl) ?_
  simp only [Act.put, List.setIfInBounds_toArray, List.set_cons_succ, List.set_cons_zero]
  refine gq_val (by kernel_rfl) (some 17) rfl (.bool true) (fun U hU => by kernel_rfl) ?_
  simp only [Act.put, List.setIfInBounds_toArray, List.set_cons_succ, List.set_cons_zero]
  refine gq_val (by kernel_rfl) (some 3) rfl (.int .i64 (k : Int)) (fun U hU => by kernel_rfl) ?_
  simp only [Act.put, List.setIfInBounds_toArray, List.set_cons_succ, List.set_cons_zero]
  refine gq_val (by kernel_rfl) (some 4) rfl (.bool true) (fun U hU => by kernel_rfl) ?_
  simp only [Act.put, List.setIfInBounds_toArray, List.set_cons_succ, List.set_cons_zero]
  apply wpQuiet_nil
  intro V hV
  have HV := Lib.hid hV
  clear hV hX0
  go_upto_region 2 with fail
  apply wp_region_lit
  refine gw_val (by kernel_rfl) (some 18) rfl (.pointer (some ⟨g, 0, none⟩)) (by kernel_rfl) ?_
  simp only [Act.put, List.setIfInBounds_toArray, List.set_cons_succ, List.set_cons_zero]
  refine gw_val (by kernel_rfl) (some 19) rfl (.pointer (some ⟨g, 0, none⟩)) (by kernel_rfl) ?_
  simp only [Act.put, List.setIfInBounds_toArray, List.set_cons_succ, List.set_cons_zero]
  refine gw_val (by kernel_rfl) (some 20) rfl (.pointer (some ⟨g, 3, none⟩)) (by kernel_rfl) ?_
  simp only [Act.put, List.setIfInBounds_toArray, List.set_cons_succ, List.set_cons_zero]
  refine gw_load (by kernel_rfl) (some 21) rfl 30 (.tmp 20) rfl ⟨g, 3, none⟩ (.slice (some ⟨b, 0, none⟩) d.A.length d.kc) (by kernel_rfl) (HL3.out V HV.out.1) ?_
  simp only [Act.put, List.setIfInBounds_toArray, List.set_cons_succ, List.set_cons_zero]
  refine gw_val (by kernel_rfl) (some 22) rfl (.int .i64 (k : Int)) (by kernel_rfl) ?_
  simp only [Act.put, List.setIfInBounds_toArray, List.set_cons_succ, List.set_cons_zero]
  refine gw_val (by kernel_rfl) (some 23) rfl (.pointer (some ⟨b, k * 32, none⟩)) (idx_key0 b d.A.length d.kc k HKL.out _ _ _ rfl (by kernel_rfl) (by kernel_rfl)) ?_
  simp only [Act.put, List.setIfInBounds_toArray, List.set_cons_succ, List.set_cons_zero]
  refine gw_load (by kernel_rfl) (some 24) rfl 34 (.tmp 23) rfl ⟨b, k * 32, none⟩ (.agg (w8s (d.A.getD k []))) (by kernel_rfl) (HK.out V HV.out.1) ?_
  simp only [Act.put, List.setIfInBounds_toArray, List.set_cons_succ, List.set_cons_zero]
  refine gw_store (by kernel_rfl) rfl 34 (.tmp 2) (.tmp 24) rfl (.pointer (some ⟨g0, 0, none⟩)) (.agg (w8s (d.A.getD k []))) (by kernel_rfl) (by kernel_rfl) (V.setRow g0 (w8s (d.A.getD k []))) (run_store_all HV.out.2 hzk (one_w8s _) hsk) ?_
  apply wpList_nil
  have HB := Lib.hid (belowRow HV.out.1 (Nat.le_of_eq HG0.out) (w8s (d.A.getD k [])))
  have HLK := Lib.hid (load_key (HV.out.2.set (cs' := w8s (d.A.getD k []))) hx32)
  generalize V.setRow g0 (w8s (d.A.getD k [])) = V2 at *
  clear hsk hzk hx32
  go_wp2_with fail
  exact bodyPost_ret (results_k (p := 2) rfl (by kernel_rfl) HLK.out) rfl ⟨rfl, HB.out⟩
theorem sub_len {ρ : Operand → Value} {o : Oper} {x : Operand} (ho : o.op = .binOp .sub 3 x (.const (.int .i64 1)) 3) (n k : Nat) (hk : n = k + 1) (hm : k ≤ 100000) (hx : ρ x = .int .i64 n) (w : World) (hρ : ρ (.const (.int .i64 1)) = .int .i64 1 := by rfl) : (execOp ρ o).run Try.prog w = .ok (.value (.int .i64 k)) w := by
  have := sub_one ho n (by omega) (by omega) hx w hρ
  rwa [show n - 1 = k by omega] at this
theorem ff {p : Prop} (h : false = true) : p := by cases h
/-- What a new key's index leaves. -/
def TkP (Bd g z : Nat) (d : Cd) (Sl : Nat → Prop) (L : List (List Int × Int)) (m : LM) (w : World) (x : List Int) (w' : World) : Prop := ∃ ka kc, Gt Bd g z d Sl w { d with ka := ka, kc := kc, A := tkA d.A d.F x, F := tkF d.F } L m Sl w'
theorem k_set {Bd g z n k bk : Nat} {d : Cd} {Sl : Nat → Prop} {L : List (List Int × Int)} {m : LM} {w W2 U : World} {x : List Int} (hG : Gt Bd g z d Sl w { d with F := d.F.take n } L m Sl W2) (hU : Below W2.heap.size W2 U) (hw : Bd ≤ w.heap.size) (hB : ∀ k, Sc g d Sl k → Bd ≤ k) (hbk : d.ka = some ⟨bk, 0, none⟩) (hka : Kc d.A) (hkl : k < d.A.length) (hx : x.length = 32) (eA : tkA d.A d.F x = d.A.set k x) (eF : tkF d.F = d.F.take n) : TkP Bd g z d Sl L m w x (U.setCells bk (k * 32) (x.map (Value.int .u8))) := by
  have h2 := hG.trans (Gt.below hG.mem hU (hG.size hw))
  have h3 := h2.trans (Gt.setA h2.mem (h2.base hB hw) hbk hka k hkl hx)
  refine ⟨d.ka, d.kc, ?_⟩
  rw [eA, eF]
  exact h3
/-- The worlds of the append: each of the three writes behind the others. -/
structure T2 (W0 W1 W2 W3 : World) (bL bK bB bA bS : Bool) (V : World) : Prop where
  eq : V = cond bS W3 (cond bA W2 (cond bB W1 W0))
  cB : bB = true → bK = true
  cA : bA = true → bL = true ∧ bB = true
  cS : bS = true → bA = true
section
variable {W0 W1 W2 W3 V : World} {bL bK bB bA bS : Bool}
theorem T2.ldL {Q : World → Prop} (h : T2 W0 W1 W2 W3 false bK bB bA bS V) (h0 : Q W0) (h1 : Q W1) : Q V ∧ T2 W0 W1 W2 W3 true bK bB bA bS V := by
  obtain ⟨e, c1, c2, c3⟩ := h
  have hA : bA = false := by
    cases bA with
    | false => rfl
    | true => exact absurd (c2 rfl).1 (by decide)
  have hS : bS = false := by
    cases bS with
    | false => rfl
    | true => rw [hA] at c3; exact absurd (c3 rfl) (by decide)
  subst hA hS
  refine ⟨?_, e, c1, ff, ff⟩
  rw [e]
  cases bB
  · exact h0
  · exact h1
theorem T2.ldK {Q : World → Prop} (h : T2 W0 W1 W2 W3 bL false bB bA bS V) (h0 : Q W0) : Q V ∧ T2 W0 W1 W2 W3 bL true bB bA bS V := by
  obtain ⟨e, c1, c2, c3⟩ := h
  have hB : bB = false := by
    cases bB with
    | false => rfl
    | true => exact absurd (c1 rfl) (by decide)
  have hA : bA = false := by
    cases bA with
    | false => rfl
    | true => rw [hB] at c2; exact absurd (c2 rfl).2 (by decide)
  have hS : bS = false := by
    cases bS with
    | false => rfl
    | true => rw [hA] at c3; exact absurd (c3 rfl) (by decide)
  subst hB hA hS
  exact ⟨by rw [e]; exact h0, e, ff, ff, ff⟩
theorem T2.build (h : T2 W0 W1 W2 W3 bL true false bA bS V) : V = W0 ∧ T2 W0 W1 W2 W3 bL true true bA bS W1 := by
  obtain ⟨e, c1, c2, c3⟩ := h
  have hA : bA = false := by
    cases bA with
    | false => rfl
    | true => exact absurd (c2 rfl).2 (by decide)
  have hS : bS = false := by
    cases bS with
    | false => rfl
    | true => rw [hA] at c3; exact absurd (c3 rfl) (by decide)
  subst hA hS
  exact ⟨e, rfl, fun _ => rfl, ff, ff⟩
theorem T2.app (h : T2 W0 W1 W2 W3 true bK true false bS V) : V = W1 ∧ T2 W0 W1 W2 W3 true bK true true bS W2 := by
  obtain ⟨e, c1, c2, c3⟩ := h
  have hS : bS = false := by
    cases bS with
    | false => rfl
    | true => exact absurd (c3 rfl) (by decide)
  subst hS
  exact ⟨e, rfl, c1, fun _ => ⟨rfl, rfl⟩, ff⟩
theorem T2.store (h : T2 W0 W1 W2 W3 bL bK bB true false V) (hB : bB = true) : V = W2 ∧ T2 W0 W1 W2 W3 bL bK bB true true W3 := by
  obtain ⟨e, c1, c2, c3⟩ := h
  subst hB
  exact ⟨e, rfl, c1, c2, fun _ => rfl⟩
end
set_option maxRecDepth 100000 in
set_option maxHeartbeats 4000000 in
theorem q_take0 {Bd g z : Nat} {d : Cd} {Sl : Nat → Prop} {Ks : List (List Int)} {L : List (List Int × Int)} {m : LM} {w : World} (h : Mem w g z d L m Sl) (hi : Inv z d Ks L m) (hB : ∀ k, Sc g d Sl k → Bd ≤ k) (hw : Bd ≤ w.heap.size) {x : List Int} (hx : x.length = 32) (hF : d.F.length = 0) :
    Calls Try.prog 32 #[.pointer (some ⟨g, 0, none⟩), .agg (w8s x)] w fun e w' => e = .returned (.int .i64 (tkI d.A d.F)) ∧ TkP Bd g z d Sl L m w x w' := by
  have eI : tkI d.A d.F = d.A.length := by unfold tkI; rw [if_pos hF]
  have eA : tkA d.A d.F x = d.A ++ [x] := by unfold tkA; rw [if_pos hF]
  have eF : tkF d.F = d.F := by rw [List.eq_nil_of_length_eq_zero hF]; rfl
  have hal : d.A.length ≤ 1024 := Nat.le_trans hi.al hi.zm
  obtain ⟨hb0, hX0⟩ := box_start x w
  generalize hW : w.alloc (.cells (w8s x) 34) = W at *
  have hbW : Below w.heap.size w W.drew := hb0.drew
  have hM1 : Mem (W.drew.alloc (.cells (w8s x) 34)) g z d L m Sl := h.below (hbW.alloc (by simpa using hb0.size) _)
  obtain ⟨v, W2, hap, hO, hg, ha⟩ := app_one (P := Try.prog) (t := 30) (by kernel_rfl) infoK (by kernel_rfl) (by omega) (by omega) hM1.rk W.drew.heap.size (x.map (Value.int .u8)) (by
    have := bx_one x W.drew
    rw [show kcells [x] = x.map (Value.int .u8) by simp [kcells]] at this
    exact this) (by rw [List.length_map, hx]) (fun u hu => by
    obtain ⟨n, -, rfl⟩ := List.mem_map.1 hu
    rfl) (Nat.zero_le _) (by omega)
  have hc : kcells d.A ++ x.map (Value.int .u8) = kcells (d.A ++ [x]) := (kcells_snoc _ _).symm
  rw [hc] at hO
  obtain ⟨a, c, rfl, hG⟩ := Gt.pushA h hB hw (hbW.alloc (by simpa using hb0.size) _) hO hg ha
  have hgB := (Gt.grown h hB hw (hbW.alloc (by simpa using hb0.size) (.cells (w8s x) 34)) 3 (fun k e => own_some e) hg).2 0 g (by omega) rfl
  have HST := Lib.hid (run_store_cell (i := 3) (v := .slice a (d.A ++ [x]).length c) (ty := 30) (hgB.trans h.bx : Bx W2 g (hdc z d) 55) (by simp [hdc]) rfl (by kernel_rfl))
  have HAP := Lib.hid hap
  have HBU := Lib.hid (fun V => build_k (k := x) hx V)
  have H4 := Lib.hid (by
    have := (h.below hb0).ld4
    rw [hF] at this
    exact this : (Instr.loadAt 22 (.pointer (some ⟨g, 4, none⟩))).run Try.prog W = .ok (.slice d.fa 0 d.fc) W)
  have HL0 := Lib.hid (h.below hbW).ld3
  have HL1 := Lib.hid hM1.ld3
  have HK0 := Lib.hid (load_key (w := W.drew) (hX0 : Bx W.drew w.heap.size (w8s x) 34) hx)
  have HL3 := Lib.hid hG.mem.ld3
  have HG : Hid (TkP Bd g z d Sl L m w x (W2.setCell ⟨g, 3, none⟩ (.slice a (d.A ++ [x]).length c))) := Lib.hid ⟨a, c, by rw [eA, eF]; exact hG⟩
  rw [eI]
  have hla : (d.A ++ [x]).length = d.A.length + 1 := by simp
  have h0 : T2 W.drew (W.drew.alloc (.cells (w8s x) 34)) W2 (W2.setCell ⟨g, 3, none⟩ (.slice a (d.A ++ [x]).length c)) false false false false false W.drew := ⟨rfl, ff, ff, ff⟩
  have hs0 : W.drew.heap.size = W.heap.size := rfl
  generalize hW3 : W2.setCell ⟨g, 3, none⟩ (.slice a (d.A ++ [x]).length c) = W3 at *
  generalize hW1 : W.drew.alloc (.cells (w8s x) 34) = W1 at *
  have HW1 := Lib.hid hW1
  have HW3 := Lib.hid hW3
  have HLA := Lib.hid hla
  have HAL := Lib.hid hal
  have HW0 := Lib.hid hW
  clear hW
  clear h hi hB hw eI eA eF hb0 hbW hM1 hap hO hg ha hc hG hgB hF hW1 hW3 hla hal
  go_enter Try.func32, Try.ntmps32
  go_upto_region 1 with fail
  change Code.wp _ _ _ _ (w.alloc (.cells (w8s x) 34))
  rw [HW0.out]
  generalize hg0 : w.heap.size = g0 at *
  have HG0 := Lib.hid hg0
  clear hg0 hX0
  apply wp_region_lit
  refine gw_val (by kernel_rfl) (some 6) rfl (.pointer (some ⟨g, 0, none⟩)) (by kernel_rfl) ?_
  simp only [Act.put, List.setIfInBounds_toArray, List.set_cons_succ, List.set_cons_zero]
  refine gw_val (by kernel_rfl) (some 7) rfl (.pointer (some ⟨g, 0, none⟩)) (by kernel_rfl) ?_
  simp only [Act.put, List.setIfInBounds_toArray, List.set_cons_succ, List.set_cons_zero]
  refine gw_val (by kernel_rfl) (some 8) rfl (.pointer (some ⟨g, 4, none⟩)) (by kernel_rfl) ?_
  simp only [Act.put, List.setIfInBounds_toArray, List.set_cons_succ, List.set_cons_zero]
  refine gw_load (by kernel_rfl) (some 9) rfl 22 (.tmp 8) rfl ⟨g, 4, none⟩ (.slice d.fa 0 d.fc) (by kernel_rfl) (H4.out) ?_
  simp only [Act.put, List.setIfInBounds_toArray, List.set_cons_succ, List.set_cons_zero]
  refine gw_val (by kernel_rfl) (some 10) rfl (.int .i64 0) (by kernel_rfl) ?_
  simp only [Act.put, List.setIfInBounds_toArray, List.set_cons_succ, List.set_cons_zero]
  refine gw_val (by kernel_rfl) (some 11) rfl (.bool true) (by kernel_rfl) ?_
  simp only [Act.put, List.setIfInBounds_toArray, List.set_cons_succ, List.set_cons_zero]
  apply wpList_nil
  go_upto_region 2 with fail
  refine wp_region_inv (fun listed act9 V => ∃ b0 b1 b2 b3 b4 b5 b6 b7 b8 b9 b10 : Bool, listed = #[b0, b1, b2, b3, b4, b5, b6, b7, b8, b9, b10] ∧ act9 = { tmps := #[.pointer (some ⟨g, 0, none⟩), .agg (w8s x), undef, .pointer (some ⟨g0, 0, none⟩), .int .i64 0, undef, .pointer (some ⟨g, 0, none⟩), .pointer (some ⟨g, 0, none⟩), .pointer (some ⟨g, 4, none⟩), .slice d.fa 0 d.fc, .int .i64 0, .bool true, (cond b0 (.pointer (some ⟨g, 0, none⟩)) undef), (cond b1 (.pointer (some ⟨g, 0, none⟩)) undef), (cond b2 (.pointer (some ⟨g, 0, none⟩)) undef), (cond b3 (.pointer (some ⟨g, 3, none⟩)) undef), (cond b4 (.slice d.ka d.A.length d.kc) undef), (cond b5 (.agg (w8s x)) undef), (cond b6 (.slice (some ⟨W.heap.size, 0, none⟩) 1 1) undef), (cond b7 (.slice a ((d.A ++ [x]).length) c) undef), (cond b8 (.pointer (some ⟨g, 0, none⟩)) undef), (cond b9 (.pointer (some ⟨g, 3, none⟩)) undef), undef, undef, undef, undef, undef, undef, undef, undef, undef, undef, undef, undef, undef, undef, undef, undef, undef, undef, undef, undef, undef, undef, undef, undef, undef, undef, undef, undef, undef, undef, undef, undef, undef, undef, undef, undef, undef, undef, undef, undef], defers := [] } ∧ T2 W.drew W1 W2 W3 b4 b5 b6 b7 b10 V) (by kernel_rfl) (by kernel_rfl) ?_ ?_ ?_
  · exact ⟨false, false, false, false, false, false, false, false, false, false, false, rfl, rfl, h0⟩
  · intro i9 listed act9 V hi hr hJ
    obtain ⟨b0, b1, b2, b3, b4, b5, b6, b7, b8, b9, b10, rfl, rfl, hF⟩ := hJ
    have hi2 : i9 < 11 := hi
    have hi3 : i9 = 0 ∨ i9 = 1 ∨ i9 = 2 ∨ i9 = 3 ∨ i9 = 4 ∨ i9 = 5 ∨ i9 = 6 ∨ i9 = 7 ∨ i9 = 8 ∨ i9 = 9 ∨ i9 = 10 := by omega
    rcases hi3 with rfl | rfl | rfl | rfl | rfl | rfl | rfl | rfl | rfl | rfl | rfl
    · obtain rfl : b0 = false := ready_self hr
      refine st_val rfl (by kernel_rfl) (some 12) rfl (.pointer (some ⟨g, 0, none⟩)) V (by kernel_rfl) ?_
      exact ⟨true, b1, b2, b3, b4, b5, b6, b7, b8, b9, b10, rfl, rfl, hF⟩
    · obtain rfl : b1 = false := ready_self hr
      refine st_val rfl (by kernel_rfl) (some 13) rfl (.pointer (some ⟨g, 0, none⟩)) V (by kernel_rfl) ?_
      exact ⟨b0, true, b2, b3, b4, b5, b6, b7, b8, b9, b10, rfl, rfl, hF⟩
    · obtain rfl : b2 = false := ready_self hr
      obtain rfl : b1 = true := ready_dep hr 1 (by kernel_rfl)
      refine st_val rfl (by kernel_rfl) (some 14) rfl (.pointer (some ⟨g, 0, none⟩)) V (by kernel_rfl) ?_
      exact ⟨b0, true, true, b3, b4, b5, b6, b7, b8, b9, b10, rfl, rfl, hF⟩
    · obtain rfl : b3 = false := ready_self hr
      obtain rfl : b2 = true := ready_dep hr 2 (by kernel_rfl)
      refine st_val rfl (by kernel_rfl) (some 15) rfl (.pointer (some ⟨g, 3, none⟩)) V (by kernel_rfl) ?_
      exact ⟨b0, b1, true, true, b4, b5, b6, b7, b8, b9, b10, rfl, rfl, hF⟩
    · obtain rfl : b4 = false := ready_self hr
      obtain rfl : b3 = true := ready_dep hr 3 (by kernel_rfl)
      obtain ⟨hl, hF2⟩ := hF.ldL (Q := fun V => (Instr.loadAt 30 (.pointer (some ⟨g, 3, none⟩))).run Try.prog V = .ok (.slice d.ka d.A.length d.kc) V) HL0.out HL1.out
      refine st_load rfl (by kernel_rfl) (some 16) rfl 30 (.tmp 15) rfl ⟨g, 3, none⟩ (.slice d.ka d.A.length d.kc) (by kernel_rfl) hl ?_
      exact ⟨b0, b1, b2, true, true, b5, b6, b7, b8, b9, b10, rfl, rfl, hF2⟩
    · obtain rfl : b5 = false := ready_self hr
      obtain ⟨hl, hF2⟩ := hF.ldK (Q := fun V => (Instr.loadAt 34 (.pointer (some ⟨g0, 0, none⟩))).run Try.prog V = .ok (.agg (w8s x)) V) HK0.out
      refine st_load rfl (by kernel_rfl) (some 17) rfl 34 (.tmp 3) rfl ⟨g0, 0, none⟩ (.agg (w8s x)) (by kernel_rfl) hl ?_
      exact ⟨b0, b1, b2, b3, b4, true, b6, b7, b8, b9, b10, rfl, rfl, hF2⟩
    · obtain rfl : b6 = false := ready_self hr
      obtain rfl : b5 = true := ready_dep hr 5 (by kernel_rfl)
      obtain ⟨rfl, hF2⟩ := hF.build
      refine st_build rfl (by kernel_rfl) (some 18) rfl 30 1 #[(0, .tmp 17)] rfl #[(0, .agg (w8s x))] (by kernel_rfl) (.slice (some ⟨W.heap.size, 0, none⟩) 1 1) W1 (by rw [← HW1.out]; exact HBU.out _) ?_
      exact ⟨b0, b1, b2, b3, b4, true, true, b7, b8, b9, b10, rfl, rfl, hF2⟩
    · obtain rfl : b7 = false := ready_self hr
      obtain rfl : b4 = true := ready_dep hr 4 (by kernel_rfl)
      obtain rfl : b6 = true := ready_dep hr 6 (by kernel_rfl)
      obtain ⟨rfl, hF2⟩ := hF.app
      refine st_append rfl (by kernel_rfl) (some 19) rfl 30 rfl (.tmp 16) (.tmp 18) 30 rfl (.slice d.ka d.A.length d.kc) (.slice (some ⟨W.heap.size, 0, none⟩) 1 1) (.slice a ((d.A ++ [x]).length) c) W2 (by kernel_rfl) (by kernel_rfl) HAP.out ?_
      exact ⟨b0, b1, b2, b3, true, b5, true, true, b8, b9, b10, rfl, rfl, hF2⟩
    · obtain rfl : b8 = false := ready_self hr
      obtain rfl : b0 = true := ready_dep hr 0 (by kernel_rfl)
      refine st_val rfl (by kernel_rfl) (some 20) rfl (.pointer (some ⟨g, 0, none⟩)) V (by kernel_rfl) ?_
      exact ⟨true, b1, b2, b3, b4, b5, b6, b7, true, b9, b10, rfl, rfl, hF⟩
    · obtain rfl : b9 = false := ready_self hr
      obtain rfl : b8 = true := ready_dep hr 8 (by kernel_rfl)
      refine st_val rfl (by kernel_rfl) (some 21) rfl (.pointer (some ⟨g, 3, none⟩)) V (by kernel_rfl) ?_
      exact ⟨b0, b1, b2, b3, b4, b5, b6, b7, true, true, b10, rfl, rfl, hF⟩
    · obtain rfl : b10 = false := ready_self hr
      obtain rfl : b7 = true := ready_dep hr 7 (by kernel_rfl)
      obtain rfl : b9 = true := ready_dep hr 9 (by kernel_rfl)
      obtain ⟨rfl, hF2⟩ := hF.store (hF.cA rfl).2
      refine st_storeA rfl (by kernel_rfl) rfl 30 (.tmp 21) (.tmp 19) rfl (.pointer (some ⟨g, 3, none⟩)) (.slice a ((d.A ++ [x]).length) c) (by kernel_rfl) (by kernel_rfl) W3 HST.out ?_
      exact ⟨b0, b1, b2, b3, b4, b5, b6, true, b8, true, true, rfl, rfl, hF2⟩
  · intro act9 V hJ
    obtain ⟨b0, b1, b2, b3, b4, b5, b6, b7, b8, b9, b10, he, rfl, hF⟩ := hJ
    have he : (#[true, true, true, true, true, true, true, true, true, true, true] : Array Bool) = #[b0, b1, b2, b3, b4, b5, b6, b7, b8, b9, b10] := he
    simp only [Array.mk.injEq, List.cons.injEq, and_true] at he
    obtain ⟨rfl, rfl, rfl, rfl, rfl, rfl, rfl, rfl, rfl, rfl, rfl⟩ := he
    simp only [cond_true]
    obtain rfl : V = W3 := hF.eq
    clear hF h0 H4 HL0 HL1 HK0 HBU HAP HST HW1 HW3
    go_upto_region 3 with fail
    apply wp_region_lit
    refine gw_val (by kernel_rfl) (some 22) rfl (.pointer (some ⟨g, 0, none⟩)) (by kernel_rfl) ?_
    simp only [Act.put, List.setIfInBounds_toArray, List.set_cons_succ, List.set_cons_zero]
    refine gw_val (by kernel_rfl) (some 23) rfl (.pointer (some ⟨g, 0, none⟩)) (by kernel_rfl) ?_
    simp only [Act.put, List.setIfInBounds_toArray, List.set_cons_succ, List.set_cons_zero]
    refine gw_val (by kernel_rfl) (some 24) rfl (.pointer (some ⟨g, 3, none⟩)) (by kernel_rfl) ?_
    simp only [Act.put, List.setIfInBounds_toArray, List.set_cons_succ, List.set_cons_zero]
    refine gw_load (by kernel_rfl) (some 25) rfl 30 (.tmp 24) rfl ⟨g, 3, none⟩ (.slice a ((d.A ++ [x]).length) c) (by kernel_rfl) (HL3.out) ?_
    simp only [Act.put, List.setIfInBounds_toArray, List.set_cons_succ, List.set_cons_zero]
    refine gw_val (by kernel_rfl) (some 26) rfl (.int .i64 ((d.A ++ [x]).length)) (by kernel_rfl) ?_
    simp only [Act.put, List.setIfInBounds_toArray, List.set_cons_succ, List.set_cons_zero]
    refine gw_val (by kernel_rfl) (some 27) rfl (.int .i64 d.A.length) (sub_len rfl (d.A ++ [x]).length d.A.length HLA.out (by have := HAL.out; omega) (by kernel_rfl) _) ?_
    simp only [Act.put, List.setIfInBounds_toArray, List.set_cons_succ, List.set_cons_zero]
    refine gw_val (by kernel_rfl) (some 4) rfl (.int .i64 d.A.length) (by kernel_rfl) ?_
    simp only [Act.put, List.setIfInBounds_toArray, List.set_cons_succ, List.set_cons_zero]
    apply wpList_nil
    go_wp2_with fail
    go_ret
    exact ⟨rfl, HG.out⟩
set_option maxRecDepth 100000 in
set_option maxHeartbeats 4000000 in
theorem q_take1 {Bd g z : Nat} {d : Cd} {Sl : Nat → Prop} {Ks : List (List Int)} {L : List (List Int × Int)} {m : LM} {w : World} (h : Mem w g z d L m Sl) (hi : Inv z d Ks L m) (hB : ∀ k, Sc g d Sl k → Bd ≤ k) (hw : Bd ≤ w.heap.size) {x : List Int} (hx : x.length = 32) (hF : d.F.length ≠ 0) :
    Calls Try.prog 32 #[.pointer (some ⟨g, 0, none⟩), .agg (w8s x)] w fun e w' => e = .returned (.int .i64 (tkI d.A d.F)) ∧ TkP Bd g z d Sl L m w x w' := by
  obtain ⟨k, hk, hkl⟩ := hi.last hF
  obtain ⟨n, hn⟩ : ∃ n, d.F.length = n + 1 := ⟨d.F.length - 1, by omega⟩
  have eI : tkI d.A d.F = k := by unfold tkI; rw [if_neg hF, hk]
  have eA : tkA d.A d.F x = d.A.set k x := by unfold tkA; rw [if_neg hF, hk, Int.toNat_natCast]
  have eF : tkF d.F = d.F.take n := by unfold tkF; rw [show d.F.length - 1 = n by omega]
  rw [show d.F.length - 1 = n by omega] at hk
  have hal : d.A.length ≤ 1024 := Nat.le_trans hi.al hi.zm
  have hfl : n ≤ 1024 := by have := hi.count; omega
  have hnl : (d.F.take n).length = n := by rw [List.length_take]; omega
  obtain ⟨bf, hbf⟩ := h.addrF (i := n) (by omega)
  obtain ⟨bk, hbk⟩ := h.addr hkl
  have hgl := h.bx.lt
  have HFC := Lib.hid (show n ≤ d.fc by have := h.capF; omega)
  have HL4 := Lib.hid (fun U (hU : Below w.heap.size w U) => (by
    have := (h.below hU).ld4
    rw [hbf, hn] at this
    exact this : (Instr.loadAt 22 (.pointer (some ⟨g, 4, none⟩))).run Try.prog U = .ok (.slice (some ⟨bf, 0, none⟩) (n + 1 : Nat) d.fc) U))
  have HFR := Lib.hid (fun U (hU : Below w.heap.size w U) => (by
    have := (h.below hU).free hbf (i := n) (by omega)
    rw [hk] at this
    exact this : (Instr.loadAt 3 (.pointer (some ⟨bf, n, none⟩))).run Try.prog U = .ok (.int .i64 (k : Int)) U))
  have HCF := Lib.hid (fun U (hU : Below w.heap.size w U) => (by
    have := Gt.cutF (h.below hU) hB n (by omega)
    rw [show (Value.slice d.fa (d.F.take n).length d.fc) = .slice (some ⟨bf, 0, none⟩) n d.fc by rw [hnl, hbf]] at this
    exact (Gt.below h hU hw).trans this : Gt Bd g z d Sl w { d with F := d.F.take n } L m Sl (U.setCell ⟨g, 4, none⟩ (.slice (some ⟨bf, 0, none⟩) n d.fc))))
  have HST := Lib.hid (fun U (hU : Below w.heap.size w U) => run_store_cell (i := 4) (v := .slice (some ⟨bf, 0, none⟩) n d.fc) (ty := 22) (h.below hU).bx (by simp [hdc]) rfl (by kernel_rfl))
  have HG2 := Lib.hid (fun W2 (hG : Gt Bd g z d Sl w { d with F := d.F.take n } L m Sl W2) U (hU : Below W2.heap.size W2 U) => (by
    have h2 := hG.mem.below hU
    exact ⟨by
      have := h2.ld3
      simp only [hbk] at this
      exact this, h2.storeA hbk hkl hx, k_set hG hU hw hB hbk hi.ka hkl hx eA eF⟩ :
      (Instr.loadAt 30 (.pointer (some ⟨g, 3, none⟩))).run Try.prog U = .ok (.slice (some ⟨bk, 0, none⟩) d.A.length d.kc) U ∧
      (Instr.storeAt 34 (.pointer (some ⟨bk, k * 32, none⟩)) (.agg (w8s x))).run Try.prog U = .ok () (U.setCells bk (k * 32) (x.map (Value.int .u8))) ∧
      TkP Bd g z d Sl L m w x (U.setCells bk (k * 32) (x.map (Value.int .u8)))))
  rw [eI]
  obtain ⟨hb0, hX0⟩ := box_start x w
  have HKL := Lib.hid hkl
  have HGL := Lib.hid hgl
  have HFL := Lib.hid hfl
  clear h hi hB hw eI eA eF hF hk hn hal hnl hbf hbk hgl hkl hfl
  go_enter Try.func32, Try.ntmps32
  go_upto_region 1 with fail
  change Code.wp _ _ _ _ (w.alloc (.cells (w8s x) 34))
  generalize w.alloc (.cells (w8s x) 34) = W at *
  generalize hg0 : w.heap.size = g0 at hX0 ⊢
  have HG0 := Lib.hid hg0
  have HB0 := Lib.hid hb0
  clear hg0
  apply wp_region_lit
  refine gw_val (by kernel_rfl) (some 6) rfl (.pointer (some ⟨g, 0, none⟩)) (by kernel_rfl) ?_
  simp only [Act.put, List.setIfInBounds_toArray, List.set_cons_succ, List.set_cons_zero]
  refine gw_val (by kernel_rfl) (some 7) rfl (.pointer (some ⟨g, 0, none⟩)) (by kernel_rfl) ?_
  simp only [Act.put, List.setIfInBounds_toArray, List.set_cons_succ, List.set_cons_zero]
  refine gw_val (by kernel_rfl) (some 8) rfl (.pointer (some ⟨g, 4, none⟩)) (by kernel_rfl) ?_
  simp only [Act.put, List.setIfInBounds_toArray, List.set_cons_succ, List.set_cons_zero]
  refine gw_load (by kernel_rfl) (some 9) rfl 22 (.tmp 8) rfl ⟨g, 4, none⟩ (.slice (some ⟨bf, 0, none⟩) (n + 1 : Nat) d.fc) (by kernel_rfl) (HL4.out W HB0.out) ?_
  simp only [Act.put, List.setIfInBounds_toArray, List.set_cons_succ, List.set_cons_zero]
  refine gw_val (by kernel_rfl) (some 10) rfl (.int .i64 (n + 1 : Nat)) (by kernel_rfl) ?_
  simp only [Act.put, List.setIfInBounds_toArray, List.set_cons_succ, List.set_cons_zero]
  refine gw_val (by kernel_rfl) (some 11) rfl (.bool false) (by kernel_rfl) ?_
  simp only [Act.put, List.setIfInBounds_toArray, List.set_cons_succ, List.set_cons_zero]
  apply wpList_nil
  go_upto_region 4 with fail
  refine wp_region_class (C := fun U => Below w.heap.size w U ∧ Bx U g0 (w8s x) 34) (by kernel_rfl) (by kernel_rfl) (⟨HB0.out.drew, hX0⟩) ?_
  refine gq_val (by kernel_rfl) (some 28) rfl (.pointer (some ⟨g, 0, none⟩)) (fun U hU => by kernel_rfl) ?_
  simp only [Act.put, List.setIfInBounds_toArray, List.set_cons_succ, List.set_cons_zero]
  refine gq_val (by kernel_rfl) (some 29) rfl (.pointer (some ⟨g, 0, none⟩)) (fun U hU => by kernel_rfl) ?_
  simp only [Act.put, List.setIfInBounds_toArray, List.set_cons_succ, List.set_cons_zero]
  refine gq_val (by kernel_rfl) (some 30) rfl (.pointer (some ⟨g, 4, none⟩)) (fun U hU => by kernel_rfl) ?_
  simp only [Act.put, List.setIfInBounds_toArray, List.set_cons_succ, List.set_cons_zero]
  refine gq_load (by kernel_rfl) (some 31) rfl 22 (.tmp 30) rfl ⟨g, 4, none⟩ (.slice (some ⟨bf, 0, none⟩) (n + 1 : Nat) d.fc) (by kernel_rfl) (fun U hU => HL4.out U hU.1) ?_
  simp only [Act.put, List.setIfInBounds_toArray, List.set_cons_succ, List.set_cons_zero]
  refine gq_val (by kernel_rfl) (some 32) rfl (.pointer (some ⟨g, 0, none⟩)) (fun U hU => by kernel_rfl) ?_
  simp only [Act.put, List.setIfInBounds_toArray, List.set_cons_succ, List.set_cons_zero]
  refine gq_val (by kernel_rfl) (some 33) rfl (.pointer (some ⟨g, 0, none⟩)) (fun U hU => by kernel_rfl) ?_
  simp only [Act.put, List.setIfInBounds_toArray, List.set_cons_succ, List.set_cons_zero]
  refine gq_val (by kernel_rfl) (some 34) rfl (.pointer (some ⟨g, 4, none⟩)) (fun U hU => by kernel_rfl) ?_
  simp only [Act.put, List.setIfInBounds_toArray, List.set_cons_succ, List.set_cons_zero]
  refine gq_load (by kernel_rfl) (some 35) rfl 22 (.tmp 34) rfl ⟨g, 4, none⟩ (.slice (some ⟨bf, 0, none⟩) (n + 1 : Nat) d.fc) (by kernel_rfl) (fun U hU => HL4.out U hU.1) ?_
  simp only [Act.put, List.setIfInBounds_toArray, List.set_cons_succ, List.set_cons_zero]
  refine gq_val (by kernel_rfl) (some 36) rfl (.int .i64 (n + 1 : Nat)) (fun U hU => by kernel_rfl) ?_
  simp only [Act.put, List.setIfInBounds_toArray, List.set_cons_succ, List.set_cons_zero]
  refine gq_val (by kernel_rfl) (some 37) rfl (.int .i64 n) (fun U hU => sub_len rfl (n + 1) n rfl (by have := HFL.out; omega) (by kernel_rfl) _) ?_
  simp only [Act.put, List.setIfInBounds_toArray, List.set_cons_succ, List.set_cons_zero]
  refine gq_val (by kernel_rfl) (some 38) rfl (.pointer (some ⟨bf, n, none⟩)) (fun U hU => idx_int0 bf (n + 1) d.fc n (by omega) _ _ _ rfl (by kernel_rfl) (by kernel_rfl)) ?_
  simp only [Act.put, List.setIfInBounds_toArray, List.set_cons_succ, List.set_cons_zero]
  refine gq_load (by kernel_rfl) (some 39) rfl 3 (.tmp 38) rfl ⟨bf, n, none⟩ (.int .i64 (k : Int)) (by kernel_rfl) (fun U hU => HFR.out U hU.1) ?_
  simp only [Act.put, List.setIfInBounds_toArray, List.set_cons_succ, List.set_cons_zero]
  refine gq_val (by kernel_rfl) (some 5) rfl (.int .i64 (k : Int)) (fun U hU => by kernel_rfl) ?_
  simp only [Act.put, List.setIfInBounds_toArray, List.set_cons_succ, List.set_cons_zero]
  apply wpQuiet_nil
  intro V hV
  have HV := Lib.hid hV
  clear hV hb0 hX0
  go_upto_region 5 with fail
  refine wp_region_class_tail (C := fun U => Below w.heap.size w U ∧ Bx U g0 (w8s x) 34) 14 (by kernel_rfl) (by kernel_rfl) (⟨HV.out.1.drew, HV.out.2⟩) ?_
  simp only [List.take_succ_cons, List.take_zero, List.drop_succ_cons, List.drop_zero]
  refine gq_val (by kernel_rfl) (some 40) rfl (.pointer (some ⟨g, 0, none⟩)) (fun U hU => by kernel_rfl) ?_
  simp only [Act.put, List.setIfInBounds_toArray, List.set_cons_succ, List.set_cons_zero]
  refine gq_val (by kernel_rfl) (some 41) rfl (.pointer (some ⟨g, 0, none⟩)) (fun U hU => by kernel_rfl) ?_
  simp only [Act.put, List.setIfInBounds_toArray, List.set_cons_succ, List.set_cons_zero]
  refine gq_val (by kernel_rfl) (some 42) rfl (.pointer (some ⟨g, 0, none⟩)) (fun U hU => by kernel_rfl) ?_
  simp only [Act.put, List.setIfInBounds_toArray, List.set_cons_succ, List.set_cons_zero]
  refine gq_val (by kernel_rfl) (some 43) rfl (.pointer (some ⟨g, 4, none⟩)) (fun U hU => by kernel_rfl) ?_
  simp only [Act.put, List.setIfInBounds_toArray, List.set_cons_succ, List.set_cons_zero]
  refine gq_load (by kernel_rfl) (some 44) rfl 22 (.tmp 43) rfl ⟨g, 4, none⟩ (.slice (some ⟨bf, 0, none⟩) (n + 1 : Nat) d.fc) (by kernel_rfl) (fun U hU => HL4.out U hU.1) ?_
  simp only [Act.put, List.setIfInBounds_toArray, List.set_cons_succ, List.set_cons_zero]
  refine gq_val (by kernel_rfl) (some 45) rfl (.pointer (some ⟨g, 0, none⟩)) (fun U hU => by kernel_rfl) ?_
  simp only [Act.put, List.setIfInBounds_toArray, List.set_cons_succ, List.set_cons_zero]
  refine gq_val (by kernel_rfl) (some 46) rfl (.pointer (some ⟨g, 0, none⟩)) (fun U hU => by kernel_rfl) ?_
  simp only [Act.put, List.setIfInBounds_toArray, List.set_cons_succ, List.set_cons_zero]
  refine gq_val (by kernel_rfl) (some 47) rfl (.pointer (some ⟨g, 4, none⟩)) (fun U hU => by kernel_rfl) ?_
  simp only [Act.put, List.setIfInBounds_toArray, List.set_cons_succ, List.set_cons_zero]
  refine gq_load (by kernel_rfl) (some 48) rfl 22 (.tmp 47) rfl ⟨g, 4, none⟩ (.slice (some ⟨bf, 0, none⟩) (n + 1 : Nat) d.fc) (by kernel_rfl) (fun U hU => HL4.out U hU.1) ?_
  simp only [Act.put, List.setIfInBounds_toArray, List.set_cons_succ, List.set_cons_zero]
  refine gq_val (by kernel_rfl) (some 49) rfl (.int .i64 (n + 1 : Nat)) (fun U hU => by kernel_rfl) ?_
  simp only [Act.put, List.setIfInBounds_toArray, List.set_cons_succ, List.set_cons_zero]
  refine gq_val (by kernel_rfl) (some 50) rfl (.int .i64 n) (fun U hU => sub_len rfl (n + 1) n rfl (by have := HFL.out; omega) (by kernel_rfl) _) ?_
  simp only [Act.put, List.setIfInBounds_toArray, List.set_cons_succ, List.set_cons_zero]
  refine gq_val (by kernel_rfl) (some 51) rfl (.slice (some ⟨bf, 0, none⟩) n d.fc) (fun U hU => slice_run rfl (by kernel_rfl) (by kernel_rfl) (cut_int_to (some ⟨bf, 0, none⟩) (n + 1) d.fc n _ HFC.out)) ?_
  simp only [Act.put, List.setIfInBounds_toArray, List.set_cons_succ, List.set_cons_zero]
  refine gq_val (by kernel_rfl) (some 52) rfl (.pointer (some ⟨g, 0, none⟩)) (fun U hU => by kernel_rfl) ?_
  simp only [Act.put, List.setIfInBounds_toArray, List.set_cons_succ, List.set_cons_zero]
  refine gq_val (by kernel_rfl) (some 53) rfl (.pointer (some ⟨g, 4, none⟩)) (fun U hU => by kernel_rfl) ?_
  simp only [Act.put, List.setIfInBounds_toArray, List.set_cons_succ, List.set_cons_zero]
  apply wpQuiet_nil
  intro V1 hV1
  refine gw_store (by kernel_rfl) rfl 22 (.tmp 53) (.tmp 51) rfl (.pointer (some ⟨g, 4, none⟩)) (.slice (some ⟨bf, 0, none⟩) n d.fc) (by kernel_rfl) (by kernel_rfl) (V1.setCell ⟨g, 4, none⟩ (.slice (some ⟨bf, 0, none⟩) n d.fc)) (HST.out V1 hV1.1) ?_
  apply wpList_nil
  have HW2 := Lib.hid (HCF.out V1 hV1.1)
  have HX2 : Hid (Bx (V1.setCell ⟨g, 4, none⟩ (.slice (some ⟨bf, 0, none⟩) n d.fc)) g0 (w8s x) 34) := Lib.hid ((heap_setCell_other V1 ⟨g, 4, none⟩ g0 _ (by have := HGL.out; have := HG0.out; show g0 ≠ g; omega)).trans hV1.2)
  generalize V1.setCell ⟨g, 4, none⟩ (.slice (some ⟨bf, 0, none⟩) n d.fc) = W2 at *
  clear hV1 HCF HST HL4 HFR
  go_upto_region 6 with fail
  refine wp_region_class_tail (C := fun U => Below W2.heap.size W2 U ∧ Bx U g0 (w8s x) 34) 7 (by kernel_rfl) (by kernel_rfl) (⟨(Below.refl _ W2).drew, HX2.out⟩) ?_
  simp only [List.take_succ_cons, List.take_zero, List.drop_succ_cons, List.drop_zero]
  refine gq_val (by kernel_rfl) (some 54) rfl (.pointer (some ⟨g, 0, none⟩)) (fun U hU => by kernel_rfl) ?_
  simp only [Act.put, List.setIfInBounds_toArray, List.set_cons_succ, List.set_cons_zero]
  refine gq_val (by kernel_rfl) (some 55) rfl (.pointer (some ⟨g, 0, none⟩)) (fun U hU => by kernel_rfl) ?_
  simp only [Act.put, List.setIfInBounds_toArray, List.set_cons_succ, List.set_cons_zero]
  refine gq_val (by kernel_rfl) (some 56) rfl (.pointer (some ⟨g, 3, none⟩)) (fun U hU => by kernel_rfl) ?_
  simp only [Act.put, List.setIfInBounds_toArray, List.set_cons_succ, List.set_cons_zero]
  refine gq_load (by kernel_rfl) (some 57) rfl 30 (.tmp 56) rfl ⟨g, 3, none⟩ (.slice (some ⟨bk, 0, none⟩) d.A.length d.kc) (by kernel_rfl) (fun U hU => (HG2.out W2 HW2.out U hU.1).1) ?_
  simp only [Act.put, List.setIfInBounds_toArray, List.set_cons_succ, List.set_cons_zero]
  refine gq_val (by kernel_rfl) (some 58) rfl (.int .i64 (k : Int)) (fun U hU => by kernel_rfl) ?_
  simp only [Act.put, List.setIfInBounds_toArray, List.set_cons_succ, List.set_cons_zero]
  refine gq_load (by kernel_rfl) (some 59) rfl 34 (.tmp 3) rfl ⟨g0, 0, none⟩ (.agg (w8s x)) (by kernel_rfl) (fun U hU => load_key hU.2 hx) ?_
  simp only [Act.put, List.setIfInBounds_toArray, List.set_cons_succ, List.set_cons_zero]
  refine gq_val (by kernel_rfl) (some 60) rfl (.pointer (some ⟨bk, k * 32, none⟩)) (fun U hU => idx_key0 bk d.A.length d.kc k HKL.out _ _ _ rfl (by kernel_rfl) (by kernel_rfl)) ?_
  simp only [Act.put, List.setIfInBounds_toArray, List.set_cons_succ, List.set_cons_zero]
  apply wpQuiet_nil
  intro V2 hV2
  refine gw_store (by kernel_rfl) rfl 34 (.tmp 60) (.tmp 59) rfl (.pointer (some ⟨bk, k * 32, none⟩)) (.agg (w8s x)) (by kernel_rfl) (by kernel_rfl) (V2.setCells bk (k * 32) (x.map (Value.int .u8))) (HG2.out W2 HW2.out V2 hV2.1).2.1 ?_
  apply wpList_nil
  have HE := Lib.hid (HG2.out W2 HW2.out V2 hV2.1).2.2
  generalize V2.setCells bk (k * 32) (x.map (Value.int .u8)) = W3 at *
  clear hV2 HG2 HW2 HX2
  go_upto_region 7 with fail
  apply wp_region_lit
  refine gw_val (by kernel_rfl) (some 61) rfl (.int .i64 (k : Int)) (by kernel_rfl) ?_
  simp only [Act.put, List.setIfInBounds_toArray, List.set_cons_succ, List.set_cons_zero]
  refine gw_val (by kernel_rfl) (some 4) rfl (.int .i64 (k : Int)) (by kernel_rfl) ?_
  simp only [Act.put, List.setIfInBounds_toArray, List.set_cons_succ, List.set_cons_zero]
  apply wpList_nil
  go_wp2_with fail
  go_ret
  exact ⟨rfl, HE.out⟩
theorem q_take {Bd g z : Nat} {d : Cd} {Sl : Nat → Prop} {Ks : List (List Int)} {L : List (List Int × Int)} {m : LM} {w : World} (h : Mem w g z d L m Sl) (hi : Inv z d Ks L m) (hB : ∀ k, Sc g d Sl k → Bd ≤ k) (hw : Bd ≤ w.heap.size) {x : List Int} (hx : x.length = 32) : Calls Try.prog 32 #[.pointer (some ⟨g, 0, none⟩), .agg (w8s x)] w fun e w' => e = .returned (.int .i64 (tkI d.A d.F)) ∧ TkP Bd g z d Sl L m w x w' := by
  by_cases hF : d.F.length = 0
  · exact q_take0 h hi hB hw hx hF
  · exact q_take1 h hi hB hw hx hF
end Go.Proofs.Ytjblfpifhbmfoaa
