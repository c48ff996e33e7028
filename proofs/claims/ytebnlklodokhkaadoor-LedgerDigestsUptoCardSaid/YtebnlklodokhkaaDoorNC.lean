/-
  The numbers that the statements draw from; mempoolmake's Name and Accounts: contracts.
-/
import Derived.Test.YtebnlklodokhkaaDoorNB
import Derived.Deep.DeepCutAuto
namespace Go.Proofs.YtebnlklodokhkaaDoor.Lg
open Go.RowKit
set_option linter.unusedSimpArgs false
set_option linter.unusedVariables false

theorem infoSt : (Tryd.prog.info? 9).map (fun i => (i.zero, i.size, i.bytes)) = some (some (.string ByteArray.empty), 1, 16) := by kernel_rfl
theorem idx_str (b off n c k : Nat) (hk : k < n) (V : World) (ρ : Operand → Value) (o : Oper) {x y : Operand} (ho : o.op = .indexAddr 72 x y) (hx : ρ x = .slice (some ⟨b, off, none⟩) n c) (hy : ρ y = .int .i64 k) : (execOp ρ o).run Tryd.prog V = .ok (.value (.pointer (some ⟨b, off + k, none⟩))) V := by
  have hs : (sizeOf (Tryd.prog.elem 72)).run Tryd.prog V = .ok 1 V := by kernel_rfl
  have hlm : (k : Int) < (n : Int) := by omega
  unfold execOp
  simp only [ho, hx, hy]
  go_simp
/-- Strings in a row that begins its block. -/
def strs (S : List ByteArray) : List Value := S.map Value.string
theorem strs_at {S : List ByteArray} {k : Nat} (h : k < S.length) : (strs S)[k]? = some (.string (S.getD k mtS)) := by
  unfold strs
  rw [List.getElem?_map, List.getElem?_eq_getElem h, List.getD_eq_getElem?_getD, List.getElem?_eq_getElem h]
  rfl
theorem load_str {w : World} {g t : Nat} {S : List ByteArray} (h : Bx w g (strs S).toArray t) {k : Nat} (hk : k < S.length) : (Instr.loadAt 9 (.pointer (some ⟨g, 0 + k, none⟩))).run Tryd.prog w = .ok (.string (S.getD k mtS)) w := by
  rw [Nat.zero_add]
  exact Bx.load h (i := k) (by rw [List.getElem?_toArray]; exact strs_at hk) (by kernel_rfl)
theorem mul_i {ρ : Operand → Value} {o : Oper} {x y : Operand} (ho : o.op = .binOp .mul 3 x y 3) (a b : Nat) (h : a * b ≤ 1000000000) (hx : ρ x = .int .i64 a) (hy : ρ y = .int .i64 b) (w : World) : (execOp ρ o).run Tryd.prog w = .ok (.value (.int .i64 (a * b : Nat))) w := by
  have hw : IntKind.i64.wrap ((a : Int) * (b : Int)) = ((a * b : Nat) : Int) := by
    rw [show (a : Int) * (b : Int) = ((a * b : Nat) : Int) by simp]
    rw [IntKind.wrap_i64]; omega
  unfold execOp
  simp only [ho, hx, hy]
  go_simp
theorem rem_nat {ρ : Operand → Value} {o : Oper} {x y : Operand} (ho : o.op = .binOp .rem 3 x y 3) (a b : Nat) (hb : b ≠ 0) (hx : ρ x = .int .i64 a) (hy : ρ y = .int .i64 b) (w : World) : (execOp ρ o).run Tryd.prog w = .ok (.value (.int .i64 (a % b : Nat))) w := by
  have := rem_i64 ho a b (by omega) hx hy w
  rw [this]
  congr 1
/-- The numbers: at most k were used. -/
def NS (w : World) (g : Nat) (a : Option Addr) (c : Nat) (L : List Int) (k : Nat) : Prop := ∃ N : Nat, N ≤ k ∧ Bx w g #[.slice a L.length c, .int .i64 N] 69 ∧ Cs w a (icells L) ∧ (L ≠ [] → ∀ x, a = some x → x.block ≠ g)
theorem NS.below {w w' : World} {g c k : Nat} {a : Option Addr} {L : List Int} (h : NS w g a c L k) (hb : Below w.heap.size w w') : NS w' g a c L k := by
  obtain ⟨N, h1, h2, h3, h4⟩ := h
  exact ⟨N, h1, h2.below h2.lt hb, h3.below hb, h4⟩
theorem cs_but0 {w w' : World} {g : Nat} {a : Option Addr} {L : List Int} (h : Cs w a (icells L)) (hb : But g w w') (hn : L ≠ [] → ∀ x, a = some x → x.block ≠ g) : Cs w' a (icells L) := by
  cases L with
  | nil => exact Cs.nil _ _
  | cons x r => exact h.but hb (hn (by simp))
theorem NS.but {w w' : World} {g q c k : Nat} {a : Option Addr} {L : List Int} (h : NS w g a c L k) (hb : But q w w') (hq : g < q) (ha : L ≠ [] → ∀ x, a = some x → x.block < q) : NS w' g a c L k := by
  obtain ⟨N, h1, h2, h3, h4⟩ := h
  exact ⟨N, h1, h2.but hb (by omega), cs_but0 h3 hb (fun h5 x hx => by have := ha h5 x hx; omega), h4⟩
theorem NS.mono {w : World} {g c k k2 : Nat} {a : Option Addr} {L : List Int} (h : NS w g a c L k) (hk : k ≤ k2) : NS w g a c L k2 := by
  obtain ⟨N, h1, h2⟩ := h
  exact ⟨N, Nat.le_trans h1 hk, h2⟩
theorem NS.lt {w : World} {g c k : Nat} {a : Option Addr} {L : List Int} (h : NS w g a c L k) : g < w.heap.size := by
  obtain ⟨N, -, h2, -⟩ := h
  exact h2.lt
/-- One number more. -/
def NxO (w : World) (g : Nat) (a : Option Addr) (c : Nat) (L : List Int) (k : Nat) (n : Int) (e : Ending) (w' : World) : Prop := ∃ v : Nat, e = .returned (.int .i64 v) ∧ (v : Int) < n ∧ NS w' g a c L (k + 1) ∧ But g w w'
theorem ns_next {w : World} {g c k : Nat} {a : Option Addr} {L : List Int} (h : NS w g a c L k) (hl : L.length ≤ 100000) (hk : k ≤ 100000) (n : Int) (hn : 0 < n) (hn2 : n ≤ 1000000) : Calls Tryd.prog 18 #[.pointer (some ⟨g, 0, none⟩), .int .i64 n] w (NxO w g a c L k n) := by
  obtain ⟨N, h1, h2, h3, h4⟩ := h
  refine (mk_next g L a c N n w h2 h3 hl (by omega) hn hn2).mono fun e w' q => ?_
  obtain ⟨q1, q2, q3⟩ := q
  have hp := pl_range (L.getD N 0) n hn
  refine ⟨(pl (L.getD N 0) n).toNat, by rw [q1]; congr 2; omega, by omega, ⟨N + 1, by omega, q3, cs_but0 h3 q2 h4, h4⟩, q2⟩
/-- A string drawn from some. -/
def DrO (w : World) (g : Nat) (a : Option Addr) (c : Nat) (L : List Int) (k : Nat) (Q : ByteArray → Prop) (e : Ending) (w' : World) : Prop := ∃ s, e = .returned (.string s) ∧ Q s ∧ NS w' g a c L (k + 1) ∧ But g w w'
def nms : List ByteArray := [⟨#[97, 110, 110]⟩, ⟨#[98, 111, 98]⟩, ⟨#[101, 118, 101]⟩, ⟨#[122, 111, 101]⟩, ⟨#[110, 101, 119]⟩, ⟨#[120, 45, 49]⟩]
def NmQ (s : ByteArray) : Prop := isName (nums s) = true ∧ s.size ≤ 20
theorem nms_ok (k : Nat) (h : k < 6) : NmQ (nms.getD k mtS) := by
  rcases (show k = 0 ∨ k = 1 ∨ k = 2 ∨ k = 3 ∨ k = 4 ∨ k = 5 by omega) with rfl | rfl | rfl | rfl | rfl | rfl <;> exact ⟨by decide +kernel, by decide⟩
theorem build_nms (V : World) : (Instr.buildSlice 72 6 #[(0, .string ⟨#[97, 110, 110]⟩), (1, .string ⟨#[98, 111, 98]⟩), (2, .string ⟨#[101, 118, 101]⟩), (3, .string ⟨#[122, 111, 101]⟩), (4, .string ⟨#[110, 101, 119]⟩), (5, .string ⟨#[120, 45, 49]⟩)]).run Tryd.prog V = .ok (.slice (some ⟨V.heap.size, 0, none⟩) 6 6) (V.alloc (.cells (strs nms).toArray 9)) := by
  obtain ⟨i0, hi, hz0, hz1, hz2⟩ := info_parts infoSt
  refine run_buildSlice V 72 9 6 _ (strs nms).toArray i0 _ Tryd.underlying72 hi hz0 (by rw [hz1]; omega) (by rw [hz1]; omega) ?_
  rw [hz1]
  kernel_rfl
set_option maxRecDepth 100000 in
set_option maxHeartbeats 8000000 in
theorem mk_name {w : World} {g c k : Nat} {a : Option Addr} {L : List Int} (h : NS w g a c L k) (hl : L.length ≤ 100000) (hk : k ≤ 100000) : Calls Tryd.prog 20 #[.pointer (some ⟨g, 0, none⟩)] w (DrO w g a c L k NmQ) := by
  have hbd := build_nms w
  have hbx : Bx (w.alloc (.cells (strs nms).toArray 9)) w.heap.size (strs nms).toArray 9 := heap_alloc_last w _
  have hbw : Below w.heap.size w (w.alloc (.cells (strs nms).toArray 9)) := (Below.refl _ w).alloc (Nat.le_refl _) _
  have hgl := h.lt
  have hns := h.below hbw
  generalize w.alloc (.cells (strs nms).toArray 9) = V1 at *
  have CX := ns_next hns hl hk 6 (by decide) (by decide)
  have HOK := Lib.hid nms_ok
  have HLE : Hid (nms.length = 6) := Lib.hid rfl
  have HDO : Hid (∀ w' q, q < 6 → NS w' g a c L (k + 1) → But g w w' → DrO w g a c L k NmQ (.returned (.string (nms.getD q mtS))) w') := Lib.hid fun w' q hq h1 h2 => ⟨_, rfl, HOK.out q hq, h1, h2⟩
  generalize nms = S at *
  obtain ⟨g1, hg1⟩ : ∃ g1, w.heap.size = g1 := ⟨_, rfl⟩
  have HB := Lib.hid (But.of_below hbw (Nat.le_of_lt hgl))
  have HG : Hid (g < g1) := Lib.hid (by omega)
  rw [hg1] at hbx hbd
  clear hns hbw hgl hg1 h
  go_enter Tryd.func20, Tryd.ntmps20
  go_upto_region 1 with fail
  apply wp_region_lit
  refine gw_build (by kernel_rfl) (some 3) rfl 72 6 #[(0, .const (.string ⟨#[97, 110, 110]⟩)), (1, .const (.string ⟨#[98, 111, 98]⟩)), (2, .const (.string ⟨#[101, 118, 101]⟩)), (3, .const (.string ⟨#[122, 111, 101]⟩)), (4, .const (.string ⟨#[110, 101, 119]⟩)), (5, .const (.string ⟨#[120, 45, 49]⟩))] rfl #[(0, .string ⟨#[97, 110, 110]⟩), (1, .string ⟨#[98, 111, 98]⟩), (2, .string ⟨#[101, 118, 101]⟩), (3, .string ⟨#[122, 111, 101]⟩), (4, .string ⟨#[110, 101, 119]⟩), (5, .string ⟨#[120, 45, 49]⟩)] (by kernel_rfl) (.slice (some ⟨g1, 0, none⟩) 6 6) _ hbd ?_
  simp only [pu1, pu2, pu3, pu4]
  refine gw_val (by kernel_rfl) (some 4) rfl (.pointer (some ⟨g, 0, none⟩)) (by kernel_rfl) ?_
  simp only [pu1, pu2, pu3, pu4]
  refine gw_callE (by kernel_rfl) (some 5) rfl 18 #[.pointer (some ⟨g, 0, none⟩), .int .i64 6] (fun v w' => ∃ q : Nat, v = .int .i64 q ∧ (q : Int) < 6 ∧ NS w' g a c L (k + 1) ∧ But g V1 w') (by kernel_rfl) (CX.mono fun e w' z => by obtain ⟨q, h1, h2⟩ := z; exact ⟨_, h1, q, rfl, h2⟩) (fun v5 V2 hq => ?_)
  obtain ⟨q, rfl, hq1, hns2, hbut⟩ := hq
  have hq2 : q < 6 := by omega
  have hbx2 := hbx.but hbut (by have := HG.out; omega)
  simp only [pu1, pu2, pu3, pu4]
  refine gw_val (by kernel_rfl) (some 6) rfl (.pointer (some ⟨g1, 0 + q, none⟩)) (idx_str g1 0 6 6 q hq2 _ _ _ rfl (by kernel_rfl) (by kernel_rfl)) ?_
  simp only [pu1, pu2, pu3, pu4]
  refine gw_load (by kernel_rfl) (some 7) rfl 9 (.tmp 6) rfl ⟨g1, 0 + q, none⟩ (.string (S.getD q mtS)) (by kernel_rfl) (load_str hbx2 (k := q) (by rw [HLE.out]; exact hq2)) ?_
  simp only [pu1, pu2, pu3, pu4]
  refine gw_val (by kernel_rfl) (some 2) rfl (.string (S.getD q mtS)) (by kernel_rfl) ?_
  simp only [pu1, pu2, pu3, pu4]
  apply wpList_nil
  have HE := Lib.hid (HDO.out V2 q hq2 hns2 (HB.out.trans hbut))
  clear HDO hns2 hbut hbx2 hbx CX hbd
  go_wp2_with fail
  go_ret
  exact HE.out
theorem But.more {g : Nat} {a b c : World} (h : But g a b) (hb : Below a.heap.size b c) (hg : g ≤ a.heap.size) : But g a c := ⟨h.1.trans (hb.mono hg), fun k hk hn => (hb.block k hk).trans (h.2 k hk hn)⟩
theorem ff {a b : Bool} (h : a = true → b = true) (hb : b = false) : a = false := by
  cases a
  · rfl
  · rw [h rfl] at hb; cases hb
theorem st_cell {w w0 : World} {g B i ty T : Nat} {cs cs' : Array Value} {v : Value} (h : Bx w g cs T) (hb : Below B w0 w) (hg : B ≤ g) (hi : i < cs.size) (h1 : v.oneCell' = true) (hs : (Tryd.prog.info? ty).map (·.size) = some 1) (hc : cs.setIfInBounds i v = cs') :
    ∃ V, (Instr.storeAt ty (.pointer (some ⟨g, i, none⟩)) v).run Tryd.prog w = .ok () V ∧ Bx V g cs' T ∧ Below B w0 V ∧ But g w V :=
  ⟨_, run_store_cell h hi h1 hs, hc ▸ h.setC v, hb.setCell hg v, But.setCell _ _ _⟩
theorem w64_0 : W64 0 := ⟨by decide, by decide⟩
theorem own_at {w : World} {B e s n c : Nat} {a : Option Addr} {xs : List Value} (h : w.ownsRow B e s (.slice a n c) n xs) (hn : 0 < n) : ∃ g, a = some ⟨g, 0, none⟩ ∧ B ≤ g ∧ g < w.heap.size := by
  rcases h.2 with ⟨_, h0⟩ | ⟨g, cap, cur, e, hb, hg, _⟩
  · omega
  · simp only [Value.slice.injEq] at e
    exact ⟨g, e.1, hb, (Array.getElem?_eq_some_iff.1 hg).1⟩
abbrev Ac := ByteArray × Int × Int
def acl (x : Ac) : List Value := [.string x.1, .int .u64 x.2.1, .int .u64 x.2.2]
abbrev acA (x : Ac) : Array Value := #[.string x.1, .int .u64 x.2.1, .int .u64 x.2.2]
def acc (A : List Ac) : List Value := A.flatMap acl
def zAc : Ac := (mtS, 0, 0)
def AcQ (x : Ac) : Prop := NmQ x.1 ∧ W64 x.2.1 ∧ W64 x.2.2
theorem infoAc : (Tryd.prog.info? 37).map (fun i => (i.zero, i.size, i.bytes)) = some (some (.agg #[.string ByteArray.empty, .int .u64 0, .int .u64 0]), 3, 32) := by kernel_rfl
theorem acc_len : ∀ A : List Ac, (acc A).length = A.length * 3
  | [] => rfl
  | x :: r => by
    have := acc_len r
    show (acl x ++ acc r).length = _
    rw [List.length_append, this, List.length_cons]
    show 3 + _ = _
    omega
def aca (A : List Ac) (j : Nat) : Ac := A.getD j (mtS, 0, 0)
theorem aca_mem {A : List Ac} {j : Nat} (h : j < A.length) : aca A j ∈ A := by
  have : aca A j = A[j] := getD_lt A j _ h
  rw [this]; exact List.getElem_mem h
theorem acc_at : ∀ (A : List Ac) (k : Nat), k < A.length → (acc A)[k * 3]? = some (.string (aca A k).1) ∧ (acc A)[k * 3 + 1]? = some (.int .u64 (aca A k).2.1) ∧ (acc A)[k * 3 + 2]? = some (.int .u64 (aca A k).2.2)
  | [], k, h => absurd h (by simp)
  | x :: r, 0, h => ⟨rfl, rfl, rfl⟩
  | x :: r, k + 1, h => by
    have := acc_at r k (by simpa using h)
    have e : ∀ q, (acc (x :: r))[q + 3]? = (acc r)[q]? := fun q => rfl
    rw [show (k + 1) * 3 = k * 3 + 3 by omega, show k * 3 + 3 + 1 = (k * 3 + 1) + 3 by omega, show k * 3 + 3 + 2 = (k * 3 + 2) + 3 by omega, e, e, e]
    exact this
theorem ac_range {w : World} {a : Option Addr} {A : List Ac} (h : Cs w a (acc A)) {k : Nat} (hk : k < A.length) : ∃ b off, a = some ⟨b, off, none⟩ ∧ b < w.heap.size ∧ w.rangeAt b (off + k * 3) (acl (aca A k)) := by
  obtain ⟨h0, h1, h2⟩ := acc_at A k hk
  obtain ⟨b, off, rfl, hb, c0⟩ := h _ _ h0
  obtain ⟨b1, o1, e1, -, c1⟩ := h _ _ h1
  obtain ⟨b2, o2, e2, -, c2⟩ := h _ _ h2
  simp only [Option.some.injEq, Addr.mk.injEq, and_true] at e1 e2
  obtain ⟨rfl, rfl⟩ := e1
  obtain ⟨rfl, rfl⟩ := e2
  refine ⟨b, off, rfl, hb, fun j v hj => ?_⟩
  have hj2 : j < 3 := by
    have := (List.getElem?_eq_some_iff.1 hj).1
    simpa [acl] using this
  rcases (show j = 0 ∨ j = 1 ∨ j = 2 by omega) with rfl | rfl | rfl
  · simp [acl] at hj; rw [← hj]; exact c0
  · simp [acl] at hj; rw [← hj, Nat.add_assoc]; exact c1
  · simp [acl] at hj; rw [← hj, Nat.add_assoc]; exact c2
theorem load_ac {w : World} {b o : Nat} {x : Ac} (h : w.rangeAt b o (acl x)) : (Instr.loadAt 37 (.pointer (some ⟨b, o, none⟩))).run Tryd.prog w = .ok (.agg (acA x)) w :=
  run_loadAt_mid w b o 37 (acl x) _ h Tryd.underlying37 rfl (by kernel_rfl)
theorem load_acb {w : World} {g k : Nat} {x : Ac} (h : Bx w g (acA x) k) : (Instr.loadAt 37 (.pointer (some ⟨g, 0, none⟩))).run Tryd.prog w = .ok (.agg (acA x)) w :=
  load_ac fun j v hv => by
    rw [cell_of_row w g _ _ _ (0, 0) h]
    simpa [acl] using hv
theorem store_ac {w : World} {g : Nat} {x y : Ac} (h : Bx w g (acA x) 37) : (Instr.storeAt 37 (.pointer (some ⟨g, 0, none⟩)) (.agg (acA y))).run Tryd.prog w = .ok () (w.setRow g (acA y)) ∧ Bx (w.setRow g (acA y)) g (acA y) 37 :=
  ⟨run_store_all h rfl (by simp [Value.oneCell']) (by kernel_rfl), h.set⟩
theorem idx_ac (b off n c k : Nat) (hk : k < n) (V : World) (ρ : Operand → Value) (o : Oper) {x y : Operand} (ho : o.op = .indexAddr 22 x y) (hx : ρ x = .slice (some ⟨b, off, none⟩) n c) (hy : ρ y = .int .i64 k) : (execOp ρ o).run Tryd.prog V = .ok (.value (.pointer (some ⟨b, off + k * 3, none⟩))) V := by
  have hs : (sizeOf (Tryd.prog.elem 22)).run Tryd.prog V = .ok 3 V := by kernel_rfl
  have hlm : (k : Int) < (n : Int) := by omega
  unfold execOp
  simp only [ho, hx, hy]
  go_simp
theorem build_ac (x : Ac) (V : World) : (Instr.buildSlice 22 1 #[(0, .agg (acA x))]).run Tryd.prog V = .ok (.slice (some ⟨V.heap.size, 0, none⟩) 1 1) (V.alloc (.cells (acA x) 37)) := by
  obtain ⟨i0, hi, hz0, hz1, hz2⟩ := info_parts infoAc
  refine run_buildSlice V 22 37 1 _ (acA x) i0 _ Tryd.underlying22 hi hz0 (by rw [hz1]; omega) (by rw [hz1]; omega) ?_
  rw [hz1]
  kernel_rfl
def RowA (w : World) (B : Nat) (v : Value) (A : List Ac) : Prop := w.ownsRow B 37 3 v A.length (acc A)
theorem RowA.cs {w : World} {B : Nat} {v : Value} {A : List Ac} (h : RowA w B v A) : ∃ a c, v = .slice a A.length c ∧ Cs w a (acc A) ∧ A.length ≤ c := own_cs h
theorem grow_ac {w : World} {B : Nat} {v : Value} {A : List Ac} (h : RowA w B v A) (hB : B ≤ w.heap.size) (x : Ac) (hl : A.length ≤ 100000) :
    ∃ a c V2, (Builtin.append_ #[22, 22] 22 #[v, .slice (some ⟨w.heap.size, 0, none⟩) 1 1]).run Tryd.prog (w.alloc (.cells (acA x) 37)) = .ok (.slice a (A ++ [x]).length c) V2 ∧ RowA V2 B (.slice a (A ++ [x]).length c) (A ++ [x]) ∧ Below B w V2 := by
  have hb : Below w.heap.size w (w.alloc (.cells (acA x) 37)) := (Below.refl _ w).alloc (Nat.le_refl _) _
  have hO := own_below h hb
  have hc : Cs (w.alloc (.cells (acA x) 37)) (some ⟨w.heap.size, 0, none⟩) (acl x) := Cs.block (t := 37) (fr := (0, 0)) (heap_alloc_last w _)
  obtain ⟨v2, V2, hr, hO2, hb2, -⟩ := append_cs (P := Tryd.prog) (t := 22) (m := 1) Tryd.underlying22 infoAc (by kernel_rfl) (by omega) (by omega) hO (some ⟨w.heap.size, 0, none⟩) 1 (acl x) hc rfl (fun u hu => by
    simp only [acl, List.mem_cons, List.not_mem_nil, or_false] at hu
    rcases hu with rfl | rfl | rfl <;> rfl) (by simp; omega) hl (by omega)
  have e : acc (A ++ [x]) = acc A ++ acl x := by unfold acc; rw [List.flatMap_append]; simp
  have hO3 : RowA V2 B v2 (A ++ [x]) := by unfold RowA; rw [e, List.length_append]; exact hO2
  obtain ⟨a, c, rfl, -, -⟩ := hO3.cs
  exact ⟨a, c, V2, hr, hO3, (hb.mono hB).trans hb2⟩
/-- Words in a row that begins its block. -/
def u64s (S : List Int) : List Value := S.map (Value.int .u64)
theorem infoU : (Tryd.prog.info? 23).map (fun i => (i.zero, i.size, i.bytes)) = some (some (.int .u64 0), 1, 8) := by kernel_rfl
theorem load_u64 {w : World} {g t : Nat} {S : List Int} (h : Bx w g (u64s S).toArray t) {k : Nat} (hk : k < S.length) : (Instr.loadAt 23 (.pointer (some ⟨g, 0 + k, none⟩))).run Tryd.prog w = .ok (.int .u64 (S.getD k 0)) w := by
  rw [Nat.zero_add]
  refine Bx.load h (i := k) ?_ (by kernel_rfl)
  rw [List.getElem?_toArray]
  unfold u64s
  rw [List.getElem?_map, List.getElem?_eq_getElem hk, List.getD_eq_getElem?_getD, List.getElem?_eq_getElem hk]
  rfl
theorem idx_u64 (b off n c k : Nat) (hk : k < n) (V : World) (ρ : Operand → Value) (o : Oper) {x y : Operand} (ho : o.op = .indexAddr 66 x y) (hx : ρ x = .slice (some ⟨b, off, none⟩) n c) (hy : ρ y = .int .i64 k) : (execOp ρ o).run Tryd.prog V = .ok (.value (.pointer (some ⟨b, off + k, none⟩))) V := by
  have hs : (sizeOf (Tryd.prog.elem 66)).run Tryd.prog V = .ok 1 V := by kernel_rfl
  have hlm : (k : Int) < (n : Int) := by omega
  unfold execOp
  simp only [ho, hx, hy]
  go_simp
def bal5 : List Int := [100000, 5000, 700, 0, 1099511627776]
def seq3 : List Int := [5, 18446744073709551615, 18446744073709551614]
theorem bal_w (k : Nat) : W64 (bal5.getD k 0) := by
  match k with
  | 0 | 1 | 2 | 3 | 4 => exact ⟨by decide, by decide⟩
  | k + 5 => exact ⟨by simp [bal5], by simp [bal5]⟩
theorem seq_w (k : Nat) : W64 (seq3.getD k 0) := by
  match k with
  | 0 | 1 | 2 => exact ⟨by decide, by decide⟩
  | k + 3 => exact ⟨by simp [seq3], by simp [seq3]⟩
def nm4 : List ByteArray := [⟨#[97, 110, 110]⟩, ⟨#[98, 111, 98]⟩, ⟨#[101, 118, 101]⟩, ⟨#[122, 111, 101]⟩]
theorem nm4_ok (k : Nat) (h : k < 4) : NmQ (nm4.getD k mtS) := by
  rcases (show k = 0 ∨ k = 1 ∨ k = 2 ∨ k = 3 by omega) with rfl | rfl | rfl | rfl <;> exact ⟨by decide +kernel, by decide⟩
theorem build_nm4 (V : World) : (Instr.buildSlice 72 4 #[(0, .string ⟨#[97, 110, 110]⟩), (1, .string ⟨#[98, 111, 98]⟩), (2, .string ⟨#[101, 118, 101]⟩), (3, .string ⟨#[122, 111, 101]⟩)]).run Tryd.prog V = .ok (.slice (some ⟨V.heap.size, 0, none⟩) 4 4) (V.alloc (.cells (strs nm4).toArray 9)) := by
  obtain ⟨i0, hi, hz0, hz1, hz2⟩ := info_parts infoSt
  refine run_buildSlice V 72 9 4 _ (strs nm4).toArray i0 _ Tryd.underlying72 hi hz0 (by rw [hz1]; omega) (by rw [hz1]; omega) ?_
  rw [hz1]
  kernel_rfl
theorem build_bal (V : World) : (Instr.buildSlice 66 5 #[(0, .int .u64 100000), (1, .int .u64 5000), (2, .int .u64 700), (3, .int .u64 0), (4, .int .u64 1099511627776)]).run Tryd.prog V = .ok (.slice (some ⟨V.heap.size, 0, none⟩) 5 5) (V.alloc (.cells (u64s bal5).toArray 23)) := by
  obtain ⟨i0, hi, hz0, hz1, hz2⟩ := info_parts infoU
  refine run_buildSlice V 66 23 5 _ (u64s bal5).toArray i0 _ Tryd.underlying66 hi hz0 (by rw [hz1]; omega) (by rw [hz1]; omega) ?_
  rw [hz1]
  kernel_rfl
theorem build_seq (V : World) : (Instr.buildSlice 66 3 #[(0, .int .u64 5), (1, .int .u64 18446744073709551615), (2, .int .u64 18446744073709551614)]).run Tryd.prog V = .ok (.slice (some ⟨V.heap.size, 0, none⟩) 3 3) (V.alloc (.cells (u64s seq3).toArray 23)) := by
  obtain ⟨i0, hi, hz0, hz1, hz2⟩ := info_parts infoU
  refine run_buildSlice V 66 23 3 _ (u64s seq3).toArray i0 _ Tryd.underlying66 hi hz0 (by rw [hz1]; omega) (by rw [hz1]; omega) ?_
  rw [hz1]
  kernel_rfl
theorem NS.ab {w : World} {g c k : Nat} {a : Option Addr} {L : List Int} (h : NS w g a c L k) (hL : L ≠ []) (x : Addr) (hx : a = some x) : x.block < w.heap.size := by
  obtain ⟨N, -, -, h3, -⟩ := h
  obtain ⟨b, off, e, hb, -⟩ := int_at h3 (k := 0) (List.length_pos_iff.2 hL)
  rw [hx] at e
  cases e
  exact hb
theorem NS.butA {w w' W : World} {g q c k : Nat} {a : Option Addr} {L : List Int} (h : NS w g a c L k) (hb : But q w w') (hq : W.heap.size ≤ q) (hg : g < W.heap.size) (ha : L ≠ [] → ∀ x, a = some x → x.block < W.heap.size) : NS w' g a c L k :=
  h.but hb (by omega) (fun h1 x hx => Nat.lt_of_lt_of_le (ha h1 x hx) hq)
/-- What region 5 keeps. -/
structure KC (W : World) (g : Nat) (a : Option Addr) (c : Nat) (L : List Int) (k i : Nat) (b0 b2 b4 b6 b7 b8 b9 b10 b11 : Bool) (x12 x14 x16 x18 x19 x20 x21 x5 : Value) (V : World) : Prop where
  o11 : b11 = true → b10 = true
  o12 : b11 = true → b9 = true
  bt : But g W V
  ns : NS V g a c L (k + 1)
  n0 : b6 = false → NS V g a c L k
  f12 : b0 = true → ∃ q, x12 = .slice (some ⟨q, 0, none⟩) 4 4 ∧ W.heap.size ≤ q ∧ Bx V q (strs nm4).toArray 9
  f14 : b2 = true → ∃ q, x14 = .pointer (some ⟨q, 0 + i, none⟩) ∧ W.heap.size ≤ q ∧ Bx V q (strs nm4).toArray 9
  f16 : b4 = true → ∃ q, x16 = .slice (some ⟨q, 0, none⟩) 5 5 ∧ W.heap.size ≤ q ∧ Bx V q (u64s bal5).toArray 23
  f18 : b6 = true → ∃ v : Nat, v < 5 ∧ x18 = .int .i64 v
  f19 : b7 = true → ∃ q v, v < 5 ∧ x19 = .pointer (some ⟨q, 0 + v, none⟩) ∧ W.heap.size ≤ q ∧ Bx V q (u64s bal5).toArray 23
  f20 : b8 = true → ∃ m, W64 m ∧ x20 = .int .u64 m
  f21 : b9 = true → ∃ m, W64 m ∧ x21 = .agg (acA (nm4.getD i mtS, m, 0))
  f5 : b10 = true → b11 = false → ∃ q, x5 = .pointer (some ⟨q, 0, none⟩) ∧ W.heap.size ≤ q ∧ Bx V q (acA zAc) 37
  d5 : b11 = true → ∃ q m, W64 m ∧ x5 = .pointer (some ⟨q, 0, none⟩) ∧ W.heap.size ≤ q ∧ Bx V q (acA (nm4.getD i mtS, m, 0)) 37
section
variable {W : World} {g c k i : Nat} {a : Option Addr} {L : List Int} {b0 b2 b4 b6 b7 b8 b9 b10 b11 : Bool} {x12 x14 x16 x18 x19 x20 x21 x5 : Value} {V : World}
/-- A step that leaves all old blocks but g. -/
theorem KC.to (h : KC W g a c L k i b0 b2 b4 b6 b7 b8 b9 b10 b11 x12 x14 x16 x18 x19 x20 x21 x5 V) {V2 : World} (hbt : But g V V2) (hns : NS V2 g a c L (k + 1)) (hn0 : b6 = false → NS V2 g a c L k) (hg : g < W.heap.size) : KC W g a c L k i b0 b2 b4 b6 b7 b8 b9 b10 b11 x12 x14 x16 x18 x19 x20 x21 x5 V2 :=
  ⟨h.o11, h.o12, h.bt.trans hbt, hns, hn0,
   fun e => by obtain ⟨q, h1, h2, h3⟩ := h.f12 e; exact ⟨q, h1, h2, h3.but hbt (by omega)⟩,
   fun e => by obtain ⟨q, h1, h2, h3⟩ := h.f14 e; exact ⟨q, h1, h2, h3.but hbt (by omega)⟩,
   fun e => by obtain ⟨q, h1, h2, h3⟩ := h.f16 e; exact ⟨q, h1, h2, h3.but hbt (by omega)⟩,
   h.f18,
   fun e => by obtain ⟨q, v, h0, h1, h2, h3⟩ := h.f19 e; exact ⟨q, v, h0, h1, h2, h3.but hbt (by omega)⟩,
   h.f20, h.f21,
   fun e e2 => by obtain ⟨q, h1, h2, h3⟩ := h.f5 e e2; exact ⟨q, h1, h2, h3.but hbt (by omega)⟩,
   fun e => by obtain ⟨q, m, h0, h1, h2, h3⟩ := h.d5 e; exact ⟨q, m, h0, h1, h2, h3.but hbt (by omega)⟩⟩
theorem KC.al (h : KC W g a c L k i b0 b2 b4 b6 b7 b8 b9 b10 b11 x12 x14 x16 x18 x19 x20 x21 x5 V) (hg : g < W.heap.size) (o : Obj) : KC W g a c L k i b0 b2 b4 b6 b7 b8 b9 b10 b11 x12 x14 x16 x18 x19 x20 x21 x5 (V.alloc o) := by
  have hb : Below V.heap.size V (V.alloc o) := (Below.refl _ V).alloc (Nat.le_refl _) _
  exact h.to (But.of_below hb (Nat.le_of_lt h.ns.lt)) (h.ns.below hb) (fun e => (h.n0 e).below hb) hg
theorem KC.s6 (h : KC W g a c L k i b0 b2 b4 false b7 b8 b9 b10 b11 x12 x14 x16 x18 x19 x20 x21 x5 V) {V2 : World} {v : Nat} (hv : (v : Int) < 5) (hns : NS V2 g a c L (k + 1)) (hbt : But g V V2) (hg : g < W.heap.size) : KC W g a c L k i b0 b2 b4 true b7 b8 b9 b10 b11 x12 x14 x16 (.int .i64 v) x19 x20 x21 x5 V2 := by
  exact ⟨h.o11, h.o12, h.bt.trans hbt, hns, (fun e => nomatch e),
   fun e => by obtain ⟨q, h1, h2, h3⟩ := h.f12 e; exact ⟨q, h1, h2, h3.but hbt (by omega)⟩,
   fun e => by obtain ⟨q, h1, h2, h3⟩ := h.f14 e; exact ⟨q, h1, h2, h3.but hbt (by omega)⟩,
   fun e => by obtain ⟨q, h1, h2, h3⟩ := h.f16 e; exact ⟨q, h1, h2, h3.but hbt (by omega)⟩,
   fun _ => ⟨v, by omega, rfl⟩,
   fun e => by obtain ⟨q, v, h0, h1, h2, h3⟩ := h.f19 e; exact ⟨q, v, h0, h1, h2, h3.but hbt (by omega)⟩,
   h.f20, h.f21,
   fun e e2 => by obtain ⟨q, h1, h2, h3⟩ := h.f5 e e2; exact ⟨q, h1, h2, h3.but hbt (by omega)⟩,
   fun e => by obtain ⟨q, m, h0, h1, h2, h3⟩ := h.d5 e; exact ⟨q, m, h0, h1, h2, h3.but hbt (by omega)⟩⟩
end
theorem KC.s11 {W : World} {g c k i : Nat} {a : Option Addr} {L : List Int} {b0 b2 b4 b6 b7 b8 : Bool} {x12 x14 x16 x18 x19 x20 x21 : Value} {V : World} {q : Nat} {m : Int} (h : KC W g a c L k i b0 b2 b4 b6 b7 b8 true true false x12 x14 x16 x18 x19 x20 x21 (.pointer (some ⟨q, 0, none⟩)) V) (hq1 : W.heap.size ≤ q) (hq2 : Bx V q (acA zAc) 37) (hm : W64 m) (hg : g < W.heap.size) (ha : L ≠ [] → ∀ x, a = some x → x.block < W.heap.size) (hZ : Bx (V.setRow q (acA (nm4.getD i mtS, m, 0))) q (acA (nm4.getD i mtS, m, 0)) 37) : KC W g a c L k i b0 b2 b4 b6 b7 b8 true true true x12 x14 x16 x18 x19 x20 x21 (.pointer (some ⟨q, 0, none⟩)) (V.setRow q (acA (nm4.getD i mtS, m, 0))) := by
  have hbt : But q V (V.setRow q (acA (nm4.getD i mtS, m, 0))) := But.setRow V _
  have hne : ∀ {q2 : Nat} {cs : Array Value} {ty : Nat}, Bx V q2 cs ty → ty ≠ 37 → q2 ≠ q := fun hb hty e => by
    subst e
    unfold Bx at hb hq2
    rw [hb] at hq2
    simp only [Option.some.injEq, Obj.cells.injEq] at hq2
    exact hty hq2.2.1
  exact ⟨fun _ => rfl, fun _ => rfl, ⟨belowRow h.bt.1 (by omega) _, fun k2 hk hn => (hbt.2 k2 (Nat.lt_of_lt_of_le hk h.bt.1.size) (by omega)).trans (h.bt.2 k2 hk hn)⟩, h.ns.butA hbt hq1 hg ha, fun e => (h.n0 e).butA hbt hq1 hg ha,
   fun e => by obtain ⟨q2, h1, h2, h3⟩ := h.f12 e; exact ⟨q2, h1, h2, h3.but hbt (hne h3 (by decide))⟩,
   fun e => by obtain ⟨q2, h1, h2, h3⟩ := h.f14 e; exact ⟨q2, h1, h2, h3.but hbt (hne h3 (by decide))⟩,
   fun e => by obtain ⟨q2, h1, h2, h3⟩ := h.f16 e; exact ⟨q2, h1, h2, h3.but hbt (hne h3 (by decide))⟩,
   h.f18,
   fun e => by obtain ⟨q2, v, h0, h1, h2, h3⟩ := h.f19 e; exact ⟨q2, v, h0, h1, h2, h3.but hbt (hne h3 (by decide))⟩,
   h.f20, h.f21, (fun _ e => nomatch e), fun _ => ⟨q, m, hm, rfl, hq1, hZ⟩⟩
theorem sub_one {ρ : Operand → Value} {o : Oper} {x : Operand} (ho : o.op = .binOp .sub 3 x (.const (.int .i64 1)) 3) (m : Nat) (hm : m ≤ 1000000) (hx : ρ x = .int .i64 m) (w : World) (hρ : ρ (.const (.int .i64 1)) = .int .i64 1 := by rfl) : (execOp ρ o).run Tryd.prog w = .ok (.value (.int .i64 ((m : Int) - 1))) w := by
  have hw : IntKind.i64.wrap ((m : Int) - 1) = (m : Int) - 1 := by rw [IntKind.wrap_i64]; omega
  unfold execOp
  simp only [ho, hx, hρ]
  go_simp
theorem own_gt {w w' : World} {g B : Nat} {v : Value} {A : List Ac} (h : RowA w B v A) (hb : But g w w') (hg : g < B) (hs : B ≤ w.heap.size) : RowA w' B v A := own_but h hb hg
theorem But.more2 {g : Nat} {a b c : World} (h : But g a b) (hb : Below a.heap.size b c) (hg : g < a.heap.size) : But g a c := h.more hb (Nat.le_of_lt hg)
theorem ns_more {w V V2 : World} {g c k : Nat} {a : Option Addr} {L : List Int} (h : NS V g a c L k) (hb : Below w.heap.size V V2) (hg : g < w.heap.size) (ha : L ≠ [] → ∀ x, a = some x → x.block < w.heap.size) : NS V2 g a c L k := by
  obtain ⟨N, h1, h2, h3, h4⟩ := h
  refine ⟨N, h1, h2.below hg hb, ?_, h4⟩
  cases L with
  | nil => exact Cs.nil _ _
  | cons x r =>
    intro j v hj
    obtain ⟨b, off, rfl, hb2, hc⟩ := h3 j v hj
    have hlt := ha (by simp) _ rfl
    exact ⟨b, off, rfl, Nat.lt_of_lt_of_le hb2 hb.size, (hb.cell (p := ⟨b, off + j, none⟩) hlt).trans hc⟩
theorem but_at {W V V2 : World} {g q : Nat} (h : But g W V) (hb : But q V V2) (hq : W.heap.size ≤ q) (hg : g ≤ q := by omega) : But g W V2 := ⟨h.1.trans (hb.1.mono hg), fun k hk hn => (hb.2 k (Nat.lt_of_lt_of_le hk h.1.size) (by omega)).trans (h.2 k hk hn)⟩
theorem own_len {w : World} {B k d : Nat} {p : Option Addr} {A : List Ac} (h : RowA w B (.slice p k d) A) : A.length = k := by
  obtain ⟨a, c, e, -, -⟩ := h.cs
  simp only [Value.slice.injEq] at e
  exact e.2.1.symm
def AcO (w : World) (g : Nat) (a : Option Addr) (c : Nat) (L : List Int) (k : Nat) (e : Ending) (w' : World) : Prop := ∃ ra rc A, e = .returned (.slice ra (List.length A) rc) ∧ RowA w' w.heap.size (.slice ra A.length rc) A ∧ (∀ x, x ∈ A → AcQ x) ∧ A.length ≤ 4 ∧ NS w' g a c L (k + 13) ∧ But g w w'
set_option maxRecDepth 100000 in
set_option maxHeartbeats 8000000 in
theorem mk_accounts {w : World} {g c k : Nat} {a : Option Addr} {L : List Int} (h : NS w g a c L k) (hl : L.length ≤ 100000) (hk : k ≤ 10000) : Calls Tryd.prog 17 #[.pointer (some ⟨g, 0, none⟩)] w (AcO w g a c L k) := by
  have HL := Lib.hid hl
  have HKK := Lib.hid hk
  have HG := Lib.hid h.lt
  have HAB := Lib.hid (fun h1 x hx => h.ab h1 x hx)
  have CX := ns_next h hl (by omega) 4 (by decide) (by decide)
  have HQ4 := Lib.hid nm4_ok
  clear h hl hk
  go_enter Tryd.func17, Tryd.ntmps17
  go_upto_region 1 with fail
  apply wp_region_lit
  refine gw_val (by kernel_rfl) (some 3) rfl (.slice none 0 0) (by kernel_rfl) ?_
  simp only [pu1, pu2, pu3, pu4]
  apply wpList_nil
  go_upto_region 2 with fail
  apply wp_region_lit
  refine gw_val (by kernel_rfl) (some 6) rfl (.pointer (some ⟨g, 0, none⟩)) (by kernel_rfl) ?_
  simp only [pu1, pu2, pu3, pu4]
  refine gw_callE (by kernel_rfl) (some 7) rfl 18 #[.pointer (some ⟨g, 0, none⟩), .int .i64 4] (fun v w' => ∃ q : Nat, v = .int .i64 q ∧ (q : Int) < 4 ∧ NS w' g a c L (k + 1) ∧ But g w w') (by kernel_rfl) ((CX).mono fun e w' z => by obtain ⟨q, h1, h2⟩ := z; exact ⟨_, h1, q, rfl, h2⟩) (fun vv V1 hq => ?_)
  obtain ⟨v1, rfl, hv1, hns1, hbut1⟩ := hq
  simp only [pu1, pu2, pu3, pu4]
  refine gw_val (by kernel_rfl) (some 4) rfl (.int .i64 v1) (by kernel_rfl) ?_
  simp only [pu1, pu2, pu3, pu4]
  apply wpList_nil
  have HN1 := Lib.hid hns1
  have HB1 := Lib.hid hbut1
  clear hns1 hbut1 CX
  have hv1' : v1 < 4 := by omega
  go_wp2_with fail
  go_loopg [3, 4] (v1 + 1) (fun gg s3 s4 wx => ∃ (z : Int) (p3 : Option Addr) (k3 d3 : Nat) (A : List Ac), s3 = .slice p3 k3 d3 ∧ s4 = .int .i64 z ∧ -1 ≤ z ∧ z ≤ 3 ∧ (A.length : Int) + z ≤ 3 ∧ Hid (RowA wx w.heap.size (.slice p3 k3 d3) A) ∧ Hid (∀ x, x ∈ A → AcQ x) ∧ Hid (NS wx g a c L (k + 1 + 3 * A.length)) ∧ Hid (But g w wx) ∧ ((gg : Nat) : Int) = z + 1)
  case atStart => exact ⟨v1, none, 0, 0, [], rfl, rfl, by omega, by omega, by simp only [List.length_nil]; omega, Lib.hid (World.ownsRow_nil _ _ _ _), Lib.hid (fun x hx => by cases hx), HN1, HB1, by omega⟩
  case round =>
    obtain ⟨z, p3, k3, d3, A, rfl, rfl, hz1, hz2, hal, HR, HQ, HN, HB, hg⟩ := hrel
    clear HN1 HB1
    by_cases hlt : 0 ≤ z
    · skip
      obtain ⟨i, rfl⟩ : ∃ i : Nat, z = i := ⟨z.toNat, by omega⟩
      have hi4 : i < 4 := by omega
      have HG2 : Hid (gk = i + 1 ∧ i + A.length ≤ 3) := Lib.hid ⟨by omega, by omega⟩
      obtain ⟨kk, hkk⟩ : ∃ kk, k + 1 + 3 * A.length = kk := ⟨_, rfl⟩
      have HK2 : Hid (kk = k + 1 + 3 * A.length ∧ kk ≤ 20000) := Lib.hid ⟨hkk.symm, by have := HKK.out; omega⟩
      rw [hkk] at HN
      have HGW : Hid (g < wr.heap.size) := Lib.hid HN.out.lt
      have HWS : Hid (w.heap.size ≤ wr.heap.size) := Lib.hid HB.out.1.size
      have HABW := Lib.hid (fun h1 x hx => HN.out.ab h1 x hx)
      have CX5 : ∀ V, NS V g a c L kk → Calls Tryd.prog 18 #[.pointer (some ⟨g, 0, none⟩), .int .i64 5] V (NxO V g a c L kk 5) := fun V hV => ns_next hV HL.out (by have := HK2.out.2; omega) 5 (by decide) (by decide)
      have h0 : KC wr g a c L kk i false false false false false false false false false u12 u14 u16 u18 u19 u20 u21 u5 wr.drew := ⟨(fun h => nomatch h), (fun h => nomatch h), ⟨(Below.refl _ _).drew, fun _ _ _ => rfl⟩, (NS.mono (w := wr.drew) HN.out (Nat.le_succ _)), fun _ => HN.out, (fun h => nomatch h), (fun h => nomatch h), (fun h => nomatch h), (fun h => nomatch h), (fun h => nomatch h), (fun h => nomatch h), (fun h => nomatch h), (fun h => nomatch h), (fun h => nomatch h)⟩
      clear hkk hz1 hz2 hal hg HN
      go_upto_region 3 with fail
      apply wp_region_lit
      refine gw_val (by kernel_rfl) (some 8) rfl (.int .i64 i) (by kernel_rfl) ?_
      simp only [pu1, pu2, pu3, pu4]
      refine gw_val (by kernel_rfl) (some 9) rfl (.bool true) (geq_n rfl (i) (0) (decide_eq_true (by omega)) (by kernel_rfl) (by kernel_rfl) _) ?_
      simp only [pu1, pu2, pu3, pu4]
      apply wpList_nil
      go_upto_region 5 with fail
      refine wp_region_inv (fun listed act9 V => ∃ b0 b1 b2 b3 b4 b5 b6 b7 b8 b9 b10 b11 : Bool, ∃ x12 x14 x16 x18 x19 x20 x21 x5 : Value, listed = #[b0, b1, b2, b3, b4, b5, b6, b7, b8, b9, b10, b11] ∧ act9 = { tmps := #[.pointer (some ⟨g, 0, none⟩), undef, .slice none 0 0, .slice p3 k3 d3, .int .i64 i, x5, .pointer (some ⟨g, 0, none⟩), .int .i64 v1, .int .i64 i, .bool true, u10, u11, x12, (cond b1 (.int .i64 i) (u13)), x14, (cond b3 (.string (nm4.getD i mtS)) (u15)), x16, (cond b5 (.pointer (some ⟨g, 0, none⟩)) (u17)), x18, x19, x20, x21, u22, u23, u24, u25, u26, u27, u28, u29, u30, u31, u32, u33, u34, undef], defers := [] } ∧ KC wr g a c L kk i b0 b2 b4 b6 b7 b8 b9 b10 b11 x12 x14 x16 x18 x19 x20 x21 x5 V) (by kernel_rfl) (by kernel_rfl) ?_ ?_ ?_
      · exact ⟨false, false, false, false, false, false, false, false, false, false, false, false, u12, u14, u16, u18, u19, u20, u21, u5, rfl, rfl, h0⟩
      · intro i9 listed act9 V hi9 hr hJ
        obtain ⟨b0, b1, b2, b3, b4, b5, b6, b7, b8, b9, b10, b11, x12, x14, x16, x18, x19, x20, x21, x5, rfl, rfl, hF⟩ := hJ
        have hi2 : i9 < 12 := hi9
        have hi3 : i9 = 0 ∨ i9 = 1 ∨ i9 = 2 ∨ i9 = 3 ∨ i9 = 4 ∨ i9 = 5 ∨ i9 = 6 ∨ i9 = 7 ∨ i9 = 8 ∨ i9 = 9 ∨ i9 = 10 ∨ i9 = 11 := by omega
        rcases hi3 with rfl | rfl | rfl | rfl | rfl | rfl | rfl | rfl | rfl | rfl | rfl | rfl
        · obtain rfl : b0 = false := ready_self hr
          refine st_build rfl (by kernel_rfl) (some 12) rfl 72 4 #[(0, .const (.string ⟨#[97, 110, 110]⟩)), (1, .const (.string ⟨#[98, 111, 98]⟩)), (2, .const (.string ⟨#[101, 118, 101]⟩)), (3, .const (.string ⟨#[122, 111, 101]⟩))] rfl #[(0, .string ⟨#[97, 110, 110]⟩), (1, .string ⟨#[98, 111, 98]⟩), (2, .string ⟨#[101, 118, 101]⟩), (3, .string ⟨#[122, 111, 101]⟩)] (by kernel_rfl) (.slice (some ⟨V.heap.size, 0, none⟩) 4 4) _ (build_nm4 V) ?_
          have hF2 := hF.al HGW.out (.cells (strs nm4).toArray 9)
          exact ⟨true, b1, b2, b3, b4, b5, b6, b7, b8, b9, b10, b11, _, _, _, _, _, _, _, _, rfl, rfl, { hF2 with f12 := fun _ => ⟨_, rfl, hF.bt.1.size, heap_alloc_last V _⟩ }⟩
        · obtain rfl : b1 = false := ready_self hr
          refine st_val rfl (by kernel_rfl) (some 13) rfl (.int .i64 i) V (by kernel_rfl) ?_
          exact ⟨b0, true, b2, b3, b4, b5, b6, b7, b8, b9, b10, b11, x12, x14, x16, x18, x19, x20, x21, x5, rfl, rfl, hF⟩
        · obtain rfl : b2 = false := ready_self hr
          obtain rfl : b0 = true := ready_dep hr 0 (by kernel_rfl)
          obtain rfl : b1 = true := ready_dep hr 1 (by kernel_rfl)
          obtain ⟨q, rfl, hq1, hq2⟩ := hF.f12 rfl
          refine st_val rfl (by kernel_rfl) (some 14) rfl (.pointer (some ⟨q, 0 + i, none⟩)) V (idx_str q 0 4 4 i hi4 _ _ _ rfl (by kernel_rfl) (by kernel_rfl)) ?_
          exact ⟨true, true, true, b3, b4, b5, b6, b7, b8, b9, b10, b11, _, _, _, _, _, _, _, _, rfl, rfl, { hF with f14 := fun _ => ⟨q, rfl, hq1, hq2⟩ }⟩
        · obtain rfl : b3 = false := ready_self hr
          obtain rfl : b2 = true := ready_dep hr 2 (by kernel_rfl)
          obtain ⟨q, rfl, hq1, hq2⟩ := hF.f14 rfl
          refine st_load rfl (by kernel_rfl) (some 15) rfl 9 (.tmp 14) rfl ⟨q, 0 + i, none⟩ (.string (nm4.getD i mtS)) (by kernel_rfl) (load_str hq2 (k := i) hi4) ?_
          exact ⟨b0, b1, true, true, b4, b5, b6, b7, b8, b9, b10, b11, _, _, _, _, _, _, _, _, rfl, rfl, hF⟩
        · obtain rfl : b4 = false := ready_self hr
          refine st_build rfl (by kernel_rfl) (some 16) rfl 66 5 #[(0, .const (.int .u64 100000)), (1, .const (.int .u64 5000)), (2, .const (.int .u64 700)), (3, .const (.int .u64 0)), (4, .const (.int .u64 1099511627776))] rfl #[(0, .int .u64 100000), (1, .int .u64 5000), (2, .int .u64 700), (3, .int .u64 0), (4, .int .u64 1099511627776)] (by kernel_rfl) (.slice (some ⟨V.heap.size, 0, none⟩) 5 5) _ (build_bal V) ?_
          have hF2 := hF.al HGW.out (.cells (u64s bal5).toArray 23)
          exact ⟨b0, b1, b2, b3, true, b5, b6, b7, b8, b9, b10, b11, _, _, _, _, _, _, _, _, rfl, rfl, { hF2 with f16 := fun _ => ⟨_, rfl, hF.bt.1.size, heap_alloc_last V _⟩ }⟩
        · obtain rfl : b5 = false := ready_self hr
          refine st_val rfl (by kernel_rfl) (some 17) rfl (.pointer (some ⟨g, 0, none⟩)) V (by kernel_rfl) ?_
          exact ⟨b0, b1, b2, b3, b4, true, b6, b7, b8, b9, b10, b11, x12, x14, x16, x18, x19, x20, x21, x5, rfl, rfl, hF⟩
        · obtain rfl : b6 = false := ready_self hr
          obtain rfl : b5 = true := ready_dep hr 5 (by kernel_rfl)
          refine st_call rfl (by kernel_rfl) (some 18) rfl 18 #[.pointer (some ⟨g, 0, none⟩), .int .i64 5] (by kernel_rfl) ((CX5 V (hF.n0 rfl)).mono ?_)
          rintro e V2 ⟨v, rfl, hv, hns, hbt⟩
          exact ⟨_, rfl, b0, b1, b2, b3, b4, true, true, b7, b8, b9, b10, b11, _, _, _, _, _, _, _, _, rfl, rfl, hF.s6 hv hns hbt HGW.out⟩
        · obtain rfl : b7 = false := ready_self hr
          obtain rfl : b4 = true := ready_dep hr 4 (by kernel_rfl)
          obtain rfl : b6 = true := ready_dep hr 6 (by kernel_rfl)
          obtain ⟨q, rfl, hq1, hq2⟩ := hF.f16 rfl
          obtain ⟨v, hv, rfl⟩ := hF.f18 rfl
          refine st_val rfl (by kernel_rfl) (some 19) rfl (.pointer (some ⟨q, 0 + v, none⟩)) V (idx_u64 q 0 5 5 v hv _ _ _ rfl (by kernel_rfl) (by kernel_rfl)) ?_
          exact ⟨b0, b1, b2, b3, true, b5, true, true, b8, b9, b10, b11, _, _, _, _, _, _, _, _, rfl, rfl, { hF with f19 := fun _ => ⟨q, v, hv, rfl, hq1, hq2⟩ }⟩
        · obtain rfl : b8 = false := ready_self hr
          obtain rfl : b7 = true := ready_dep hr 7 (by kernel_rfl)
          obtain ⟨q, v, hv, rfl, hq1, hq2⟩ := hF.f19 rfl
          refine st_load rfl (by kernel_rfl) (some 20) rfl 23 (.tmp 19) rfl ⟨q, 0 + v, none⟩ (.int .u64 (bal5.getD v 0)) (by kernel_rfl) (load_u64 hq2 (k := v) hv) ?_
          exact ⟨b0, b1, b2, b3, b4, b5, b6, true, true, b9, b10, b11, _, _, _, _, _, _, _, _, rfl, rfl, { hF with f20 := fun _ => ⟨_, bal_w v, rfl⟩ }⟩
        · obtain rfl : b9 = false := ready_self hr
          obtain rfl : b3 = true := ready_dep hr 3 (by kernel_rfl)
          obtain rfl : b8 = true := ready_dep hr 8 (by kernel_rfl)
          obtain ⟨m, hm, rfl⟩ := hF.f20 rfl
          refine st_val rfl (by kernel_rfl) (some 21) rfl (.agg (acA ((nm4.getD i mtS), m, 0))) V (by kernel_rfl) ?_
          exact ⟨b0, b1, b2, true, b4, b5, b6, b7, true, true, b10, b11, _, _, _, _, _, _, _, _, rfl, rfl, { hF with o12 := fun _ => rfl, f21 := fun _ => ⟨m, hm, rfl⟩ }⟩
        · obtain rfl : b10 = false := ready_self hr
          have h11 := ff hF.o11 rfl
          subst h11
          refine st_val rfl (by kernel_rfl) (some 5) rfl (.pointer (some ⟨V.heap.size, 0, none⟩)) (V.alloc (.cells (acA zAc) 37)) (by kernel_rfl) ?_
          have hF2 := hF.al HGW.out (.cells (acA zAc) 37)
          exact ⟨b0, b1, b2, b3, b4, b5, b6, b7, b8, b9, true, false, _, _, _, _, _, _, _, _, rfl, rfl, { hF2 with o11 := (fun h => nomatch h), f5 := fun _ _ => ⟨_, rfl, hF.bt.1.size, heap_alloc_last V _⟩, d5 := (fun h => nomatch h) }⟩
        · obtain rfl : b11 = false := ready_self hr
          obtain rfl : b10 = true := ready_dep hr 10 (by kernel_rfl)
          obtain rfl : b9 = true := ready_dep hr 9 (by kernel_rfl)
          obtain ⟨q, rfl, hq1, hq2⟩ := hF.f5 rfl rfl
          obtain ⟨m, hm, rfl⟩ := hF.f21 rfl
          obtain ⟨hst, hZ⟩ := store_ac (y := ((nm4.getD i mtS), m, 0)) hq2
          refine st_storeA rfl (by kernel_rfl) rfl 37 (.tmp 5) (.tmp 21) rfl (.pointer (some ⟨q, 0, none⟩)) (.agg (acA ((nm4.getD i mtS), m, 0))) (by kernel_rfl) (by kernel_rfl) _ hst ?_
          exact ⟨b0, b1, b2, b3, b4, b5, b6, b7, b8, true, true, true, _, _, _, _, _, _, _, _, rfl, rfl, hF.s11 hq1 hq2 hm HGW.out HABW.out hZ⟩
      · intro act9 V hJ
        obtain ⟨b0, b1, b2, b3, b4, b5, b6, b7, b8, b9, b10, b11, x12, x14, x16, x18, x19, x20, x21, x5, he, rfl, hF⟩ := hJ
        have he : (#[true, true, true, true, true, true, true, true, true, true, true, true] : Array Bool) = #[b0, b1, b2, b3, b4, b5, b6, b7, b8, b9, b10, b11] := he
        simp only [Array.mk.injEq, List.cons.injEq, and_true] at he
        obtain ⟨rfl, rfl, rfl, rfl, rfl, rfl, rfl, rfl, rfl, rfl, rfl, rfl⟩ := he
        simp only [cond_true]
        obtain ⟨q, m, hm, rfl, hq1, hbx⟩ := hF.d5 rfl
        have hns5 := hF.ns
        have hbt5 := hF.bt
        have hnm := HQ4.out i hi4
        generalize nm4.getD i mtS = nm at *
        clear hF h0 CX5
        go_upto_region 6 with fail
        apply wp_region_lit
        refine gw_val (by kernel_rfl) (some 22) rfl (.pointer (some ⟨g, 0, none⟩)) (by kernel_rfl) ?_
        simp only [pu1, pu2, pu3, pu4]
        refine gw_callE (by kernel_rfl) (some 23) rfl 18 #[.pointer (some ⟨g, 0, none⟩), .int .i64 6] (fun v w' => ∃ q : Nat, v = .int .i64 q ∧ (q : Int) < 6 ∧ NS w' g a c L ((kk + 1) + 1) ∧ But g V w') (by kernel_rfl) ((ns_next hns5 HL.out (by have := HK2.out.2; omega) 6 (by decide) (by decide)).mono fun e w' z => by obtain ⟨q, h1, h2⟩ := z; exact ⟨_, h1, q, rfl, h2⟩) (fun vv V6 hq => ?_)
        obtain ⟨v6, rfl, hv6, hns6, hbut6⟩ := hq
        simp only [pu1, pu2, pu3, pu4]
        have hX6 := hbx.but hbut6 (by have := HGW.out; omega)
        have HBT := Lib.hid (hbt5.trans hbut6)
        have HN6 := Lib.hid hns6
        clear hns5 hbt5 hbx hbut6 hns6
        by_cases hv0 : v6 = 0
        · skip
          subst hv0
          refine gw_val (by kernel_rfl) (some 24) rfl (.bool true) (eql_n rfl ((0 : Nat)) (0) (decide_eq_true (rfl)) (by kernel_rfl) (by kernel_rfl) _) ?_
          simp only [pu1, pu2, pu3, pu4]
          apply wpList_nil
          have hbs := build_seq V6
          have hbq : Bx (V6.alloc (.cells (u64s seq3).toArray 23)) V6.heap.size (u64s seq3).toArray 23 := heap_alloc_last V6 _
          have hbw : Below V6.heap.size V6 (V6.alloc (.cells (u64s seq3).toArray 23)) := (Below.refl _ V6).alloc (Nat.le_refl _) _
          have hX6b := hX6.below hX6.lt hbw
          have hn7 := HN6.out.below hbw
          have hbt7 := But.of_below hbw (Nat.le_of_lt HN6.out.lt)
          have hqne : V6.heap.size ≠ g := by have := HN6.out.lt; omega
          have hqn2 : V6.heap.size ≠ q := by have := hX6.lt; omega
          generalize V6.alloc (.cells (u64s seq3).toArray 23) = V65 at *
          have CX3 := ns_next hn7 HL.out (by have := HK2.out.2; omega) 3 (by decide) (by decide)
          obtain ⟨g7, hg7⟩ : ∃ g7, V6.heap.size = g7 := ⟨_, rfl⟩
          rw [hg7] at hbq hbs hqne hqn2
          go_upto_region 7 with fail
          apply wp_region_lit
          refine gw_build (by kernel_rfl) (some 25) rfl 66 3 #[(0, .const (.int .u64 5)), (1, .const (.int .u64 18446744073709551615)), (2, .const (.int .u64 18446744073709551614))] rfl #[(0, .int .u64 5), (1, .int .u64 18446744073709551615), (2, .int .u64 18446744073709551614)] (by kernel_rfl) (.slice (some ⟨g7, 0, none⟩) 3 3) _ hbs ?_
          simp only [pu1, pu2, pu3, pu4]
          refine gw_val (by kernel_rfl) (some 26) rfl (.pointer (some ⟨g, 0, none⟩)) (by kernel_rfl) ?_
          simp only [pu1, pu2, pu3, pu4]
          refine gw_callE (by kernel_rfl) (some 27) rfl 18 #[.pointer (some ⟨g, 0, none⟩), .int .i64 3] (fun v w' => ∃ q : Nat, v = .int .i64 q ∧ (q : Int) < 3 ∧ NS w' g a c L ((kk + 1 + 1) + 1) ∧ But g V65 w') (by kernel_rfl) ((CX3).mono fun e w' z => by obtain ⟨q, h1, h2⟩ := z; exact ⟨_, h1, q, rfl, h2⟩) (fun vv V7 hq => ?_)
          obtain ⟨v7, rfl, hv7, hns7, hbut7⟩ := hq
          have hbq7 := hbq.but hbut7 hqne
          have hX7 := hX6b.but hbut7 (by have := HGW.out; omega)
          have hv7n : v7 < 3 := by omega
          obtain ⟨V8, hst8, hX8, -, hbut8⟩ := st_cell (i := 2) (ty := 23) (v := .int .u64 (seq3.getD v7 0)) (cs' := acA (nm, m, seq3.getD v7 0)) (w0 := V7) (B := q) hX7 (Below.refl _ _) (Nat.le_refl _) (by show 2 < 3; decide) rfl (by kernel_rfl) rfl
          simp only [pu1, pu2, pu3, pu4]
          refine gw_val (by kernel_rfl) (some 28) rfl (.pointer (some ⟨g7, 0 + v7, none⟩)) (idx_u64 g7 0 3 3 v7 hv7n _ _ _ rfl (by kernel_rfl) (by kernel_rfl)) ?_
          simp only [pu1, pu2, pu3, pu4]
          refine gw_load (by kernel_rfl) (some 29) rfl 23 (.tmp 28) rfl ⟨g7, 0 + v7, none⟩ (.int .u64 (seq3.getD v7 0)) (by kernel_rfl) (load_u64 hbq7 (k := v7) hv7n) ?_
          simp only [pu1, pu2, pu3, pu4]
          refine gw_val (by kernel_rfl) (some 30) rfl (.pointer (some ⟨q, 2, none⟩)) (by kernel_rfl) ?_
          simp only [pu1, pu2, pu3, pu4]
          refine gw_store (by kernel_rfl) rfl 23 (.tmp 30) (.tmp 29) rfl (.pointer (some ⟨q, 2, none⟩)) (.int .u64 (seq3.getD v7 0)) (by kernel_rfl) (by kernel_rfl) (V8) (hst8) ?_
          apply wpList_nil
          have hsq := seq_w v7
          generalize seq3.getD v7 0 = sq at *
          have HBT8 := Lib.hid (but_at (HBT.out.trans (hbt7.trans hbut7)) hbut8 hq1 (by have := HGW.out; omega))
          have HN8 := Lib.hid ((hns7.butA hbut8 hq1 HGW.out HABW.out))
          clear hbs hbq hbw hX6b hn7 hbt7 CX3 hbq7 hX7 hst8 hbut8 hbut7 hns7 HBT HN6
          obtain ⟨a7, c7, V9, hap, hr9, hb9⟩ := grow_ac (w := V8) (own_gt HR.out HBT8.out HG.out HWS.out) (Nat.le_trans HWS.out HBT8.out.1.size) (nm, m, sq) (by have := HG2.out; omega)
          have HR9 := Lib.hid hr9
          have HB9 := Lib.hid ((HB.out.trans HBT8.out).more2 hb9 HG.out)
          have HQ9 : Hid (∀ x, x ∈ A ++ [(nm, m, sq)] → AcQ x) := Lib.hid (fun x hx => by
            rcases List.mem_append.1 hx with hx | hx
            · exact HQ.out x hx
            · rw [List.mem_singleton] at hx
              subst hx
              exact ⟨hnm, hm, hsq⟩)
          have HN9 := Lib.hid (ns_more HN8.out hb9 HG.out HAB.out)
          have HLN : Hid (A.length < (A ++ [(nm, m, sq)]).length ∧ (A ++ [(nm, m, sq)]).length = A.length + 1) := Lib.hid (by rw [List.length_append]; exact ⟨Nat.lt_succ_self _, rfl⟩)
          have hbd := build_ac (nm, m, sq) V8
          go_upto_region 8 with fail
          apply wp_region_lit
          refine gw_val (by kernel_rfl) (some 31) rfl (.slice p3 k3 d3) (by kernel_rfl) ?_
          simp only [pu1, pu2, pu3, pu4]
          refine gw_load (by kernel_rfl) (some 32) rfl 37 (.tmp 5) rfl ⟨q, 0, none⟩ (.agg (acA (nm, m, sq))) (by kernel_rfl) (load_acb hX8) ?_
          simp only [pu1, pu2, pu3, pu4]
          refine gw_build (by kernel_rfl) (some 33) rfl 22 1 #[(0, .tmp 32)] rfl #[(0, .agg (acA (nm, m, sq)))] (by kernel_rfl) (.slice (some ⟨V8.heap.size, 0, none⟩) 1 1) _ hbd ?_
          simp only [pu1, pu2, pu3, pu4]
          refine append_step rfl (some 34) rfl 22 rfl (.tmp 31) (.tmp 33) 22 rfl (.slice p3 k3 d3) (.slice (some ⟨V8.heap.size, 0, none⟩) 1 1) (.slice a7 (A ++ [(nm, m, sq)]).length c7) V9 (by kernel_rfl) (by kernel_rfl) hap ?_
          simp only [pu1, pu2, pu3, pu4]
          refine gw_val (by kernel_rfl) (some 3) rfl (.slice a7 (A ++ [(nm, m, sq)]).length c7) (by kernel_rfl) ?_
          simp only [pu1, pu2, pu3, pu4]
          apply wpList_nil
          clear hap hbd hr9 hb9
          go_upto_region 4 with fail
          apply wp_region_lit
          refine gw_val (by kernel_rfl) (some 10) rfl (.int .i64 i) (by kernel_rfl) ?_
          simp only [pu1, pu2, pu3, pu4]
          refine gw_val (by kernel_rfl) (some 11) rfl (.int .i64 ((i : Int) - 1)) (sub_one rfl i (by omega) (by kernel_rfl) _) ?_
          simp only [pu1, pu2, pu3, pu4]
          refine gw_val (by kernel_rfl) (some 4) rfl (.int .i64 ((i : Int) - 1)) (by kernel_rfl) ?_
          simp only [pu1, pu2, pu3, pu4]
          apply wpList_nil
          go_wp2_with fail
          go_roundg i
          case measure => have := HG2.out; omega
          case rel => exact ⟨(i : Int) - 1, a7, _, c7, A ++ [(nm, m, sq)], rfl, rfl, by omega, by omega, by have := HG2.out; have := HLN.out.2; omega, HR9, HQ9, Lib.hid (HN9.out.mono (by have := HK2.out.1; have := HLN.out.2; omega)), HB9, by omega⟩
        · skip
          refine gw_val (by kernel_rfl) (some 24) rfl (.bool false) (eql_n rfl (v6) (0) (decide_eq_false (by omega)) (by kernel_rfl) (by kernel_rfl) _) ?_
          simp only [pu1, pu2, pu3, pu4]
          apply wpList_nil
          have hsq : W64 0 := w64_0
          obtain ⟨a7, c7, V9, hap, hr9, hb9⟩ := grow_ac (w := V6) (own_gt HR.out HBT.out HG.out HWS.out) (Nat.le_trans HWS.out HBT.out.1.size) (nm, m, 0) (by have := HG2.out; omega)
          have HR9 := Lib.hid hr9
          have HB9 := Lib.hid ((HB.out.trans HBT.out).more2 hb9 HG.out)
          have HQ9 : Hid (∀ x, x ∈ A ++ [(nm, m, 0)] → AcQ x) := Lib.hid (fun x hx => by
            rcases List.mem_append.1 hx with hx | hx
            · exact HQ.out x hx
            · rw [List.mem_singleton] at hx
              subst hx
              exact ⟨hnm, hm, hsq⟩)
          have HN9 := Lib.hid (ns_more HN6.out hb9 HG.out HAB.out)
          have HLN : Hid (A.length < (A ++ [(nm, m, 0)]).length ∧ (A ++ [(nm, m, 0)]).length = A.length + 1) := Lib.hid (by rw [List.length_append]; exact ⟨Nat.lt_succ_self _, rfl⟩)
          have hbd := build_ac (nm, m, 0) V6
          go_upto_region 8 with fail
          apply wp_region_lit
          refine gw_val (by kernel_rfl) (some 31) rfl (.slice p3 k3 d3) (by kernel_rfl) ?_
          simp only [pu1, pu2, pu3, pu4]
          refine gw_load (by kernel_rfl) (some 32) rfl 37 (.tmp 5) rfl ⟨q, 0, none⟩ (.agg (acA (nm, m, 0))) (by kernel_rfl) (load_acb hX6) ?_
          simp only [pu1, pu2, pu3, pu4]
          refine gw_build (by kernel_rfl) (some 33) rfl 22 1 #[(0, .tmp 32)] rfl #[(0, .agg (acA (nm, m, 0)))] (by kernel_rfl) (.slice (some ⟨V6.heap.size, 0, none⟩) 1 1) _ hbd ?_
          simp only [pu1, pu2, pu3, pu4]
          refine append_step rfl (some 34) rfl 22 rfl (.tmp 31) (.tmp 33) 22 rfl (.slice p3 k3 d3) (.slice (some ⟨V6.heap.size, 0, none⟩) 1 1) (.slice a7 (A ++ [(nm, m, 0)]).length c7) V9 (by kernel_rfl) (by kernel_rfl) hap ?_
          simp only [pu1, pu2, pu3, pu4]
          refine gw_val (by kernel_rfl) (some 3) rfl (.slice a7 (A ++ [(nm, m, 0)]).length c7) (by kernel_rfl) ?_
          simp only [pu1, pu2, pu3, pu4]
          apply wpList_nil
          clear hap hbd hr9 hb9
          go_upto_region 4 with fail
          apply wp_region_lit
          refine gw_val (by kernel_rfl) (some 10) rfl (.int .i64 i) (by kernel_rfl) ?_
          simp only [pu1, pu2, pu3, pu4]
          refine gw_val (by kernel_rfl) (some 11) rfl (.int .i64 ((i : Int) - 1)) (sub_one rfl i (by omega) (by kernel_rfl) _) ?_
          simp only [pu1, pu2, pu3, pu4]
          refine gw_val (by kernel_rfl) (some 4) rfl (.int .i64 ((i : Int) - 1)) (by kernel_rfl) ?_
          simp only [pu1, pu2, pu3, pu4]
          apply wpList_nil
          go_wp2_with fail
          go_roundg i
          case measure => have := HG2.out; omega
          case rel => exact ⟨(i : Int) - 1, a7, _, c7, A ++ [(nm, m, 0)], rfl, rfl, by omega, by omega, by have := HG2.out; have := HLN.out.2; omega, HR9, HQ9, Lib.hid (HN9.out.mono (by have := HK2.out.1; have := HLN.out.2; omega)), HB9, by omega⟩
    · skip
      have HE := Lib.hid (⟨p3, d3, A, by rw [own_len HR.out], by rw [own_len HR.out]; exact HR.out, HQ.out, by omega, HN.out.mono (by omega), HB.out⟩ : AcO w g a c L k (.returned (.slice p3 k3 d3)) wr)
      clear HR HQ HN HB hg
      go_upto_region 3 with fail
      apply wp_region_lit
      refine gw_val (by kernel_rfl) (some 8) rfl (.int .i64 z) (by kernel_rfl) ?_
      simp only [pu1, pu2, pu3, pu4]
      refine gw_val (by kernel_rfl) (some 9) rfl (.bool false) (geq_n rfl (z) (0) (decide_eq_false (by omega)) (by kernel_rfl) (by kernel_rfl) _) ?_
      simp only [pu1, pu2, pu3, pu4]
      apply wpList_nil
      go_upto_region 9 with fail
      apply wp_region_lit
      refine gw_val (by kernel_rfl) (some 35) rfl (.slice p3 k3 d3) (by kernel_rfl) ?_
      simp only [pu1, pu2, pu3, pu4]
      refine gw_val (by kernel_rfl) (some 2) rfl (.slice p3 k3 d3) (by kernel_rfl) ?_
      simp only [pu1, pu2, pu3, pu4]
      apply wpList_nil
      go_wp2_with fail
      go_ret
      exact HE.out
end Go.Proofs.YtebnlklodokhkaaDoor.Lg
