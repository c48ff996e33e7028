/-
  Transfers and transactions in memory; which transactions are valid.
-/
import Derived.Test.YtaaeepanelmgnaaUS
import Derived.Test.YtaaeepanelmgnaaUN
namespace Go.Proofs.Ytaaeepanelmgnaa
open Go.RowKit
set_option linter.unusedSimpArgs false
set_option linter.unusedVariables false

abbrev Tf := ByteArray × Int
def tfl (x : Tf) : List Value := [.string x.1, .int .u64 x.2]
abbrev tfA (x : Tf) : Array Value := #[.string x.1, .int .u64 x.2]
def tfc (A : List Tf) : List Value := A.flatMap tfl
def tfa (A : List Tf) (j : Nat) : Tf := A.getD j (ByteArray.empty, 0)
theorem tfa_get {A : List Tf} {j : Nat} (h : j < A.length) : tfa A j = A[j] := getD_lt A j _ h
theorem tfc_cons (x : Tf) (r : List Tf) : tfc (x :: r) = .string x.1 :: .int .u64 x.2 :: tfc r := rfl
theorem tfc_app (A B : List Tf) : tfc (A ++ B) = tfc A ++ tfc B := by simp [tfc]
theorem tfc_len : ∀ A : List Tf, (tfc A).length = A.length * 2
  | [] => rfl
  | x :: r => by have := tfc_len r; rw [tfc_cons]; simp; omega
theorem tfc_one (A : List Tf) : ∀ u ∈ tfc A, u.oneCell' = true := fun u hu => by
  obtain ⟨x, -, hx⟩ := List.mem_flatMap.1 hu
  simp only [tfl, List.mem_cons, List.not_mem_nil, or_false] at hx
  rcases hx with rfl | rfl <;> rfl
theorem tfA_one (x : Tf) : (tfA x).all (·.oneCell') = true := by simp [Value.oneCell']
theorem tfc_at : ∀ (A : List Tf) (k : Nat), k < A.length → (tfc A)[k * 2]? = some (.string (tfa A k).1) ∧ (tfc A)[k * 2 + 1]? = some (.int .u64 (tfa A k).2)
  | [], k, h => absurd h (by simp)
  | x :: r, 0, h => by rw [tfc_cons]; exact ⟨rfl, rfl⟩
  | x :: r, k + 1, h => by
    have := tfc_at r k (by simpa using h)
    rw [tfc_cons, show (k + 1) * 2 = k * 2 + 1 + 1 by omega, show k * 2 + 1 + 1 + 1 = (k * 2 + 1) + 1 + 1 by omega]
    simpa [tfa, List.getD] using this
theorem infoT : (Try.prog.info? 58).map (fun i => (i.zero, i.size, i.bytes)) = some (some (.agg #[.string ByteArray.empty, .int .u64 0]), 2, 24) := by kernel_rfl
theorem tf_range {w : World} {a : Option Addr} {A : List Tf} (h : Cs w a (tfc A)) {k : Nat} (hk : k < A.length) : ∃ b off, a = some ⟨b, off, none⟩ ∧ b < w.heap.size ∧ w.rangeAt b (off + k * 2) (tfl (tfa A k)) := by
  obtain ⟨h0, h1⟩ := tfc_at A k hk
  obtain ⟨b, off, rfl, hb, c0⟩ := h _ _ h0
  obtain ⟨b1, off1, e1, -, c1⟩ := h _ _ h1
  simp only [Option.some.injEq, Addr.mk.injEq, and_true] at e1
  obtain ⟨rfl, rfl⟩ := e1
  refine ⟨b, off, rfl, hb, fun j v hj => ?_⟩
  have hj2 : j < 2 := by
    have := (List.getElem?_eq_some_iff.1 hj).1
    simpa [tfl] using this
  rcases (show j = 0 ∨ j = 1 by omega) with rfl | rfl
  · simp [tfl] at hj; rw [← hj]; exact c0
  · simp [tfl] at hj; rw [← hj, Nat.add_assoc]; exact c1
theorem load_tf {w : World} {b o : Nat} {x : Tf} (h : w.rangeAt b o (tfl x)) : (Instr.loadAt 58 (.pointer (some ⟨b, o, none⟩))).run Try.prog w = .ok (.agg (tfA x)) w :=
  run_loadAt_mid w b o 58 (tfl x) _ h Try.underlying58 rfl (by kernel_rfl)
theorem idx_tf (b off n c k : Nat) (hk : k < n) (V : World) (ρ : Operand → Value) (o : Oper) {x y : Operand} (ho : o.op = .indexAddr 27 x y) (hx : ρ x = .slice (some ⟨b, off, none⟩) n c) (hy : ρ y = .int .i64 k) : (execOp ρ o).run Try.prog V = .ok (.value (.pointer (some ⟨b, off + k * 2, none⟩))) V := by
  have hs : (sizeOf (Try.prog.elem 27)).run Try.prog V = .ok 2 V := by kernel_rfl
  have hlm : (k : Int) < (n : Int) := by omega
  unfold execOp
  simp only [ho, hx, hy]
  go_simp
def zTf : Tf := (ByteArray.empty, 0)
theorem store_tf {w : World} {g : Nat} {x y : Tf} (h : Bx w g (tfA x) 58) : (Instr.storeAt 58 (.pointer (some ⟨g, 0, none⟩)) (.agg (tfA y))).run Try.prog w = .ok () (w.setRow g (tfA y)) ∧ Bx (w.setRow g (tfA y)) g (tfA y) 58 :=
  ⟨run_store_all h rfl (tfA_one y) (by kernel_rfl), h.set⟩
theorem new_tf (V : World) (x : Tf) : ∃ V2, (Instr.storeAt 58 (.pointer (some ⟨V.heap.size, 0, none⟩)) (.agg (tfA x))).run Try.prog (V.alloc (.cells (tfA zTf) 58)) = .ok () V2 ∧ Below V.heap.size V V2 ∧ Bx V2 V.heap.size (tfA x) 58 :=
  have hb : Bx (V.alloc (.cells (tfA zTf) 58)) V.heap.size (tfA zTf) 58 := heap_alloc_last V _
  ⟨_, (store_tf hb).1, belowRow ((Below.refl _ V).alloc (Nat.le_refl _) _) (Nat.le_refl _) _, (store_tf hb).2⟩
/-- A transaction without its transfers' place. -/
structure Txd where
  snd : ByteArray
  sq : Int
  gas : Int
  fee : Int
  memo : ByteArray
  tr : List Tf
abbrev txA (x : Txd) (a : Option Addr) (c : Nat) : Array Value := #[.string x.snd, .int .u64 x.sq, .int .u64 x.gas, .int .u64 x.fee, .string x.memo, .slice a x.tr.length c]
/-- Validate over lists: the transfers, then all. -/
def valT : List Tf → Int
  | [] => 0
  | x :: r => if isName (nums x.1) = false then 10 else if x.2 = 0 then 12 else valT r
def valX (x : Txd) : Int := if isName (nums x.snd) = false then 10 else if x.gas = 0 then 15 else if isMemo (nums x.memo) = false then 11 else if x.tr.length = 0 ∨ 16 < x.tr.length then 3 else valT x.tr
/-- No error ahead of a place. -/
def Okt (A : List Tf) (j : Nat) : Prop := valT A = valT (A.drop j)
theorem Okt.zero (A : List Tf) : Okt A 0 := rfl
theorem drop_tf {A : List Tf} {j : Nat} (h : j < A.length) : A.drop j = tfa A j :: A.drop (j + 1) := by rw [tfa_get h, List.getElem_cons_drop]
theorem Okt.name {A : List Tf} {j : Nat} (h : Okt A j) (hj : j < A.length) (hn : isName (nums (tfa A j).1) = false) : valT A = 10 := by
  rw [h, drop_tf hj]
  simp [valT, hn]
theorem Okt.zam {A : List Tf} {j : Nat} (h : Okt A j) (hj : j < A.length) (hn : isName (nums (tfa A j).1) = true) (h0 : (tfa A j).2 = 0) : valT A = 12 := by
  rw [h, drop_tf hj]
  simp [valT, hn, h0]
theorem Okt.step {A : List Tf} {j : Nat} (h : Okt A j) (hj : j < A.length) (hn : isName (nums (tfa A j).1) = true) (h0 : (tfa A j).2 ≠ 0) : Okt A (j + 1) := by
  unfold Okt at h ⊢
  rw [h, drop_tf hj]
  simp [valT, hn, h0]
theorem Okt.done {A : List Tf} {j : Nat} (h : Okt A j) (hj : A.length ≤ j) : valT A = 0 := by
  rw [h, List.drop_eq_nil_of_le hj]
  rfl
end Go.Proofs.Ytaaeepanelmgnaa
