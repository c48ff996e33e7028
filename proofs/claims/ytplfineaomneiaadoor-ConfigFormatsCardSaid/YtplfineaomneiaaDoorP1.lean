/-
 Arguments opened: a slice of ints, bytes, a configuration.
-/
import Derived.Test.YtplfineaomneiaaDoorRows
import Derived.Test.YtplfineaomneiaaDoorPZ
import Derived.ProofKit
import Derived.OpenShut
import Derived.ChangeOld
import Derived.Below
import Derived.SizedLaws
namespace Go.Proofs.YtplfineaomneiaaDoor
open Go.ChangeShapes Go.WideShapes Go.ChangeAt Go.RowKit
set_option linter.unusedVariables false
theorem i64_of_wf {x : Int} (h : (Lit.int .i64 x).wf = true) : -9223372036854775808 ≤ x ∧ x < 9223372036854775808 := by
 simp [Lit.wf, IntKind.min, IntKind.max, IntKind.signed, IntKind.bits] at h
 exact ⟨by omega, by omega⟩
theorem u64_of_wf {x : Int} (h : (Lit.int .u64 x).wf = true) : 0 ≤ x ∧ x < 18446744073709551616 := by
 simp [Lit.wf, IntKind.min, IntKind.max, IntKind.signed, IntKind.bits] at h
 exact ⟨by omega, by omega⟩
theorem u8_of_wf {x : Int} (h : (Lit.int .u8 x).wf = true) : 0 ≤ x ∧ x ≤ 255 := by
 simp [Lit.wf, IntKind.min, IntKind.max, IntKind.signed, IntKind.bits] at h
 exact ⟨by omega, by omega⟩
theorem size_list (x : ByteArray) : x.data.toList.length = x.size := Array.length_toList
set_option maxRecDepth 100000 in
theorem ints_arg {H : Type} {enc : TypeId × Value → H} {W : World} {fuel : Nat} {cs : List Value} {y : DataW H × List MemPlace} (h : DataW.trod enc Tryd.prog W 0 (fun _ => true) true fuel 25 cs = some y) (hz : ∀ n, n ∈ y.1.weights Tryd.prog 25 → n ≤ reachBytes) :
    ∃ a cap L, cs = [.slice a (List.length L) cap] ∧ L.length * 8 ≤ 140737488351232 ∧ Cs W a (icells L) := by
 rcases open_ints Tryd.underlying25 Tryd.underlying3 (by kernel_rfl) h with ⟨rfl, rfl⟩ | ⟨x, l, c, zs, rfl, _, hl, hm, hzl, rfl, hcell, hwz⟩
 · exact ⟨none, 0, [], rfl, by simp, Cs.nil _ _⟩
 · have hz' : zs.length = c := by simpa using hzl
   have hlen : (zs.take l).length = l := by rw [List.length_take]; omega
   have h8 : Tryd.prog.bytesOf 3 = 8 := by kernel_rfl
   have hr : reachBytes = 140737488351232 := rfl
   have hw := hz (((lits (H := H) .i64 (zs.take l)).length + (lits (H := H) .i64 (zs.drop l)).length) * 8) (by simp [DataW.weights, Tryd.underlying25, h8])
   have e1 : (lits (H := H) .i64 (zs.take l)).length = l := by unfold lits; rw [List.length_map]; exact hlen
   refine ⟨some x, c, zs.take l, by rw [hlen], by rw [hlen]; rw [hr, e1] at hw; omega, fun j v hj => ?_⟩
   have hjl : j < (zs.take l).length := by
    have := (List.getElem?_eq_some_iff.1 hj).1
    simpa [icells] using this
   have hjz : j < zs.length := by omega
   obtain ⟨b, off, rfl, hc⟩ := ints_at hcell (by omega)
   rw [icells_at _ _ hjl] at hj
   simp only [Option.some.injEq] at hj
   have hcj := hc j hjz
   refine ⟨b, off, rfl, World.block_lt_of_cell? W _ hcj, ?_⟩
   rw [hcj, ← hj]
   simp [List.getD, show j < l by omega]
set_option maxRecDepth 100000 in
theorem bytes_arg {H : Type} {enc : TypeId × Value → H} {W : World} {fuel : Nat} {cs : List Value} {y : DataW H × List MemPlace} (h : DataW.trod enc Tryd.prog W 0 (fun _ => true) true fuel 38 cs = some y) :
    ∃ a cap L, cs = [.slice a (List.length L) cap] ∧ Cs W a (u8s L) ∧ ∀ x ∈ L, 0 ≤ x ∧ x ≤ 255 := by
 rcases open_ints Tryd.underlying38 Tryd.underlying5 (by kernel_rfl) h with ⟨rfl, rfl⟩ | ⟨x, l, c, zs, rfl, _, hl, hm, hzl, rfl, hcell, hwz⟩
 · exact ⟨none, 0, [], rfl, Cs.nil _ _, fun x hx => by cases hx⟩
 · have hz' : zs.length = c := by simpa using hzl
   have hlen : (zs.take l).length = l := by rw [List.length_take]; omega
   refine ⟨some x, c, zs.take l, by rw [hlen], fun j v hj => ?_, fun y hy => u8_of_wf (hwz y (List.mem_of_mem_take hy))⟩
   have hjl : j < (zs.take l).length := by
    have := (List.getElem?_eq_some_iff.1 hj).1
    rwa [u8s_len] at this
   have hjz : j < zs.length := by omega
   obtain ⟨b, off, rfl, hc⟩ := ints_at hcell (by omega)
   rw [u8s_at _ _ hjl] at hj
   simp only [Option.some.injEq] at hj
   have hcj := hc j hjz
   refine ⟨b, off, rfl, World.block_lt_of_cell? W _ hcj, ?_⟩
   rw [hcj, ← hj]
   simp [List.getD, show j < l by omega]
set_option maxRecDepth 100000 in
theorem cfg_arg {H : Type} {enc : TypeId × Value → H} {W : World} {fuel : Nat} {cs : List Value} {y : DataW H × List MemPlace} (h : DataW.trod enc Tryd.prog W 0 (fun _ => true) true fuel 24 cs = some y) :
    ∃ c, cs = (cfA c).toList ∧ CfOk c := by
 obtain ⟨xs, n, _, rfl, hl, hlen, hf⟩ := DataW.trod_struct Tryd.underlying24 h
 have hc : Tryd.prog.cellsOf 24 = 12 := by kernel_rfl
 have ki : Tryd.prog.cellsOf 3 = 1 := by kernel_rfl
 have kb : Tryd.prog.cellsOf 4 = 1 := by kernel_rfl
 have ku : Tryd.prog.cellsOf 22 = 1 := by kernel_rfl
 rw [hc] at hl
 match xs, hlen, cs, hl with
 | [y0, y1, y2, y3, y4, y5, y6, y7, y8, y9, y10, y11], _, [c0, c1, c2, c3, c4, c5, c6, c7, c8, c9, c10, c11], _ =>
  obtain ⟨n0, e0, -, w0⟩ := (DataW.trod_int (k := .i64) Tryd.underlying3 ((hf 0 { name := "MaxTxs", type := 3, offset := 0, embedded := false, tag := "", pkgPath := "", byteOffset := 0 } rfl).trans (by rfl)))
  obtain ⟨n1, e1, -, w1⟩ := (DataW.trod_int (k := .i64) Tryd.underlying3 ((hf 1 { name := "MaxBytes", type := 3, offset := 1, embedded := false, tag := "", pkgPath := "", byteOffset := 8 } rfl).trans (by rfl)))
  obtain ⟨n2, e2, -, w2⟩ := (DataW.trod_int (k := .i64) Tryd.underlying3 ((hf 2 { name := "MaxTxBytes", type := 3, offset := 2, embedded := false, tag := "", pkgPath := "", byteOffset := 16 } rfl).trans (by rfl)))
  obtain ⟨n3, e3, -, w3⟩ := (DataW.trod_int (k := .i64) Tryd.underlying3 ((hf 3 { name := "CacheSize", type := 3, offset := 3, embedded := false, tag := "", pkgPath := "", byteOffset := 24 } rfl).trans (by rfl)))
  obtain ⟨n4, e4, -, w4⟩ := (DataW.trod_int (k := .i64) Tryd.underlying3 ((hf 4 { name := "TTLBlocks", type := 3, offset := 4, embedded := false, tag := "", pkgPath := "", byteOffset := 32 } rfl).trans (by rfl)))
  obtain ⟨n5, e5, -, w5⟩ := (DataW.trod_int (k := .i64) Tryd.underlying3 ((hf 5 { name := "TTLTime", type := 3, offset := 5, embedded := false, tag := "", pkgPath := "", byteOffset := 40 } rfl).trans (by rfl)))
  obtain ⟨q6, e6, -⟩ := (DataW.trod_bool Tryd.underlying4 ((hf 6 { name := "KeepInvalid", type := 4, offset := 6, embedded := false, tag := "", pkgPath := "", byteOffset := 48 } rfl).trans (by rfl)))
  obtain ⟨n7, e7, -, w7⟩ := (DataW.trod_int (k := .i64) Tryd.underlying3 ((hf 7 { name := "BlockBytes", type := 3, offset := 7, embedded := false, tag := "", pkgPath := "", byteOffset := 56 } rfl).trans (by rfl)))
  obtain ⟨n8, e8, -, w8⟩ := (DataW.trod_int (k := .i64) Tryd.underlying3 ((hf 8 { name := "BlockGas", type := 3, offset := 8, embedded := false, tag := "", pkgPath := "", byteOffset := 64 } rfl).trans (by rfl)))
  obtain ⟨n9, e9, -, w9⟩ := (DataW.trod_int (k := .u64) Tryd.underlying22 ((hf 9 { name := "Price", type := 22, offset := 9, embedded := false, tag := "", pkgPath := "", byteOffset := 72 } rfl).trans (by rfl)))
  obtain ⟨n10, e10, -, w10⟩ := (DataW.trod_int (k := .i64) Tryd.underlying3 ((hf 10 { name := "Self", type := 3, offset := 10, embedded := false, tag := "", pkgPath := "", byteOffset := 80 } rfl).trans (by rfl)))
  obtain ⟨n11, e11, -, w11⟩ := (DataW.trod_int (k := .i64) Tryd.underlying3 ((hf 11 { name := "Nodes", type := 3, offset := 11, embedded := false, tag := "", pkgPath := "", byteOffset := 88 } rfl).trans (by rfl)))
  simp only [ki, kb, ku, List.drop_zero, List.drop_succ_cons, List.take_succ_cons, List.take_zero, List.cons.injEq, and_true] at e0 e1 e2 e3 e4 e5 e6 e7 e8 e9 e10 e11
  subst e0 e1 e2 e3 e4 e5 e6 e7 e8 e9 e10 e11
  refine ⟨[n0, n1, n2, n3, n4, n5, (if q6 then 1 else 0), n7, n8, n9, n10, n11], ?_, rfl, ?_, (u64_of_wf w9).1, (u64_of_wf w9).2, fun i hi h9 => ?_⟩
  · cases q6 <;> rfl
  · cases q6 <;> simp
  · match i, hi, h9 with
    | 0, _, _ => exact i64_of_wf w0
    | 1, _, _ => exact i64_of_wf w1
    | 2, _, _ => exact i64_of_wf w2
    | 3, _, _ => exact i64_of_wf w3
    | 4, _, _ => exact i64_of_wf w4
    | 5, _, _ => exact i64_of_wf w5
    | 6, _, _ => cases q6 <;> simp
    | 7, _, _ => exact i64_of_wf w7
    | 8, _, _ => exact i64_of_wf w8
    | 9, _, h9 => exact absurd rfl h9
    | 10, _, _ => exact i64_of_wf w10
    | 11, _, _ => exact i64_of_wf w11
end Go.Proofs.YtplfineaomneiaaDoor
