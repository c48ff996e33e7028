/-
  The contracts of the code's Compare, and of the library's bytes.Compare and strings.IndexByte.
-/
import Derived.Test.YtapojahoaglgaaaDoorKR7
import Derived.Lib.BytesEntry
import Derived.Deep.QuietTactic
import Derived.BigQuiet
namespace Go.Proofs.YtapojahoaglgaaaDoor
open Go.RowKit

theorem load_sl {w : World} {a : Option Addr} {c : Nat} {L : List Int} (h : Sl w a c L) : (Extern.Bytes.bytesOf (.slice a L.length c)).run Tryd.prog w = .ok (strOfNums L) w := by
  rcases h with ⟨rfl, rfl, rfl⟩ | ⟨x, rfl, hx⟩
  · rfl
  · have := Lib.run_loadBytesX (P := Tryd.prog) w L x .empty (fun j y hj => by
      have hjl : j < L.length := (List.getElem?_eq_some_iff.1 hj).1
      obtain ⟨b, off, rfl, hc⟩ := hx j hjl
      have e : (⟨b, off, none⟩ : Addr).add j = ⟨b, off + j, none⟩ := by unfold Addr.add; split <;> simp_all
      rw [e, hc, List.getD_eq_getElem?_getD, hj]
      rfl)
    simp only [Extern.Bytes.bytesOf]
    rw [this]
    congr 1
    apply ByteArray.ext
    simp [strOfNums, Lib.bytesOf]
theorem u8_lt {a b : Int} (ha : W8 a) (hb : W8 b) : UInt8.ofNat a.toNat < UInt8.ofNat b.toNat ↔ a < b := by
  obtain ⟨h0, h1⟩ := ha
  obtain ⟨h2, h3⟩ := hb
  rw [UInt8.lt_iff_toNat_lt, UInt8.toNat_ofNat', UInt8.toNat_ofNat']
  omega
theorem cmpB_cmpL : ∀ (A B : List Int), A.length = B.length → (∀ x, x ∈ A → W8 x) → (∀ x, x ∈ B → W8 x) → Lib.compareBytes (A.map fun n => UInt8.ofNat n.toNat) (B.map fun n => UInt8.ofNat n.toNat) = cmpL A B
  | [], [], _, _, _ => rfl
  | [], _ :: _, h, _, _ => by simp at h
  | _ :: _, [], h, _, _ => by simp at h
  | a :: A, b :: B, h, hA, hB => by
    have ih := cmpB_cmpL A B (by simpa using h) (fun x hx => hA x (by simp [hx])) (fun x hx => hB x (by simp [hx]))
    have u1 := u8_lt (hA a (by simp)) (hB b (by simp))
    have u2 := u8_lt (hB b (by simp)) (hA a (by simp))
    simp only [List.map_cons, Lib.compareBytes, u1, u2, ih, cmpL]
theorem cmp_cmpL (A B : List Int) (h : A.length = B.length) (hA : ∀ x, x ∈ A → W8 x) (hB : ∀ x, x ∈ B → W8 x) : Extern.BytealgCompare.cmp (strOfNums A) (strOfNums B) = cmpL A B := by
  rw [Lib.cmp_eq, strOfNums_data, strOfNums_data]
  exact cmpB_cmpL A B h hA hB
theorem run_cmp {w : World} {a b : Option Addr} {c d : Nat} {A B : List Int} (ha : Sl w a c A) (hb : Sl w b d B) (h : A.length = B.length) (hA : ∀ x, x ∈ A → W8 x) (hB : ∀ x, x ∈ B → W8 x) :
    (Extern.BytealgCompare.compare #[.slice a A.length c, .slice b B.length d]).run Tryd.prog w = .ok (.int .i64 (cmpL A B)) w := by
  change Sem.run Tryd.prog (do pure (goInt (Extern.BytealgCompare.cmp (← Extern.Bytes.bytesOf (.slice a A.length c)) (← Extern.Bytes.bytesOf (.slice b B.length d))))) w = _
  simp only [Sem.run_bind, load_sl ha, load_sl hb, Result.andThen, Sem.run_pure]
  rw [cmp_cmpL A B h hA hB]
  rfl

set_option maxHeartbeats 1000000 in
set_option maxRecDepth 100000 in
theorem bcmp_any (a b : Option Addr) (c d : Nat) (A B : List Int) (w : World) (ha : Sl w a c A) (hb : Sl w b d B) (h : A.length = B.length) (hA : ∀ x, x ∈ A → W8 x) (hB : ∀ x, x ∈ B → W8 x) :
    Calls Tryd.prog 23 #[.slice a A.length c, .slice b B.length d] w fun e w' => e = .returned (.int .i64 (cmpL A B)) ∧ w = w' := by
  have hr := run_cmp ha hb h hA hB
  generalize cmpL A B = q at *
  generalize A.length = n at *
  generalize B.length = m at *
  have HR := Lib.hid hr
  clear hr h ha hb
  go_enter Tryd.func23, Tryd.ntmps23
  go_wp2
  rw [run_callFunc_extern Tryd.func33 (by kernel_rfl) (by kernel_rfl) (by kernel_rfl) (e := Extern.BytealgCompare.compare) (by kernel_rfl), HR.out]
  simp only [Result.andThen]
  rw [Oper.upon_value]
  go_wp2
  go_ret
  exact ⟨rfl, rfl⟩

def hexB : ByteArray := { data := #[48, 49, 50, 51, 52, 53, 54, 55, 56, 57, 97, 98, 99, 100, 101, 102] }
theorem hex_index : ∀ n : Nat, n < 256 → Lib.indexByte hexB.data.toList (n : Int).toNat.toUInt8 = digL n := by decide +kernel

set_option maxHeartbeats 1000000 in
set_option maxRecDepth 100000 in
theorem lindex_any (s : ByteArray) (c : Int) (w : World) :
    Calls Tryd.prog 34 #[.string s, .int .u8 c] w fun e w' => e = .returned (.int .i64 (Lib.indexByte s.data.toList c.toNat.toUInt8)) ∧ w = w' := by
  go_enter Tryd.func34, Tryd.ntmps34
  go_wp2
  rw [run_callFunc_extern Tryd.func38 (by kernel_rfl) (by kernel_rfl) (by kernel_rfl) (e := Extern.BytealgIndexByte.indexByte) (by kernel_rfl), Lib.run_indexByteString]
  simp only [Result.andThen]
  rw [Oper.upon_value]
  go_wp2
  go_ret
  exact ⟨rfl, rfl⟩
set_option maxHeartbeats 1000000 in
set_option maxRecDepth 100000 in
theorem index_any (s : ByteArray) (c : Int) (w : World) :
    Calls Tryd.prog 25 #[.string s, .int .u8 c] w fun e w' => e = .returned (.int .i64 (Lib.indexByte s.data.toList c.toNat.toUInt8)) ∧ w = w' := by
  go_enter Tryd.func25, Tryd.ntmps25
  go_wp2_with (go_at_call 34; refine (lindex_any _ _ _).mono ?_; rintro e w' ⟨rfl, rfl⟩)
  go_ret
  exact ⟨rfl, rfl⟩
/-- The value of a digit by its place among the digits. -/
theorem hexi_any (x : Int) (w : World) (hx : W8 x) : Calls Tryd.prog 25 #[.string hexB, .int .u8 x] w fun e w' => e = .returned (.int .i64 (digL x)) ∧ w = w' := by
  have h := index_any hexB x w
  obtain ⟨n, rfl⟩ := Int.eq_ofNat_of_zero_le hx.1
  have h1 := hx.2
  have e : Lib.indexByte hexB.data.toList (n : Int).toNat.toUInt8 = digL n := hex_index n (by omega)
  rw [e] at h
  exact h
end Go.Proofs.YtapojahoaglgaaaDoor
