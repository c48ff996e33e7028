/-
  Texts S4 VAr VC1 VC2 VC3 VC4 VC5 WAr WG1 WG2 WG3 WG4 WG5 joined.
-/
import Derived.Test.YtnhlpahoomcgnaaChecked
import Derived.Below
import Derived.Lib.Hide
import Derived.Laws.BitsAllLaws
import Derived.Test.YtnhlpahoomcgnaaProg
import Derived.WalkKit
import Derived.WalkSpells
import Derived.WalkLawsBesides
import Derived.Deep.LoopGhost
import Derived.OpenShut
import Derived.Laws.AppendOwnNone
import Derived.Laws.BytesArg
import Derived.Lib.AppendZeros
import Derived.Deep.Onto
import Derived.Deep.RegionHeld3
import Derived.Lib.LazyBuf
set_option maxRecDepth 100000
set_option maxHeartbeats 8000000
set_option linter.unusedSimpArgs false
set_option linter.unusedVariables false
namespace Go.Proofs.Ytnhlpahoomcgnaa
open Go.RowKit
abbrev Z5 (b o : Nat) : Value := .pointer (some ⟨b, o, none⟩)
abbrev Z8 (x : Int) : Value := .int .i64 x
abbrev Z7 (x : Int) : Value := .int .u64 x
abbrev Z4 : Value := .bool true
abbrev ZY : Value := .bool false
theorem Z9 {p : Prop} (h : p) : Hid p := Lib.hid h
theorem ZR {α : Sort _} (x : α) : ∃ y, x = y := ⟨x, rfl⟩
end Go.Proofs.Ytnhlpahoomcgnaa
namespace Go.Proofs.Ytnhlpahoomcgnaa
open Go
theorem Ns {a b : Nat} (h : a ≤ b) : (128 : Int) ^ a ≤ 128 ^ b := by
  obtain ⟨d, rfl⟩ : ∃ d, b = a + d := ⟨b - a, by omega⟩
  rw [Int.pow_add]
  have h0 : (0 : Int) ≤ 128 ^ a := Int.pow_nonneg (by omega)
  have h1 : (0 : Int) < 128 ^ d := Int.pow_pos (by omega)
  have := Int.mul_le_mul_of_nonneg_left (show (1 : Int) ≤ 128 ^ d by omega) h0
  omega
def enc : Nat → Int → List Int
  | 0, n => [n]
  | f + 1, n => if n < 128 then [n] else (n % 128 + 128) :: enc f (n / 128)
def Fit (f : Nat) (n : Int) : Prop := 0 ≤ n ∧ n < 128 ^ (f + 1)
def Enc (n : Int) : List Int := enc 9 n
theorem WX (f : Nat) (n : Int) (h : n < 128) : enc f n = [n] := by
  cases f with
  | zero => rfl
  | succ f => rw [enc, if_pos h]
theorem UA (f : Nat) (n : Int) (h : ¬ n < 128) : enc (f + 1) n = (n % 128 + 128) :: enc f (n / 128) := by
  rw [enc, if_neg h]
theorem Qi {n : Int} (h : Fit 0 n) : n < 128 := by
  have := h.2
  simpa using this
theorem Qj {f : Nat} {n : Int} (h : Fit (f + 1) n) : Fit f (n / 128) := by
  obtain ⟨h0, h1⟩ := h
  refine ⟨by omega, ?_⟩
  rw [Int.pow_succ] at h1
  have : n / 128 < 128 ^ (f + 1) := Int.ediv_lt_of_lt_mul (by omega) h1
  exact this
theorem xq {f : Nat} {n : Int} (h : Fit f n) (h1 : ¬ n < 128) : ∃ g, f = g + 1 := by
  cases f with
  | zero => exact absurd (Qi h) h1
  | succ g => exact ⟨g, rfl⟩
theorem Qk {n : Int} (h0 : 0 ≤ n) (h1 : n ≤ 18446744073709551615) : Fit 9 n :=
  ⟨h0, by rw [show (128 : Int) ^ (9 + 1) = 1180591620717411303424 from rfl]; omega⟩
theorem xg (f : Nat) (n : Int) : 0 < (enc f n).length := by
  cases f with
  | zero => simp [enc]
  | succ f => rw [enc]; split <;> simp
theorem wZ (f : Nat) : ∀ n : Int, (enc f n).length ≤ f + 1 := by
  induction f with
  | zero => intro n; simp [enc]
  | succ f ih =>
    intro n
    rw [enc]
    split
    · simp
    · have := ih (n / 128)
      simp
      omega
theorem FB (f : Nat) : ∀ n : Int, Fit f n → ∀ x, x ∈ enc f n → 0 ≤ x ∧ x ≤ 255 := by
  induction f with
  | zero => intro n h x hx; have := Qi h; have := h.1; simp [enc] at hx; omega
  | succ f ih =>
    intro n h x hx
    by_cases hn : n < 128
    · rw [WX _ _ hn] at hx; have := h.1; simp at hx; omega
    · rw [UA _ _ hn, List.mem_cons] at hx
      rcases hx with rfl | hx
      · omega
      · exact ih _ (Qj h) x hx
def rd : Int → Nat → List Int → Int × Int × Int
  | _, _, [] => (0, 0, 5)
  | acc, i, c :: t =>
    if i = 9 ∧ 1 < c then (0, 0, 6) else if 0 < i ∧ c = 0 then (0, 0, 4) else
    if c < 128 then (acc + c * 128 ^ i, (i : Int) + 1, 0) else rd (acc + (c - 128) * 128 ^ i) (i + 1) t
theorem G6 {acc : Int} {i : Nat} {c : Int} {t : List Int} (h : i = 9) (h1 : 1 < c) : rd acc i (c :: t) = (0, 0, 6) := by rw [rd, if_pos ⟨h, h1⟩]
theorem Nr {acc : Int} {i : Nat} {c : Int} {t : List Int} (h : 0 < i) (h1 : c = 0) : rd acc i (c :: t) = (0, 0, 4) := by
  rw [rd, if_neg (by omega), if_pos ⟨h, h1⟩]
theorem Uz {acc : Int} {i : Nat} {c : Int} {t : List Int} (h : ¬ (i = 9 ∧ 1 < c)) (h1 : ¬ (0 < i ∧ c = 0)) (h2 : c < 128) : rd acc i (c :: t) = (acc + c * 128 ^ i, (i : Int) + 1, 0) := by
  rw [rd, if_neg h, if_neg h1, if_pos h2]
theorem QM {acc : Int} {i : Nat} {c : Int} {t : List Int} (h : ¬ (i = 9 ∧ 1 < c)) (h2 : ¬ c < 128) : rd acc i (c :: t) = rd (acc + (c - 128) * 128 ^ i) (i + 1) t := by
  rw [rd, if_neg h, if_neg (by omega), if_neg h2]
theorem oQ (f : Nat) : ∀ (acc : Int) (i : Nat) (n : Int) (t : List Int), f + i = 9 → Fit f n → (i = 0 ∨ 0 < n) → (i = 9 → n ≤ 1) → (i ≤ 8 → n * 128 ^ i < 18446744073709551616) →
    rd acc i (enc f n ++ t) = (acc + n * 128 ^ i, (i : Int) + (enc f n).length, 0) := by
  induction f with
  | zero =>
    intro acc i n t hi hf h0 h9 _
    have := h9 (by omega)
    have h1 := Qi hf
    show rd acc i (n :: t) = _
    rw [Uz (by omega) (by omega) h1]
    rfl
  | succ f ih =>
    intro acc i n t hi hf h0 h9 h8
    by_cases hn : n < 128
    · rw [WX _ _ hn]
      show rd acc i (n :: t) = _
      rw [Uz (by omega) (by omega) hn]
      rfl
    · rw [UA _ _ hn]
      show rd acc i ((n % 128 + 128) :: (enc f (n / 128) ++ t)) = _
      rw [QM (by omega) (by omega)]
      have hp : (128 : Int) ^ (i + 1) = 128 ^ i * 128 := Int.pow_succ 128 i
      have hlt : n / 128 * 128 ^ (i + 1) ≤ n * 128 ^ i := by
        rw [hp, Int.mul_comm (128 ^ i) 128, ← Int.mul_assoc]
        exact Int.mul_le_mul_of_nonneg_right (by omega) (Int.pow_nonneg (by omega))
      have hb := h8 (by omega)
      rw [ih _ (i + 1) (n / 128) t (by omega) (Qj hf) (by omega) ?_ (fun _ => by omega)]
      · have e : acc + (n % 128 + 128 - 128) * 128 ^ i + n / 128 * 128 ^ (i + 1) = acc + n * 128 ^ i := by
          rw [hp, Int.mul_comm (128 ^ i) 128, ← Int.mul_assoc, Int.add_assoc, ← Int.add_mul]
          congr 2
          omega
        rw [e]
        simp
        omega
      · intro h9'
        obtain rfl : i = 8 := by omega
        rw [show (128 : Int) ^ 8 = 72057594037927936 from rfl] at hb
        omega
theorem oP : ∀ (l : List Int) (acc : Int) (i : Nat), i ≤ 9 → (∀ x, x ∈ l → 0 ≤ x ∧ x ≤ 255) →
    ((rd acc i l).1 = 0 ∧ (rd acc i l).2.1 = 0 ∧ (rd acc i l).2.2 ≠ 0) ∨
    (∃ m : Int, Fit (9 - i) m ∧ (i = 0 ∨ 0 < m) ∧ m * 128 ^ i < 18446744073709551616 ∧ rd acc i l = (acc + m * 128 ^ i, (i : Int) + (enc (9 - i) m).length, 0) ∧
      (enc (9 - i) m).length ≤ l.length ∧ enc (9 - i) m = l.take (enc (9 - i) m).length) := by
  intro l
  induction l with
  | nil => intro acc i hi hl; exact .inl ⟨rfl, rfl, by simp [rd]⟩
  | cons c t ih =>
    intro acc i hi hl
    have hc := hl c (by simp)
    by_cases h1 : i = 9 ∧ 1 < c
    · rw [G6 h1.1 h1.2]; exact .inl ⟨rfl, rfl, by simp⟩
    by_cases h2 : 0 < i ∧ c = 0
    · rw [Nr h2.1 h2.2]; exact .inl ⟨rfl, rfl, by simp⟩
    by_cases h3 : c < 128
    · rw [Uz h1 h2 h3]
      refine .inr ⟨c, ⟨hc.1, ?_⟩, by omega, ?_, ?_, ?_, ?_⟩
      · have : (128 : Int) ^ 1 ≤ 128 ^ (9 - i + 1) := Ns (by omega)
        rw [show (128 : Int) ^ 1 = 128 from rfl] at this
        omega
      · by_cases h9 : i = 9
        · subst h9
          rw [show (128 : Int) ^ 9 = 9223372036854775808 from rfl]
          omega
        · have hp : (128 : Int) ^ i ≤ 128 ^ 8 := Ns (by omega)
          rw [show (128 : Int) ^ 8 = 72057594037927936 from rfl] at hp
          have h0 : (0 : Int) ≤ 128 ^ i := Int.pow_nonneg (by omega)
          have := Int.mul_le_mul (show c ≤ 127 by omega) hp h0 (by omega)
          omega
      · rw [WX _ _ h3]; rfl
      · rw [WX _ _ h3]; simp
      · rw [WX _ _ h3]; simp
    · have h9 : i ≤ 8 := by omega
      rw [QM h1 h3]
      rcases ih (acc + (c - 128) * 128 ^ i) (i + 1) (by omega) (fun x hx => hl x (by simp [hx])) with h | ⟨m, hf, hp, hb, he, hlen, ht⟩
      · exact .inl h
      · have hpos : 0 < m := by omega
        have hm : ¬ (c - 128 + m * 128) < 128 := by omega
        obtain ⟨g, hg⟩ : ∃ g, 9 - i = g + 1 := ⟨8 - i, by omega⟩
        have hg' : 9 - (i + 1) = g := by omega
        rw [hg'] at hf he hlen ht
        have gX : (128 : Int) ^ (i + 1) = 128 ^ i * 128 := Int.pow_succ 128 i
        have he2 : enc (g + 1) (c - 128 + m * 128) = c :: enc g m := by
          rw [UA _ _ hm, show (c - 128 + m * 128) % 128 + 128 = c by omega, show (c - 128 + m * 128) / 128 = m by omega]
        refine .inr ⟨c - 128 + m * 128, ?_, by omega, ?_, ?_, ?_, ?_⟩
        · rw [hg]
          refine ⟨by omega, ?_⟩
          have := hf.2
          rw [Int.pow_succ]
          omega
        · have h0 : (0 : Int) ≤ 128 ^ i := Int.pow_nonneg (by omega)
          rw [gX] at hb
          have h5 : (m + 1) * (128 ^ i * 128) ≤ 18446744073709551616 := by
            have hcase : i ≤ 8 := h9
            have : i = 0 ∨ i = 1 ∨ i = 2 ∨ i = 3 ∨ i = 4 ∨ i = 5 ∨ i = 6 ∨ i = 7 ∨ i = 8 := by omega
            rcases this with rfl | rfl | rfl | rfl | rfl | rfl | rfl | rfl | rfl <;> simp at hb ⊢ <;> omega
          have h6 : (c - 128 + m * 128) * 128 ^ i < (m + 1) * (128 ^ i * 128) := by
            rw [Int.mul_comm (128 ^ i) 128, ← Int.mul_assoc]
            exact Int.mul_lt_mul_of_pos_right (by omega) (Int.pow_pos (by omega))
          omega
        · rw [he, hg, he2]
          have e : acc + (c - 128) * 128 ^ i + m * 128 ^ (i + 1) = acc + (c - 128 + m * 128) * 128 ^ i := by
            rw [gX, Int.mul_comm (128 ^ i) 128, ← Int.mul_assoc, Int.add_assoc, ← Int.add_mul]
          rw [e]
          simp
          omega
        · rw [hg, he2]; simpa using hlen
        · rw [hg, he2]
          simp only [List.length_cons, List.take_succ_cons]
          rw [← ht]
theorem BI (n : Int) (h0 : 0 ≤ n) (h1 : n ≤ 18446744073709551615) (t : List Int) : rd 0 0 (Enc n ++ t) = (n, ((Enc n).length : Int), 0) := by
  have := oQ 9 0 0 n t rfl (Qk h0 h1) (.inl rfl) (by omega) (fun _ => by simp; omega)
  unfold Enc
  rw [this]
  simp
theorem BH (l : List Int) (hl : ∀ x, x ∈ l → 0 ≤ x ∧ x ≤ 255) : ((rd 0 0 l).1 = 0 ∧ (rd 0 0 l).2.1 = 0 ∧ (rd 0 0 l).2.2 ≠ 0) ∨
    (∃ m : Int, 0 ≤ m ∧ m ≤ 18446744073709551615 ∧ rd 0 0 l = (m, ((Enc m).length : Int), 0) ∧ (Enc m).length ≤ l.length ∧ Enc m = l.take (Enc m).length) := by
  rcases oP l 0 0 (by omega) hl with h | ⟨m, hf, _, hb, he, h1, h2⟩
  · exact .inl h
  · refine .inr ⟨m, hf.1, by simpa using Int.le_of_lt_add_one (by simpa using hb), ?_, h1, h2⟩
    rw [he]
    simp [Enc]
theorem XR (n : Int) : 0 < (Enc n).length ∧ (Enc n).length ≤ 10 := ⟨xg 9 n, wZ 9 n⟩
theorem OU (n : Int) (h0 : 0 ≤ n) (h1 : n ≤ 18446744073709551615) : ∀ x, x ∈ Enc n → 0 ≤ x ∧ x ≤ 255 := FB 9 n (Qk h0 h1)
end Go.Proofs.Ytnhlpahoomcgnaa
namespace Go.Proofs.Ytnhlpahoomcgnaa
open Go.RowKit
def W64 (x : Int) : Prop := 0 ≤ x ∧ x ≤ 18446744073709551615
def W8 (x : Int) : Prop := 0 ≤ x ∧ x ≤ 255
theorem FD : ∀ a, a < 256 → a ||| 128 = a % 128 + 128 := by decide +kernel
theorem Jh : ∀ a, a < 256 → a &&& 127 = a % 128 := by decide +kernel
theorem gY (x : Int) (h : W8 x) : bits .or .u8 x 128 = x % 128 + 128 := by
  obtain ⟨h0, h1⟩ := h
  rw [u8_or x 128 h0 (by omega) (by omega) (by omega), show (128 : Int).toNat = 128 from rfl, FD x.toNat (by omega)]
  omega
theorem FC (x : Int) (h : W8 x) : bits .andNot .u8 x 128 = x % 128 := by
  obtain ⟨h0, h1⟩ := h
  rw [u8_andNot x 128 h0 (by omega) (by omega) (by omega), show 255 - (128 : Int).toNat = 127 from rfl, Jh x.toNat (by omega)]
  omega
theorem oU (k : Nat) : (2 : Int) ^ (7 * k) = 128 ^ k := by
  rw [Int.pow_mul]
  rfl
theorem ab8 (acc x : Int) (k : Nat) (h0 : 0 ≤ acc) (h1 : acc < 128 ^ k) (hx : 0 ≤ x) (h2 : x * 128 ^ k < 18446744073709551616) (h3 : acc < 18446744073709551616) :
    bits .or .u64 acc (IntKind.u64.wrap (x * 2 ^ (7 * k))) = acc + x * 128 ^ k := by
  rw [oU, IntKind.wrap_u64, Int.emod_eq_of_lt (Int.mul_nonneg hx (Int.pow_nonneg (by omega))) h2]
  obtain ⟨a, rfl⟩ := Int.eq_ofNat_of_zero_le h0
  obtain ⟨y, rfl⟩ := Int.eq_ofNat_of_zero_le hx
  have e : ((y : Int) * 128 ^ k) = ((y * 2 ^ (7 * k) : Nat) : Int) := by
    rw [← oU]
    simp
  rw [e] at h2 ⊢
  rw [u64_or_nat a _ (by omega) (by omega)]
  have ha : a < 2 ^ (7 * k) := by
    rw [← oU] at h1
    exact_mod_cast h1
  rw [Nat.or_comm, Nat.mul_comm y, ← Nat.two_pow_add_eq_or_of_lt ha]
  omega
theorem info5 : (Try.prog.info? 5).map (fun i => (i.zero, i.size, i.bytes)) = some (some (.int .u8 0), 1, 1) := by kernel_rfl
def Sl (w : World) (a : Option Addr) (c : Nat) (L : List Int) : Prop :=
  (a = none ∧ c = 0 ∧ L = []) ∨ ∃ x, a = some x ∧ ∀ k, k < L.length → ∃ b off, x = ⟨b, off, none⟩ ∧ w.cell? ⟨b, off + k, none⟩ = some (.int .u8 (L.getD k 0))
theorem tC {w : World} {a : Option Addr} {c : Nat} {L : List Int} (h : Sl w a c L) {k : Nat} (hk : k < L.length) : ∃ b off, a = some ⟨b, off, none⟩ ∧ b < w.heap.size ∧ w.cell? ⟨b, off + k, none⟩ = some (.int .u8 (L.getD k 0)) := by
  rcases h with ⟨_, _, rfl⟩ | ⟨x, rfl, hx⟩
  · simp at hk
  · obtain ⟨b, off, rfl, hc⟩ := hx k hk
    exact ⟨b, off, rfl, World.block_lt_of_cell? w (⟨b, off + k, none⟩ : Addr) hc, hc⟩
theorem ZH {w w' : World} {a : Option Addr} {c : Nat} {L : List Int} (h : Sl w a c L) (hb : Below w.heap.size w w') : Sl w' a c L := by
  rcases h with h | ⟨x, rfl, hx⟩
  · exact .inl h
  · refine .inr ⟨x, rfl, fun k hk => ?_⟩
    obtain ⟨b, off, rfl, hc⟩ := hx k hk
    exact ⟨b, off, rfl, (hb.cell (p := ⟨b, off + k, none⟩) (World.block_lt_of_cell? w _ hc)).trans hc⟩
theorem oV {w : World} {B : Nat} {v : Value} {n : Nat} {L : List Int} (h : w.ownsRow B 5 1 v n (L.map (Value.int .u8))) : ∃ a c, v = .slice a L.length c ∧ Sl w a c L ∧ n = L.length ∧ L.length ≤ c := by
  have hn : L.length = n := by have := h.1; simpa using this
  subst hn
  rcases h.2 with ⟨rfl, h0⟩ | ⟨g, cap, cur, rfl, hb, hg, hcap, _⟩
  · exact ⟨none, 0, by rw [h0], .inl ⟨rfl, rfl, List.eq_nil_of_length_eq_zero h0⟩, rfl, by omega⟩
  · refine ⟨some ⟨g, 0, none⟩, cap, rfl, .inr ⟨_, rfl, fun k hk => ⟨g, 0, rfl, ?_⟩⟩, rfl, hcap⟩
    have hk' := h.cells (g := g) rfl k (.int .u8 (L.getD k 0)) (by rw [List.getElem?_map, List.getElem?_eq_getElem hk, List.getD_eq_getElem?_getD, List.getElem?_eq_getElem hk]; rfl)
    rw [← hk', Go.WideShapes.add_plain]
theorem xY {a : Option Addr} {c : Nat} {L : List Int} {w : World} (h : Sl w a c L) : (convert 50 9 (.slice a L.length c)).run Try.prog w = .ok (.string (strOfNums L)) w := by
  rcases h with ⟨rfl, rfl, rfl⟩ | ⟨x, rfl, hx⟩
  · exact run_convert_bytes_nil w 50 5 Try.underlying50 Try.underlying5 _ _ 9 Try.underlying9
  · have hl : (loadCells x L.length).run Try.prog w = .ok (L.map (Value.int .u8)).toArray w := by
      have := run_loadCells_list (P := Try.prog) w x (L.map (Value.int .u8)) (fun j v hj => by
        have hj' : j < L.length := by
          rcases Nat.lt_or_ge j L.length with h | h
          · exact h
          · rw [List.getElem?_eq_none (by simpa using h)] at hj; cases hj
        obtain ⟨b, off, rfl, hc⟩ := hx j hj'
        rw [Go.WideShapes.add_plain, hc]
        rw [List.getElem?_map, List.getElem?_eq_getElem hj'] at hj
        rw [List.getD_eq_getElem?_getD, List.getElem?_eq_getElem hj']
        exact hj)
      simpa using this
    rw [run_convert_bytes_string w 50 9 5 _ _ c Try.underlying50 Try.underlying5 Try.underlying9, run_bytesToString w x _ c L hl, foldl_push_bytes]
    simp [strOfNums, ByteArray.empty, ByteArray.emptyWithCapacity]
    try rfl
theorem Vy {P : Program} {w : World} {ops : Array Oper} {rest : List Oper} {o : Oper} {a : Act} {Q : Exit → Act → World → Prop} (hgd : o.guard = none) (s x : Operand) (t : TypeId)
    (ho : o.op = .call { callee := .builtin .append, args := #[s, x], argTypes := #[t, t] })
    (base : Nat) (i : TypeInfo) (ht : P.underlying t = some (.slice 5)) (hi : P.info? 5 = some i) (hz : i.zero = some (.int .u8 0)) (hsize : i.size = 1) (hby : i.bytes = 1)
    (v : Value) (n : Nat) (xs : List Value) (hs : a.eval s = v) (hown : w.ownsRow base 5 1 v n xs)
    (ad : Option Addr) (m c : Nat) (L : List Int) (hx : a.eval x = .slice ad m c) (hm : L.length = m) (hr : Sl w ad c L) (hb : n + m ≤ 140737488355328) (hbase : base ≤ w.heap.size)
    (h : ∀ v' w', w'.ownsRow base 5 1 v' (n + m) (xs ++ L.map (Value.int .u8)) → w.grownBy w' v.ownBlock → wpList P ops Q rest (a.put o.dst v') w') : wpList P ops Q (o :: rest) a w := by
  subst hm
  rcases hr with ⟨rfl, rfl, rfl⟩ | ⟨y, rfl, hy⟩
  · exact wpList_append_own_none hgd s x t ho base 5 i 1 ht hi v n xs hs hown hx (h v w (by simpa using hown) (World.grownBy.refl w _))
  · refine wpList_append_own w hgd s x t ho base 5 i (.int .u8 0) 1 1 ht hi hz hsize hby rfl (by decide) v n xs hs hown y L.length c (L.map (Value.int .u8)) hx (by simp) ?_ (ints_oneCell _ _) (by unfold maxLen; omega) (by omega) hbase (fun v' w' h1 h2 _ => h v' w' h1 h2)
    intro j u hj
    have hj' : j < L.length := by
      rcases Nat.lt_or_ge j L.length with h | h
      · exact h
      · rw [List.getElem?_eq_none (by simpa using h)] at hj; cases hj
    obtain ⟨b, off, rfl, hc⟩ := hy j hj'
    rw [Go.WideShapes.add_plain, hc]
    rw [List.getElem?_map, List.getElem?_eq_getElem hj'] at hj
    rw [List.getD_eq_getElem?_getD, List.getElem?_eq_getElem hj']
    exact hj
theorem XT {w0 w w1 : World} {B B2 n : Nat} {v : Value} {xs : List Value} (hB : B2 ≤ B) (hs : B2 ≤ w.heap.size) (hown : w.ownsRow B 5 1 v n xs) (hnx : Below B2 w0 w) (hgrow : w.grownBy w1 v.ownBlock) : Below B2 w0 w1 :=
  hnx.grown hgrow hs (fun j hj => by have := (hown.lt j hj).1; omega)
theorem BJ (w : World) (x : Int) (t : Nat) : Sl (w.alloc (.cells #[.int .u8 x] t)) (some ⟨w.heap.size, 0, none⟩) 1 [x] := by
  refine .inr ⟨_, rfl, fun k hk => ⟨_, _, rfl, ?_⟩⟩
  have : k = 0 := by simpa using hk
  subst this
  simp
theorem BK (f : Nat) (x : Int) (P E : List Int) (hx : ¬ x < 128) (h : P ++ enc (f + 1) x = E) : (P ++ [x % 128 + 128]) ++ enc f (x / 128) = E := by
  rw [UA f x hx] at h
  simpa using h
theorem UC (w : World) : (w.alloc (.cells #[] 5)).ownsRow w.heap.size 5 1 (.slice (some ⟨w.heap.size, 0, none⟩) 0 0) 0 [] :=
  ⟨by simp, .inr ⟨w.heap.size, 0, #[], rfl, Nat.le_refl _, heap_alloc_new w _, by omega, by unfold maxLen; omega, rfl, rfl⟩⟩
theorem TS (a : Option Addr) (c : Nat) (L : List Int) (n : Int) (w : World) (hL : L.length ≤ 1000000) (hr : Sl w a c L) (hn : W64 n) :
    Calls Try.prog 68 #[.slice a L.length c, Z7 n] w fun e w' => ∃ v, e = .returned v ∧ w'.ownsRow w.heap.size 5 1 v (L ++ Enc n).length ((L ++ Enc n).map (Value.int .u8)) ∧ Below w.heap.size w w' := by
  have HE := XR n
  have HF := Z9 (Qk hn.1 hn.2)
  have HU := Z9 (show enc 9 n = Enc n from rfl)
  have HR := Z9 hr
  generalize Enc n = E at *
  obtain ⟨i0, hi, hz0, hz1, hz2⟩ := info_parts info5
  have HI := Z9 hi
  have HZ0 := Z9 hz0
  have HZ1 := Z9 hz1
  have HZ2 := Z9 hz2
  clear hi hz0 hz1 hz2
  have hr1 := ZH hr ((Below.refl w.heap.size w).alloc (Nat.le_refl _) (.cells #[] 5))
  have HR1 := Z9 hr1
  clear hr1 hr
  go_enter Try.func68, Try.ntmps68
  go_wp2_with (at_builtin; refine Vy rfl _ _ 50 rfl w.heap.size i0 Try.underlying50 HI.out HZ0.out HZ1.out HZ2.out _ 0 [] rfl (UC w) a L.length c L rfl rfl HR1.out ?c1 ?c2 ?_)
  case c1 => omega
  case c2 => simp
  intro v' w1 hown hgrow
  have hbel := XT (w0 := w) (Nat.le_refl _) (by simp) (UC w) ((Below.refl _ w).alloc (Nat.le_refl _) _) hgrow
  clear hgrow HR1
  go_wp2_with fail
  go_loopg [1, 5] 9 (fun g s1 s5 wx => ∃ (f : Nat) (x : Int) (P : List Int), s1 = Z7 x ∧ W64 x ∧ Hid (Fit f x) ∧ wx.ownsRow w.heap.size 5 1 s5 (L.length + P.length) ((L ++ P).map (Value.int .u8)) ∧ Below w.heap.size w wx ∧ Hid (P ++ enc f x = E) ∧ f = g)
  case atStart => exact ⟨9, n, [], rfl, hn, HF, by simpa using hown, hbel, HU, rfl⟩
  case round =>
    obtain ⟨f, x, P, rfl, ⟨hx0, hx1⟩, hf, ho, hb, hu, rfl⟩ := hrel
    have hlen : P.length ≤ E.length := by rw [← hu.out]; simp
    have hsz := hb.size
    by_cases hlt : x < 128
    · go_wp2_with (at_builtin; refine Vy rfl _ _ 50 rfl w.heap.size i0 Try.underlying50 HI.out HZ0.out HZ1.out HZ2.out _ (L.length + P.length) _ rfl (ho.alloc _) (some ⟨wr.heap.size, 0, none⟩) 1 1 [x] rfl rfl (BJ _ _ _) ?d1 ?d2 ?_)
      case d1 => omega
      case d2 => simp; omega
      intro v1 w2 ho2 hgrow
      have hb2 := XT (Nat.le_refl _) (hb.alloc hsz _).size (ho.alloc _) (hb.alloc hsz _) hgrow
      have hu2 := hu.out
      rw [WX f x hlt] at hu2
      have HO : Hid (w2.ownsRow w.heap.size 5 1 v1 (L ++ E).length ((L ++ E).map (Value.int .u8))) := by
        rw [← hu2]
        simpa [Hid, Nat.add_assoc] using ho2
      clear hgrow ho hb ho2 hu2
      go_wp2
      go_ret
      exact ⟨_, rfl, HO.out, hb2⟩
    · obtain ⟨f', rfl⟩ := xq hf.out hlt
      have hy1 : bits .or .u8 (x % 256) 128 = x % 128 + 128 := (gY (x % 256) ⟨by omega, by omega⟩).trans (by omega)
      have hy2 : bits .or .u8 (IntKind.u8.wrap x) 128 = x % 128 + 128 := by rw [IntKind.wrap_u8']; exact hy1
      have HY := Z9 (BK f' x P E hlt hu.out)
      generalize x % 128 + 128 = y at *
      go_wp2_with (at_builtin; refine Vy rfl _ _ 50 rfl w.heap.size i0 Try.underlying50 HI.out HZ0.out HZ1.out HZ2.out _ (L.length + P.length) _ rfl (ho.alloc _) (some ⟨wr.heap.size, 0, none⟩) 1 1 [y] rfl rfl (BJ _ _ _) ?e1 ?e2 ?_)
      case e1 => omega
      case e2 => have := (hb.alloc hsz (.cells #[.int .u8 y] 5)).size; omega
      intro v1 w2 ho2 hgrow
      have hb2 := XT (Nat.le_refl _) (hb.alloc hsz _).size (ho.alloc _) (hb.alloc hsz _) hgrow
      clear hgrow ho hb hy1 hy2
      go_wp2
      go_roundg f'
      case measure => omega
      case rel => exact ⟨f', x / 128, P ++ [y], by rfl, ⟨by omega, by omega⟩, Z9 (Qj hf.out), by simpa [Nat.add_assoc] using ho2, hb2, HY, rfl⟩
end Go.Proofs.Ytnhlpahoomcgnaa
namespace Go.Proofs.Ytnhlpahoomcgnaa
open Go.RowKit
end Go.Proofs.Ytnhlpahoomcgnaa
namespace Go.Proofs.Ytnhlpahoomcgnaa
open Go.RowKit
def tu (r : Int × Int × Int) : Value := .tuple #[Z7 r.1, Z8 r.2.1, Z8 r.2.2]
theorem grp (x : Int) (h : W8 x) : IntKind.u64.wrap (bits .andNot .u8 x 128) = x % 128 := by
  rw [FC x h, IntKind.wrap_u64]
  omega
theorem OT (acc y : Int) (k : Nat) (ha : 0 ≤ acc ∧ acc < 128 ^ k) (hk : k ≤ 9) (h0 : 0 ≤ y) (h1 : y < 128) (h9 : ¬ (k = 9 ∧ 1 < y)) :
    bits .or .u64 acc (IntKind.u64.wrap (y * 2 ^ (7 * k))) = acc + y * 128 ^ k := by
  have hp : (128 : Int) ^ k ≤ 128 ^ 9 := Ns hk
  rw [show (128 : Int) ^ 9 = 9223372036854775808 from rfl] at hp
  refine ab8 acc y k ha.1 ha.2 h0 ?_ (by omega)
  by_cases h : k = 9
  · subst h
    rw [show (128 : Int) ^ 9 = 9223372036854775808 from rfl]
    omega
  · have hp8 : (128 : Int) ^ k ≤ 128 ^ 8 := Ns (by omega)
    rw [show (128 : Int) ^ 8 = 72057594037927936 from rfl] at hp8
    have := Int.mul_le_mul (show y ≤ 127 by omega) hp8 (Int.pow_nonneg (by omega)) (by omega)
    omega
theorem Fz (acc y : Int) (k : Nat) (ha : 0 ≤ acc ∧ acc < 128 ^ k) (h0 : 0 ≤ y) (h1 : y < 128) : 0 ≤ acc + y * 128 ^ k ∧ acc + y * 128 ^ k < 128 ^ (k + 1) := by
  have hp : (0 : Int) < 128 ^ k := Int.pow_pos (by omega)
  have h2 := Int.mul_le_mul_of_nonneg_right (show y ≤ 127 by omega) (Int.le_of_lt hp)
  have h3 := Int.mul_nonneg h0 (Int.le_of_lt hp)
  rw [Int.pow_succ]
  omega
theorem TQ (acc x : Int) (k : Nat) (ha : 0 ≤ acc ∧ acc < 128 ^ k) (hk : k ≤ 9) (h0 : 0 ≤ x) (h1 : x < 128) (h9 : ¬ (k = 9 ∧ 1 < x)) :
    bits .or .u64 acc (IntKind.u64.wrap (x % 128 * 2 ^ (7 * k))) = acc + x * 128 ^ k := by
  rw [show x % 128 = x by omega]
  exact OT acc x k ha hk h0 h1 h9
theorem Vx (acc x : Int) (k : Nat) (ha : 0 ≤ acc ∧ acc < 128 ^ k) (hk : k ≤ 8) (h0 : 128 ≤ x) (h1 : x ≤ 255) :
    bits .or .u64 acc (IntKind.u64.wrap (x % 128 * 2 ^ (7 * k))) = acc + (x - 128) * 128 ^ k ∧ 0 ≤ acc + (x - 128) * 128 ^ k ∧ acc + (x - 128) * 128 ^ k < 128 ^ (k + 1) := by
  rw [show x % 128 = x - 128 by omega]
  exact ⟨OT acc (x - 128) k ha (by omega) (by omega) (by omega) (by omega), Fz acc (x - 128) k ha (by omega) (by omega)⟩
theorem gW : (9223372036854775808 : Int) = 2 ^ (7 * 9) := rfl
theorem RN {n1 n2 s1 s2 e1 e2 : Int} (h1 : n1 = n2) (h2 : s1 = s2) (h3 : e1 = e2) : Ending.returned (.tuple #[Z7 n1, Z8 s1, Z8 e1]) = Ending.returned (tu (n2, s2, e2)) := by
  subst h1 h2 h3
  rfl
theorem OW (a : Option Addr) (c : Nat) (L : List Int) (w : World) (hL : L.length ≤ 1000000) (hr : Sl w a c L) (hw : ∀ x, x ∈ L → W8 x) :
    Calls Try.prog 96 #[.slice a L.length c] w fun e w' => e = .returned (tu (rd 0 0 L)) ∧ w = w' := by
  have HR := Z9 hr
  have HW := Z9 hw
  have HD : Hid (rd 0 0 L = rd 0 0 (L.drop 0)) := rfl
  clear hr hw
  generalize rd 0 0 L = R at *
  go_enter Try.func96, Try.ntmps96
  go_wp2_with fail
  go_loopg [2, 9] L.length (fun g s2 s9 wx => w = wx ∧ ∃ (k : Nat) (acc : Int), s9 = Z8 k ∧ k ≤ L.length ∧ k ≤ 9 ∧ s2 = Z7 acc ∧ Hid (0 ≤ acc ∧ acc < 128 ^ k) ∧ Hid (R = rd acc k (L.drop k)) ∧ L.length - k = g)
  case atStart => exact ⟨rfl, 0, 0, rfl, by omega, by omega, rfl, Z9 (by decide), HD, by omega⟩
  case round =>
    obtain ⟨rfl, k, acc, rfl, hk, hk9, rfl, ha, hd, rfl⟩ := hrel
    by_cases hlt : k < L.length
    · obtain ⟨b, off, rfl, _, hc⟩ := tC HR.out hlt
      have hx := HW.out (L.getD k 0) (by rw [List.getD_eq_getElem?_getD, List.getElem?_eq_getElem hlt]; exact List.getElem_mem hlt)
      have hs : L.drop k = L.getD k 0 :: L.drop (k + 1) := by rw [List.drop_eq_getElem_cons hlt, List.getD_eq_getElem?_getD, List.getElem?_eq_getElem hlt]; rfl
      have HS := Z9 hs
      clear hs
      generalize L.getD k 0 = x at *
      obtain ⟨hx0, hx1⟩ := hx
      go_wp2
      · have h9 : k = 9 := by omega
        have hv : R = (0, 0, 6) := by rw [hd.out, HS.out, G6 h9 (by assumption)]
        clear hd HD
        go_ret3
        exact ⟨by rw [hv]; rfl, rfl⟩
      · have h9 : k = 9 := by omega
        have h0 : x = 0 := WalkArith.int_eq (by assumption)
        have hv : R = (0, 0, 4) := by rw [hd.out, HS.out, Nr (by omega) h0]
        clear hd HD
        go_ret3
        exact ⟨by rw [hv]; rfl, rfl⟩
      · have h9 : k = 9 := by omega
        have h0 : x ≠ 0 := WalkArith.int_ne (by assumption)
        have hv : R = (acc + x * 128 ^ k, (k : Int) + 1, 0) := by rw [hd.out, HS.out, Uz (by omega) (by omega) (by omega)]
        clear hd HD
        go_ret3
        subst h9
        exact ⟨by rw [hv]; exact RN (by rw [grp x ⟨hx0, hx1⟩, gW]; exact TQ acc x 9 ha.out (by omega) (by omega) (by omega) (by omega)) (by omega) rfl, rfl⟩
      · have h0 : x = 0 := WalkArith.int_eq (by assumption)
        have hv : R = (0, 0, 4) := by rw [hd.out, HS.out, Nr (by omega) h0]
        clear hd HD
        go_ret3
        exact ⟨by rw [hv]; rfl, rfl⟩
      · have h0 : x ≠ 0 := WalkArith.int_ne (by assumption)
        have hv : R = (acc + x * 128 ^ k, (k : Int) + 1, 0) := by rw [hd.out, HS.out, Uz (by omega) (by omega) (by omega)]
        clear hd HD
        go_ret3
        exact ⟨by rw [hv]; exact RN (by rw [grp x ⟨hx0, hx1⟩]; exact TQ acc x k ha.out (by omega) (by omega) (by omega) (by omega)) (by omega) rfl, rfl⟩
      · have hd2 : R = rd (acc + (x - 128) * 128 ^ k) (k + 1) (L.drop (k + 1)) := by rw [hd.out, HS.out, QM (by omega) (by omega)]
        have HD2 := Z9 hd2
        clear hd2 hd HD
        go_roundg (L.length - (k + 1))
        case measure => omega
        case rel => exact ⟨rfl, k + 1, _, by go_num, by omega, by omega, by rw [grp x ⟨hx0, hx1⟩]; exact congrArg _ (Vx acc x k ha.out (by omega) (by omega) (by omega)).1, Z9 (Vx acc x k ha.out (by omega) (by omega) (by omega)).2, HD2, by omega⟩
      · have hv : R = (acc + x * 128 ^ k, (k : Int) + 1, 0) := by rw [hd.out, HS.out, Uz (by omega) (by omega) (by omega)]
        clear hd HD
        go_ret3
        exact ⟨by rw [hv]; exact RN (by rw [grp x ⟨hx0, hx1⟩]; exact TQ acc x k ha.out (by omega) (by omega) (by omega) (by omega)) (by omega) rfl, rfl⟩
      · have hd2 : R = rd (acc + (x - 128) * 128 ^ k) (k + 1) (L.drop (k + 1)) := by rw [hd.out, HS.out, QM (by omega) (by omega)]
        have HD2 := Z9 hd2
        clear hd2 hd HD
        go_roundg (L.length - (k + 1))
        case measure => omega
        case rel => exact ⟨rfl, k + 1, _, by go_num, by omega, by omega, by rw [grp x ⟨hx0, hx1⟩]; exact congrArg _ (Vx acc x k ha.out (by omega) (by omega) (by omega)).1, Z9 (Vx acc x k ha.out (by omega) (by omega) (by omega)).2, HD2, by omega⟩
    · go_wp2
      have hv : R = (0, 0, 5) := by rw [hd.out, List.drop_eq_nil_of_le (by omega)]; rfl
      clear hd HD
      go_ret3
      exact ⟨by rw [hv]; rfl, rfl⟩
end Go.Proofs.Ytnhlpahoomcgnaa
namespace Go.Proofs.Ytnhlpahoomcgnaa
open Go
structure Zp where
  num : Int
  kind : Int
  val : Int
  bytes : List Int
def UR (kind val : Int) (n : Nat) : Int := if kind = 2 then (n : Int) else val
def ES (num kind val : Int) (n : Nat) : Prop := 1 ≤ num ∧ num ≤ 536870911 ∧ ((kind = 0 ∧ n = 0) ∨ (kind = 2 ∧ val = 0))
def encI (num kind val : Int) (B : List Int) : List Int := Enc (8 * num + kind) ++ (Enc (UR kind val B.length) ++ B)
def YP (f : Zp) : List Int := encI f.num f.kind f.val f.bytes
def Vf (f : Zp) : Prop := ES f.num f.kind f.val f.bytes.length ∧ (0 ≤ f.val ∧ f.val ≤ 18446744073709551615) ∧ (∀ x, x ∈ f.bytes → 0 ≤ x ∧ x ≤ 255) ∧ f.bytes.length ≤ 1000000
def Xj : Zp := ⟨0, 0, 0, []⟩
def W9 (L : List Int) : Zp × Int × Int :=
  if (rd 0 0 L).2.2 ≠ 0 then (Xj, 0, (rd 0 0 L).2.2) else
  if (rd 0 0 L).1 / 8 < 1 ∨ 536870911 < (rd 0 0 L).1 / 8 ∨ ((rd 0 0 L).1 % 8 ≠ 0 ∧ (rd 0 0 L).1 % 8 ≠ 2) then (Xj, 0, 4) else
  if (rd 0 0 (L.drop (rd 0 0 L).2.1.toNat)).2.2 ≠ 0 then (Xj, 0, (rd 0 0 (L.drop (rd 0 0 L).2.1.toNat)).2.2) else
  if (rd 0 0 L).1 % 8 = 0 then (⟨(rd 0 0 L).1 / 8, 0, (rd 0 0 (L.drop (rd 0 0 L).2.1.toNat)).1, []⟩, (rd 0 0 L).2.1 + (rd 0 0 (L.drop (rd 0 0 L).2.1.toNat)).2.1, 0) else
  if ((L.drop ((rd 0 0 L).2.1.toNat + (rd 0 0 (L.drop (rd 0 0 L).2.1.toNat)).2.1.toNat)).length : Int) < (rd 0 0 (L.drop (rd 0 0 L).2.1.toNat)).1 then (Xj, 0, 5) else
  (⟨(rd 0 0 L).1 / 8, 2, 0, (L.drop ((rd 0 0 L).2.1.toNat + (rd 0 0 (L.drop (rd 0 0 L).2.1.toNat)).2.1.toNat)).take (rd 0 0 (L.drop (rd 0 0 L).2.1.toNat)).1.toNat⟩,
    (rd 0 0 L).2.1 + (rd 0 0 (L.drop (rd 0 0 L).2.1.toNat)).2.1 + (rd 0 0 (L.drop (rd 0 0 L).2.1.toNat)).1, 0)
def X7 (t : Int) : Prop := 1 ≤ t / 8 ∧ t / 8 ≤ 536870911 ∧ (t % 8 = 0 ∨ t % 8 = 2)
theorem G9 {L : List Int} {a s e : Int} (h : rd 0 0 L = (a, s, e)) (he : e ≠ 0) : W9 L = (Xj, 0, e) := by
  unfold W9; rw [h]; rw [if_pos he]
theorem G8 {L : List Int} {t s : Int} (h : rd 0 0 L = (t, s, 0)) (hb : ¬ X7 t) : W9 L = (Xj, 0, 4) := by
  unfold W9; rw [h]; rw [if_neg (by simp), if_pos]
  unfold X7 at hb
  simp only
  omega
theorem G7 {L : List Int} {t a s e : Int} {h : Nat} (h1 : rd 0 0 L = (t, (h : Int), 0)) (hg : X7 t) (h2 : rd 0 0 (L.drop h) = (a, s, e)) (he : e ≠ 0) : W9 L = (Xj, 0, e) := by
  unfold W9; rw [h1]; simp only [Int.toNat_natCast]; rw [h2]
  unfold X7 at hg
  rw [if_neg (by simp), if_neg (by omega), if_pos he]
theorem Nu {L : List Int} {t n : Int} {h k : Nat} (h1 : rd 0 0 L = (t, (h : Int), 0)) (hg : X7 t) (h2 : rd 0 0 (L.drop h) = (n, (k : Int), 0)) (h0 : t % 8 = 0) : W9 L = (⟨t / 8, 0, n, []⟩, ((h + k : Nat) : Int), 0) := by
  unfold W9; rw [h1]; simp only [Int.toNat_natCast]; rw [h2]
  unfold X7 at hg
  rw [if_neg (by simp), if_neg (by omega), if_neg (by simp), if_pos h0]
  simp
theorem RP {L : List Int} {t n : Int} {h k : Nat} (h1 : rd 0 0 L = (t, (h : Int), 0)) (hg : X7 t) (h2 : rd 0 0 (L.drop h) = (n, (k : Int), 0)) (h0 : t % 8 = 2) (hs : ((L.drop (h + k)).length : Int) < n) : W9 L = (Xj, 0, 5) := by
  unfold W9; rw [h1]; simp only [Int.toNat_natCast]; rw [h2]
  unfold X7 at hg
  rw [if_neg (by simp), if_neg (by omega), if_neg (by simp), if_neg (by omega), if_pos (by simpa using hs)]
theorem RQ {L : List Int} {t : Int} {n h k : Nat} (h1 : rd 0 0 L = (t, (h : Int), 0)) (hg : X7 t) (h2 : rd 0 0 (L.drop h) = ((n : Int), (k : Int), 0)) (h0 : t % 8 = 2) (hs : n ≤ (L.drop (h + k)).length) :
    W9 L = (⟨t / 8, 2, 0, (L.drop (h + k)).take n⟩, ((h + k + n : Nat) : Int), 0) := by
  unfold W9; rw [h1]; simp only [Int.toNat_natCast]; rw [h2]
  unfold X7 at hg
  rw [if_neg (by simp), if_neg (by omega), if_neg (by simp), if_neg (by omega), if_neg (by simp only [Int.toNat_natCast]; omega)]
  simp
theorem XH {L : List Int} (hl : ∀ x, x ∈ L → 0 ≤ x ∧ x ≤ 255) (k : Nat) : ∀ x, x ∈ L.drop k → 0 ≤ x ∧ x ≤ 255 := fun x hx => hl x (List.mem_of_mem_drop hx)
theorem Jg {L : List Int} (hl : ∀ x, x ∈ L → 0 ≤ x ∧ x ≤ 255) (k : Nat) : ∀ x, x ∈ L.take k → 0 ≤ x ∧ x ≤ 255 := fun x hx => hl x (List.mem_of_mem_take hx)
theorem trip {r : Int × Int × Int} (h1 : r.1 = 0) (h2 : r.2.1 = 0) : r = (0, 0, r.2.2) := by
  obtain ⟨a, b, c⟩ := r
  simp only at h1 h2
  rw [h1, h2]
theorem OX (L : List Int) (hl : ∀ x, x ∈ L → 0 ≤ x ∧ x ≤ 255) :
    (∃ e, rd 0 0 L = (0, 0, e) ∧ e ≠ 0) ∨
    ∃ (t : Int) (h : Nat), 0 ≤ t ∧ t ≤ 18446744073709551615 ∧ rd 0 0 L = (t, (h : Int), 0) ∧ 0 < h ∧ h ≤ 10 ∧ h ≤ L.length ∧ Enc t = L.take h ∧ (Enc t).length = h ∧
      (¬ X7 t ∨ (X7 t ∧
        ((∃ e, rd 0 0 (L.drop h) = (0, 0, e) ∧ e ≠ 0) ∨
         ∃ (n k : Nat), (n : Int) ≤ 18446744073709551615 ∧ rd 0 0 (L.drop h) = ((n : Int), (k : Int), 0) ∧ 0 < k ∧ k ≤ 10 ∧ h + k ≤ L.length ∧ Enc n = (L.drop h).take k ∧ (Enc (n : Int)).length = k))) := by
  rcases BH L hl with ⟨h1, h2, h3⟩ | ⟨t, ht0, ht1, hr, hle, htk⟩
  · refine .inl ⟨(rd 0 0 L).2.2, ?_, h3⟩
    exact trip h1 h2
  · refine .inr ⟨t, (Enc t).length, ht0, ht1, hr, (XR t).1, (XR t).2, hle, htk, rfl, ?_⟩
    by_cases hg : X7 t
    · refine .inr ⟨hg, ?_⟩
      rcases BH (L.drop (Enc t).length) (XH hl _) with ⟨h1, h2, h3⟩ | ⟨n, hn0, hn1, hr2, hle2, oO⟩
      · refine .inl ⟨(rd 0 0 (L.drop (Enc t).length)).2.2, ?_, h3⟩
        exact trip h1 h2
      · obtain ⟨N, rfl⟩ := Int.eq_ofNat_of_zero_le hn0
        rw [List.length_drop] at hle2
        exact .inr ⟨N, (Enc (N : Int)).length, hn1, hr2, (XR _).1, (XR _).2, by omega, oO, rfl⟩
    · exact .inl hg
theorem He (L : List Int) (hl : ∀ x, x ∈ L → 0 ≤ x ∧ x ≤ 255) (hL : L.length ≤ 1000000) :
    (∃ e, W9 L = (Xj, 0, e) ∧ e ≠ 0) ∨ ∃ f, Vf f ∧ W9 L = (f, ((YP f).length : Int), 0) ∧ (YP f).length ≤ L.length ∧ L = YP f ++ L.drop (YP f).length := by
  rcases OX L hl with ⟨e, h, he⟩ | ⟨t, h, ht0, ht1, hr, h0, h10, hle, htk, hlen, hc⟩
  · exact .inl ⟨e, G9 h he, he⟩
  rcases hc with hb | ⟨hg, hc⟩
  · exact .inl ⟨4, G8 hr hb, by omega⟩
  rcases hc with ⟨e, h2, he⟩ | ⟨n, k, hn, h2, hk0, hk10, hle2, oO, hlen2⟩
  · exact .inl ⟨e, G7 hr hg h2 he, he⟩
  have hL1 : L = Enc t ++ (Enc (n : Int) ++ L.drop (h + k)) := by
    rw [htk, oO, ← List.drop_drop, List.take_append_drop, List.take_append_drop]
  have hg' := hg
  unfold X7 at hg'
  by_cases h8 : t % 8 = 0
  · have ht : 8 * (t / 8) + 0 = t := by omega
    have he : YP ⟨t / 8, 0, n, []⟩ = Enc t ++ Enc (n : Int) := by
      show Enc (8 * (t / 8) + 0) ++ (Enc (UR 0 n 0) ++ []) = _
      rw [ht, List.append_nil]; rfl
    have hl2 : (YP ⟨t / 8, 0, n, []⟩).length = h + k := by rw [he, List.length_append, hlen, hlen2]
    refine .inr ⟨⟨t / 8, 0, n, []⟩, ⟨⟨by simp only; omega, by simp only; omega, .inl ⟨rfl, rfl⟩⟩, ⟨by simp only; omega, hn⟩, by simp, by simp⟩, ?_, ?_, ?_⟩
    · rw [Nu hr hg h2 h8, hl2]
    · rw [hl2]; omega
    · rw [hl2, he, List.append_assoc]; exact hL1
  · have h82 : t % 8 = 2 := by omega
    by_cases hs : n ≤ (L.drop (h + k)).length
    · have hbl : ((L.drop (h + k)).take n).length = n := by rw [List.length_take]; omega
      have he : YP ⟨t / 8, 2, 0, (L.drop (h + k)).take n⟩ = Enc t ++ (Enc (n : Int) ++ (L.drop (h + k)).take n) := by
        show Enc (8 * (t / 8) + 2) ++ (Enc (UR 2 0 ((L.drop (h + k)).take n).length) ++ _) = _
        rw [hbl, show 8 * (t / 8) + 2 = t by omega]; rfl
      have hl2 : (YP ⟨t / 8, 2, 0, (L.drop (h + k)).take n⟩).length = h + k + n := by rw [he, List.length_append, List.length_append, hlen, hlen2, hbl, Nat.add_assoc]
      refine .inr ⟨⟨t / 8, 2, 0, (L.drop (h + k)).take n⟩, ⟨⟨by simp only; omega, by simp only; omega, .inr ⟨rfl, rfl⟩⟩, ⟨by simp only; omega, by simp only; omega⟩, Jg (XH hl _) _, ?_⟩, ?_, ?_, ?_⟩
      · simp only [hbl]; rw [List.length_drop] at hs; omega
      · rw [RQ hr hg h2 h82 hs, hl2]
      · rw [hl2]; rw [List.length_drop] at hs; omega
      · have hd : L.drop (h + k + n) = (L.drop (h + k)).drop n := by rw [List.drop_drop]
        rw [hl2, he, hd, List.append_assoc, List.append_assoc, List.take_append_drop]; exact hL1
    · exact .inl ⟨5, RP hr hg h2 h82 (by omega), by omega⟩
theorem Qh {f : Zp} (h : Vf f) : 0 ≤ 8 * f.num + f.kind ∧ 8 * f.num + f.kind ≤ 18446744073709551615 := by
  obtain ⟨⟨h1, h2, h3⟩, _⟩ := h
  omega
theorem Qg {f : Zp} (h : Vf f) : 0 ≤ UR f.kind f.val f.bytes.length ∧ UR f.kind f.val f.bytes.length ≤ 18446744073709551615 := by
  obtain ⟨_, h1, _, h3⟩ := h
  unfold UR
  split <;> omega
theorem G5 (f : Zp) (h : Vf f) (T : List Int) : W9 (YP f ++ T) = (f, ((YP f).length : Int), 0) := by
  have tb := Qh h
  have sb := Qg h
  obtain ⟨⟨v1, v2, v3⟩, w1, w2, w3⟩ := h
  have e0 : YP f ++ T = Enc (8 * f.num + f.kind) ++ (Enc (UR f.kind f.val f.bytes.length) ++ (f.bytes ++ T)) := by simp [YP, encI]
  have r1 := BI _ tb.1 tb.2 (Enc (UR f.kind f.val f.bytes.length) ++ (f.bytes ++ T))
  have r2 := BI _ sb.1 sb.2 (f.bytes ++ T)
  rw [← e0] at r1
  have d1 : (YP f ++ T).drop (Enc (8 * f.num + f.kind)).length = Enc (UR f.kind f.val f.bytes.length) ++ (f.bytes ++ T) := by rw [e0, List.drop_left]
  rw [← d1] at r2
  have d2 : (YP f ++ T).drop ((Enc (8 * f.num + f.kind)).length + (Enc (UR f.kind f.val f.bytes.length)).length) = f.bytes ++ T := by rw [← List.drop_drop, d1, List.drop_left]
  have hg : X7 (8 * f.num + f.kind) := by unfold X7; omega
  have hlen : (YP f).length = (Enc (8 * f.num + f.kind)).length + (Enc (UR f.kind f.val f.bytes.length)).length + f.bytes.length := by
    simp only [YP, encI, List.length_append]; omega
  rw [hlen]
  obtain ⟨num, kind, val, B⟩ := f
  simp only at *
  rcases v3 with ⟨rfl, v4⟩ | ⟨rfl, v4⟩
  · obtain rfl : B = [] := List.eq_nil_of_length_eq_zero v4
    rw [Nu r1 hg r2 (by omega), show (8 * num + 0) / 8 = num by omega]
    rfl
  · subst v4
    have hs : UR 2 0 B.length = (B.length : Int) := rfl
    rw [hs] at r2 d2 ⊢
    rw [RQ r1 hg r2 (by omega) (by rw [d2, List.length_append]; omega), d2, List.take_left, show (8 * num + 2) / 8 = num by omega]
def XU : Nat → List Zp → Nat → List Int → List Zp × Int × Int
  | 0, acc, _, _ => (acc, 0, 0)
  | f + 1, acc, i, L =>
    if L.length = 0 then (acc, 0, 0) else if 1024 ≤ acc.length then ([], (i : Int), 3) else
    if (W9 L).2.2 ≠ 0 then ([], (i : Int), (W9 L).2.2) else XU f (acc ++ [(W9 L).1]) (i + (W9 L).2.1.toNat) (L.drop (W9 L).2.1.toNat)
def YD (L : List Int) : List Zp × Int × Int := XU (L.length + 1) [] 0 L
theorem Qo {f : Nat} {acc : List Zp} {i : Nat} {L : List Int} (h : L.length = 0) : XU (f + 1) acc i L = (acc, 0, 0) := by rw [XU, if_pos h]
theorem Qn {f : Nat} {acc : List Zp} {i : Nat} {L : List Int} (h : ¬ L.length = 0) (h1 : 1024 ≤ acc.length) : XU (f + 1) acc i L = ([], (i : Int), 3) := by rw [XU, if_neg h, if_pos h1]
theorem Qm {f : Nat} {acc : List Zp} {i : Nat} {L : List Int} {x : Zp} {s e : Int} (h : ¬ L.length = 0) (h1 : acc.length < 1024) (h2 : W9 L = (x, s, e)) (he : e ≠ 0) : XU (f + 1) acc i L = ([], (i : Int), e) := by
  rw [XU, if_neg h, if_neg (by omega), h2, if_pos he]
theorem UD {f : Nat} {acc : List Zp} {i : Nat} {L : List Int} {x : Zp} {s : Nat} (h : ¬ L.length = 0) (h1 : acc.length < 1024) (h2 : W9 L = (x, (s : Int), 0)) : XU (f + 1) acc i L = XU f (acc ++ [x]) (i + s) (L.drop s) := by
  rw [XU, if_neg h, if_neg (by omega), h2, if_neg (by simp)]
  simp
theorem UW (f : Zp) : 2 ≤ (YP f).length := by
  have h1 := (XR (8 * f.num + f.kind)).1
  have h2 := (XR (UR f.kind f.val f.bytes.length)).1
  simp only [YP, encI, List.length_append]
  omega
theorem NG (f : Zp) : (YP f).length ≤ 20 + f.bytes.length := by
  have h1 := (XR (8 * f.num + f.kind)).2
  have h2 := (XR (UR f.kind f.val f.bytes.length)).2
  simp only [YP, encI, List.length_append]
  omega
theorem Jo (f : Zp) (h : Vf f) : ∀ x, x ∈ YP f → 0 ≤ x ∧ x ≤ 255 := by
  intro x hx
  have tb := Qh h
  have sb := Qg h
  simp only [YP, encI, List.mem_append] at hx
  rcases hx with hx | hx | hx
  · exact OU _ tb.1 tb.2 x hx
  · exact OU _ sb.1 sb.2 x hx
  · exact h.2.2.1 x hx
theorem Ld (F : List Zp) : ∀ (f : Nat) (acc : List Zp) (i : Nat), (∀ x, x ∈ F → Vf x) → acc.length + F.length ≤ 1024 → (F.flatMap YP).length < f → XU f acc i (F.flatMap YP) = (acc ++ F, 0, 0) := by
  induction F with
  | nil =>
    intro f acc i _ _ hf
    obtain ⟨g, rfl⟩ : ∃ g, f = g + 1 := ⟨f - 1, by omega⟩
    rw [Qo (by simp)]
    simp
  | cons x F ih =>
    intro f acc i hv hn hf
    obtain ⟨g, rfl⟩ : ∃ g, f = g + 1 := ⟨f - 1, by omega⟩
    have hp := UW x
    rw [List.flatMap_cons, List.length_append] at hf
    simp only [List.length_cons] at hn
    rw [List.flatMap_cons, UD (by rw [List.length_append]; omega) (by omega) (G5 x (hv x (by simp)) _), List.drop_left, ih g _ _ (fun y hy => hv y (by simp [hy])) (by simp; omega) (by omega)]
    simp
theorem Ce (f : Nat) : ∀ (acc : List Zp) (i : Nat) (L : List Int), (∀ x, x ∈ L → 0 ≤ x ∧ x ≤ 255) → L.length ≤ 1000000 → L.length < f →
    (∃ e j, XU f acc i L = ([], ((j : Nat) : Int), e) ∧ e ≠ 0 ∧ i ≤ j ∧ j < i + L.length) ∨ ∃ G, XU f acc i L = (acc ++ G, 0, 0) ∧ G.flatMap YP = L ∧ (∀ x, x ∈ G → Vf x) := by
  induction f with
  | zero => intro acc i L _ _ h; omega
  | succ f ih =>
    intro acc i L hl hL hf
    by_cases h0 : L.length = 0
    · exact .inr ⟨[], by rw [Qo h0, List.append_nil], (List.eq_nil_of_length_eq_zero h0).symm, by simp⟩
    by_cases h1 : 1024 ≤ acc.length
    · exact .inl ⟨3, i, Qn h0 h1, by omega, by omega, by omega⟩
    rcases He L hl hL with ⟨e, ho, he⟩ | ⟨x, hx, ho, hle, hL2⟩
    · exact .inl ⟨e, i, Qm h0 (by omega) ho he, he, by omega, by omega⟩
    · have hp := UW x
      rw [UD h0 (by omega) ho]
      have hd : (L.drop (YP x).length).length = L.length - (YP x).length := List.length_drop
      rcases ih (acc ++ [x]) (i + (YP x).length) (L.drop (YP x).length) (XH hl _) (by omega) (by omega) with ⟨e, j, h2, h3, h4, h5⟩ | ⟨G, h2, h3, h4⟩
      · exact .inl ⟨e, j, h2, h3, by omega, by omega⟩
      · refine .inr ⟨x :: G, by rw [h2]; simp, by rw [List.flatMap_cons, h3]; exact hL2.symm, ?_⟩
        intro y hy
        rcases List.mem_cons.1 hy with rfl | hy
        · exact hx
        · exact h4 y hy
end Go.Proofs.Ytnhlpahoomcgnaa
namespace Go.Proofs.Ytnhlpahoomcgnaa
open Go.RowKit
theorem info25 : (Try.prog.info? 99).map (fun i => (i.zero, i.size, i.bytes)) = some (some (.agg #[Z8 0, Z8 0, Z7 0, .slice none 0 0]), 4, 48) := by kernel_rfl
theorem getD_lt {α : Type} (l : List α) (k : Nat) (d : α) (h : k < l.length) : l.getD k d = l[k] := by rw [List.getD_eq_getElem?_getD, List.getElem?_eq_getElem h]; rfl
theorem VI {w : World} {B e s n c : Nat} {a : Option Addr} {xs : List Value} (h : w.ownsRow B e s (.slice a n c) n xs) (hn : 0 < n) : ∃ g, a = some ⟨g, 0, none⟩ ∧ B ≤ g ∧ g < w.heap.size := by
  rcases h.2 with ⟨_, h0⟩ | ⟨g, cap, cur, e, hb, hg, _⟩
  · omega
  · simp only [Value.slice.injEq] at e
    exact ⟨g, e.1, hb, (Array.getElem?_eq_some_iff.1 hg).1⟩
theorem own_base {w : World} {B B' e size n : Nat} {v : Value} {xs : List Value} (h : w.ownsRow B' e size v n xs) (hB : B ≤ B') : w.ownsRow B e size v n xs :=
  ⟨h.1, h.2.imp id (fun ⟨g, cap, cur, a, b, c⟩ => ⟨g, cap, cur, a, Nat.le_trans hB b, c⟩)⟩
theorem own_below {w w' : World} {B e size n : Nat} {v : Value} {xs : List Value} (h : w.ownsRow B e size v n xs) (hb : Below w.heap.size w w') : w'.ownsRow B e size v n xs := by
  refine ⟨h.1, ?_⟩
  rcases h.2 with hn | ⟨g, cap, cur, rfl, hg, hgg, rest⟩
  · exact .inl hn
  · exact .inr ⟨g, cap, cur, rfl, hg, by rw [hb.block g (Array.getElem?_eq_some_iff.1 hgg).1]; exact hgg, rest⟩
theorem own_ne {w : World} {B B' e e' size size' n n' : Nat} {v v' : Value} {xs xs' : List Value} (h : w.ownsRow B e size v n xs) (h' : w.ownsRow B' e' size' v' n' xs') (hne : e ≠ e') : v.ownBlock = none ∨ v.ownBlock ≠ v'.ownBlock := by
  rcases h.2 with ⟨rfl, _⟩ | ⟨g, cap, cur, rfl, _, hgg, _⟩
  · exact .inl rfl
  · rcases h'.2 with ⟨rfl, _⟩ | ⟨g', cap', cur', rfl, _, hgg', _⟩
    · exact .inr (by simp [Value.ownBlock])
    · refine .inr fun he => ?_
      simp only [Value.ownBlock, Option.some.injEq] at he
      subst he
      rw [hgg] at hgg'
      simp only [Option.some.injEq, Obj.cells.injEq] at hgg'
      exact hne hgg'.2.1
theorem xw {w : World} {a : Option Addr} {c : Nat} {M : List Int} (h : Sl w a c M) (n : Nat) : Sl w a c (M.take n) := by
  rcases h with ⟨rfl, rfl, rfl⟩ | ⟨x, rfl, hx⟩
  · exact .inl ⟨rfl, rfl, by simp⟩
  · refine .inr ⟨x, rfl, fun k hk => ?_⟩
    rw [List.length_take] at hk
    obtain ⟨b, off, rfl, hc⟩ := hx k (by omega)
    refine ⟨b, off, rfl, ?_⟩
    rw [hc, List.getD_eq_getElem?_getD, List.getD_eq_getElem?_getD, List.getElem?_take, if_pos (by omega)]
theorem BL (kh : IntKind) (a : Option Addr) (n c k : Nat) (w : World) (h : k ≤ c) : (Instr.slice 50 (.slice a n c) none (some (.int kh (k : Int))) none).run Try.prog w = .ok (.slice a k c) w := by
  have hs : (sizeOf (Try.prog.elem 50)).run Try.prog w = .ok 1 w := by kernel_rfl
  have e := run_slice_h (P := Try.prog) w 50 a n c (by kernel_rfl) kh (k : Int) (by omega) (by omega)
  rw [e, hs]
  cases a <;> simp [sliced, Result.andThen, Addr.add]
def Xi (a : Option Addr) (c k : Nat) : Option Addr := if c = k then a else a.map (·.add k)
theorem TU (kl : IntKind) (a : Option Addr) (n c k : Nat) (w : World) (h : k ≤ n) : (Instr.slice 50 (.slice a n c) (some (.int kl (k : Int))) none none).run Try.prog w = .ok (.slice (Xi a c k) (n - k) (c - k)) w := by
  have hs : (sizeOf (Try.prog.elem 50)).run Try.prog w = .ok 1 w := by kernel_rfl
  have e := run_slice_l (P := Try.prog) w 50 a n c (by kernel_rfl) kl (k : Int) (by omega) (by omega)
  rw [e, hs]
  by_cases hk : c = k <;> cases a <;> simp [sliced, Result.andThen, Xi, hk]
theorem Ny {w : World} {a : Option Addr} {c : Nat} {L : List Int} (h : Sl w a c L) (k : Nat) (hc : L.length ≤ c) : Sl w (Xi a c k) (c - k) (L.drop k) := by
  rcases h with ⟨rfl, rfl, rfl⟩ | ⟨x, rfl, hx⟩
  · exact .inl ⟨by simp [Xi], by omega, by simp⟩
  · by_cases hk : c = k
    · refine .inr ⟨x, by simp [Xi, hk], fun j hj => ?_⟩
      rw [List.length_drop] at hj
      omega
    · refine .inr ⟨x.add k, by simp [Xi, hk], fun j hj => ?_⟩
      rw [List.length_drop] at hj
      obtain ⟨b, off, rfl, h1⟩ := hx (k + j) (by omega)
      refine ⟨b, off + k, by rw [Go.WideShapes.add_plain], ?_⟩
      rw [Nat.add_assoc, h1, List.getD_eq_getElem?_getD, List.getD_eq_getElem?_getD, List.getElem?_drop]
def Own (w : World) (B : Nat) (v : Value) (L : List Int) : Prop := w.ownsRow B 5 1 v L.length (L.map (Value.int .u8))
theorem Own.sl {w : World} {B : Nat} {v : Value} {L : List Int} (h : Own w B v L) : ∃ a c, v = .slice a L.length c ∧ Sl w a c L ∧ L.length ≤ c := by
  obtain ⟨a, c, h1, h2, _, h3⟩ := oV h
  exact ⟨a, c, h1, h2, h3⟩
theorem Own.below {w w' : World} {B : Nat} {v : Value} {L : List Int} (h : Own w B v L) (hb : Below w.heap.size w w') : Own w' B v L := own_below h hb
theorem Own.base {w : World} {B B' : Nat} {v : Value} {L : List Int} (h : Own w B' v L) (hB : B ≤ B') : Own w B v L := World.ownsRow.mono h hB
theorem Own.nil (w : World) (B : Nat) : Own w B (.slice none 0 0) [] := World.ownsRow_nil _ _ _ _
def FI (num kind val : Int) (n : Nat) : Bool := decide (1 ≤ num ∧ num ≤ 536870911 ∧ ((kind = 0 ∧ n = 0) ∨ (kind = 2 ∧ val = 0)))
theorem OV {num kind val : Int} {n : Nat} (h : ES num kind val n) : FI num kind val n = true := by unfold FI ES at *; exact decide_eq_true h
theorem Ji {num kind val : Int} {n : Nat} (h : ¬ ES num kind val n) : FI num kind val n = false := by unfold FI ES at *; exact decide_eq_false h
theorem bret {num kind val : Int} {n : Nat} {b : Bool} (h : b = true ↔ ES num kind val n) : Ending.returned (.bool b) = .returned (.bool (FI num kind val n)) := by
  by_cases hv : ES num kind val n
  · rw [OV hv, h.2 hv]
  · rw [Ji hv]
    cases b with
    | false => rfl
    | true => exact absurd (h.1 rfl) hv
theorem FH (num kind val : Int) (a : Option Addr) (n c : Nat) (w : World) :
    Calls Try.prog 67 #[.agg #[Z8 num, Z8 kind, Z7 val, .slice a n c]] w fun e w' => e = .returned (.bool (FI num kind val n)) ∧ Below w.heap.size w w' := by
  have hb := (Below.refl w.heap.size w).alloc (Nat.le_refl _) (.cells #[Z8 num, Z8 kind, Z7 val, .slice a n c] 99)
  go_enter Try.func67, Try.ntmps67
  go_wp2
  all_goals go_ret
  all_goals refine ⟨bret ?_, (Below.refl _ _).alloc (Nat.le_refl _) _⟩
  all_goals clear hb
  all_goals unfold ES
  all_goals simp at *
  all_goals omega
theorem clone_any (a : Option Addr) (c : Nat) (L : List Int) (w : World) (hL : L.length ≤ 1000000) (hr : Sl w a c L) :
    Calls Try.prog 97 #[.slice a L.length c] w fun e w' => ∃ v, e = .returned v ∧ Own w' w.heap.size v L ∧ Below w.heap.size w w' := by
  obtain ⟨i0, hi, hz0, hz1, hz2⟩ := info_parts info5
  have HI := Z9 hi
  have HZ0 := Z9 hz0
  have HZ1 := Z9 hz1
  have HZ2 := Z9 hz2
  have HR1 := Z9 (ZH hr ((Below.refl w.heap.size w).alloc (Nat.le_refl _) (.cells #[] 5)))
  clear hi hz0 hz1 hz2
  have hnil := fun (w : World) (a : Option Addr) (n c : Nat) => run_eql_slice_nil (P := Try.prog) w 50 5 a n c Try.underlying50
  rcases a with _ | x
  · have hn : L = [] ∧ c = 0 := by
      rcases hr with ⟨_, h1, h2⟩ | ⟨x, hx, _⟩
      · exact ⟨h2, h1⟩
      · cases hx
    obtain ⟨rfl, rfl⟩ := hn
    clear HR1 hr
    go_enter Try.func97, Try.ntmps97
    go_wp2
    go_ret
    exact ⟨_, rfl, Own.nil _ _, Below.refl _ _⟩
  · clear hr
    go_enter Try.func97, Try.ntmps97
    go_wp2_with (at_builtin; refine Vy rfl _ _ 50 rfl w.heap.size i0 Try.underlying50 HI.out HZ0.out HZ1.out HZ2.out _ 0 [] rfl (UC w) (some x) L.length c L rfl rfl HR1.out ?c1 ?c2 ?_)
    case c1 => omega
    case c2 => simp
    intro v' w1 hown hgrow
    have hbel := XT (w0 := w) (Nat.le_refl _) (by simp) (UC w) ((Below.refl _ w).alloc (Nat.le_refl _) _) hgrow
    have HO : Hid (Own w1 w.heap.size v' L) := by
      show w1.ownsRow _ _ _ _ _ _
      simpa using hown
    clear hgrow hown HR1
    go_wp2
    go_ret
    exact ⟨_, rfl, HO.out, hbel⟩
end Go.Proofs.Ytnhlpahoomcgnaa
namespace Go.Proofs.Ytnhlpahoomcgnaa
open Go.RowKit
end Go.Proofs.Ytnhlpahoomcgnaa
namespace Go.Proofs.Ytnhlpahoomcgnaa
open Go.RowKit
def Box (w : World) (g o : Nat) (num kind val : Int) (b : Option Addr) (n d : Nat) : Prop :=
  w.cell? ⟨g, o, none⟩ = some (Z8 num) ∧ w.cell? ⟨g, o + 1, none⟩ = some (Z8 kind) ∧ w.cell? ⟨g, o + 2, none⟩ = some (Z7 val) ∧ w.cell? ⟨g, o + 3, none⟩ = some (.slice b n d)
theorem xu (w : World) (num kind val : Int) (b : Option Addr) (n d : Nat) : Box (w.alloc (.cells #[Z8 num, Z8 kind, Z7 val, .slice b n d] 99)) w.heap.size 0 num kind val b n d := by
  refine ⟨?_, ?_, ?_, ?_⟩ <;> simp
theorem Box.lt {w : World} {g o : Nat} {num kind val : Int} {b : Option Addr} {n d : Nat} (h : Box w g o num kind val b n d) : g < w.heap.size := World.block_lt_of_cell? w (⟨g, o, none⟩ : Addr) h.1
theorem Box.below {w w' : World} {g o : Nat} {num kind val : Int} {b : Option Addr} {n d : Nat} (h : Box w g o num kind val b n d) (hb : Below w.heap.size w w') : Box w' g o num kind val b n d :=
  ⟨(hb.cell (p := ⟨g, o, none⟩) h.lt).trans h.1, (hb.cell (p := ⟨g, o + 1, none⟩) h.lt).trans h.2.1, (hb.cell (p := ⟨g, o + 2, none⟩) h.lt).trans h.2.2.1, (hb.cell (p := ⟨g, o + 3, none⟩) h.lt).trans h.2.2.2⟩
theorem WO {w0 w w' : World} (h : Below w0.heap.size w0 w) (h2 : Below w.heap.size w w') : Below w0.heap.size w0 w' := h.trans (h2.mono h.size)
def szB (n : Int) : Int := if n < 0 then 0 else 1 + ((Enc n).length : Nat) + n
theorem KW {a : Option Addr} {c : Nat} {L : List Int} {w : World} (hL : L.length ≤ 1000000) (hr : Sl w a c L) (hw : ∀ x, x ∈ L → W8 x) {e0 : Int} (h : rd 0 0 L = (0, 0, e0)) :
    Calls Try.prog 96 #[.slice a L.length c] w fun e w' => e = .returned (.tuple #[Z7 0, Z8 0, Z8 e0]) ∧ w = w' := by
  have := OW a c L w hL hr hw
  rw [h] at this
  exact this
theorem Nv {a : Option Addr} {c : Nat} {L : List Int} {w : World} (hL : L.length ≤ 1000000) (hr : Sl w a c L) (hw : ∀ x, x ∈ L → W8 x) {t : Int} {k : Nat} (h : rd 0 0 L = (t, (k : Int), 0)) :
    Calls Try.prog 96 #[.slice a L.length c] w fun e w' => e = .returned (.tuple #[Z7 t, Z8 (k : Int), Z8 0]) ∧ w = w' := by
  have := OW a c L w hL hr hw
  rw [h] at this
  exact this
theorem FM (a : Option Addr) (c : Nat) (L : List Int) (w : World) (hL : L.length ≤ 1000000) (hr : Sl w a c L) (hw : ∀ x, x ∈ L → W8 x) (e0 : Int) (h : rd 0 0 L = (0, 0, e0)) (he : e0 ≠ 0) :
    Calls Try.prog 95 #[.slice a L.length c] w fun e w' => e = .returned (.tuple #[.agg #[Z8 0, Z8 0, Z7 0, .slice none 0 0], Z8 0, Z8 e0]) ∧ Below w.heap.size w w' := by
  have hbn := (Below.refl w.heap.size w).alloc (Nat.le_refl _) (.cells #[Z8 0, Z8 0, Z7 0, .slice none 0 0] 99)
  have cR := KW hL (ZH hr hbn) hw h
  have h1 : (e0 != 0) = true := by simpa using he
  have h2 : (e0 == 0) = false := by simpa using he
  clear h he hbn
  go_enter Try.func95, Try.ntmps95
  go_wp2_with fail
  refine cR.mono ?_
  rintro e w1 ⟨rfl, rfl⟩
  clear cR
  go_wp2
  exact bodyPost_ret (v := .tuple #[.agg #[Z8 0, Z8 0, Z7 0, .slice none 0 0], Z8 0, Z8 e0]) (by simp [results, Try.results95, go_sem]) rfl ⟨rfl, (Below.refl _ _).alloc (Nat.le_refl _) _⟩
theorem BN (a : Option Addr) (c : Nat) (L : List Int) (w : World) (hL : L.length ≤ 1000000) (hr : Sl w a c L) (hw : ∀ x, x ∈ L → W8 x) (t kd : Int) (k : Nat) (h : rd 0 0 L = (t, (k : Int), 0)) (hg : X7 t) (hk : t % 8 = kd) (hkd : kd = 0 ∨ kd = 2) :
    Calls Try.prog 95 #[.slice a L.length c] w fun e w' => e = .returned (.tuple #[.agg #[Z8 (t / 8), Z8 kd, Z7 0, .slice none 0 0], Z8 (k : Int), Z8 0]) ∧ Below w.heap.size w w' := by
  have hbn := (Below.refl w.heap.size w).alloc (Nat.le_refl _) (.cells #[Z8 0, Z8 0, Z7 0, .slice none 0 0] 99)
  have cR := Nv hL (ZH hr hbn) hw h
  obtain ⟨h1, h2, h3⟩ := hg
  have h0 : 0 ≤ t := by omega
  have h4 : t ≤ 18446744073709551615 := by omega
  clear h hbn h3
  rcases hkd with rfl | rfl
  · go_enter Try.func95, Try.ntmps95
    go_wp2_with fail
    refine cR.mono ?_
    rintro e w1 ⟨rfl, rfl⟩
    clear cR
    go_wp2
    exact bodyPost_ret (v := .tuple #[.agg #[Z8 (t / 8), Z8 0, Z7 0, .slice none 0 0], Z8 (k : Int), Z8 0]) (by simp [results, Try.results95, go_sem]) rfl ⟨rfl, (Below.refl _ _).alloc (Nat.le_refl _) _⟩
  · go_enter Try.func95, Try.ntmps95
    go_wp2_with fail
    refine cR.mono ?_
    rintro e w1 ⟨rfl, rfl⟩
    clear cR
    go_wp2
    exact bodyPost_ret (v := .tuple #[.agg #[Z8 (t / 8), Z8 2, Z7 0, .slice none 0 0], Z8 (k : Int), Z8 0]) (by simp [results, Try.results95, go_sem]) rfl ⟨rfl, (Below.refl _ _).alloc (Nat.le_refl _) _⟩
theorem FK (a : Option Addr) (c : Nat) (L : List Int) (w : World) (hL : L.length ≤ 1000000) (hr : Sl w a c L) (hw : ∀ x, x ∈ L → W8 x) (t : Int) (k : Nat) (h : rd 0 0 L = (t, (k : Int), 0)) (h0 : 0 ≤ t) (h1 : t ≤ 18446744073709551615) (hg : ¬ X7 t) :
    Calls Try.prog 95 #[.slice a L.length c] w fun e w' => e = .returned (.tuple #[.agg #[Z8 0, Z8 0, Z7 0, .slice none 0 0], Z8 0, Z8 4]) ∧ Below w.heap.size w w' := by
  have hbn := (Below.refl w.heap.size w).alloc (Nat.le_refl _) (.cells #[Z8 0, Z8 0, Z7 0, .slice none 0 0] 99)
  have cR := Nv hL (ZH hr hbn) hw h
  unfold X7 at hg
  have HG := Z9 hg
  clear h hbn hg
  go_enter Try.func95, Try.ntmps95
  go_wp2_with fail
  refine cR.mono ?_
  rintro e w1 ⟨rfl, rfl⟩
  clear cR
  go_wp2
  all_goals first
    | (exfalso; have hh := HG.out; clear HG; simp at *; omega)
    | exact bodyPost_ret (v := .tuple #[.agg #[Z8 0, Z8 0, Z7 0, .slice none 0 0], Z8 0, Z8 4]) (by simp [results, Try.results95, go_sem]) rfl ⟨rfl, (Below.refl _ _).alloc (Nat.le_refl _) _⟩
end Go.Proofs.Ytnhlpahoomcgnaa
