/-
  What the program's functions are held to: a cache in memory by any representation that lies in blocks of its own.
-/
import Derived.Test.YtjblfpifhbmfoaaCD
import Derived.Test.YtjblfpifhbmfoaaCU
namespace Go.Proofs.Ytjblfpifhbmfoaa
open Go.RowKit
set_option linter.unusedSimpArgs false
set_option linter.unusedVariables false

/-- A cache of size z with these keys, the least recently used one first. -/
def pushZ (Ks : List (List Int)) (z : Nat) (k : List Int) : List (List Int) × Bool :=
  if idxL k Ks 0 < 0 then (if z < Ks.length + 1 then (Ks ++ [k]).drop 1 else Ks ++ [k], true) else (Ks.take (idxL k Ks 0).toNat ++ Ks.drop ((idxL k Ks 0).toNat + 1) ++ [k], false)
theorem capN_range (size : Int) : 0 ≤ capN size ∧ capN size ≤ 1024 := by unfold capN; omega
theorem pushK_Z (Ks : List (List Int)) (size : Int) (k : List Int) : pushK Ks size k = pushZ Ks (capN size).toNat k := by
  have := capN_range size
  unfold pushK pushZ
  split
  · congr 1
    by_cases h : capN size < (Ks.length : Int) + 1
    · rw [if_pos h, if_pos (by omega)]
    · rw [if_neg h, if_neg (by omega)]
  · rfl
structure Wc (z : Nat) (Ks : List (List Int)) : Prop where
  kc : Kc Ks
  nd : Ks.Nodup
  le : Ks.length ≤ z
  zm : z ≤ 1024
theorem Wc.nil {z : Nat} (h : z ≤ 1024) : Wc z [] := ⟨Kc.nil, List.nodup_nil, by simp, h⟩
theorem split_key {Ks : List (List Int)} {i : Nat} (h : i < Ks.length) : Ks = Ks.take i ++ Ks.getD i [] :: Ks.drop (i + 1) := by
  conv => lhs; rw [← List.take_append_drop i Ks, List.drop_eq_getElem_cons h]
  rw [getD_lt Ks i [] h]
theorem out_len {Ks : List (List Int)} {i : Nat} (h : i < Ks.length) : (Ks.take i ++ Ks.drop (i + 1)).length + 1 = Ks.length := by
  rw [List.length_append, List.length_take, List.length_drop]
  omega
theorem out_perm {Ks : List (List Int)} {i : Nat} (h : i < Ks.length) : (Ks.getD i [] :: (Ks.take i ++ Ks.drop (i + 1))).Perm Ks := by
  conv => rhs; rw [split_key h]
  exact List.perm_middle.symm
theorem Wc.drop {z : Nat} {Ks : List (List Int)} (h : Wc z Ks) (k : List Int) : Wc z (dropM Ks k).1 := by
  unfold dropM
  rcases idxL_range k Ks 0 with hi | ⟨i, hi, hil, hk⟩
  · rw [if_pos (by omega)]; exact h
  · rw [Nat.zero_add] at hi
    rw [hi, if_neg (by omega), Int.toNat_natCast]
    have hp := (List.Perm.nodup_iff (out_perm hil)).2 h.nd
    rw [List.nodup_cons] at hp
    have := out_len hil
    have := h.le
    exact ⟨(h.kc.take i).app (h.kc.drop (i + 1)), hp.2, by show (Ks.take i ++ Ks.drop (i + 1)).length ≤ z; omega, h.zm⟩
theorem Wc.push {z : Nat} {Ks : List (List Int)} (h : Wc z Ks) {k : List Int} (hk32 : k.length = 32) : Wc z (pushZ Ks z k).1 := by
  have hle := h.le
  unfold pushZ
  rcases idxL_range k Ks 0 with hi | ⟨i, hi, hil, hk⟩
  · have hn : k ∉ Ks := fun hm => by
      have := (idxL_mem k Ks 0).1 hm
      omega
    rw [if_pos (by omega)]
    have hnd : (Ks ++ [k]).Nodup := by
      rw [List.nodup_append]
      exact ⟨h.nd, by simp, fun a ha b hb e => hn (by rw [List.mem_singleton] at hb; rw [← hb, ← e]; exact ha)⟩
    have hkc := h.kc.app (Kc.one hk32)
    show Wc z (if z < Ks.length + 1 then (Ks ++ [k]).drop 1 else Ks ++ [k])
    by_cases hc : z < Ks.length + 1
    · rw [if_pos hc]
      exact ⟨hkc.drop 1, hnd.sublist (List.drop_sublist 1 _), by rw [List.length_drop, List.length_append]; simp; omega, h.zm⟩
    · rw [if_neg hc]
      exact ⟨hkc, hnd, by rw [List.length_append]; simp; omega, h.zm⟩
  · rw [Nat.zero_add] at hi
    rw [hi, if_neg (by omega), Int.toNat_natCast]
    have hp := (List.Perm.nodup_iff (out_perm hil)).2 h.nd
    rw [hk] at hp
    have hl := out_len hil
    have hp2 : (Ks.take i ++ Ks.drop (i + 1) ++ [k]).Nodup := (List.Perm.nodup_iff (List.perm_append_comm (l₁ := Ks.take i ++ Ks.drop (i + 1)) (l₂ := [k]))).2 hp
    refine ⟨((h.kc.take i).app (h.kc.drop (i + 1))).app (Kc.one hk32), hp2, ?_, h.zm⟩
    show (Ks.take i ++ Ks.drop (i + 1) ++ [k]).length ≤ z
    rw [List.length_append]
    simp only [List.length_singleton]
    omega
abbrev CRep := World → Nat → (Nat → Prop) → Nat → List (List Int) → Prop
/-- The cache has now these keys, in S' and new blocks. -/
def UpdC (R : CRep) (g B : Nat) (S : Nat → Prop) (z : Nat) (Ks : List (List Int)) (w w' : World) : Prop := ∃ S', R w' g S' z Ks ∧ (∀ k, S' k → S k ∨ w.heap.size ≤ k) ∧ ButS B S w w'
/-- THE PROGRAM'S FUNCTIONS, by their numbers: New, Push, Remove, Has, Keys, Len, Reset. -/
structure CacheC (R : CRep) (fN fP fR fH fK fL fZ : FuncId) : Prop where
  inn : ∀ {w g S z Ks}, R w g S z Ks → ∀ k, S k → k < w.heap.size
  keep : ∀ {w w' g S z Ks}, R w g S z Ks → w.heap.size ≤ w'.heap.size → (∀ k, S k → w'.heap[k]? = w.heap[k]?) → R w' g S z Ks
  new : ∀ w size, I64 size → Calls Try.prog fN #[.int .i64 size] w fun e w' => ∃ g S, e = .returned (.pointer (some ⟨g, 0, none⟩)) ∧ R w' g S (capN size).toNat [] ∧ (∀ k, S k → w.heap.size ≤ k) ∧ Below w.heap.size w w'
  push : ∀ w g S z Ks k B, R w g S z Ks → Wc z Ks → k.length = 32 → (∀ j, S j → B ≤ j) → B ≤ w.heap.size → Calls Try.prog fP #[.pointer (some ⟨g, 0, none⟩), .agg (w8s k)] w fun e w' => e = .returned (.bool (pushZ Ks z k).2) ∧ UpdC R g B S z (pushZ Ks z k).1 w w'
  remove : ∀ w g S z Ks k B, R w g S z Ks → Wc z Ks → k.length = 32 → (∀ j, S j → B ≤ j) → B ≤ w.heap.size → Calls Try.prog fR #[.pointer (some ⟨g, 0, none⟩), .agg (w8s k)] w fun e w' => e = .returned (.bool (dropM Ks k).2) ∧ UpdC R g B S z (dropM Ks k).1 w w'
  reset : ∀ w g S z Ks B, R w g S z Ks → Wc z Ks → (∀ j, S j → B ≤ j) → B ≤ w.heap.size → Calls Try.prog fZ #[.pointer (some ⟨g, 0, none⟩)] w fun e w' => e = .returned (.tuple #[]) ∧ UpdC R g B S z [] w w'
  has : ∀ w g S z Ks k, R w g S z Ks → Wc z Ks → k.length = 32 → Calls Try.prog fH #[.pointer (some ⟨g, 0, none⟩), .agg (w8s k)] w fun e w' => e = .returned (.bool (decide (k ∈ Ks))) ∧ Below w.heap.size w w'
  keys : ∀ w g S z Ks, R w g S z Ks → Wc z Ks → Calls Try.prog fK #[.pointer (some ⟨g, 0, none⟩)] w fun e w' => ∃ a c, e = .returned (.slice a Ks.length c) ∧ Cs w' a (kcells Ks) ∧ Ks.length ≤ c ∧ Below w.heap.size w w'
  len : ∀ w g S z Ks, R w g S z Ks → Wc z Ks → Calls Try.prog fL #[.pointer (some ⟨g, 0, none⟩)] w fun e w' => e = .returned (.int .i64 Ks.length) ∧ Below w.heap.size w w'
/-- WHAT THE METHODS OF A NIL CACHE ARE HELD TO. -/
structure NilCC (fP fR fH fK fL fZ : FuncId) : Prop where
  push : ∀ w k, k.length = 32 → Calls Try.prog fP #[.pointer none, .agg (w8s k)] w fun e w' => e = .returned (.bool true) ∧ Below w.heap.size w w'
  remove : ∀ w k, k.length = 32 → Calls Try.prog fR #[.pointer none, .agg (w8s k)] w fun e w' => e = .returned (.bool false) ∧ Below w.heap.size w w'
  has : ∀ w k, k.length = 32 → Calls Try.prog fH #[.pointer none, .agg (w8s k)] w fun e w' => e = .returned (.bool false) ∧ Below w.heap.size w w'
  keys : ∀ w, Calls Try.prog fK #[.pointer none] w fun e w' => ∃ a c, e = .returned (.slice a 0 c) ∧ Below w.heap.size w w'
  len : ∀ w, Calls Try.prog fL #[.pointer none] w fun e w' => e = .returned (.int .i64 0) ∧ Below w.heap.size w w'
  reset : ∀ w, Calls Try.prog fZ #[.pointer none] w fun e w' => e = .returned (.tuple #[]) ∧ Below w.heap.size w w'
/-- A cache somewhere in blocks made since w. -/
def KC (R : CRep) (w : World) (g z : Nat) (Ks : List (List Int)) (V : World) : Prop := ∃ S, R V g S z Ks ∧ (∀ k, S k → w.heap.size ≤ k) ∧ Below w.heap.size w V
theorem KC.bel {R : CRep} {w V : World} {g z : Nat} {Ks : List (List Int)} (h : KC R w g z Ks V) : Below w.heap.size w V := by
  obtain ⟨S, hr, hs, hbel⟩ := h
  exact hbel
section
variable {R : CRep} {fN fP fR fH fK fL fZ : FuncId} {w V V2 : World} {g z : Nat} {Ks : List (List Int)} (hC : CacheC R fN fP fR fH fK fL fZ)
theorem KC.of_upd {S : Nat → Prop} {Ks2 : List (List Int)} (hs : ∀ k, S k → w.heap.size ≤ k) (hbel : Below w.heap.size w V) (h : UpdC R g w.heap.size S z Ks2 V V2) : KC R w g z Ks2 V2 := by
  obtain ⟨S2, hr, hs2, hb⟩ := h
  have := hbel.size
  exact ⟨S2, hr, fun k hk => (hs2 k hk).elim (hs k) (by omega), hbel.trans hb.1⟩
include hC
theorem KC.below (h : KC R w g z Ks V) (hb : Below V.heap.size V V2) : KC R w g z Ks V2 := by
  obtain ⟨S, hr, hs, hbel⟩ := h
  exact ⟨S, hC.keep hr hb.size fun k hk => hb.block k (hC.inn hr k hk), hs, hbel.trans (hb.mono hbel.size)⟩
theorem kc_new (w : World) (size : Int) (h : I64 size) : Calls Try.prog fN #[.int .i64 size] w fun e w' => ∃ g, e = .returned (.pointer (some ⟨g, 0, none⟩)) ∧ KC R w g (capN size).toNat [] w' := (hC.new w size h).mono fun e w' h => by
  obtain ⟨g, S, he, hr, hs, hb⟩ := h
  exact ⟨g, he, S, hr, hs, hb⟩
theorem KC.push (h : KC R w g z Ks V) (hw : Wc z Ks) {k : List Int} (hk : k.length = 32) : Calls Try.prog fP #[.pointer (some ⟨g, 0, none⟩), .agg (w8s k)] V fun e w' => e = .returned (.bool (pushZ Ks z k).2) ∧ KC R w g z (pushZ Ks z k).1 w' := by
  obtain ⟨S, hr, hs, hbel⟩ := h
  exact (hC.push V g S z Ks k w.heap.size hr hw hk hs hbel.size).mono fun e w' h => ⟨h.1, KC.of_upd hs hbel h.2⟩
theorem KC.remove (h : KC R w g z Ks V) (hw : Wc z Ks) {k : List Int} (hk : k.length = 32) : Calls Try.prog fR #[.pointer (some ⟨g, 0, none⟩), .agg (w8s k)] V fun e w' => e = .returned (.bool (dropM Ks k).2) ∧ KC R w g z (dropM Ks k).1 w' := by
  obtain ⟨S, hr, hs, hbel⟩ := h
  exact (hC.remove V g S z Ks k w.heap.size hr hw hk hs hbel.size).mono fun e w' h => ⟨h.1, KC.of_upd hs hbel h.2⟩
theorem KC.reset (h : KC R w g z Ks V) (hw : Wc z Ks) : Calls Try.prog fZ #[.pointer (some ⟨g, 0, none⟩)] V fun e w' => e = .returned (.tuple #[]) ∧ KC R w g z [] w' := by
  obtain ⟨S, hr, hs, hbel⟩ := h
  exact (hC.reset V g S z Ks w.heap.size hr hw hs hbel.size).mono fun e w' h => ⟨h.1, KC.of_upd hs hbel h.2⟩
theorem KC.has (h : KC R w g z Ks V) (hw : Wc z Ks) {k : List Int} (hk : k.length = 32) : Calls Try.prog fH #[.pointer (some ⟨g, 0, none⟩), .agg (w8s k)] V fun e w' => e = .returned (.bool (decide (k ∈ Ks))) ∧ KC R w g z Ks w' := by
  have h2 := h
  obtain ⟨S, hr, hs, hbel⟩ := h
  exact (hC.has V g S z Ks k hr hw hk).mono fun e w' q => ⟨q.1, h2.below hC q.2⟩
theorem KC.keys (h : KC R w g z Ks V) (hw : Wc z Ks) : Calls Try.prog fK #[.pointer (some ⟨g, 0, none⟩)] V fun e w' => ∃ a c, e = .returned (.slice a Ks.length c) ∧ Cs w' a (kcells Ks) ∧ Ks.length ≤ c ∧ KC R w g z Ks w' := by
  have h2 := h
  obtain ⟨S, hr, hs, hbel⟩ := h
  exact (hC.keys V g S z Ks hr hw).mono fun e w' q => by
    obtain ⟨a, c, e1, e2, e3, e4⟩ := q
    exact ⟨a, c, e1, e2, e3, h2.below hC e4⟩
theorem KC.len (h : KC R w g z Ks V) (hw : Wc z Ks) : Calls Try.prog fL #[.pointer (some ⟨g, 0, none⟩)] V fun e w' => e = .returned (.int .i64 Ks.length) ∧ KC R w g z Ks w' := by
  have h2 := h
  obtain ⟨S, hr, hs, hbel⟩ := h
  exact (hC.len V g S z Ks hr hw).mono fun e w' q => ⟨q.1, h2.below hC q.2⟩
end
end Go.Proofs.Ytjblfpifhbmfoaa
