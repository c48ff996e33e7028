/-
 Entries, places and slots in memory; rows of them.
-/
import Derived.Test.YtgkckblcekbafaaEA
import Derived.Test.YtgkckblcekbafaaSR1
namespace Go.Proofs.Ytgkckblcekbafaa
open Go.RowKit
set_option maxRecDepth 100000
set_option linter.unusedSimpArgs false
set_option linter.unusedVariables false

/-- Only blocks of S, and new ones, are written; all of S lies from B on. -/
def ButS (B : Nat) (S : Nat → Prop) (w w' : World) : Prop := Below B w w' ∧ ∀ k, k < w.heap.size → ¬ S k → w'.heap[k]? = w.heap[k]?
theorem ButS.of_below {B : Nat} {S : Nat → Prop} {w w' : World} (h : Below w.heap.size w w') (hB : B ≤ w.heap.size) : ButS B S w w' := ⟨h.mono hB, fun k hk _ => h.block k hk⟩
theorem Bx.buts {w w' : World} {k t B : Nat} {S : Nat → Prop} {cs : Array Value} (h : Bx w k cs t) (hb : ButS B S w w') (hn : ¬ S k) : Bx w' k cs t := (hb.2 k h.lt hn).trans h
theorem Cs.buts {w w' : World} {B : Nat} {S : Nat → Prop} {a : Option Addr} {cs : List Value} (h : Cs w a cs) (hb : ButS B S w w') (hn : ∀ x, a = some x → ¬ S x.block) : Cs w' a cs := fun j v hj => by
 obtain ⟨b, off, e, hlt, hc⟩ := h j v hj
 refine ⟨b, off, e, Nat.lt_of_lt_of_le hlt hb.1.size, ?_⟩
 rw [← hc]
 unfold World.cell?
 rw [hb.2 b hlt (hn _ e)]
theorem ButS.refl (B : Nat) (S : Nat → Prop) (w : World) : ButS B S w w := ⟨Below.refl _ _, fun _ _ _ => rfl⟩
theorem ButS.trans {B : Nat} {S S2 : Nat → Prop} {a b c : World} (h : ButS B S a b) (k : ButS B S2 b c) (hs : ∀ x, S2 x → S x ∨ a.heap.size ≤ x) : ButS B S a c :=
 ⟨h.1.trans k.1, fun i hi hn => (k.2 i (by have := h.1.size; omega) (fun h2 => (hs i h2).elim hn (by omega))).trans (h.2 i hi hn)⟩
theorem ButS.trans' {B : Nat} {S : Nat → Prop} {a b c : World} (h : ButS B S a b) (k : ButS B S b c) : ButS B S a c := h.trans k fun _ => .inl
theorem ButS.setCell {B : Nat} {S : Nat → Prop} (w : World) (b o : Nat) (v : Value) (hB : B ≤ b) (hS : S b) : ButS B S w (w.setCell ⟨b, o, none⟩ v) :=
 ⟨(Below.refl B w).setCell hB v, fun k _ hn => heap_setCell_other w _ k v (fun e => hn (by rw [e]; exact hS))⟩
/-- One cell of a row of the call's own is written. -/
theorem own_set {w : World} {B e s n c b : Nat} {xs : List Value} (h : w.ownsRow B e s (.slice (some ⟨b, 0, none⟩) n c) n xs) (j : Nat) (v : Value) (hj : j < xs.length) : (w.setCell ⟨b, j, none⟩ v).ownsRow B e s (.slice (some ⟨b, 0, none⟩) n c) n (xs.set j v) := by
 have hlen := h.1
 rcases h.2 with ⟨e0, -⟩ | ⟨g, cap, cur, e0, hb, hg, hn, hm, hc, ht⟩
 ·cases e0
 ·simp only [Value.slice.injEq, Option.some.injEq, Addr.mk.injEq, and_true, true_and] at e0
  obtain ⟨rfl, rfl⟩ := e0
  refine ⟨by simpa using hlen, .inr ⟨b, c, cur.setIfInBounds j v, rfl, hb, Joins.block_setCell hg v, hn, hm, by simpa using hc, ?_⟩⟩
  rw [Array.toList_setIfInBounds, List.take_set, ht]
theorem own_row {w : World} {B e s n c b : Nat} {xs : List Value} (h : w.ownsRow B e s (.slice (some ⟨b, 0, none⟩) n c) n xs) : ∃ cur, Bx w b cur e ∧ n * s ≤ cur.size ∧ B ≤ b ∧ cur.toList.take (n * s) = xs := by
 rcases h.2 with ⟨e0, -⟩ | ⟨g, cap, cur, e0, hb, hg, hn, hm, hc, ht⟩
 ·cases e0
 ·simp only [Value.slice.injEq, Option.some.injEq, Addr.mk.injEq, and_true, true_and] at e0
  obtain ⟨rfl, rfl⟩ := e0
  exact ⟨cur, hg, by rw [hc]; exact Nat.mul_le_mul_right _ hn, hb, ht⟩
/-- A row whose block is as it was. -/
theorem own_same {w w' : World} {B e s n c : Nat} {a : Option Addr} {xs : List Value} (h : w.ownsRow B e s (.slice a n c) n xs) (hs : ∀ x, a = some x → w'.heap[x.block]? = w.heap[x.block]?) : w'.ownsRow B e s (.slice a n c) n xs := by
 refine ⟨h.1, ?_⟩
 rcases h.2 with h0 | ⟨g, cap, cur, e0, hb, hg, r⟩
 ·exact .inl h0
 ·refine .inr ⟨g, cap, cur, e0, hb, ?_, r⟩
  simp only [Value.slice.injEq, true_and] at e0
  rw [← hg]
  exact hs _ e0.1
theorem ButS.sets {B b : Nat} {S : Nat → Prop} (hB : B ≤ b) (hS : S b) : ∀ (vs : List Value) (o : Nat) (w : World), ButS B S w (w.setCells b o vs)
 | [], o, w => ButS.refl _ _ _
 | v :: r, o, w => (ButS.setCell w b o v hB hS).trans' (ButS.sets hB hS r (o + 1) _)
theorem own_sets {B e s n c b : Nat} : ∀ (vs : List Value) (o : Nat) (w : World) (xs : List Value), w.ownsRow B e s (.slice (some ⟨b, 0, none⟩) n c) n xs → o + vs.length ≤ xs.length → (w.setCells b o vs).ownsRow B e s (.slice (some ⟨b, 0, none⟩) n c) n (xs.take o ++ vs ++ xs.drop (o + vs.length))
 | [], o, w, xs, h, _ => by simpa [World.setCells] using h
 | v :: r, o, w, xs, h, hl => by
  rw [List.length_cons] at hl
  have h1 := own_sets r (o + 1) _ _ (own_set h o v (by omega)) (by rw [List.length_set]; omega)
  rw [World.setCells]
  have e : (xs.set o v).take (o + 1) ++ r ++ (xs.set o v).drop (o + 1 + r.length) = xs.take o ++ v :: r ++ xs.drop (o + (v :: r).length) := by
   rw [List.drop_set_of_lt (by omega), List.take_set, List.length_cons, show o + (r.length + 1) = o + 1 + r.length by omega]
   have ho : o < xs.length := by omega
   rw [List.take_add_one, List.getElem?_eq_getElem ho, Option.toList_some, List.set_append_right _ _ (by rw [List.length_take]; omega), List.length_take, Nat.min_eq_left (by omega), Nat.sub_self, List.set_cons_zero]
   simp
  rw [e] at h1
  exact h1
/-- 'append' of one element to a row of the call's own: where the new row lies. -/
theorem app_one {w : World} {P : Program} {t e s bytes : Nat} {v0 : Value} (hu : P.underlying t = some (.slice e)) (hinfo : (P.info? e).map (fun i => (i.zero, i.size, i.bytes)) = some (some v0, s, bytes)) (hzs : v0.cells.size = s) (hs : 0 < s) (hby : bytes ≤ 1000)
  {B n : Nat} {v : Value} {xs : List Value} (hO : w.ownsRow B e s v n xs) (b : Nat) (ys : List Value) (hP : Cs w (some ⟨b, 0, none⟩) ys) (hl : ys.length = s) (h1 : ∀ u ∈ ys, u.oneCell' = true) (hB : B ≤ w.heap.size) (hn : n ≤ 100000) :
  ∃ v' w', (Builtin.append_ #[t, t] t #[v, .slice (some ⟨b, 0, none⟩) 1 1]).run P w = .ok v' w' ∧ w'.ownsRow B e s v' (n + 1) (xs ++ ys) ∧ w.grownBy w' v.ownBlock ∧ (v'.ownBlock = v.ownBlock ∨ v'.ownBlock = some w.heap.size) := by
 obtain ⟨i0, hi, hz0, hz1, hz2⟩ := info_parts hinfo
 obtain ⟨v', w', hr, h2, h3, -, h4⟩ := run_append_own_at (P := P) w B t t e i0 v0 s bytes hu hi hz0 hz1 hz2 hzs hs v n xs hO ⟨b, 0, none⟩ 1 1 ys (by omega) (fun j u hj => by
  obtain ⟨b2, off2, e2, -, hc⟩ := hP j u hj
  simp only [Option.some.injEq, Addr.mk.injEq, and_true] at e2
  obtain ⟨rfl, rfl⟩ := e2
  rw [Addr.add_mid]
  exact hc) h1 (by unfold maxLen; omega) (by have := Nat.mul_le_mul (show n + 1 ≤ 100001 by omega) hby; omega) hB
 exact ⟨v', w', hr, h2, h3, h4⟩

section
variable {α : Type} (f : α → List Value) {s : Nat}
theorem fl_len (hf : ∀ x, (f x).length = s) : ∀ L : List α, (L.flatMap f).length = L.length * s
 | [] => by simp
 | x :: r => by
  rw [List.flatMap_cons, List.length_append, hf x, fl_len hf r, List.length_cons, Nat.add_mul]; omega
theorem fl_at (hf : ∀ x, (f x).length = s) (z : α) : ∀ (L : List α) (i j : Nat), i < L.length → j < s → (L.flatMap f)[i * s + j]? = (f (L.getD i z))[j]?
 | [], i, j, h, _ => by simp at h
 | x :: r, 0, j, _, hj => by
  rw [List.flatMap_cons, Nat.zero_mul, Nat.zero_add, List.getElem?_append_left (by rw [hf x]; exact hj)]; rfl
 | x :: r, i + 1, j, h, hj => by
  rw [List.flatMap_cons, List.getElem?_append_right (by rw [hf x, Nat.add_mul]; omega), hf x, show (i + 1) * s + j - s = i * s + j by rw [Nat.add_mul]; omega, fl_at hf z r i j (by simpa using h) hj]; rfl
theorem fl_take (hf : ∀ x, (f x).length = s) : ∀ (L : List α) (k : Nat), (L.flatMap f).take (k * s) = (L.take k).flatMap f
 | [], k => by simp
 | x :: r, 0 => by simp
 | x :: r, k + 1 => by
  rw [List.flatMap_cons, List.take_succ_cons, List.flatMap_cons, Nat.add_mul, Nat.one_mul, Nat.add_comm, ← hf x, List.take_append, List.take_of_length_le (by omega), hf x, Nat.add_sub_cancel_left, fl_take hf r k]
theorem fl_drop (hf : ∀ x, (f x).length = s) : ∀ (L : List α) (k : Nat), (L.flatMap f).drop (k * s) = (L.drop k).flatMap f
 | [], k => by simp
 | x :: r, 0 => by simp
 | x :: r, k + 1 => by
  rw [List.flatMap_cons, List.drop_succ_cons, Nat.add_mul, Nat.one_mul, Nat.add_comm, ← hf x, List.drop_append, List.drop_of_length_le (by omega), hf x, Nat.add_sub_cancel_left, fl_drop hf r k, List.nil_append]
theorem fl_app (A B : List α) : (A ++ B).flatMap f = A.flatMap f ++ B.flatMap f := List.flatMap_append
theorem fl_part (hf : ∀ x, (f x).length = s) (z : α) {L : List α} {i o : Nat} {y : α} {vs : List Value} (hi : i < L.length) (hy : (f (L.getD i z)).take o ++ vs ++ (f (L.getD i z)).drop (o + vs.length) = f y) (ho : o + vs.length ≤ s) :
  (L.flatMap f).take (i * s + o) ++ vs ++ (L.flatMap f).drop (i * s + o + vs.length) = (L.set i y).flatMap f := by
 have e : L = L.take i ++ L.getD i z :: L.drop (i + 1) := by
  rw [getD_lt L i z hi, ← List.drop_eq_getElem_cons hi, List.take_append_drop]
 have h1 : (L.take i).flatMap f = (L.flatMap f).take (i * s) := (fl_take f hf L i).symm
 have hl : ((L.take i).flatMap f).length = i * s := by rw [fl_len f hf, List.length_take, Nat.min_eq_left (by omega)]
 have h3 : (L.flatMap f) = (L.take i).flatMap f ++ (f (L.getD i z) ++ (L.drop (i + 1)).flatMap f) := by
  conv => lhs; rw [e]
  rw [List.flatMap_append, List.flatMap_cons]
 have hz := hf (L.getD i z)
 rw [List.set_eq_take_append_cons_drop, if_pos hi, List.flatMap_append, List.flatMap_cons, ← hy, h3]
 rw [← hl, Nat.add_assoc, List.take_length_add_append, List.drop_length_add_append, List.take_append_of_le_length (by omega), List.drop_append_of_le_length (by omega)]
 simp only [List.append_assoc]
theorem fl_range {w : World} {a : Option Addr} (hf : ∀ x, (f x).length = s) (hs : 0 < s) (z : α) {L : List α} (h : Cs w a (L.flatMap f)) {i : Nat} (hi : i < L.length) : ∃ b off, a = some ⟨b, off, none⟩ ∧ b < w.heap.size ∧ w.rangeAt b (off + i * s) (f (L.getD i z)) := by
 have hz := hf (L.getD i z)
 have h0 := fl_at f hf z L i 0 hi hs
 rw [List.getElem?_eq_getElem (show 0 < (f (L.getD i z)).length by omega)] at h0
 obtain ⟨b, off, rfl, hb, -⟩ := h _ _ h0
 refine ⟨b, off, rfl, hb, fun j v hj => ?_⟩
 have hjs : j < s := by have := (List.getElem?_eq_some_iff.1 hj).1; omega
 obtain ⟨b2, o2, e2, -, c2⟩ := h _ _ ((fl_at f hf z L i j hi hjs).trans hj)
 simp only [Option.some.injEq, Addr.mk.injEq, and_true] at e2
 obtain ⟨rfl, rfl⟩ := e2
 rw [Nat.add_assoc]
 exact c2
theorem fl_one (h1 : ∀ x, ∀ u ∈ f x, u.oneCell' = true) (L : List α) : ∀ u ∈ L.flatMap f, u.oneCell' = true := fun u hu => by
 obtain ⟨x, -, hx⟩ := List.mem_flatMap.1 hu
 exact h1 x u hx
/-- Part of an element of a row of the call's own is written. -/
theorem own_part (hf : ∀ x, (f x).length = s) (z : α) {w : World} {B e g n c i o : Nat} {L : List α} (h : w.ownsRow B e s (.slice (some ⟨g, 0, none⟩) n c) n (L.flatMap f)) (hi : i < L.length) {y : α} {vs : List Value} (ho : o + vs.length ≤ s)
  (hy : (f (L.getD i z)).take o ++ vs ++ (f (L.getD i z)).drop (o + vs.length) = f y) : (w.setCells g (i * s + o) vs).ownsRow B e s (.slice (some ⟨g, 0, none⟩) n c) n ((L.set i y).flatMap f) := by
 have h1 := own_sets vs (i * s + o) w _ h (by
  rw [fl_len f hf]
  have := Nat.mul_le_mul_right s (show i + 1 ≤ L.length from hi)
  rw [Nat.add_mul] at this; omega)
 rw [fl_part f hf z hi hy ho] at h1
 exact h1
theorem own_there (hf : ∀ x, (f x).length = s) {w : World} {B e g n c i o k : Nat} {L : List α} (h : w.ownsRow B e s (.slice (some ⟨g, 0, none⟩) n c) n (L.flatMap f)) (hn : n = L.length) (hi : i < L.length) (ho : o + k ≤ s) : w.there g (i * s + o) k := fun j hj => by
 obtain ⟨cur, hcur, hz, -, -⟩ := own_row h
 refine ⟨?_, frozen_of_row w g _ _ e hcur⟩
 have := Nat.mul_le_mul_right s (show i + 1 ≤ L.length from hi)
 rw [Nat.add_mul, ← hn] at this
 rw [cell_of_row w g _ _ e (0, 0) hcur, Array.getElem?_eq_getElem (by omega)]
 rfl
end
theorem below_sets {B b : Nat} (hB : B ≤ b) : ∀ (vs : List Value) (o : Nat) (w : World), Below B w (w.setCells b o vs)
 | [], o, w => Below.refl _ _
 | v :: r, o, w => ((Below.refl B w).setCell hB v).trans (below_sets hB r (o + 1) _)
theorem but_sets {b : Nat} : ∀ (vs : List Value) (o : Nat) (w : World), But b w (w.setCells b o vs)
 | [], o, w => But.refl _ _
 | v :: r, o, w => (But.setCell w o v).trans (but_sets r (o + 1) _)

def bcells (L : List Int) : List Value := L.map (Value.int .u8)
theorem sl_cs {w : World} {a : Option Addr} {c : Nat} {L : List Int} (h : Sl w a c L) : Cs w a (bcells L) := fun j v hj => by
 unfold bcells at hj
 rw [List.getElem?_map] at hj
 cases hq : L[j]? with
 | none => rw [hq] at hj; cases hj
 | some x =>
  rw [hq] at hj
  have hl := (List.getElem?_eq_some_iff.1 hq).1
  obtain ⟨b, off, e, hb, hc⟩ := sl_at h hl
  refine ⟨b, off, e, hb, ?_⟩
  rw [hc, ← hj, List.getD_eq_getElem?_getD, hq]
  rfl
/-- Where an entry's slices lie. -/
structure Ad where
 ra : Option Addr
 rc : Nat
 pa : Option Addr
 pc : Nat
def zAd : Ad := ⟨none, 0, none, 0⟩
def kcl (k : Nat → Int) : List Value := [.int .u8 (k 0), .int .u8 (k 1), .int .u8 (k 2), .int .u8 (k 3), .int .u8 (k 4), .int .u8 (k 5), .int .u8 (k 6), .int .u8 (k 7), .int .u8 (k 8), .int .u8 (k 9), .int .u8 (k 10), .int .u8 (k 11), .int .u8 (k 12), .int .u8 (k 13), .int .u8 (k 14), .int .u8 (k 15), .int .u8 (k 16), .int .u8 (k 17), .int .u8 (k 18), .int .u8 (k 19), .int .u8 (k 20), .int .u8 (k 21), .int .u8 (k 22), .int .u8 (k 23), .int .u8 (k 24), .int .u8 (k 25), .int .u8 (k 26), .int .u8 (k 27), .int .u8 (k 28), .int .u8 (k 29), .int .u8 (k 30), .int .u8 (k 31)]
def kcA (k : Nat → Int) : Array Value := (kcl k).toArray
def enl (e : En) (d : Ad) : List Value := kcl e.k ++ [.slice d.ra e.raw.length d.rc, .string e.snd, .int .u64 e.sq, .int .u64 e.gas, .int .u64 e.pri, .int .i64 e.ht, .int .i64 e.tm, .int .i64 e.od, .slice d.pa e.prs.length d.pc]
def enA (e : En) (d : Ad) : Array Value := (enl e d).toArray
def pll (x : Pn × Ad) : List Value := [.bool x.1.full, .int .i64 x.1.us] ++ enl x.1.e x.2
def plA (x : Pn × Ad) : Array Value := (pll x).toArray
/-- A slot of the program. -/
structure Sn where
 e : En
 d : Ad
 full : Bool
 us : Int
 nx : Int
def zSn : Sn := ⟨zEn, zAd, false, 0, 0⟩
def sll (x : Sn) : List Value := enl x.e x.d ++ [.bool x.full, .int .i64 x.us, .int .i64 x.nx]
def slA (x : Sn) : Array Value := (sll x).toArray
theorem en_len (e : En) (d : Ad) : (enl e d).length = 41 := rfl
theorem pl_len (x : Pn × Ad) : (pll x).length = 43 := rfl
theorem sl_len (x : Sn) : (sll x).length = 44 := rfl
theorem en_one (e : En) (d : Ad) : ∀ u ∈ enl e d, u.oneCell' = true := List.all_eq_true.1 (show (enl e d).all (·.oneCell') = true by kernel_rfl)
theorem pl_one (x : Pn × Ad) : ∀ u ∈ pll x, u.oneCell' = true := List.all_eq_true.1 (show (pll x).all (·.oneCell') = true by kernel_rfl)
theorem sl_onec (x : Sn) : ∀ u ∈ sll x, u.oneCell' = true := List.all_eq_true.1 (show (sll x).all (·.oneCell') = true by kernel_rfl)
theorem rg_cell {w : World} {b o j : Nat} {cs : List Value} {v : Value} {ty : TypeId} (h : w.rangeAt b o cs) (hv : cs[j]? = some v) (hag : (isAgg ty).run Try.prog w = .ok false w) : (Instr.loadAt ty (.pointer (some ⟨b, o + j, none⟩))).run Try.prog w = .ok v w := load_cell (h j v hv) hag
theorem load_en {w : World} {b o : Nat} {e : En} {d : Ad} (h : w.rangeAt b o (enl e d)) : (Instr.loadAt 50 (.pointer (some ⟨b, o, none⟩))).run Try.prog w = .ok (.agg (enA e d)) w :=
 run_loadAt_mid w b o 50 (enl e d) _ h Try.underlying50 rfl (by kernel_rfl)
theorem load_ky {w : World} {b o : Nat} {e : En} {d : Ad} (h : w.rangeAt b o (enl e d)) : (Instr.loadAt 47 (.pointer (some ⟨b, o, none⟩))).run Try.prog w = .ok (.agg (kcA e.k)) w :=
 run_loadAt_mid w b o 47 (kcl e.k) _ (fun j v hj => h j v (by unfold enl; rw [List.getElem?_append_left (List.getElem?_eq_some_iff.1 hj).1]; exact hj)) Try.underlying47 rfl (by kernel_rfl)
theorem bx_range {w : World} {g t : Nat} {cs : List Value} (h : Bx w g cs.toArray t) : w.rangeAt g 0 cs := fun j v hv => by
 rw [cell_of_row w g _ _ _ (0, 0) h]
 simpa using hv
/-- The entry of a place, of a slot. -/
theorem pl_en {w : World} {b o : Nat} {x : Pn × Ad} (h : w.rangeAt b o (pll x)) : w.rangeAt b (o + 2) (enl x.1.e x.2) := fun j v hv => by
 rw [Nat.add_assoc]
 exact h _ _ (by rw [Nat.add_comm]; exact hv)
theorem sl_en {w : World} {b o : Nat} {x : Sn} (h : w.rangeAt b o (sll x)) : w.rangeAt b o (enl x.e x.d) := fun j v hv => h j v (by unfold sll; rw [List.getElem?_append_left (List.getElem?_eq_some_iff.1 hv).1]; exact hv)
/-- The blocks of an entry. -/
def rb (a : Option Addr) {α : Type} (L : List α) (k : Nat) : Prop := L ≠ [] ∧ ∃ x, a = some x ∧ x.block = k
def EB (e : En) (d : Ad) (k : Nat) : Prop := rb d.ra e.raw k ∨ rb d.pa e.prs k
structure EnI (w : World) (e : En) (d : Ad) : Prop where
 r : Sl w d.ra d.rc e.raw
 p : Cs w d.pa (icells e.prs)
 rl : e.raw.length ≤ d.rc
 pl : e.prs.length ≤ d.pc
theorem EnI.z (w : World) : EnI w zEn zAd := ⟨.inl ⟨rfl, rfl, rfl⟩, Cs.nil _ _, Nat.le_refl 0, Nat.le_refl 0⟩
theorem EB.z {k : Nat} (h : EB zEn zAd k) : False := h.elim (fun h => h.1 rfl) fun h => h.1 rfl
theorem EnI.lt {w : World} {e : En} {d : Ad} (h : EnI w e d) : ∀ k, EB e d k → k < w.heap.size := fun k hk => by
 rcases hk with ⟨hn, x, hx, rfl⟩ | ⟨hn, x, hx, rfl⟩
 ·obtain ⟨b, off, e2, hb, -⟩ := sl_at h.r (List.length_pos_iff.2 hn)
  rw [hx] at e2; cases e2; exact hb
 ·obtain ⟨b, off, e2, hb, -⟩ := int_at h.p (List.length_pos_iff.2 hn)
  rw [hx] at e2; cases e2; exact hb
theorem EnI.same {w w' : World} {e : En} {d : Ad} (h : EnI w e d) (hs : ∀ k, EB e d k → w'.heap[k]? = w.heap[k]?) : EnI w' e d := by
 refine ⟨?_, ?_, h.rl, h.pl⟩
 ·rcases h.r with h0 | ⟨x, hx, hc⟩
  ·exact .inl h0
  ·refine .inr ⟨x, hx, fun k hk => ?_⟩
   obtain ⟨b, off, rfl, hc2⟩ := hc k hk
   refine ⟨b, off, rfl, ?_⟩
   rw [← hc2]
   unfold World.cell?
   rw [hs b (.inl ⟨fun e => by rw [e] at hk; simp at hk, _, hx, rfl⟩)]
 ·intro j v hj
  obtain ⟨b, off, e2, hb, hc⟩ := h.p j v hj
  have hne : e.prs ≠ [] := fun q => by rw [q] at hj; simp [icells] at hj
  have hb2 := hs b (.inr ⟨hne, _, e2, rfl⟩)
  refine ⟨b, off, e2, ?_, ?_⟩
  ·have h1 : w.heap[b]? = some w.heap[b] := Array.getElem?_eq_getElem hb
   rw [h1] at hb2
   exact (Array.getElem?_eq_some_iff.1 hb2).1
  ·rw [← hc]
   unfold World.cell?
   rw [hb2]
theorem EnI.below {w w' : World} {e : En} {d : Ad} (h : EnI w e d) (hb : Below w.heap.size w w') : EnI w' e d := h.same fun k hk => hb.block k (h.lt k hk)
theorem EnI.but {w w' : World} {e : En} {d : Ad} {g : Nat} (h : EnI w e d) (hb : But g w w') (hn : ¬ EB e d g) : EnI w' e d := h.same fun k hk => hb.2 k (h.lt k hk) fun e2 => hn (e2 ▸ hk)
theorem EnI.buts {w w' : World} {e : En} {d : Ad} {B : Nat} {S : Nat → Prop} (h : EnI w e d) (hb : ButS B S w w') (hn : ∀ k, EB e d k → ¬ S k) : EnI w' e d := h.same fun k hk => hb.2 k (h.lt k hk) (hn k hk)
/-- Cells whose blocks are as they were. -/
theorem cs_same {w w' : World} {a : Option Addr} {cs : List Value} (h : Cs w a cs) (hs : ∀ k, rb a cs k → w'.heap[k]? = w.heap[k]?) : Cs w' a cs := fun j v hj => by
 obtain ⟨b, off, e2, hb, hc⟩ := h j v hj
 have hne : cs ≠ [] := fun q => by rw [q] at hj; simp at hj
 have hb2 := hs b ⟨hne, _, e2, rfl⟩
 refine ⟨b, off, e2, ?_, ?_⟩
 ·have h1 : w.heap[b]? = some w.heap[b] := Array.getElem?_eq_getElem hb
  rw [h1] at hb2
  exact (Array.getElem?_eq_some_iff.1 hb2).1
 ·rw [← hc]
  unfold World.cell?
  rw [hb2]
theorem cs_rlt {w : World} {a : Option Addr} {cs : List Value} (h : Cs w a cs) : ∀ k, rb a cs k → k < w.heap.size := fun k ⟨hne, x, hx, e⟩ => by
 obtain ⟨b, off, e2, hb, -⟩ := h 0 (cs[0]'(List.length_pos_iff.2 hne)) (List.getElem?_eq_getElem _)
 rw [hx] at e2; cases e2; rw [← e]; exact hb
theorem idx_by (b off n c k : Nat) (hk : k < n) (V : World) (ρ : Operand → Value) (o : Oper) {x y : Operand} (ho : o.op = .indexAddr 48 x y) (hx : ρ x = .slice (some ⟨b, off, none⟩) n c) (hy : ρ y = .int .i64 k) : (execOp ρ o).run Try.prog V = .ok (.value (.pointer (some ⟨b, off + k, none⟩))) V := by
 have hs : (sizeOf (Try.prog.elem 48)).run Try.prog V = .ok 1 V := by kernel_rfl
 have hlm : (k : Int) < (n : Int) := by omega
 unfold execOp
 simp only [ho, hx, hy]
 go_simp
/-- Handles. -/
def hnl (h : Int × Int) : List Value := [.int .i64 h.1, .int .i64 h.2]
abbrev hnA (h : Int × Int) : Array Value := #[.int .i64 h.1, .int .i64 h.2]
theorem hn_len (h : Int × Int) : (hnl h).length = 2 := rfl
theorem hn_one (x : Int × Int) : ∀ u ∈ hnl x, u.oneCell' = true := List.all_eq_true.1 (show (hnl x).all (·.oneCell') = true by kernel_rfl)
def hcs (L : List (Int × Int)) : List Value := L.flatMap hnl
theorem results_1c {fn : Func} {tmps : Array Value} {w : World} {p g ty : Nat} {v : Value} (hr : fn.results = #[.cell p ty]) (h2 : tmps.getD p undef = .pointer (some ⟨g, 0, none⟩)) (hl : (Instr.loadAt ty (.pointer (some ⟨g, 0, none⟩))).run Try.prog w = .ok v w) : (results fn tmps).run Try.prog w = .ok v w := by
 unfold results
 rw [hr]
 have h2' : tmps[p]?.getD undef = .pointer (some ⟨g, 0, none⟩) := by simpa using h2
 have hl' := hl
 simp only [Instr.loadAt, Instr.sureAddr, Sem.run_bind, Sem.run_pure, Result.andThen_ok] at hl'
 simp [h2', asAddr, hl', Result.andThen]
theorem results_c {fn : Func} {tmps : Array Value} {w : World} {p q g ty : Nat} {v u : Value} (hr : fn.results = #[.cell p ty, .tmp q]) (h2 : tmps.getD p undef = .pointer (some ⟨g, 0, none⟩)) (hl : (Instr.loadAt ty (.pointer (some ⟨g, 0, none⟩))).run Try.prog w = .ok v w) (h3 : tmps.getD q undef = u) : (results fn tmps).run Try.prog w = .ok (.tuple #[v, u]) w := by
 unfold results
 rw [hr]
 have h2' : tmps[p]?.getD undef = .pointer (some ⟨g, 0, none⟩) := by simpa using h2
 have h3' : tmps[q]?.getD undef = u := by simpa using h3
 have hl' := hl
 simp only [Instr.loadAt, Instr.sureAddr, Sem.run_bind, Sem.run_pure, Result.andThen_ok] at hl'
 simp [h2', h3', asAddr, hl', Result.andThen]
theorem results_2ct {fn : Func} {tmps : Array Value} {w : World} {p ty g q ty2 g2 r : Nat} {v v2 u : Value} (hr : fn.results = #[.cell p ty, .cell q ty2, .tmp r]) (h2 : tmps.getD p undef = .pointer (some ⟨g, 0, none⟩)) (hl : (Instr.loadAt ty (.pointer (some ⟨g, 0, none⟩))).run Try.prog w = .ok v w) (h4 : tmps.getD q undef = .pointer (some ⟨g2, 0, none⟩)) (hl2 : (Instr.loadAt ty2 (.pointer (some ⟨g2, 0, none⟩))).run Try.prog w = .ok v2 w) (h5 : tmps.getD r undef = u) : (results fn tmps).run Try.prog w = .ok (.tuple #[v, v2, u]) w := by
 unfold results
 rw [hr]
 have h2' : tmps[p]?.getD undef = .pointer (some ⟨g, 0, none⟩) := by simpa using h2
 have h4' : tmps[q]?.getD undef = .pointer (some ⟨g2, 0, none⟩) := by simpa using h4
 have h5' : tmps[r]?.getD undef = u := by simpa using h5
 have hl' := hl
 have hl2' := hl2
 simp only [Instr.loadAt, Instr.sureAddr, Sem.run_bind, Sem.run_pure, Result.andThen_ok] at hl' hl2'
 simp [h2', h4', h5', asAddr, hl', hl2', Result.andThen]
theorem results_ct {fn : Func} {tmps : Array Value} {w : World} {p q ty g r : Nat} {v u : Value} (hr : fn.results = #[.tmp q, .cell p ty, .tmp r]) (u2 : Value) (h2 : tmps.getD p undef = .pointer (some ⟨g, 0, none⟩)) (hl : (Instr.loadAt ty (.pointer (some ⟨g, 0, none⟩))).run Try.prog w = .ok v w) (h4 : tmps.getD q undef = u2) (h5 : tmps.getD r undef = u) : (results fn tmps).run Try.prog w = .ok (.tuple #[u2, v, u]) w := by
 unfold results
 rw [hr]
 have h2' : tmps[p]?.getD undef = .pointer (some ⟨g, 0, none⟩) := by simpa using h2
 have h4' : tmps[q]?.getD undef = u2 := by simpa using h4
 have h5' : tmps[r]?.getD undef = u := by simpa using h5
 have hl' := hl
 simp only [Instr.loadAt, Instr.sureAddr, Sem.run_bind, Sem.run_pure, Result.andThen_ok] at hl'
 simp [h2', h4', h5', asAddr, hl', Result.andThen]

section
variable {ρ : Operand → Value} {o : Oper} {x y : Operand}
theorem geq_n (ho : o.op = .binOp .geq 3 x y 3) (a b : Int) {t : Bool} (ht : decide (b ≤ a) = t) (hx : ρ x = .int .i64 a) (hy : ρ y = .int .i64 b) (w : World) : (execOp ρ o).run Try.prog w = .ok (.value (.bool t)) w := by
 rw [← ht]
 unfold execOp
 simp only [ho, hx, hy]
 go_simp
theorem leq_n (ho : o.op = .binOp .leq 3 x y 3) (a b : Int) {t : Bool} (ht : decide (a ≤ b) = t) (hx : ρ x = .int .i64 a) (hy : ρ y = .int .i64 b) (w : World) : (execOp ρ o).run Try.prog w = .ok (.value (.bool t)) w := by
 rw [← ht]
 unfold execOp
 simp only [ho, hx, hy]
 go_simp
theorem lss_n (ho : o.op = .binOp .lss 3 x y 3) (a b : Int) {t : Bool} (ht : decide (a < b) = t) (hx : ρ x = .int .i64 a) (hy : ρ y = .int .i64 b) (w : World) : (execOp ρ o).run Try.prog w = .ok (.value (.bool t)) w := by
 rw [← ht]
 unfold execOp
 simp only [ho, hx, hy]
 go_simp
end
theorem gtr_n {ρ : Operand → Value} {o : Oper} {x y : Operand} (ho : o.op = .binOp .gtr 3 x y 3) (a b : Int) {t : Bool} (ht : decide (b < a) = t) (hx : ρ x = .int .i64 a) (hy : ρ y = .int .i64 b) (w : World) : (execOp ρ o).run Try.prog w = .ok (.value (.bool t)) w := by
 rw [← ht]
 unfold execOp
 simp only [ho, hx, hy]
 go_simp
theorem eql_n {ρ : Operand → Value} {o : Oper} {x y : Operand} (ho : o.op = .binOp .eql 3 x y 3) (a b : Int) {t : Bool} (ht : decide (a = b) = t) (hx : ρ x = .int .i64 a) (hy : ρ y = .int .i64 b) (w : World) : (execOp ρ o).run Try.prog w = .ok (.value (.bool t)) w := by
 have e : (a == b) = t := ht
 unfold execOp
 simp only [ho, hx, hy]
 go_simp
theorem eql_s {ρ : Operand → Value} {o : Oper} {x y : Operand} (ho : o.op = .binOp .eql 9 x y 9) (a b : ByteArray) {t : Bool} (ht : (a == b) = t) (hx : ρ x = .string a) (hy : ρ y = .string b) (w : World) : (execOp ρ o).run Try.prog w = .ok (.value (.bool t)) w := by
 have e : (a.toList == b.toList) = t := by rw [← beq_toListBytes]; exact ht
 unfold execOp
 simp only [ho, hx, hy]
 go_simp
section
variable {ρ : Operand → Value} {o : Oper} {x y : Operand}
theorem neq_n (ho : o.op = .binOp .neq 3 x y 3) (a b : Int) {t : Bool} (ht : decide (a ≠ b) = t) (hx : ρ x = .int .i64 a) (hy : ρ y = .int .i64 b) (w : World) : (execOp ρ o).run Try.prog w = .ok (.value (.bool t)) w := by
 have e : (a != b) = t := by rw [← ht]; by_cases h : a = b <;> simp [h]
 unfold execOp
 simp only [ho, hx, hy]
 go_simp
theorem eql_w (ho : o.op = .binOp .eql 33 x y 33) (a b : Int) {t : Bool} (ht : decide (a = b) = t) (hx : ρ x = .int .u64 a) (hy : ρ y = .int .u64 b) (w : World) : (execOp ρ o).run Try.prog w = .ok (.value (.bool t)) w := by
 have e : (a == b) = t := ht
 unfold execOp
 simp only [ho, hx, hy]
 go_simp
theorem add_i (ho : o.op = .binOp .add 3 x y 3) (a b : Int) (h : -1000000000000 ≤ a + b ∧ a + b ≤ 1000000000000) (hx : ρ x = .int .i64 a) (hy : ρ y = .int .i64 b) (w : World) : (execOp ρ o).run Try.prog w = .ok (.value (.int .i64 (a + b))) w := by
 have hw : IntKind.i64.wrap (a + b) = a + b := by rw [IntKind.wrap_i64]; omega
 unfold execOp
 simp only [ho, hx, hy]
 go_simp
theorem sub_i (ho : o.op = .binOp .sub 3 x y 3) (a b : Int) (h : -1000000000000 ≤ a - b ∧ a - b ≤ 1000000000000) (hx : ρ x = .int .i64 a) (hy : ρ y = .int .i64 b) (w : World) : (execOp ρ o).run Try.prog w = .ok (.value (.int .i64 (a - b))) w := by
 have hw : IntKind.i64.wrap (a - b) = a - b := by rw [IntKind.wrap_i64]; omega
 unfold execOp
 simp only [ho, hx, hy]
 go_simp
theorem conv_iu (ho : o.op = .convert 3 33 x) (a : Int) (h0 : 0 ≤ a) (h1 : a ≤ 1000000) (hx : ρ x = .int .i64 a) (w : World) : (execOp ρ o).run Try.prog w = .ok (.value (.int .u64 a)) w := by
 have hw : IntKind.u64.wrap a = a := by rw [IntKind.wrap_u64]; omega
 unfold execOp
 simp only [ho, hx]
 go_simp
theorem conv_i8 (ho : o.op = .convert 3 5 x) (a : Nat) (h : a ≤ 255) (hx : ρ x = .int .i64 a) (w : World) : (execOp ρ o).run Try.prog w = .ok (.value (.int .u8 a)) w := by
 have hw : IntKind.u8.wrap (a : Int) = a := by rw [IntKind.wrap_u8]; omega
 unfold execOp
 simp only [ho, hx]
 go_simp
end
end Go.Proofs.Ytgkckblcekbafaa
