/-
  The digest of a ledger, the program's and the reference's: contracts.
-/
import Derived.Test.YtebnlklodokhkaaDoorDM
import Derived.Test.YtebnlklodokhkaaDoorPR
namespace Go.Proofs.YtebnlklodokhkaaDoor.Lg
open Go.RowKit
set_option linter.unusedSimpArgs false
set_option linter.unusedVariables false

def leafF (x : Ac) : List Fld := [⟨1, 2, 0, nums x.1⟩, ⟨2, 0, x.2.1, []⟩, ⟨3, 0, x.2.2, []⟩]
def lastF (c : Int) : List Fld := [⟨4, 0, c, []⟩]
/-- The leaves of a ledger. -/
def leavesL (A : List Ac) (c : Int) : List (List Int) := A.map (fun x => msg (leafF x)) ++ [msg (lastF c)]
theorem infoBs : (Tryd.prog.info? 53).map (fun i => (i.zero, i.size, i.bytes)) = some (some (.slice none 0 0), 1, 24) := by kernel_rfl
theorem infoFd : (Tryd.prog.info? 56).map (fun i => (i.zero, i.size, i.bytes)) = some (some (.agg (fdA zFd none 0)), 4, 48) := by kernel_rfl
theorem build_f3 (x y z : Fld) (a b c : Option Addr) (k l m : Nat) (V : World) : (Instr.buildSlice 59 3 #[(0, .agg (fdA x a k)), (1, .agg (fdA y b l)), (2, .agg (fdA z c m))]).run Tryd.prog V = .ok (.slice (some ⟨V.heap.size, 0, none⟩) 3 3) (V.alloc (.cells (fdA x a k ++ fdA y b l ++ fdA z c m) 56)) := by
  obtain ⟨i0, hi, hz0, hz1, hz2⟩ := info_parts infoFd
  refine run_buildSlice V 59 56 3 _ _ i0 _ Tryd.underlying59 hi hz0 (by rw [hz1]; omega) (by rw [hz1]; omega) ?_
  rw [hz1]
  kernel_rfl
theorem build_f1 (x : Fld) (a : Option Addr) (k : Nat) (V : World) : (Instr.buildSlice 59 1 #[(0, .agg (fdA x a k))]).run Tryd.prog V = .ok (.slice (some ⟨V.heap.size, 0, none⟩) 1 1) (V.alloc (.cells (fdA x a k) 56)) := by
  obtain ⟨i0, hi, hz0, hz1, hz2⟩ := info_parts infoFd
  refine run_buildSlice V 59 56 1 _ _ i0 _ Tryd.underlying59 hi hz0 (by rw [hz1]; omega) (by rw [hz1]; omega) ?_
  rw [hz1]
  kernel_rfl
theorem build_b1 (a : Option Addr) (n c : Nat) (V : World) : (Instr.buildSlice 52 1 #[(0, .slice a n c)]).run Tryd.prog V = .ok (.slice (some ⟨V.heap.size, 0, none⟩) 1 1) (V.alloc (.cells #[.slice a n c] 53)) := by
  obtain ⟨i0, hi, hz0, hz1, hz2⟩ := info_parts infoBs
  refine run_buildSlice V 52 53 1 _ _ i0 _ Tryd.underlying52 hi hz0 (by rw [hz1]; omega) (by rw [hz1]; omega) ?_
  rw [hz1]
  kernel_rfl
theorem fsd_3 {w : World} {g : Nat} {x y z : Fld} {a b c : Option Addr} {k l m : Nat} {t : Nat} (h : Bx w g (fdA x a k ++ fdA y b l ++ fdA z c m) t) (h1 : Sl w a k x.bytes) (h2 : Sl w b l y.bytes) (h3 : Sl w c m z.bytes) : FsD w g [(x, a, k), (y, b, l), (z, c, m)] := fun i p hp => by
  have hi : i < 3 := by simpa using (List.getElem?_eq_some_iff.1 hp).1
  rcases (show i = 0 ∨ i = 1 ∨ i = 2 by omega) with rfl | rfl | rfl
  · obtain rfl : (x, a, k) = p := by simpa using hp
    refine ⟨fun j v hv => ?_, h.lt, h1⟩
    rw [cell_of_row w g _ _ _ (0, 0) h]
    have hj : j < 4 := by simpa using (List.getElem?_eq_some_iff.1 hv).1
    rcases (show j = 0 ∨ j = 1 ∨ j = 2 ∨ j = 3 by omega) with rfl | rfl | rfl | rfl <;> simpa using hv
  · obtain rfl : (y, b, l) = p := by simpa using hp
    refine ⟨fun j v hv => ?_, h.lt, h2⟩
    rw [cell_of_row w g _ _ _ (0, 0) h]
    have hj : j < 4 := by simpa using (List.getElem?_eq_some_iff.1 hv).1
    rcases (show j = 0 ∨ j = 1 ∨ j = 2 ∨ j = 3 by omega) with rfl | rfl | rfl | rfl <;> simpa using hv
  · obtain rfl : (z, c, m) = p := by simpa using hp
    refine ⟨fun j v hv => ?_, h.lt, h3⟩
    rw [cell_of_row w g _ _ _ (0, 0) h]
    have hj : j < 4 := by simpa using (List.getElem?_eq_some_iff.1 hv).1
    rcases (show j = 0 ∨ j = 1 ∨ j = 2 ∨ j = 3 by omega) with rfl | rfl | rfl | rfl <;> simpa using hv
theorem fsd_1 {w : World} {g : Nat} {x : Fld} {a : Option Addr} {k : Nat} {t : Nat} (h : Bx w g (fdA x a k) t) (h1 : Sl w a k x.bytes) : FsD w g [(x, a, k)] := fun i p hp => by
  have hi : i < 1 := by simpa using (List.getElem?_eq_some_iff.1 hp).1
  obtain rfl : i = 0 := by omega
  obtain rfl : (x, a, k) = p := by simpa using hp
  refine ⟨fun j v hv => ?_, h.lt, h1⟩
  rw [cell_of_row w g _ _ _ (0, 0) h]
  simpa using hv
theorem sl_none (w : World) : Sl w none 0 [] := .inl ⟨rfl, rfl, rfl⟩
abbrev Lq := Option Addr × Nat × List Int
def lqv (q : Lq) : Value := .slice q.1 q.2.2.length q.2.1
/-- One leaf in memory. -/
structure LfQ (w : World) (q : Lq) : Prop where
  s : Sl w q.1 q.2.1 q.2.2
  k : q.2.2.length ≤ q.2.1
  b : ∀ x, x ∈ q.2.2 → W8 x
  l : q.2.2.length ≤ 300000
theorem LfQ.below {w w' : World} {q : Lq} (h : LfQ w q) (hb : Below w.heap.size w w') : LfQ w' q := ⟨sl_below h.s hb, h.k, h.b, h.l⟩
/-- The leaves that are gathered: an own row at base B; no leaf's bytes lie in the row's block. -/
structure LvQ (w : World) (B : Nat) (v : Value) (Q : List Lq) : Prop where
  row : w.ownsRow B 53 1 v Q.length (Q.map lqv)
  q : ∀ q, q ∈ Q → LfQ w q
  far : ∀ q, q ∈ Q → ∀ x, q.1 = some x → v.ownBlock ≠ some x.block
  lt : ∀ q, q ∈ Q → ∀ x, q.1 = some x → x.block < w.heap.size
theorem LvQ.nil (w : World) (B : Nat) : LvQ w B (.slice none 0 0) [] := ⟨World.ownsRow_nil _ _ _ _, (fun q h => by cases h), (fun q h => by cases h), (fun q h => by cases h)⟩
theorem LvQ.below {w w' : World} {B : Nat} {v : Value} {Q : List Lq} (h : LvQ w B v Q) (hb : Below w.heap.size w w') : LvQ w' B v Q :=
  ⟨own_below h.row hb, fun q hq => (h.q q hq).below hb, h.far, fun q hq x hx => Nat.lt_of_lt_of_le (h.lt q hq x hx) hb.size⟩
theorem LvQ.rb {w : World} {B : Nat} {v : Value} {Q : List Lq} (h : LvQ w B v Q) : ∃ al c, v = .slice al Q.length c ∧ Q.length ≤ c ∧ RB w al (Q.map fun q => q.2.2) := by
  obtain ⟨al, c, rfl, hc, hk⟩ := own_cs h.row
  refine ⟨al, c, rfl, hk, fun i hi => ?_⟩
  have hi2 : i < Q.length := by rwa [List.length_map] at hi
  obtain ⟨b, off, e, hb, hcell⟩ := hc i (lqv Q[i]) (by rw [List.getElem?_map, List.getElem?_eq_getElem hi2]; rfl)
  have hg : (Q.map fun q => q.2.2).getD i [] = Q[i].2.2 := by rw [List.getD_eq_getElem?_getD, List.getElem?_map, List.getElem?_eq_getElem hi2]; rfl
  have hq := h.q Q[i] (List.getElem_mem hi2)
  rw [hg]
  exact ⟨b, off, Q[i].1, Q[i].2.1, e, hb, hcell, hq.s, hq.k, hq.b, hq.l⟩
theorem sl_same {w w' : World} {a : Option Addr} {c : Nat} {L : List Int} (h : Sl w a c L) (he : ∀ x, a = some x → w'.heap[x.block]? = w.heap[x.block]?) : Sl w' a c L := by
  rcases h with h | ⟨x, rfl, hx⟩
  · exact .inl h
  · refine .inr ⟨x, rfl, fun k hk => ?_⟩
    obtain ⟨b, off, rfl, hc⟩ := hx k hk
    refine ⟨b, off, rfl, ?_⟩
    have := he _ rfl
    rw [← hc]
    simp only [World.cell?] at *
    rw [this]
/-- One leaf more. -/
theorem LvQ.add {w : World} {B : Nat} {v : Value} {Q : List Lq} (h : LvQ w B v Q) (hB : B ≤ w.heap.size) (q : Lq) (hq : LfQ w q) (hf : ∀ x, q.1 = some x → v.ownBlock ≠ some x.block ∧ x.block < w.heap.size) (g : Nat) (hg : Bx w g #[lqv q] 53) (hn : Q.length ≤ 100000) :
    ∃ v2 w2, (Builtin.append_ #[52, 52] 52 #[v, .slice (some ⟨g, 0, none⟩) 1 1]).run Tryd.prog w = .ok v2 w2 ∧ LvQ w2 B v2 (Q ++ [q]) ∧ Below B w w2 := by
  obtain ⟨v2, w2, hr, hO, hb, hgr, hat⟩ := append_big (P := Tryd.prog) (t := 52) (e := 53) (m := 1) Tryd.underlying52 infoBs (by kernel_rfl) (by omega) h.row (some ⟨g, 0, none⟩) 1 [lqv q] (Cs.block (cs := [lqv q]) hg) rfl (fun u hu => by rw [List.mem_singleton] at hu; rw [hu]; rfl) hB (by omega) (by omega)
  have hfar : ∀ p, p ∈ Q ++ [q] → ∀ x, p.1 = some x → v.ownBlock ≠ some x.block ∧ x.block < w.heap.size := fun p hp x hx => by
    rcases List.mem_append.1 hp with h1 | h1
    · exact ⟨h.far p h1 x hx, h.lt p h1 x hx⟩
    · rw [List.mem_singleton] at h1; subst h1; exact hf x hx
  have hlf : ∀ p, p ∈ Q ++ [q] → LfQ w p := fun p hp => by
    rcases List.mem_append.1 hp with h1 | h1
    · exact h.q p h1
    · rw [List.mem_singleton] at h1; subst h1; exact hq
  refine ⟨v2, w2, hr, ⟨by rw [List.length_append, List.map_append]; exact hO, fun p hp => ?_, fun p hp x hx e => ?_, fun p hp x hx => Nat.lt_of_lt_of_le (hfar p hp x hx).2 hb.size⟩, hb⟩
  · have h1 := hlf p hp
    exact ⟨sl_same h1.s fun x hx => hgr.block x.block (hfar p hp x hx).2 (Ne.symm (hfar p hp x hx).1), h1.k, h1.b, h1.l⟩
  · obtain ⟨h1, h2⟩ := hfar p hp x hx
    rcases hat with h3 | h3
    · exact h1 (h3.symm.trans e)
    · rw [h3] at e
      simp only [Option.some.injEq] at e
      omega
end Go.Proofs.YtebnlklodokhkaaDoor.Lg
