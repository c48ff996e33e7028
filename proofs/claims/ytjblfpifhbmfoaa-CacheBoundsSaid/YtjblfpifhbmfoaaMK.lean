/-
  A map from keys to ints: what it holds, a look-up, a new key, a key that is deleted.
-/
import Derived.Test.YtjblfpifhbmfoaaCR
import Derived.Maps.Own
namespace Go.Proofs.Ytjblfpifhbmfoaa
open Go.RowKit
set_option linter.unusedSimpArgs false
set_option linter.unusedVariables false

/-- The map at block B holds just these keys with these numbers. -/
def Mk (w : World) (B : Nat) (L : List (List Int × Int)) : Prop :=
  ∃ es clock, w.heap[B]? = some (.map es clock) ∧ es.toList.map (fun e => (e.key, e.val)) = L.map (fun x => (Value.agg (w8s x.1), Value.int .i64 x.2))
theorem Mk.lt {w : World} {B : Nat} {L : List (List Int × Int)} (h : Mk w B L) : B < w.heap.size := by
  obtain ⟨es, c, h1, -⟩ := h
  exact (Array.getElem?_eq_some_iff.1 h1).1
theorem Mk.same {w w' : World} {B : Nat} {L : List (List Int × Int)} (h : Mk w B L) (hs : w'.heap[B]? = w.heap[B]?) : Mk w' B L := by
  obtain ⟨es, c, h1, h2⟩ := h
  exact ⟨es, c, hs.trans h1, h2⟩
theorem Mk.below {w w' : World} {B S : Nat} {L : List (List Int × Int)} (h : Mk w B L) (hB : B < S) (hb : Below S w w') : Mk w' B L := h.same (hb.block B hB)
theorem Mk.new (w : World) : Mk (w.alloc (.map #[] 0)) w.heap.size [] := ⟨#[], 0, heap_alloc_last w _, rfl⟩
theorem check_key (w : World) (b : Bool) (A : List Int) (hA : A.length = 32) : (Instr.checkKey b 10000 34 (.agg (w8s A))).run Try.prog w = .ok () w := by
  have hu : (Go.underlying 34).run Try.prog w = .ok (.array 32 5) w := run_underlying (by kernel_rfl) w
  have hsz : (sizeOf 5).run Try.prog w = .ok 1 w := by kernel_rfl
  rw [show (10000 : Nat) = 9999 + 1 from rfl, Instr.checkKey]
  simp only [Sem.run_bind, hu, Result.andThen_ok, Std.Legacy.Range.forIn_eq_forIn_range', Std.Legacy.Range.size, Nat.sub_zero, Nat.add_sub_cancel, Nat.div_one]
  have hl : ∀ i ∈ List.range' 0 32 1, i < 32 := fun i hi => by simpa using (List.mem_range'_1.1 hi).2
  generalize List.range' 0 32 1 = l at hl ⊢
  induction l with
  | nil => simp
  | cons i l ih =>
    have hi : i < 32 := hl i (by simp)
    have px : (part 5 (w8s A) (i * 1)).run Try.prog w = .ok (.int .u8 (A.getD i 0)) w := by
      simp [part, isAgg, run_underlying Try.underlying5, List.getD, List.getElem?_eq_getElem (show i < A.length by omega)]
    have pc : (Instr.checkKey b 9999 5 (.int .u8 (A.getD i 0))).run Try.prog w = .ok () w := by
      rw [show (9999 : Nat) = 9998 + 1 from rfl, Instr.checkKey]
      simp [run_underlying Try.underlying5]
    simp only [List.forIn_cons, Sem.run_bind, hsz, px, pc, Result.andThen_ok, Sem.run_pure]
    exact ih fun j hj => hl j (by simp [hj])
/-- Where a key is, and its number. -/
def foundK (x : List Int) : List (List Int × Int) → Nat → Option (Nat × Int)
  | [], _ => none
  | p :: r, i => if p.1 = x then some (i, p.2) else foundK x r (i + 1)
theorem foundK_some {x : List Int} : ∀ {L : List (List Int × Int)} {i j : Nat} {v : Int}, foundK x L i = some (j, v) → ∃ k, j = i + k ∧ k < L.length ∧ L[k]? = some (x, v)
  | [], i, j, v, h => by cases h
  | p :: r, i, j, v, h => by
    unfold foundK at h
    by_cases hp : p.1 = x
    · rw [if_pos hp] at h
      simp only [Option.some.injEq, Prod.mk.injEq] at h
      exact ⟨0, by omega, by simp, by simp [← hp, ← h.2]⟩
    · rw [if_neg hp] at h
      obtain ⟨k, h1, h2, h3⟩ := foundK_some h
      exact ⟨k + 1, by omega, by simpa using h2, by simpa using h3⟩
theorem foundK_none {x : List Int} : ∀ {L : List (List Int × Int)} {i : Nat}, foundK x L i = none → ∀ v, (x, v) ∉ L
  | [], i, h, v => by simp
  | p :: r, i, h, v => by
    unfold foundK at h
    by_cases hp : p.1 = x
    · rw [if_pos hp] at h
      cases h
    · rw [if_neg hp] at h
      intro hm
      rcases List.mem_cons.1 hm with e | e
      · exact hp (by rw [← e])
      · exact foundK_none h v e
theorem find_asking (w : World) (x : List Int) (hx : x.length = 32) : ∀ (es : List MapEntry) (L : List (List Int × Int)) (i : Nat), es.map (fun e => (e.key, e.val)) = L.map (fun x => (Value.agg (w8s x.1), Value.int .i64 x.2)) → (∀ p ∈ L, p.1.length = 32) →
    (Instr.findAsking 34 (.agg (w8s x)) es i).run Try.prog w = .ok ((foundK x L i).map fun p => (p.1, Value.int .i64 p.2)) w
  | [], [], i, _, _ => by simp [Instr.findAsking, foundK]
  | [], _ :: _, i, h, _ => by simp at h
  | _ :: _, [], i, h, _ => by simp at h
  | e :: es, p :: L, i, h, hk => by
    simp only [List.map_cons, List.cons.injEq, Prod.mk.injEq] at h
    obtain ⟨⟨h1, h2⟩, h3⟩ := h
    have hc := key_cmp x p.1 hx (hk p (by simp)) w
    have he : (Op.equal 34 (.agg (w8s x)) e.key).run Try.prog w = .ok (x == p.1) w := by
      rw [h1]
      exact hc
    have ih := find_asking w x hx es L (i + 1) h3 (fun q hq => hk q (by simp [hq]))
    unfold foundK
    by_cases hxk : p.1 = x
    · have : (x == p.1) = true := by simp [hxk]
      rw [if_pos hxk, Instr.findAsking]
      simp [he, this, h2]
    · have : (x == p.1) = false := by simpa using fun h => hxk h.symm
      rw [if_neg hxk, Instr.findAsking]
      simp [he, this, ih]
theorem find_key (w : World) (x : List Int) (hx : x.length = 32) (es : List MapEntry) (L : List (List Int × Int)) (h : es.map (fun e => (e.key, e.val)) = L.map (fun x => (Value.agg (w8s x.1), Value.int .i64 x.2))) (hk : ∀ p ∈ L, p.1.length = 32) :
    (Instr.findKey 34 (.agg (w8s x)) es).run Try.prog w = .ok ((foundK x L 0).map fun p => (p.1, Value.int .i64 p.2)) w := by
  have hu : (Go.underlying 34).run Try.prog w = .ok (.array 32 5) w := run_underlying (by kernel_rfl) w
  cases es with
  | nil =>
    obtain rfl : L = [] := by simpa using h.symm
    simp [Instr.findKey, hu, Instr.findNow, foundK]
  | cons e es =>
    have hr := find_asking w x hx (e :: es) L 0 h hk
    have hn : Instr.findNow (.array 32 5) (.agg (w8s x)) (e :: es) 0 = none := by simp [Instr.findNow, Instr.sameNow]
    simp [Instr.findKey, hu, hn, hr]
/-- What a look-up yields. -/
def lookV (x : List Int) (L : List (List Int × Int)) (b : Bool) : Value :=
  match foundK x L 0 with
  | some (_, v) => if b then .tuple #[.int .i64 v, .bool true] else .int .i64 v
  | none => if b then .tuple #[.int .i64 0, .bool false] else .int .i64 0
theorem map_look {w : World} {B : Nat} {L : List (List Int × Int)} (h : Mk w B L) (hk : ∀ p ∈ L, p.1.length = 32) (x : List Int) (hx : x.length = 32) (b : Bool) : (Instr.lookup 51 (.map (some B)) (.agg (w8s x)) b).run Try.prog w = .ok (lookV x L b) w := by
  obtain ⟨es, c, hb, he⟩ := h
  have hu : (Go.underlying 51).run Try.prog w = .ok (.map 34 3) w := run_underlying (by kernel_rfl) w
  have hz : (zeroValue 3).run Try.prog w = .ok (.int .i64 0) w := by kernel_rfl
  have hr := find_key w x hx es.toList L he hk
  unfold lookV
  cases hf : foundK x L 0 with
  | none =>
    rw [hf] at hr
    cases b <;> simp [Instr.lookup, hu, MapKept.run_getObj_map hb, check_key w _ x hx, hr, hz, Result.andThen]
  | some p =>
    rw [hf] at hr
    cases b <;> simp [Instr.lookup, hu, MapKept.run_getObj_map hb, check_key w _ x hx, hr, hz, Result.andThen]
theorem map_put {w : World} {B : Nat} {L : List (List Int × Int)} (h : Mk w B L) (hk : ∀ p ∈ L, p.1.length = 32) (x : List Int) (hx : x.length = 32) (v : Int) (hn : foundK x L 0 = none) :
    ∃ w', (Instr.mapUpdate 51 (.map (some B)) (.agg (w8s x)) (.int .i64 v)).run Try.prog w = .ok () w' ∧ Mk w' B (L ++ [(x, v)]) ∧ w'.heap.size = w.heap.size ∧ w.grownBy w' (some B) := by
  obtain ⟨es, c, hb, he⟩ := h
  have hu : (Go.underlying 51).run Try.prog w = .ok (.map 34 3) w := run_underlying (by kernel_rfl) w
  have hr := find_key w x hx es.toList L he hk
  rw [hn] at hr
  have hlt : B < w.heap.size := (Array.getElem?_eq_some_iff.1 hb).1
  refine ⟨{ w with heap := w.heap.setIfInBounds B (.map (es.push { key := .agg (w8s x), val := .int .i64 v, born := c }) (c + 1)) },
    by simp [Instr.mapUpdate, hu, MapKept.run_getObj_map hb, check_key w _ x hx, hr, MapKept.run_setObj_map _ hb, Result.andThen], ⟨_, _, by simp [hlt]; exact ⟨rfl, rfl⟩, by simp [he]⟩, by simp, rfl, rfl, rfl, by simp, fun i _ hi => ?_⟩
  have hne : B ≠ i := fun e => hi (by rw [e])
  simp [Array.getElem?_setIfInBounds_ne hne]
theorem map_erase {α β : Type} (f : α → β) : ∀ (l : List α) (i : Nat), (l.eraseIdx i).map f = (l.map f).eraseIdx i
  | [], i => by simp
  | x :: r, 0 => by simp
  | x :: r, i + 1 => by simp [map_erase f r i]
theorem map_del {w : World} {B : Nat} {L : List (List Int × Int)} (h : Mk w B L) (hk : ∀ p ∈ L, p.1.length = 32) (x : List Int) (hx : x.length = 32) (ty : TypeId) :
    ∃ w', (Builtin.delete_ #[51, 34] ty #[.map (some B), .agg (w8s x)]).run Try.prog w = .ok (.tuple #[]) w' ∧ Mk w' B (match foundK x L 0 with | some (j, _) => L.eraseIdx j | none => L) ∧ w'.heap.size = w.heap.size ∧ w.grownBy w' (some B) := by
  obtain ⟨es, c, hb, he⟩ := h
  have hu : (Go.underlying 51).run Try.prog w = .ok (.map 34 3) w := run_underlying (by kernel_rfl) w
  have hr := find_key w x hx es.toList L he hk
  have hlt : B < w.heap.size := (Array.getElem?_eq_some_iff.1 hb).1
  have hg : ∀ o : Obj, w.grownBy { w with heap := w.heap.setIfInBounds B o } (some B) := fun o => ⟨rfl, rfl, rfl, by simp, fun i _ hi => by
    have hne : B ≠ i := fun e => hi (by rw [e])
    simp [Array.getElem?_setIfInBounds_ne hne]⟩
  cases hf : foundK x L 0 with
  | none =>
    rw [hf] at hr
    exact ⟨{ w with heap := w.heap.setIfInBounds B (.map es c) }, by simp [Builtin.delete_, hu, MapKept.run_getObj_map hb, check_key w _ x hx, hr, MapKept.run_setObj_map _ hb, Result.andThen], ⟨es, c, by simp [hlt], he⟩, by simp, hg _⟩
  | some p =>
    rw [hf] at hr
    obtain ⟨k, hj, hkl, -⟩ := foundK_some (show foundK x L 0 = some (p.1, p.2) from hf)
    have hlen : es.size = L.length := by
      have := congrArg List.length he
      simpa using this
    refine ⟨{ w with heap := w.heap.setIfInBounds B (.map (es.eraseIdxIfInBounds p.1) c) }, by simp [Builtin.delete_, hu, MapKept.run_getObj_map hb, check_key w _ x hx, hr, MapKept.run_setObj_map _ hb, Result.andThen], ⟨es.eraseIdxIfInBounds p.1, c, by simp [hlt], ?_⟩, by simp, hg _⟩
    have hin : p.1 < es.size := by omega
    show (es.eraseIdxIfInBounds p.1).toList.map _ = (L.eraseIdx p.1).map _
    rw [Array.eraseIdxIfInBounds, dif_pos hin, Array.toList_eraseIdx, map_erase, he, map_erase]
end Go.Proofs.Ytjblfpifhbmfoaa
