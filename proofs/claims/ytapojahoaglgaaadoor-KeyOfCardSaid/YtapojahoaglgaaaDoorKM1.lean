/-
  A map from keys to bools: what it holds, a look-up, a new key.
-/
import Derived.Test.YtapojahoaglgaaaDoorKC7
import Derived.Maps.Own
namespace Go.Proofs.YtapojahoaglgaaaDoor
open Go.RowKit

/-- The map at block B holds just these keys, each with true. -/
def Mp (w : World) (B : Nat) (Ks : List (List Int)) : Prop :=
  ∃ es clock, w.heap[B]? = some (.map es clock) ∧ es.toList.map (fun e => (e.key, e.val)) = Ks.map (fun k => (Value.agg (w8s k), Value.bool true))
theorem Mp.below {w w' : World} {B S : Nat} {Ks : List (List Int)} (h : Mp w B Ks) (hB : B < S) (hb : Below S w w') : Mp w' B Ks := by
  obtain ⟨es, c, h1, h2⟩ := h
  exact ⟨es, c, (hb.block B hB).trans h1, h2⟩
theorem check_key (w : World) (b : Bool) (A : List Int) (hA : A.length = 32) : (Instr.checkKey b 10000 25 (.agg (w8s A))).run Tryd.prog w = .ok () w := by
  have hu : (Go.underlying 25).run Tryd.prog w = .ok (.array 32 5) w := run_underlying (by kernel_rfl) w
  have hsz : (sizeOf 5).run Tryd.prog w = .ok 1 w := by kernel_rfl
  rw [show (10000 : Nat) = 9999 + 1 from rfl, Instr.checkKey]
  simp only [Sem.run_bind, hu, Result.andThen_ok, Std.Legacy.Range.forIn_eq_forIn_range', Std.Legacy.Range.size, Nat.sub_zero, Nat.add_sub_cancel, Nat.div_one]
  have hl : ∀ i ∈ List.range' 0 32 1, i < 32 := fun i hi => by simpa using (List.mem_range'_1.1 hi).2
  generalize List.range' 0 32 1 = l at hl ⊢
  induction l with
  | nil => simp
  | cons i l ih =>
    have hi : i < 32 := hl i (by simp)
    have px : (part 5 (w8s A) (i * 1)).run Tryd.prog w = .ok (.int .u8 (A.getD i 0)) w := by
      simp [part, isAgg, run_underlying Tryd.underlying5, List.getD, List.getElem?_eq_getElem (show i < A.length by omega)]
    have pc : (Instr.checkKey b 9999 5 (.int .u8 (A.getD i 0))).run Tryd.prog w = .ok () w := by
      rw [show (9999 : Nat) = 9998 + 1 from rfl, Instr.checkKey]
      simp [run_underlying Tryd.underlying5]
    simp only [List.forIn_cons, Sem.run_bind, hsz, px, pc, Result.andThen_ok, Sem.run_pure]
    exact ih fun j hj => hl j (by simp [hj])
theorem find_asking (w : World) (x : List Int) (hx : x.length = 32) : ∀ (es : List MapEntry) (Ks : List (List Int)) (i : Nat), es.map (fun e => (e.key, e.val)) = Ks.map (fun k => (Value.agg (w8s k), Value.bool true)) → (∀ k ∈ Ks, k.length = 32) →
    ∃ r, (Instr.findAsking 25 (.agg (w8s x)) es i).run Tryd.prog w = .ok r w ∧ ((hasL x Ks = true ∧ ∃ j, r = some (j, .bool true)) ∨ (hasL x Ks = false ∧ r = none))
  | [], [], i, _, _ => ⟨none, by simp [Instr.findAsking], .inr ⟨rfl, rfl⟩⟩
  | [], _ :: _, i, h, _ => by simp at h
  | _ :: _, [], i, h, _ => by simp at h
  | e :: es, k :: Ks, i, h, hk => by
    simp only [List.map_cons, List.cons.injEq, Prod.mk.injEq] at h
    obtain ⟨⟨h1, h2⟩, h3⟩ := h
    have hc := key_cmp x k hx (hk k (by simp)) w
    have he : (Op.equal 25 (.agg (w8s x)) e.key).run Tryd.prog w = .ok (x == k) w := by
      rw [h1]
      exact hc
    obtain ⟨r, hr, hor⟩ := find_asking w x hx es Ks (i + 1) h3 (fun k hk' => hk k (by simp [hk']))
    by_cases hxk : x = k
    · refine ⟨some (i, e.val), ?_, .inl ⟨by simp [hasL, hxk], i, by rw [h2]⟩⟩
      rw [Instr.findAsking]
      have : (x == k) = true := by simpa using hxk
      simp [he, this]
    · have hb : (x == k) = false := by simpa using hxk
      have hh : hasL x (k :: Ks) = hasL x Ks := by
        have : (k == x) = false := by simpa using fun h => hxk h.symm
        simp [hasL, this]
      refine ⟨r, ?_, by rw [hh]; exact hor⟩
      rw [Instr.findAsking]
      simp [he, hb, hr]
theorem find_key (w : World) (x : List Int) (hx : x.length = 32) (es : List MapEntry) (Ks : List (List Int)) (h : es.map (fun e => (e.key, e.val)) = Ks.map (fun k => (Value.agg (w8s k), Value.bool true))) (hk : ∀ k ∈ Ks, k.length = 32) :
    ∃ r, (Instr.findKey 25 (.agg (w8s x)) es).run Tryd.prog w = .ok r w ∧ ((hasL x Ks = true ∧ ∃ j, r = some (j, .bool true)) ∨ (hasL x Ks = false ∧ r = none)) := by
  have hu : (Go.underlying 25).run Tryd.prog w = .ok (.array 32 5) w := run_underlying (by kernel_rfl) w
  cases es with
  | nil =>
    obtain rfl : Ks = [] := by simpa using h.symm
    exact ⟨none, by simp [Instr.findKey, hu, Instr.findNow], .inr ⟨rfl, rfl⟩⟩
  | cons e es =>
    obtain ⟨r, hr, hor⟩ := find_asking w x hx (e :: es) Ks 0 h hk
    have hn : Instr.findNow (.array 32 5) (.agg (w8s x)) (e :: es) 0 = none := by simp [Instr.findNow, Instr.sameNow]
    exact ⟨r, by simp [Instr.findKey, hu, hn, hr], hor⟩
theorem map_look {w : World} {B : Nat} {Ks : List (List Int)} (h : Mp w B Ks) (hk : ∀ k ∈ Ks, k.length = 32) (x : List Int) (hx : x.length = 32) : (Instr.lookup 52 (.map (some B)) (.agg (w8s x)) false).run Tryd.prog w = .ok (.bool (hasL x Ks)) w := by
  obtain ⟨es, c, hb, he⟩ := h
  have hu : (Go.underlying 52).run Tryd.prog w = .ok (.map 25 4) w := run_underlying (by kernel_rfl) w
  have hz : (zeroValue 4).run Tryd.prog w = .ok (.bool false) w := by kernel_rfl
  obtain ⟨r, hr, ⟨h1, j, rfl⟩ | ⟨h1, rfl⟩⟩ := find_key w x hx es.toList Ks he hk
  · simp [Instr.lookup, hu, MapKept.run_getObj_map hb, check_key w _ x hx, hr, h1, Result.andThen]
  · simp [Instr.lookup, hu, MapKept.run_getObj_map hb, check_key w _ x hx, hr, h1, hz, Result.andThen]
theorem map_put {w : World} {B : Nat} {Ks : List (List Int)} (h : Mp w B Ks) (hk : ∀ k ∈ Ks, k.length = 32) (x : List Int) (hx : x.length = 32) (hn : hasL x Ks = false) :
    ∃ w', (Instr.mapUpdate 52 (.map (some B)) (.agg (w8s x)) (.bool true)).run Tryd.prog w = .ok () w' ∧ Mp w' B (Ks ++ [x]) ∧ w'.heap.size = w.heap.size ∧ w.grownBy w' (some B) := by
  obtain ⟨es, c, hb, he⟩ := h
  have hu : (Go.underlying 52).run Tryd.prog w = .ok (.map 25 4) w := run_underlying (by kernel_rfl) w
  obtain ⟨r, hr, ⟨h1, j, rfl⟩ | ⟨h1, rfl⟩⟩ := find_key w x hx es.toList Ks he hk
  · rw [hn] at h1
    cases h1
  · have hlt : B < w.heap.size := (Array.getElem?_eq_some_iff.1 hb).1
    refine ⟨{ w with heap := w.heap.setIfInBounds B (.map (es.push { key := .agg (w8s x), val := .bool true, born := c }) (c + 1)) },
      by simp [Instr.mapUpdate, hu, MapKept.run_getObj_map hb, check_key w _ x hx, hr, MapKept.run_setObj_map _ hb, Result.andThen], ⟨_, _, by simp [hlt]; exact ⟨rfl, rfl⟩, by simp [he]⟩, by simp, rfl, rfl, rfl, by simp, fun i _ hi => ?_⟩
    have hne : B ≠ i := fun e => hi (by rw [e])
    simp [Array.getElem?_setIfInBounds_ne hne]
end Go.Proofs.YtapojahoaglgaaaDoor
