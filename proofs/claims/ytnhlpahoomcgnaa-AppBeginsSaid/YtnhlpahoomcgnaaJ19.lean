/-
  Texts GT joined.
-/
import Derived.Test.YtnhlpahoomcgnaaJ3
import Derived.Test.YtnhlpahoomcgnaaJ1
set_option maxRecDepth 100000
set_option maxHeartbeats 8000000
set_option linter.unusedSimpArgs false
set_option linter.unusedVariables false
namespace Go.Proofs.Ytnhlpahoomcgnaa
open Go.RowKit
section
variable {P : Program} {Q : Exit → Act → World → Prop} {ops : Array Oper}
def Xh (n k : Nat) : Array Bool := (List.replicate k true ++ List.replicate (n - k) false).toArray
def J7 (ops : Array Oper) (j : Nat) : List Nat := ((ops[j]?).map fun o => (o.after.toList.filter fun e => Region.binds .any e).map fun e => e.on).getD []
def MS (ops : Array Oper) : Nat → List Nat → List Nat
 | 0, l => l
 | j + 1, l => MS ops j (bif l.contains j then J7 ops j ++ l else l)
def zN (ops : Array Oper) (k m : Nat) : Bool := decide (0 < m) && decide (k + m ≤ ops.size) && ((List.range m).all fun i => (MS ops (k + m) [k + m - 1]).contains (k + i)) && ((List.range (ops.size - (k + m))).all fun i => (J7 ops (k + m + i)).any fun d => decide (k + m - 1 ≤ d))
def Shut (ops : Array Oper) (listed : Array Bool) : Prop := ∀ i, listed.getD i false = true → ∀ d, d ∈ J7 ops i → listed.getD d false = true
theorem J6 {listed : Array Bool} (hs : Shut ops listed) : ∀ (n : Nat) (l : List Nat), (∀ x, x ∈ l → listed.getD x false = true) → ∀ x, x ∈ MS ops n l → listed.getD x false = true
 | 0, l, h => h
 | j + 1, l, h => by
  unfold MS
  refine J6 hs j _ ?_
  cases hc : l.contains j
  ·exact h
  ·intro x hx
   rcases List.mem_append.1 hx with h1 | h1
   ·exact hs j (h j (by simpa using hc)) x h1
   ·exact h x h1
theorem PY {i : Nat} {listed : Array Bool} (h : i ∈ Region.ready .any ops listed) : ∀ d, d ∈ J7 ops i → listed.getD d false = true := fun d hd => by
 obtain ⟨-, o, ho, hall⟩ := mem_ready.1 h
 unfold J7 at hd
 rw [ho] at hd
 simp only [Option.map_some, Option.getD_some, List.mem_map, List.mem_filter] at hd
 obtain ⟨e, ⟨h1, h2⟩, rfl⟩ := hd
 exact hall e (by simpa using h1) h2
theorem SG (listed : Array Bool) (i j : Nat) : (listed.setIfInBounds i true).getD j false = true ↔ listed.getD j false = true ∨ (j = i ∧ i < listed.size) := by
 simp only [Array.getD_eq_getD_getElem?, Array.getElem?_setIfInBounds]
 by_cases h : i = j
 ·subst h
  by_cases h2 : i < listed.size
  ·simp [h2]
  ·simp [h2]
 ·rw [if_neg h]
  constructor
  ·exact .inl
  ·rintro (h1 | ⟨h1, -⟩)
   ·exact h1
   ·exact absurd h1.symm h
theorem Shut.set {i : Nat} {listed : Array Bool} (hs : Shut ops listed) (h : i ∈ Region.ready .any ops listed) : Shut ops (listed.setIfInBounds i true) := fun j hj d hd => by
 refine (SG _ _ _).2 (.inl ?_)
 rcases (SG _ _ _).1 hj with h1 | ⟨rfl, -⟩
 ·exact hs j h1 d hd
 ·exact PY h d hd
structure dJ (ops : Array Oper) (k m : Nat) (listed : Array Bool) : Prop where
 sz : listed.size = ops.size
 lo : ∀ i, i < k → listed.getD i false = true
 hi : ∀ i, k + m ≤ i → listed.getD i false = false
 sh : Shut ops listed
theorem Ux {n k i : Nat} (hk : k ≤ n) : (Xh n k).getD i false = decide (i < k) := by
 unfold Xh
 rw [Array.getD_eq_getD_getElem?]
 simp only [List.getElem?_toArray]
 by_cases h : i < k
 ·rw [List.getElem?_append_left (by simpa using h), List.getElem?_replicate, if_pos h, decide_eq_true h]
  rfl
 ·rw [List.getElem?_append_right (by simpa using h), List.getElem?_replicate, decide_eq_false h]
  split <;> rfl
theorem zM {n k : Nat} {listed : Array Bool} (hk : k ≤ n) (hs : listed.size = n) (h : ∀ i, i < n → listed.getD i false = decide (i < k)) : listed = Xh n k := by
 have hu : (Xh n k).size = n := by unfold Xh; simp; omega
 apply Array.ext
 ·rw [hs, hu]
 ·intro i h1 h2
  have e1 := h i (by omega)
  have e2 := Ux (n := n) (k := k) (i := i) hk
  rw [← e2] at e1
  simpa [Array.getD, h1, h2] using e1
def uU (P : Program) (ops : Array Oper) (Q : Exit → Act → World → Prop) (listed : Array Bool) (a : Act) (w : World) : Prop := Shut ops listed → ∀ fuel, listed.count false ≤ fuel → wpAny P .any ops Q fuel listed a w
theorem Oq {id : Nat} {a : Act} {w : World} (hm : P.follows .mixedOrders = true) (h : uU P ops Q (Xh ops.size 0) a { w with drawn := w.drawn + 1 }) : (Code.region id ops true).wp P Q a w := by
 refine wp_region_any hm ?_
 have e : Xh ops.size 0 = Array.replicate ops.size false := by
  unfold Xh
  apply Array.ext
  ·simp
  ·intro i h1 h2
   simp
 rw [e] at h
 refine h (fun i hi => ?_) _ (by rw [Array.count_replicate]; simp)
 exfalso
 rw [Array.getD_eq_getD_getElem?, Array.getElem?_replicate] at hi
 split at hi <;> simp at hi
theorem ED {a : Act} {w : World} (hb : Q .normal a w) : uU P ops Q (Xh ops.size ops.size) a w := fun _ fuel _ => by
 have hr : Region.ready .any ops (Xh ops.size ops.size) = [] := by
  rw [List.eq_nil_iff_forall_not_mem]
  intro j hj
  obtain ⟨h1, o, ho, -⟩ := mem_ready.1 hj
  have hjs : j < ops.size := (Array.getElem?_eq_some_iff.1 ho).1
  have h2 := Ux (n := ops.size) (k := ops.size) (i := j) (Nat.le_refl _)
  rw [decide_eq_true hjs] at h2
  simp only [Array.getD] at h1 h2
  split at h1
  ·rename_i h3
   rw [dif_pos h3] at h2
   rw [h2] at h1
   cases h1
  ·cases h1
 cases fuel with
 | zero => exact ⟨hr, hb⟩
 | succ n => exact ⟨fun _ => hb, fun i hi => by rw [hr] at hi; cases hi⟩
theorem Yg (k m : Nat) (J : Array Bool → Act → World → Prop) {a : Act} {w : World} (hb : Bv ops = true) (hc : zN ops k m = true) (h0 : J (Xh ops.size k) a w)
  (hstep : ∀ i listed a w, k ≤ i → i < k + m → i ∈ Region.ready .any ops listed → J listed a w → wpOp P ops Q i (J (listed.setIfInBounds i true)) a w)
  (hend : ∀ a w, J (Xh ops.size (k + m)) a w → uU P ops Q (Xh ops.size (k + m)) a w) : uU P ops Q (Xh ops.size k) a w := by
 unfold zN at hc
 simp only [Bool.and_eq_true, decide_eq_true_eq] at hc
 obtain ⟨⟨⟨hm, hn⟩, hr⟩, hl⟩ := hc
 have full : ∀ listed, dJ ops k m listed → listed.getD (k + m - 1) false = true → listed = Xh ops.size (k + m) := fun listed hI hlast => by
  refine zM hn hI.sz fun i hi => ?_
  by_cases h1 : i < k + m
  ·rw [decide_eq_true h1]
   by_cases h2 : i < k
   ·exact hI.lo i h2
   ·have h3 := List.all_eq_true.1 hr (i - k) (List.mem_range.2 (by omega))
    rw [show k + (i - k) = i by omega] at h3
    exact J6 hI.sh (k + m) [k + m - 1] (fun x hx => by rw [List.mem_singleton.1 hx]; exact hlast) i (by simpa using h3)
  ·rw [decide_eq_false h1]
   exact hI.hi i (by omega)
 have key : ∀ (fuel : Nat) (listed : Array Bool) (a : Act) (w : World), dJ ops k m listed → listed.count false ≤ fuel → J listed a w → wpAny P .any ops Q fuel listed a w := by
  intro fuel
  induction fuel with
  | zero =>
   intro listed a w hI hcnt hJ
   by_cases hlast : listed.getD (k + m - 1) false = true
   ·have e := full listed hI hlast
    subst e
    exact hend a w hJ hI.sh 0 hcnt
   ·exfalso
    have hlt : k + m - 1 < listed.size := by rw [hI.sz]; omega
    have h3 : false ∉ listed := Array.count_eq_zero.1 (by omega)
    refine h3 ?_
    simp only [Array.getD, hlt, dif_pos] at hlast
    have h4 : listed[k + m - 1] = false := by simpa using hlast
    exact h4 ▸ Array.getElem_mem hlt
  | succ fuel ih =>
   intro listed a w hI hcnt hJ
   by_cases hlast : listed.getD (k + m - 1) false = true
   ·have e := full listed hI hlast
    subst e
    exact hend a w hJ hI.sh _ hcnt
   ·refine ⟨fun h => ?_, fun i hi => ?_⟩
    ·exfalso
     have e := Qe hb hI.sz h
     rw [e, Array.getD_eq_getD_getElem?, Array.getElem?_replicate, if_pos (by omega)] at hlast
     exact hlast rfl
    ·obtain ⟨h1, o, ho, -⟩ := mem_ready.1 hi
     have his : i < ops.size := (Array.getElem?_eq_some_iff.1 ho).1
     have hil : i < listed.size := by rw [hI.sz]; exact his
     have hf : listed[i] = false := by
      simp only [Array.getD, hil, dif_pos] at h1
      exact h1
     have hk : k ≤ i := by
      rcases Nat.lt_or_ge i k with h | h
      ·have h2 := hI.lo i h
       simp only [Array.getD, hil, dif_pos] at h2
       have h5 : listed[i] = true := h2
       rw [hf] at h5
       cases h5
      ·exact h
     have hkm : i < k + m := by
      rcases Nat.lt_or_ge i (k + m) with h | h
      ·exact h
      ·exfalso
       have h2 := List.all_eq_true.1 hl (i - (k + m)) (List.mem_range.2 (by omega))
       rw [show k + m + (i - (k + m)) = i by omega] at h2
       obtain ⟨d, hd, h3⟩ := List.any_eq_true.1 h2
       have h4 := PY hi d hd
       have h5 : k + m - 1 ≤ d := of_decide_eq_true h3
       rcases Nat.lt_or_ge d (k + m) with h6 | h6
       ·rw [show d = k + m - 1 by omega] at h4
        exact hlast h4
       ·rw [hI.hi d h6] at h4
        cases h4
     refine wpOp_mono (fun a' w' hJ' => ih _ a' w' ⟨by rw [Array.size_setIfInBounds]; exact hI.sz, fun j hj => (SG _ _ _).2 (.inl (hI.lo j hj)), fun j hj => ?_, hI.sh.set hi⟩ ?_ hJ') (hstep i listed a w hk hkm hi hJ)
     ·cases hg : (listed.setIfInBounds i true).getD j false
      ·rfl
      ·rcases (SG _ _ _).1 hg with h2 | ⟨h2, -⟩
       ·rw [hI.hi j hj] at h2; cases h2
       ·omega
     ·rw [Array.setIfInBounds_def, dif_pos hil, Array.count_set, hf]
      have : 0 < listed.count false := Array.count_pos_iff.2 (hf ▸ Array.getElem_mem hil)
      simp
      omega
 intro hsh fuel hcnt
 exact key fuel _ a w ⟨by unfold Xh; simp; omega, fun i hi => by rw [Ux (by omega)]; exact decide_eq_true hi, fun i hi => by rw [Ux (by omega)]; exact decide_eq_false (by omega), hsh⟩ hcnt h0
end
end Go.Proofs.Ytnhlpahoomcgnaa
