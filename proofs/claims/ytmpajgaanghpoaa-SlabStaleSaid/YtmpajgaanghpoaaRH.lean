/-
 The reference's RemoveEntry: contract, put together.
-/
import Derived.Test.YtmpajgaanghpoaaRG
namespace Go.Proofs.Ytmpajgaanghpoaa
open Go.RowKit
set_option maxRecDepth 100000
set_option linter.unusedSimpArgs false
set_option linter.unusedVariables false

def RmO (w : World) (m : Sm) (L : List (Pn × Ad)) (ap af : Option Addr) (q : Int × Int) (r : Ending) (w' : World) : Prop := ∃ L' ap' cp' af' cf', r = .returned (.tuple #[.agg (rsA (remS m q).mo ap' L'.length cp' af' (remS m q).F.length cf'), .bool (valS m q)]) ∧ Rm w' (remS m q) L' ap' cp' af' cf' ∧ (∀ k, RmB (remS m q) L' ap' af' k → RmB m L ap af k ∨ w.heap.size ≤ k) ∧ Below w.heap.size w w'
theorem r_rem {w : World} {m : Sm} {L : List (Pn × Ad)} {ap af : Option Addr} {cp cf u : Nat} (q : Int × Int) (hR : Rm w m L ap cp af cf) (hm : Wm m u) (hu : u ≤ 1000000) : Calls Try.prog 28 #[.agg (rsA m.mo ap L.length cp af m.F.length cf), .agg #[.int .i64 q.1, .int .i64 q.2]] w (RmO w m L ap af q) := by
 have GC : ∀ V, Below w.heap.size w V → Calls Try.prog 18 #[.agg (rsA m.mo ap L.length cp af m.F.length cf), .agg #[.int .i64 q.1, .int .i64 q.2]] V fun r w' => ∃ d', r = .returned (.tuple #[.agg (enA (getS m q) d'), .bool (valS m q)]) ∧ Below V.heap.size V w' := fun V hV => (r_get q (hR.below hV) hm hu).mono fun r w' z => let ⟨d, z1, _, _, z4⟩ := z; ⟨d, z1, z4⟩
 have hlen := hR.len
 have hpl := hm.pl
 cases hv : valS m q with
 | false =>
  rw [hv] at GC
  refine (rrem_no q.1 q.2 GC).mono fun r w' z => ?_
  unfold RmO
  rw [rem_no hv, hv]
  exact ⟨L, ap, cp, af, cf, z.1, hR.below z.2, fun k hk => .inl hk, z.2⟩
 | true =>
  rw [hv] at GC
  obtain ⟨i, hi, hil, hf, -⟩ := val_iff hv
  have hil2 : i < L.length := by omega
  have hat := hR.at hil2
  have q2 : L.length ≤ 512 := by omega
  have q5 : m.F.length ≤ 512 := by have := free_len hm; omega
  refine (rrem_yes (n := L.length) (nf := m.F.length) q.1 q.2 GC (L := L) (F := m.F.map (fun i : Nat => (i : Int))) hR.pl rfl q2 (i := i) (us := (m.P.getD i zPn).us) hi hil2 hR.fl (by simp) q5 (by rw [hat])).mono fun r w' z => ?_
  obtain ⟨a7, c7, af7, cf7, z1, z2, z3, z4⟩ := z
  unfold RmO
  rw [rem_yes hv hi, hv]
  have e5 : m.F.map (fun i : Nat => (i : Int)) ++ [(i : Int)] = (m.F ++ [i]).map (fun i : Nat => (i : Int)) := by simp
  rw [e5] at z3
  have hEN : ∀ j, j < (L.set i (⟨false, (m.P.getD i zPn).us, zEn⟩, zAd)).length → EnI w' ((L.set i (⟨false, (m.P.getD i zPn).us, zEn⟩, zAd)).getD j zPA).1.e ((L.set i (⟨false, (m.P.getD i zPn).us, zEn⟩, zAd)).getD j zPA).2 := set_cases (fun x => EnI w' x.1.e x.2) hil2 (EnI.z w') fun j hj => (hR.en j hj).below z4
  have z5 := own_nc z3
  obtain ⟨h5, h6⟩ := Rm.of (m := ⟨m.mo, m.P.set i ⟨false, (m.P.getD i zPn).us, zEn⟩, m.F ++ [i]⟩) (by rw [List.map_set, hR.pn]) z2 z5.1 (by show (m.F ++ [i]).length ≤ cf7; have := z5.2; rw [List.length_append, List.length_singleton]; exact this) hEN
  refine ⟨_, a7, c7, af7, cf7, ?_, h5, ?_, z4⟩
  ·rw [z1]
   show Ending.returned (.tuple #[.agg (rsA m.mo a7 L.length c7 af7 (m.F.length + 1) cf7), _]) = .returned (.tuple #[.agg (rsA m.mo a7 (L.set i _).length c7 af7 (m.F ++ [i]).length cf7), _])
   rw [List.length_set, List.length_append, List.length_singleton]
  ·rintro k (h1 | h1 | ⟨j, hj, h1⟩)
   ·exact .inr (own_rb' z2 h1)
   ·exact .inr (own_rb' z3 h1)
   ·exact set_cases (z := zPA) (fun x => ∀ k, EB x.1.e x.2 k → RmB m L ap af k ∨ w.heap.size ≤ k) hil2 (fun k q => (EB.z q).elim) (fun j hj k q => .inl (.inr (.inr ⟨j, hj, q⟩))) j hj k h1
end Go.Proofs.Ytmpajgaanghpoaa
