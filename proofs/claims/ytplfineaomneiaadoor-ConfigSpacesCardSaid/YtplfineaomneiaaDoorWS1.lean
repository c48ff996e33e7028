/-
 ConfigSpaces as plain data: what a walk over its lines in any order keeps.
-/
import Derived.Test.YtplfineaomneiaaDoorWS0
namespace Go.Proofs.YtplfineaomneiaaDoor
open Go.RowKit
set_option maxRecDepth 100000
set_option linter.unusedSimpArgs false
set_option linter.unusedVariables false

/-- A line of a configuration, or the empty one. -/
def lineO (C : List Int) : Option Nat → List Int
 | some i => lineL C i
 | none => []
def allO : List (Option Nat) := (List.range 12).map some ++ [none]
theorem line_no10 {C : List Int} (h : valL C = 0) (h9 : 0 ≤ C.getD 9 0 ∧ C.getD 9 0 ≤ 18446744073709551615) {i : Nat} (hi : i < 12) : ∀ x ∈ lineL C i, x ≠ 10 := by
 have hr := inR_rng hi (valL_inR h h9 hi)
 have hk := keys_tok _ (keys_mem i hi)
 have hd := plain_dec (C.getD i 0) hr.1
 intro x hx
 unfold lineL at hx
 rcases List.mem_append.1 hx with hx | hx
 ·have := hk.2 x hx; omega
 ·rcases List.mem_cons.1 hx with rfl | hx
  ·omega
  ·have := hd.1 x hx; omega
theorem split_all {C : List Int} (h : valL C = 0) (h9 : 0 ≤ C.getD 9 0 ∧ C.getD 9 0 ≤ 18446744073709551615) : splitL [] (fmtL C) = allO.map (lineO C) := by
 unfold fmtL
 rw [split_join _ (fun l hl x hx => by
  rw [List.mem_map] at hl
  obtain ⟨i, hi, rfl⟩ := hl
  exact line_no10 h h9 (List.mem_range.1 hi) x hx)]
 unfold allO
 rw [List.map_append, List.map_map]
 rfl
/-- The comments behind a line. -/
def cmtT (k : Nat) : List (List Int) := [[], [[35], [32], [120]], [[32], [35], [195, 169], [35]]].getD k []
theorem cmt_ends {ps : List (List Int)} (hp : ∀ r ∈ ps, spL r = true) : ∀ k, k < 3 → Ends (ps ++ cmtT k) := fun k hk => by
 match k, hk with
 | 0, _ => exact ⟨ps, [], rfl, hp, .inl rfl⟩
 | 1, _ => exact ⟨ps, [[35], [32], [120]], rfl, hp, .inr ⟨_, rfl⟩⟩
 | 2, _ =>
  refine ⟨ps ++ [[32]], [[35], [195, 169], [35]], ?_, fun r hr => ?_, .inr ⟨_, rfl⟩⟩
  ·rw [List.append_assoc]; rfl
  ·rcases List.mem_append.1 hr with hr | hr
   ·exact hp r hr
   ·rw [List.mem_singleton] at hr; rw [hr]; rfl
theorem cmt_tok : ∀ k, k < 3 → (∀ r ∈ cmtT k, Tok r ∧ r ≠ [10]) ∧ (cmtT k).flatten.length ≤ 6 ∧ ∀ x ∈ (cmtT k).flatten, x ≠ 10 := fun k hk => by
 match k, hk with
 | 0, _ => exact ⟨fun r hr => (by cases hr), by decide, by decide⟩
 | 1, _ =>
  refine ⟨fun r hr => ?_, by decide, by decide⟩
  simp only [cmtT, List.getD_eq_getElem?_getD, List.getElem?_cons_succ, List.getElem?_cons_zero, Option.getD_some, List.mem_cons, List.not_mem_nil, or_false] at hr
  rcases hr with rfl | rfl | rfl
  ·exact ⟨tok1 (by decide), by decide⟩
  ·exact ⟨tok1 (by decide), by decide⟩
  ·exact ⟨tok1 (by decide), by decide⟩
 | 2, _ =>
  refine ⟨fun r hr => ?_, by decide, by decide⟩
  simp only [cmtT, List.getD_eq_getElem?_getD, List.getElem?_cons_succ, List.getElem?_cons_zero, Option.getD_some, List.mem_cons, List.not_mem_nil, or_false] at hr
  rcases hr with rfl | rfl | rfl | rfl
  ·exact ⟨tok1 (by decide), by decide⟩
  ·exact ⟨tok1 (by decide), by decide⟩
  ·exact ⟨tok2 (by decide) (by decide), by decide⟩
  ·exact ⟨tok1 (by decide), by decide⟩
theorem sp_no10 {r : List Int} (h : spL r = true) : r ≠ [10] ∧ ∀ x ∈ r, x ≠ 10 := by
 unfold spL at h
 rw [Bool.or_eq_true, Bool.or_eq_true, Bool.or_eq_true, Bool.or_eq_true, decide_eq_true_eq, decide_eq_true_eq, decide_eq_true_eq, decide_eq_true_eq, decide_eq_true_eq] at h
 rcases h with (((rfl | rfl) | rfl) | rfl) | rfl <;> exact ⟨by decide, by decide⟩
theorem sps_no10 {ps : List (List Int)} (h : ∀ r ∈ ps, spL r = true) : ∀ x ∈ ps.flatten, x ≠ 10 := fun x hx => by
 rw [List.mem_flatten] at hx
 obtain ⟨r, hr, hx⟩ := hx
 exact (sp_no10 (h r hr)).2 x hx
/-- The lines laid so far, and those that are left. -/
def SpI (C : List Int) (m : Nat) (T : List Int) (rem : List (Option Nat)) : Prop := ∃ ls q, T = joinL ls ∧ Lns ls q ∧ (∀ p ∈ q, p.2 = C.getD p.1 0) ∧ (q.map (·.1) ++ rem.filterMap id).Perm (List.range 12) ∧ ls.length ≤ m
theorem SpI.start (C : List Int) : SpI C 0 [] allO := ⟨[], [], rfl, .nil, fun p hp => (by cases hp), by decide, Nat.le_refl _⟩
theorem join_app (a : List (List Int)) (l : List Int) : joinL (a ++ [l]) = joinL a ++ (l ++ [10]) := join_step a l
section
variable {C T : List Int} {m : Nat} {rem : List (Option Nat)} {ps ps2 : List (List Int)}
theorem blank_ok (hp : ∀ r ∈ ps, spL r = true) {ts : List (List Int)} (ht : Ends ts) (htt : ∀ r ∈ ts, Tok r ∧ r ≠ [10]) (hl : ps.flatten.length + ts.flatten.length ≤ 60) (h10 : ∀ x ∈ ts.flatten, x ≠ 10) : LnOk (ps.flatten ++ ts.flatten) ∧ wrd (ps.flatten ++ ts.flatten) 0 [] = [] := by
 have hall : ∀ r ∈ ps ++ ts, Tok r := fun r hr => by
  rcases List.mem_append.1 hr with hr | hr
  ·exact sp_tok (hp r hr)
  ·exact (htt r hr).1
 have e : ps.flatten ++ ts.flatten = (ps ++ ts).flatten := List.flatten_append.symm
 refine ⟨⟨⟨ps ++ ts, e, hall⟩, fun x hx => ?_, by rw [List.length_append]; omega⟩, ?_⟩
 ·rcases List.mem_append.1 hx with hx | hx
  ·exact sps_no10 hp x hx
  ·exact h10 x hx
 ·rw [e]
  have h1 := wrd_toks (ps ++ ts) hall [] []
  rw [List.nil_append] at h1
  exact h1.trans ((wrdT_sp ps hp ts).trans (wrdT_none ht))
theorem SpI.mono (h : SpI C m T rem) {m2 : Nat} (hm : m ≤ m2) : SpI C m2 T rem := by
 obtain ⟨ls, q, h1, h2, h3, h4, h5⟩ := h
 exact ⟨ls, q, h1, h2, h3, h4, Nat.le_trans h5 hm⟩
theorem SpI.blank (h : SpI C m T rem) (hp : ∀ r ∈ ps, spL r = true) (hl : ps.flatten.length ≤ 4) : SpI C (m + 1) (T ++ (ps.flatten ++ [10])) rem := by
 obtain ⟨ls, q, h1, h2, h3, h4, h5⟩ := h
 have hb := blank_ok hp (ts := []) ⟨[], [], rfl, fun r hr => (by cases hr), .inl rfl⟩ (fun r hr => (by cases hr)) (by simp only [List.flatten_nil, List.length_nil]; omega) (fun x hx => (by cases hx))
 rw [List.flatten_nil, List.append_nil] at hb
 refine ⟨ls ++ [ps.flatten], q, by rw [join_app, h1], ?_, h3, h4, by rw [List.length_append]; show _ + 1 ≤ _; omega⟩
 have := h2.app (.skip hb.1 hb.2 .nil)
 rwa [List.append_nil] at this
theorem filter_cut (j : Nat) (x : Option Nat) (hj : rem[j]? = some x) : (rem.filterMap id).Perm ((match x with | some i => [i] | none => []) ++ (rem.take j ++ rem.drop (j + 1)).filterMap id) := by
 have hlt := (List.getElem?_eq_some_iff.1 hj).1
 have e : rem = rem.take j ++ x :: rem.drop (j + 1) := by
  have h1 : rem.drop j = x :: rem.drop (j + 1) := by
   rw [List.drop_eq_getElem_cons hlt, (List.getElem?_eq_some_iff.1 hj).2]
  rw [← h1, List.take_append_drop]
 rw [show rem.filterMap id = (rem.take j ++ x :: rem.drop (j + 1)).filterMap id from congrArg (List.filterMap id) e, List.filterMap_append, List.filterMap_append]
 cases x with
 | none => exact List.Perm.refl _
 | some i =>
  rw [List.filterMap_cons_some (show id (some i) = some i from rfl)]
  exact List.perm_middle
theorem SpI.put (h : SpI C m T rem) (hv : valL C = 0) (h9 : 0 ≤ C.getD 9 0 ∧ C.getD 9 0 ≤ 18446744073709551615) {j : Nat} {x : Option Nat} (hj : rem[j]? = some x) (hp : ∀ r ∈ ps, spL r = true) (hl : ps.flatten.length ≤ 4) (hp2 : ∀ r ∈ ps2, spL r = true) (hl2 : ps2.flatten.length ≤ 4) {k : Nat} (hk : k < 3) :
  SpI C (m + 1) (T ++ ((ps.flatten ++ lineO C x ++ (ps2 ++ cmtT k).flatten) ++ [10])) (rem.take j ++ rem.drop (j + 1)) := by
 obtain ⟨ls, q, h1, h2, h3, h4, h5⟩ := h
 obtain ⟨c1, c2, c3⟩ := cmt_tok k hk
 have htt : ∀ r ∈ ps2 ++ cmtT k, Tok r ∧ r ≠ [10] := fun r hr => by
  rcases List.mem_append.1 hr with hr | hr
  ·exact ⟨sp_tok (hp2 r hr), (sp_no10 (hp2 r hr)).1⟩
  ·exact c1 r hr
 have hfl : (ps2 ++ cmtT k).flatten = ps2.flatten ++ (cmtT k).flatten := List.flatten_append
 have h10 : ∀ y ∈ (ps2 ++ cmtT k).flatten, y ≠ 10 := fun y hy => by
  rw [hfl] at hy
  rcases List.mem_append.1 hy with hy | hy
  ·exact sps_no10 hp2 y hy
  ·exact c3 y hy
 have hsz : ps.flatten.length + (ps2 ++ cmtT k).flatten.length ≤ 60 := by rw [hfl, List.length_append]; omega
 have hperm := filter_cut j x hj
 have hnew : ∃ ls2 q2, T ++ ((ps.flatten ++ lineO C x ++ (ps2 ++ cmtT k).flatten) ++ [10]) = joinL ls2 ∧ Lns ls2 q2 ∧ (∀ p ∈ q2, p.2 = C.getD p.1 0) ∧ (q2.map (·.1) ++ (rem.take j ++ rem.drop (j + 1)).filterMap id).Perm (List.range 12) ∧ ls2.length = ls.length + 1 := by
  cases x with
  | none =>
   have hb := blank_ok hp (cmt_ends hp2 k hk) htt hsz h10
   have e : ps.flatten ++ lineO C none ++ (ps2 ++ cmtT k).flatten = ps.flatten ++ (ps2 ++ cmtT k).flatten := by rw [show lineO C none = [] from rfl, List.append_nil]
   rw [e]
   refine ⟨ls ++ [ps.flatten ++ (ps2 ++ cmtT k).flatten], q, by rw [join_app, h1], ?_, h3, ?_, by rw [List.length_append]; rfl⟩
   ·have := h2.app (.skip hb.1 hb.2 .nil)
    rwa [List.append_nil] at this
   ·exact (List.Perm.append_left _ hperm.symm).trans h4
  | some i =>
   have hi : i < 12 := by
    have hm : i ∈ q.map (·.1) ++ rem.filterMap id := List.mem_append_right _ (List.mem_filterMap.2 ⟨some i, List.mem_of_getElem? hj, rfl⟩)
    exact List.mem_range.1 (h4.mem_iff.1 hm)
   have hr := valL_inR hv h9 hi
   have hb := line_ok (n := C.getD i 0) hi hr hp (cmt_ends hp2 k hk) htt hsz (fun y hy => by
    rcases List.mem_append.1 hy with hy | hy
    ·exact sps_no10 hp y hy
    ·exact h10 y hy)
   have hset := h2.app (Lns.set hb.1 hb.2 hi hr .nil)
   refine ⟨ls ++ [ps.flatten ++ lineO C (some i) ++ (ps2 ++ cmtT k).flatten], q ++ [(i, C.getD i 0)], by rw [join_app, h1], hset, fun p hpp => ?_, ?_, by rw [List.length_append]; rfl⟩
   ·rcases List.mem_append.1 hpp with hpp | hpp
    ·exact h3 p hpp
    ·rw [List.mem_singleton] at hpp; rw [hpp]
   ·rw [List.map_append, List.append_assoc]
    exact (List.Perm.append_left _ hperm.symm).trans h4
 obtain ⟨ls2, q2, e1, e2, e3, e4, e5⟩ := hnew
 exact ⟨ls2, q2, e1, e2, e3, e4, by omega⟩
theorem SpI.fin (h : SpI C m T []) (hm : m ≤ 40) (hC : C.length = 12) (hv : C.getD 10 0 < C.getD 11 0) : parX T = (C, 0, 0) := by
 obtain ⟨ls, q, h1, h2, h3, h4, h5⟩ := h
 rw [List.filterMap_nil, List.append_nil] at h4
 rw [h1]
 exact parX_lns h2 (by omega) hC hv (h4.nodup_iff.2 List.nodup_range) h3 fun j hj => h4.mem_iff.2 (List.mem_range.2 hj)
end
end Go.Proofs.YtplfineaomneiaaDoor
