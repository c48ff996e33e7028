/-
 The program's Parse as plain data: lines, valid text, what a line says.
-/
import Derived.Test.YtplfineaomneiaaGreatDoorXR
import Derived.Lib.TrimUEq
import Derived.Lib.SplitLaws
import Derived.Lib.ValidLaws
namespace Go.Proofs.YtplfineaomneiaaGreatDoor
open Go.RowKit
set_option maxRecDepth 100000
set_option linter.unusedSimpArgs false
set_option linter.unusedVariables false

theorem nums_drop (s : ByteArray) (i : Nat) : (nums s).drop i = (s.data.toList.drop i).map fun b => (b.toNat : Int) := by
 show (s.data.toList.map _).drop i = _
 rw [List.map_drop]
theorem split_map : ∀ (n : Nat) (l : List UInt8), l.length ≤ n → (Lib.splitK [10] 0 (Lib.count l [10]) l).map (fun r => r.map fun b => (b.toNat : Int)) = splitL [] (l.map fun b => (b.toNat : Int))
 | n, l, hn => by
  have hb : ∀ b : UInt8, ((b.toNat : Int) = 10) → b = 10 := fun b h => UInt8.toNat_inj.1 (by show b.toNat = 10; omega)
  by_cases h0 : 0 ≤ Lib.indexByte l 10
  ·obtain ⟨o, ho⟩ : ∃ o : Nat, Lib.indexByte l 10 = o := ⟨(Lib.indexByte l 10).toNat, by omega⟩
   obtain ⟨h1, h2⟩ := Lib.indexByte_some ho
   have hlt : o < l.length := (List.getElem?_eq_some_iff.1 h1).1
   have hix : Lib.index l [10] = (o : Int) := by rw [Lib.index_one]; exact ho
   have hc := Lib.count_hit (s := l) (sub := [10]) (by simp) hix
   rw [hc, Nat.add_comm]
   have e : l = l.take o ++ 10 :: l.drop (o + 1) := by
    conv => lhs; rw [← List.take_append_drop o l, List.drop_eq_getElem_cons hlt]
    rw [List.getElem?_eq_getElem hlt] at h1
    rw [Option.some.inj h1]
   have hsk : ∀ K, Lib.splitK [10] 0 (K + 1) l = l.take o :: Lib.splitK [10] 0 K (l.drop (o + 1)) := fun K => by
    rw [show Lib.splitK [10] 0 (K + 1) l = (if Lib.index l [10] == -1 then [l] else l.take ((Lib.index l [10]).toNat + 0) :: Lib.splitK [10] 0 K (l.drop ((Lib.index l [10]).toNat + [10].length))) from rfl, hix, if_neg (by simp)]
    rfl
   show (Lib.splitK [10] 0 (Lib.count (l.drop (o + 1)) [10] + 1) l).map _ = _
   rw [hsk, List.map_cons]
   cases n with
   | zero => omega
   | succ n =>
    rw [split_map n (l.drop (o + 1)) (by rw [List.length_drop]; omega)]
    conv => rhs; rw [e]
    rw [List.map_append, List.map_cons]
    show _ = splitL [] (_ ++ (10 : Int) :: _)
    rw [split_line _ _ [] (fun x hx => by
     obtain ⟨b, hb1, rfl⟩ := List.mem_map.1 hx
     intro e2
     have e3 := hb b e2
     subst e3
     obtain ⟨k, hk, hk2⟩ := List.getElem_of_mem hb1
     rw [List.length_take] at hk
     refine h2 k (by omega) ?_
     rw [List.getElem?_eq_getElem (by omega), ← hk2, List.getElem_take]), List.nil_append]
  ·have h1 : Lib.indexByte l 10 = -1 := by have := Lib.indexByte_ge l 10; omega
   have h2 := Lib.indexByte_none h1
   rw [Lib.count_miss (by rw [Lib.index_one]; exact h1)]
   show [l.map _] = _
   rw [split_last _ [] (fun x hx => by
    obtain ⟨b, hb1, rfl⟩ := List.mem_map.1 hx
    intro e2
    have e3 := hb b e2
    subst e3
    obtain ⟨k, hk, hk2⟩ := List.getElem_of_mem hb1
    exact h2 k (by rw [List.getElem?_eq_getElem hk, hk2])), List.nil_append]
theorem split_nums (s : ByteArray) : (Lib.splitB ⟨#[10]⟩ 0 (Lib.countB s ⟨#[10]⟩) s).map nums = splitL [] (nums s) := by
 have h := Lib.splitB_data ⟨#[10]⟩ 0 (Lib.countB s ⟨#[10]⟩) s
 have h2 := split_map s.data.toList.length s.data.toList (Nat.le_refl _)
 have e : (fun x : ByteArray => nums x) = (fun x : ByteArray => (fun r : List UInt8 => r.map fun b => (b.toNat : Int)) x.data.toList) := rfl
 show List.map (fun x => nums x) _ = _
 rw [e, show (fun x : ByteArray => (fun r : List UInt8 => r.map fun b => (b.toNat : Int)) x.data.toList) = (fun r : List UInt8 => r.map fun b => (b.toNat : Int)) ∘ (fun x : ByteArray => x.data.toList) from rfl, ← List.map_map, h]
 exact h2
theorem split_cnt (s : ByteArray) : (Lib.splitB ⟨#[10]⟩ 0 (Lib.countB s ⟨#[10]⟩) s).length = Lib.countB s ⟨#[10]⟩ + 1 := Lib.splitB_all ⟨#[10]⟩ (by decide) 0 _ s rfl
theorem parL_ln (l : List Int) (r : List (List Int)) (i : Nat) (c : List Int) (S : List (List Int)) : parL (l :: r) i c S = if (lnX c S l).2.2 = 0 then parL r (i + 1) (lnX c S l).1 (lnX c S l).2.1 else (zeroL, i + 1, (lnX c S l).2.2) := by
 unfold lnX
 rw [parL]
 obtain ⟨W, hW⟩ : ∃ W, wrd l 0 [] = W := ⟨_, rfl⟩
 rw [hW]
 match W with
 | [] => rw [if_pos rfl]
 | [x] => rw [if_neg (show ¬ (2 : Int) = 0 by decide)]
 | [k, v] =>
  simp only
  cases hk : idxL k keysL 0 with
  | none => rw [if_neg (show ¬ (10 : Int) = 0 by decide)]
  | some j =>
   simp only
   by_cases h1 : S.contains k = true
   ·simp only [if_pos h1]
    rw [if_neg (show ¬ (8 : Int) = 0 by decide)]
   ·simp only [if_neg h1]
    by_cases h2 : (setX c j v).2 = 0
    ·simp only [if_pos h2, if_true]
    ·simp only [if_neg h2]
 | x :: y :: z :: t => rw [if_neg (show ¬ (2 : Int) = 0 by decide)]
theorem parL_ok {l : List Int} {r : List (List Int)} {i : Nat} {c : List Int} {S : List (List Int)} (h : (lnX c S l).2.2 = 0) : parL (l :: r) i c S = parL r (i + 1) (lnX c S l).1 (lnX c S l).2.1 := by rw [parL_ln, if_pos h]
theorem parL_bad {l : List Int} {r : List (List Int)} {i : Nat} {c : List Int} {S : List (List Int)} (h : (lnX c S l).2.2 ≠ 0) : parL (l :: r) i c S = (zeroL, i + 1, (lnX c S l).2.2) := by rw [parL_ln, if_neg h]
def RgC (c : List Int) : Prop := ∀ i, i < 12 → okP c i
theorem rg_dflt : RgC dfltL := by
 intro i hi
 unfold okP
 match i, hi with
 | 0, _ => exact .inr (by decide)
 | 1, _ => exact .inr (by decide)
 | 2, _ => exact .inr (by decide)
 | 3, _ => exact .inr (by decide)
 | 4, _ => exact .inr (by decide)
 | 5, _ => exact .inr (by decide)
 | 6, _ => exact .inr (by decide)
 | 7, _ => exact .inr (by decide)
 | 8, _ => exact .inr (by decide)
 | 9, _ => exact .inl rfl
 | 10, _ => exact .inr (by decide)
 | 11, _ => exact .inr (by decide)
theorem rg_set {c L : List Int} {j : Nat} (hc : CfOk c) (h : RgC c) (hj : j < 12) : RgC (setX c j L).1 := by
 rw [setX_prs]
 by_cases he : (prsX j L).2 = 0
 ·show RgC (if (prsX j L).2 = 0 then c.set j (prsX j L).1 else c)
  rw [if_pos he]
  have hr := prs_rng hj he
  intro i hi
  by_cases hij : j = i
  ·subst hij
   by_cases h9 : j = 9
   ·exact .inl h9
   ·refine .inr ?_
    rw [getD_set_eq _ _ _ _ (by rw [hc.1]; exact hj)]
    unfold inR at hr
    rw [Bool.and_eq_true, decide_eq_true_eq, decide_eq_true_eq, if_neg h9] at hr
    exact hr
  ·have := h i hi
   unfold okP at this ⊢
   rw [getD_set_ne _ _ _ _ _ hij]
   exact this
 ·show RgC (if (prsX j L).2 = 0 then c.set j (prsX j L).1 else c)
  rw [if_neg he]
  exact h
theorem ln_ok {c l : List Int} {S : List (List Int)} (hc : CfOk c) (h : RgC c) : CfOk (lnX c S l).1 ∧ RgC (lnX c S l).1 := by
 unfold lnX
 split
 ·exact ⟨hc, h⟩
 ·rename_i k v e
  split
  ·exact ⟨hc, h⟩
  ·rename_i j hk
   have hj : j < 12 := by have := idxL_rng keysL 0 j hk; exact this.2
   split
   ·exact ⟨hc, h⟩
   ·split
    ·exact ⟨setX_ok hc hj, rg_set hc h hj⟩
    ·exact ⟨hc, h⟩
 ·exact ⟨hc, h⟩
theorem val_rg {c : List Int} (h : RgC c) : valL c = if c.getD 11 0 ≤ c.getD 10 0 then 1 else 0 := by
 rw [val_fin h]
 by_cases h1 : c.getD 11 0 ≤ c.getD 10 0
 ·rw [if_pos h1, if_neg (by omega)]
 ·rw [if_neg h1, if_pos (by omega)]
theorem dec_bad (s : ByteArray) {i : Nat} (hi : i < s.size) : ((Utf8.decode s i).1 = 65533 ∧ (Utf8.decode s i).2 = 1) ↔ runK (nums s) i = 0 := by
 obtain ⟨h1, h2⟩ := dec_run s i
 constructor
 ·rintro ⟨e1, e2⟩
  by_cases hk : runK (nums s) i = 0
  ·exact hk
  ·rw [if_neg hk] at h1 h2
   exfalso
   rw [e2] at h1
   rw [e1] at h2
   unfold runV at h2
   rw [← h1] at h2
   have hb : (nums s).getD i 0 < 128 := by
    have hk1 : runK (nums s) i = 1 := h1.symm
    unfold runK runN at hk1
    by_cases a : (nums s).getD i 0 < 128
    ·exact a
    ·rw [if_neg a] at hk1
     repeat' split at hk1
     all_goals omega
   have : valN 1 ((nums s).getD i 0) ((nums s).getD (i + 1) 0) ((nums s).getD (i + 2) 0) ((nums s).getD (i + 3) 0) = (nums s).getD i 0 := rfl
   omega
 ·intro hk
  rw [if_pos hk] at h1 h2
  exact ⟨by omega, h1⟩
theorem valid_runs (s : ByteArray) : ∀ (n i : Nat), s.size - i ≤ n → i ≤ s.size → (Lib.validD (s.data.toList.drop i) = true ↔ runs (nums s) i ≠ none)
 | n, i, hn, hi => by
  by_cases h : i < s.size
  ·have hne : s.data.toList.drop i ≠ [] := fun e => by
    have := congrArg List.length e
    rw [List.length_drop, List.length_nil] at this
    have h2 : s.data.toList.length = s.size := rfl
    omega
   have hd : Lib.decodeL (s.data.toList.drop i) = Utf8.decode s i := Lib.decodeL_drop s i
   obtain ⟨h1, -⟩ := dec_run s i
   have hb := dec_bad s h
   rw [Lib.validD_step _ hne, hd]
   have hl : i < (nums s).length := by rw [nums_len]; exact h
   by_cases hk : runK (nums s) i = 0
   ·rw [if_pos (hb.2 hk)]
    refine ⟨fun q => (by cases q), fun q => absurd ?_ q⟩
    exact runs_bad hl hk
   ·rw [if_neg (fun q => hk (hb.1 q)), h1, if_neg hk, List.drop_drop]
    have hkl := run_len hl
    rw [nums_len] at hkl
    cases n with
    | zero => omega
    | succ n =>
     rw [valid_runs s n (i + runK (nums s) i) (by omega) hkl, runs_step hl hk]
     constructor
     ·intro q e
      rw [Option.map_eq_none_iff] at e
      exact q e
     ·intro q e
      exact q (by rw [e]; rfl)
  ·have e : s.data.toList.drop i = [] := List.drop_eq_nil_of_le (by have h2 : s.data.toList.length = s.size := rfl; omega)
   rw [e, runs_end (by rw [nums_len]; exact h)]
   exact ⟨fun _ q => (by cases q), fun _ => rfl⟩
theorem valid_is (s : ByteArray) : Lib.validD s.data.toList = true ↔ runs (nums s) 0 ≠ none := valid_runs s s.size 0 (by omega) (by omega)
end Go.Proofs.YtplfineaomneiaaGreatDoor
