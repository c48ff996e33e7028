/-
 The program's slots stand for a store of the model.
-/
import Derived.Test.YtmpajgaanghpoaaQM
namespace Go.Proofs.Ytmpajgaanghpoaa
open Go.RowKit
set_option maxRecDepth 100000
set_option linter.unusedSimpArgs false
set_option linter.unusedVariables false

/-- The free slots, the one that was freed last first. -/
def ChR (T : List Sn) : Int → List Nat → Prop
 | fr, [] => fr = -1
 | fr, i :: r => fr = i ∧ i < T.length ∧ ChR T (T.getD i zSn).nx r
theorem ChR.set {T : List Sn} {i : Nat} {y : Sn} : ∀ {r : List Nat} {fr : Int}, ChR T fr r → i ∉ r → ChR (T.set i y) fr r
 | [], _, h, _ => h
 | j :: r, _, h, hn => by
  have hij : i ≠ j := fun e => hn (by simp [e])
  refine ⟨h.1, by rw [List.length_set]; exact h.2.1, ?_⟩
  rw [getD_set_ne _ _ _ _ _ hij]
  exact ChR.set h.2.2 fun q => hn (by simp [q])
theorem ChR.app {T : List Sn} {x : Sn} : ∀ {r : List Nat} {fr : Int}, ChR T fr r → ChR (T ++ [x]) fr r
 | [], _, h => h
 | j :: r, _, h => by
  refine ⟨h.1, by rw [List.length_append]; exact Nat.lt_add_right _ h.2.1, ?_⟩
  rw [getD_app_lt _ _ _ _ h.2.1]
  exact ChR.app h.2.2
structure Lk (m : Sm) (T : List Sn) (fr : Int) : Prop where
 len : T.length = m.P.length
 full : ∀ i, i < T.length → (T.getD i zSn).full = (m.P.getD i zPn).full
 e : ∀ i, i < T.length → (T.getD i zSn).e = (m.P.getD i zPn).e
 us : ∀ i, i < T.length → (T.getD i zSn).us = if (m.P.getD i zPn).full = true then ((m.P.getD i zPn).us : Int) - 1 else (m.P.getD i zPn).us
 ch : ChR T fr m.F.reverse
theorem Lk.new (n : Int) : Lk (newS n) [] (-1) := ⟨rfl, fun i h => by simp at h, fun i h => by simp at h, fun i h => by simp at h, rfl⟩
/-- One slot is another one. -/
theorem Lk.upd {m : Sm} {T : List Sn} {fr fr2 : Int} (h : Lk m T fr) {i : Nat} (hi : i < T.length) {y : Sn} {p : Pn} {F : List Nat} (h1 : y.full = p.full) (h2 : y.e = p.e) (h3 : y.us = if p.full = true then (p.us : Int) - 1 else p.us) (hc : ChR (T.set i y) fr2 F.reverse) : Lk ⟨m.mo, m.P.set i p, F⟩ (T.set i y) fr2 := by
 have hl := h.len
 have key : ∀ (X : Sn → Pn → Prop), X y p → (∀ j, j < T.length → X (T.getD j zSn) (m.P.getD j zPn)) → ∀ j, j < (T.set i y).length → X ((T.set i y).getD j zSn) ((m.P.set i p).getD j zPn) := fun X x1 x2 j hj => by
  rw [List.length_set] at hj
  by_cases hij : i = j
  ·subst hij; rw [getD_set_eq _ _ _ _ hi, getD_set_eq _ _ _ _ (by omega)]; exact x1
  ·rw [getD_set_ne _ _ _ _ _ hij, getD_set_ne _ _ _ _ _ hij]; exact x2 j hj
 exact ⟨by rw [List.length_set, List.length_set]; exact hl, key (fun x q => x.full = q.full) h1 h.full, key (fun x q => x.e = q.e) h2 h.e, key (fun x q => x.us = if q.full = true then (q.us : Int) - 1 else q.us) h3 h.us, hc⟩
theorem Lk.app {m : Sm} {T : List Sn} {fr : Int} (h : Lk m T fr) : Lk ⟨m.mo, m.P ++ [zPn], m.F⟩ (T ++ [zSn]) fr := by
 have hl := h.len
 have key : ∀ (X : Sn → Pn → Prop), X zSn zPn → (∀ j, j < T.length → X (T.getD j zSn) (m.P.getD j zPn)) → ∀ j, j < (T ++ [zSn]).length → X ((T ++ [zSn]).getD j zSn) ((m.P ++ [zPn]).getD j zPn) := fun X x1 x2 j hj => by
  rw [List.length_append, List.length_singleton] at hj
  by_cases hij : j < T.length
  ·rw [getD_app_lt _ _ _ _ hij, getD_app_lt _ _ _ _ (by omega)]; exact x2 j hij
  ·obtain rfl : j = T.length := by omega
   rw [getD_app_last, hl, getD_app_last]
   exact x1
 exact ⟨by simp [hl], key (fun x q => x.full = q.full) rfl h.full, key (fun x q => x.e = q.e) rfl h.e, key (fun x q => x.us = if q.full = true then (q.us : Int) - 1 else q.us) rfl h.us, h.ch.app⟩
/-- What 'take' hands over: slot i of T1, and how it becomes the store with one more entry. -/
structure TkO (m : Sm) (e : En) (T1 : List Sn) (fr1 : Int) (i : Nat) : Prop where
 il : i < T1.length
 nf : (T1.getD i zSn).full = false
 hd : addH m = ((i : Int), (T1.getD i zSn).us)
 lk : ∀ d, Lk (addS m e) (T1.set i ⟨e, d, true, (T1.getD i zSn).us, (T1.getD i zSn).nx⟩) fr1
theorem Lk.take_free {m : Sm} {T : List Sn} {fr : Int} {u : Nat} (h : Lk m T fr) (hm : Wm m u) (hc : cntL m.P < m.mo) {F : List Nat} {i : Nat} (hF : m.F = F ++ [i]) (e : En) : fr = i ∧ TkO m e T (T.getD i zSn).nx i := by
 obtain ⟨h1, h2, -⟩ := add_free e hc hF
 have hch := h.ch
 rw [hF, List.reverse_append] at hch
 obtain ⟨e1, e2, e3⟩ := hch
 have hi := hm.fr i (by rw [hF]; simp)
 have hnd := hm.nd
 rw [hF, List.nodup_append] at hnd
 have hni : i ∉ F := fun h1 => hnd.2.2 i h1 i (by simp) rfl
 have hu := h.us i e2
 rw [hi.2, if_neg (by decide)] at hu
 refine ⟨e1, e2, by rw [h.full i e2]; exact hi.2, by rw [h2, hu], fun d => ?_⟩
 rw [h1]
 exact h.upd e2 (p := ⟨true, (m.P.getD i zPn).us + 1, e⟩) rfl rfl (by rw [if_pos rfl]; show (T.getD i zSn).us = _; rw [hu]; show ((m.P.getD i zPn).us : Int) = (((m.P.getD i zPn).us + 1 : Nat) : Int) - 1; omega) (e3.set (by simpa using hni))
theorem Lk.take_new {m : Sm} {T : List Sn} {fr : Int} (h : Lk m T fr) (hc : cntL m.P < m.mo) (hF : m.F = []) (e : En) : fr = -1 ∧ TkO m e (T ++ [zSn]) fr T.length := by
 obtain ⟨h1, h2, -⟩ := add_new e hc hF
 have hch := h.ch
 rw [hF] at hch
 have hl : T.length < (T ++ [zSn]).length := by simp
 have hz : (T ++ [zSn]).getD T.length zSn = zSn := getD_app_last _ _ _
 refine ⟨hch, hl, by rw [hz]; rfl, by rw [h2, hz, h.len]; rfl, fun d => ?_⟩
 rw [h1, hz]
 have h3 := h.app
 have h4 := h3.upd hl (y := ⟨e, d, true, 0, 0⟩) (p := ⟨true, 1, e⟩) (F := []) (fr2 := fr) rfl rfl rfl hch
 have e5 : (m.P ++ [zPn]).set T.length ⟨true, 1, e⟩ = m.P ++ [⟨true, 1, e⟩] := by rw [h.len]; simp
 rw [e5] at h4
 exact h4
theorem Lk.rem {m : Sm} {T : List Sn} {fr : Int} {u : Nat} (h : Lk m T fr) (hm : Wm m u) {q : Int × Int} (hv : valS m q = true) {i : Nat} (hi : q.1 = i) : Lk (remS m q) (T.set i ⟨zEn, zAd, false, (T.getD i zSn).us + 1, fr⟩) i := by
 obtain ⟨i2, hi2, hil, hf, hu⟩ := val_iff hv
 obtain rfl : i2 = i := by omega
 rw [rem_yes hv hi]
 have hl := h.len
 have hil2 : i2 < T.length := by omega
 have hus := h.us i2 hil2
 rw [hf, if_pos rfl] at hus
 have hni : i2 ∉ m.F := fun h1 => by have := (hm.fr i2 h1).2; rw [hf] at this; cases this
 refine h.upd hil2 (p := ⟨false, (m.P.getD i2 zPn).us, zEn⟩) rfl rfl ?_ ?_
 ·rw [if_neg Bool.false_ne_true]
  show (T.getD i2 zSn).us + 1 = ((m.P.getD i2 zPn).us : Int)
  rw [hus]; omega
 ·rw [List.reverse_append]
  refine ⟨rfl, by rw [List.length_set]; exact hil2, ?_⟩
  rw [getD_set_eq _ _ _ _ hil2]
  exact h.ch.set (by simpa using hni)
theorem val_neg {m : Sm} {h : Int × Int} (h0 : h.1 < 0) : valS m h = false := by
 unfold valS
 rw [decide_eq_false (by omega)]
 rfl
theorem val_big {m : Sm} {h : Int × Int} (h0 : (m.P.length : Int) ≤ h.1) : valS m h = false := by
 unfold valS
 rw [decide_eq_false (p := h.1 < (m.P.length : Int)) (by omega)]
 simp
theorem val_in {m : Sm} {h : Int × Int} {i : Nat} (hi : h.1 = i) (hl : i < m.P.length) : valS m h = ((m.P.getD i zPn).full && decide (((m.P.getD i zPn).us : Int) - 1 = h.2)) := by
 unfold valS
 rw [hi, decide_eq_true (by omega), decide_eq_true (by omega)]
 rfl
/-- The store stands for m; it lies in the blocks S. -/
def RepS (w : World) (g : Nat) (S : Nat → Prop) (m : Sm) : Prop := ∃ a c T fr, Mp w g a c T m.mo fr (cntL m.P) (sizL m.P) ∧ Lk m T fr ∧ S = Sp g a T
def UpdS (g B : Nat) (S : Nat → Prop) (m : Sm) (w w' : World) : Prop := ∃ S', RepS w' g S' m ∧ (∀ k, S' k → S k ∨ w.heap.size ≤ k) ∧ ButS B S w w'
theorem rg_below {w w' : World} {b o : Nat} {cs : List Value} (h : w.rangeAt b o cs) (hb : Below w.heap.size w w') : w'.rangeAt b o cs := fun j v hv => by
 have := h j v hv
 exact (hb.cell (p := ⟨b, o + j, none⟩) (World.block_lt_of_cell? w _ this)).trans this
end Go.Proofs.Ytmpajgaanghpoaa
