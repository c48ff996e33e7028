/-
  The program's list as plain data. (Out of stage 7.)
-/
import Derived.Test.YtjblfpifhbmfoaaLX
namespace Go.Proofs.Ytjblfpifhbmfoaa
open Go.RowKit
set_option linter.unusedSimpArgs false
set_option linter.unusedVariables false

set_option linter.unusedSimpArgs false
set_option linter.unusedVariables false
structure El where
  v : Int
  p : Int
  n : Int
  b : Bool
def El.zero : El := ⟨0, 0, 0, false⟩
structure PS where
  T : List El
  fi : Int
  la : Int
  fr : Int
  ln : Nat
def at_ (T : List El) (s : Int) : El := T.getD s.toNat El.zero
def putE (T : List El) (s : Int) (x : El) : List El := T.set s.toNat x
def setN (q : PS) (a b : Int) : PS := if a = -1 then { q with fi := b } else { q with T := putE q.T a { at_ q.T a with n := b } }
def setP (q : PS) (a b : Int) : PS := if b = -1 then { q with la := a } else { q with T := putE q.T b { at_ q.T b with p := a } }
def joinP (q : PS) (a b : Int) : PS := setP (setN q a b) a b
def plusP (q : PS) : PS := { q with ln := q.ln + 1 }
def lessP (q : PS) : PS := { q with ln := q.ln - 1 }
def linkP (q : PS) (p s n : Int) : PS := plusP (joinP (joinP q p s) s n)
def hasP (q : PS) (s : Int) : Bool := decide (0 ≤ s) && (decide (s < q.T.length) && (at_ q.T s).b)
def prevP (q : PS) (s : Int) : Int := if hasP q s then (at_ q.T s).p else -1
def nextP (q : PS) (s : Int) : Int := if hasP q s then (at_ q.T s).n else -1
def firstP (q : PS) : Int := if q.ln = 0 then -1 else q.fi
def lastP (q : PS) : Int := if q.ln = 0 then -1 else q.la
def unlinkP (q : PS) (s : Int) : PS := lessP (joinP q (prevP q s) (nextP q s))
def takeP (q : PS) (v : Int) : PS × Int := if q.ln = q.T.length then ({ q with T := q.T ++ [⟨v, 0, 0, true⟩] }, (q.T.length : Int)) else ({ q with fr := (at_ q.T q.fr).n, T := putE q.T q.fr ⟨v, 0, 0, true⟩ }, q.fr)
def pushBP (q : PS) (v : Int) : PS × Int := (linkP (takeP q v).1 (lastP (takeP q v).1) (takeP q v).2 (-1), (takeP q v).2)
def pushFP (q : PS) (v : Int) : PS × Int := (linkP (takeP q v).1 (-1) (takeP q v).2 (firstP (takeP q v).1), (takeP q v).2)
def freeP (q : PS) (s : Int) : PS := { q with T := putE q.T s ⟨0, 0, q.fr, false⟩, fr := s }
def removeP (q : PS) (s : Int) : PS × Bool := if hasP q s then (freeP (unlinkP q s) s, true) else (q, false)
def moveP (q : PS) (s : Int) : PS × Bool := if hasP q s then (linkP (unlinkP q s) (lastP (unlinkP q s)) s (-1), true) else (q, false)
theorem putE_len (T : List El) (s : Int) (x : El) : (putE T s x).length = T.length := by simp [putE]
theorem at_same (T : List El) (s : Int) (x : El) (h0 : 0 ≤ s) (h : s < T.length) : at_ (putE T s x) s = x := by
  have : s.toNat < T.length := by omega
  simp [at_, putE, List.getD, this]
theorem at_other (T : List El) (s k : Int) (x : El) (h0 : 0 ≤ s) (h1 : 0 ≤ k) (h : k ≠ s) : at_ (putE T s x) k = at_ T k := by
  have : s.toNat ≠ k.toNat := by omega
  simp [at_, putE, List.getD, List.getElem?_set_ne this]
/-- The first slot, the last one; of an empty list: n, p. -/
def hd : List (Int × Int) → Int → Int
  | [], n => n
  | x :: _, _ => x.1
def lst : List (Int × Int) → Int → Int
  | [], p => p
  | x :: r, _ => lst r x.1
/-- Elements that follow one another. -/
def Ch (T : List El) : Int → List (Int × Int) → Int → Prop
  | _, [], _ => True
  | p, x :: r, n => at_ T x.1 = ⟨x.2, p, hd r n, true⟩ ∧ Ch T x.1 r n
theorem hd_app (A B : List (Int × Int)) (n : Int) : hd (A ++ B) n = hd A (hd B n) := by cases A <;> rfl
theorem lst_app : ∀ (A B : List (Int × Int)) (p : Int), lst (A ++ B) p = lst B (lst A p)
  | [], _, _ => rfl
  | x :: r, B, p => lst_app r B x.1
theorem lst_ne (A : List (Int × Int)) (h : A ≠ []) (p p' : Int) : lst A p = lst A p' := by
  cases A with
  | nil => exact absurd rfl h
  | cons x r => rfl
theorem hd_ne (A : List (Int × Int)) (h : A ≠ []) (p p' : Int) : hd A p = hd A p' := by
  cases A with
  | nil => exact absurd rfl h
  | cons x r => rfl
theorem ch_app (T : List El) : ∀ (A B : List (Int × Int)) (p n : Int), Ch T p (A ++ B) n ↔ Ch T p A (hd B n) ∧ Ch T (lst A p) B n
  | [], B, p, n => by simp [Ch, lst]
  | x :: r, B, p, n => by
    have := ch_app T r B x.1 n
    simp only [List.cons_append, Ch, lst, hd_app, this, and_assoc]
theorem ch_frame {T T' : List El} : ∀ {E : List (Int × Int)} {p n : Int}, (∀ x ∈ E, at_ T' x.1 = at_ T x.1) → Ch T p E n → Ch T' p E n
  | [], _, _, _, h => h
  | x :: r, p, n, hf, h => ⟨(hf x List.mem_cons_self).trans h.1, ch_frame (fun y hy => hf y (List.mem_cons_of_mem _ hy)) h.2⟩
theorem lst_mem : ∀ (A : List (Int × Int)) (p : Int), A ≠ [] → ∃ A0 v, A = A0 ++ [(lst A p, v)]
  | [], _, h => absurd rfl h
  | [x], p, _ => ⟨[], x.2, rfl⟩
  | x :: y :: r, p, _ => by
    obtain ⟨A0, v, h⟩ := lst_mem (y :: r) x.1 (by simp)
    exact ⟨x :: A0, v, by show x :: y :: r = x :: A0 ++ [(lst (y :: r) x.1, v)]; rw [List.cons_append, ← h]⟩
theorem nodup_app {A B : List (Int × Int)} (h : ((A ++ B).map (·.1)).Nodup) : (∀ x ∈ A, ∀ y ∈ B, x.1 ≠ y.1) ∧ (A.map (·.1)).Nodup ∧ (B.map (·.1)).Nodup := by
  rw [List.map_append, List.nodup_append] at h
  exact ⟨fun x hx y hy => h.2.2 x.1 (List.mem_map_of_mem hx) y.1 (List.mem_map_of_mem hy), h.1, h.2.1⟩
/-- What a change of the neighbours keeps. -/
structure Sm (q q' : PS) (E : List (Int × Int)) : Prop where
  fr : q'.fr = q.fr
  ln : q'.ln = q.ln
  tl : q'.T.length = q.T.length
  ot : ∀ s : Int, 0 ≤ s → (∀ x ∈ E, x.1 ≠ s) → at_ q'.T s = at_ q.T s
theorem setN_spec (q : PS) (A : List (Int × Int)) (p0 n1 b : Int) (hA : Ch q.T p0 A n1) (hr : ∀ x ∈ A, 0 ≤ x.1 ∧ x.1 < q.T.length) (hn : (A.map (·.1)).Nodup) :
    Ch (setN q (lst A (-1)) b).T p0 A b ∧ (setN q (lst A (-1)) b).fi = (if A = [] then b else q.fi) ∧ (setN q (lst A (-1)) b).la = q.la ∧ Sm q (setN q (lst A (-1)) b) A := by
  by_cases h : A = []
  · subst h
    simp only [lst, setN, if_pos]
    exact ⟨trivial, trivial, trivial, rfl, rfl, rfl, fun _ _ _ => rfl⟩
  · obtain ⟨A0, v, e⟩ := lst_mem A (-1) h
    generalize hs : lst A (-1) = s at *
    have hin : ((s, v) : Int × Int) ∈ A := by rw [e]; simp
    obtain ⟨h0, h1⟩ := hr _ hin
    simp only at h0 h1
    have hne : ¬ s = -1 := by omega
    rw [if_neg h]
    unfold setN
    rw [if_neg hne]
    refine ⟨?_, rfl, rfl, rfl, rfl, putE_len _ _ _, fun k hk ho => at_other _ _ _ _ h0 hk fun hks => ho _ hin hks.symm⟩
    rw [e] at hA hn ⊢
    rw [ch_app] at hA ⊢
    refine ⟨ch_frame (fun x hx => ?_) hA.1, ?_⟩
    · have hx0 := hr x (by rw [e]; exact List.mem_append_left _ hx)
      exact at_other _ _ _ _ h0 hx0.1 ((nodup_app hn).1 x hx (s, v) (by simp))
    · have h2 := hA.2
      simp only [Ch, hd, and_true] at h2 ⊢
      rw [at_same _ _ _ h0 h1, h2]
theorem setP_spec (q : PS) (B : List (Int × Int)) (p1 n2 a : Int) (hB : Ch q.T p1 B n2) (hr : ∀ x ∈ B, 0 ≤ x.1 ∧ x.1 < q.T.length) (hn : (B.map (·.1)).Nodup) :
    Ch (setP q a (hd B (-1))).T a B n2 ∧ (setP q a (hd B (-1))).fi = q.fi ∧ (setP q a (hd B (-1))).la = (if B = [] then a else q.la) ∧ Sm q (setP q a (hd B (-1))) B := by
  cases B with
  | nil =>
    simp only [hd, setP, if_pos]
    exact ⟨trivial, trivial, trivial, rfl, rfl, rfl, fun _ _ _ => rfl⟩
  | cons x r =>
    obtain ⟨h0, h1⟩ := hr x List.mem_cons_self
    have hne : ¬ x.1 = -1 := by omega
    simp only [hd]
    unfold setP
    rw [if_neg hne]
    refine ⟨⟨?_, ch_frame (fun y hy => ?_) hB.2⟩, rfl, by simp, rfl, rfl, putE_len _ _ _, fun k hk ho => at_other _ _ _ _ h0 hk fun hks => ho x List.mem_cons_self hks.symm⟩
    · rw [at_same _ _ _ h0 h1, hB.1]
    · have hy0 := hr y (List.mem_cons_of_mem _ hy)
      refine at_other _ _ _ _ h0 hy0.1 fun e => ?_
      rw [List.map_cons, List.nodup_cons] at hn
      exact hn.1 (e ▸ List.mem_map_of_mem hy)
theorem join_spec (q : PS) (A B : List (Int × Int)) (p0 n1 p1 n2 : Int) (hA : Ch q.T p0 A n1) (hB : Ch q.T p1 B n2) (hr : ∀ x ∈ A ++ B, 0 ≤ x.1 ∧ x.1 < q.T.length) (hn : ((A ++ B).map (·.1)).Nodup) :
    Ch (joinP q (lst A (-1)) (hd B (-1))).T p0 A (hd B (-1)) ∧ Ch (joinP q (lst A (-1)) (hd B (-1))).T (lst A (-1)) B n2 ∧ (joinP q (lst A (-1)) (hd B (-1))).fi = (if A = [] then hd B (-1) else q.fi) ∧
      (joinP q (lst A (-1)) (hd B (-1))).la = (if B = [] then lst A (-1) else q.la) ∧ Sm q (joinP q (lst A (-1)) (hd B (-1))) (A ++ B) := by
  obtain ⟨hab, hna, hnb⟩ := nodup_app hn
  obtain ⟨h1, h2, h3, h4⟩ := setN_spec q A p0 n1 (hd B (-1)) hA (fun x hx => hr x (List.mem_append_left _ hx)) hna
  have hrB : ∀ x ∈ B, 0 ≤ x.1 ∧ x.1 < (setN q (lst A (-1)) (hd B (-1))).T.length := fun x hx => by rw [h4.tl]; exact hr x (List.mem_append_right _ hx)
  obtain ⟨k1, k2, k3, k4⟩ := setP_spec (setN q (lst A (-1)) (hd B (-1))) B p1 n2 (lst A (-1)) (ch_frame (fun x hx => h4.ot x.1 (hr x (List.mem_append_right _ hx)).1 fun y hy => hab y hy x hx) hB) hrB hnb
  refine ⟨ch_frame (fun x hx => k4.ot x.1 (hr x (List.mem_append_left _ hx)).1 fun y hy => fun e => hab x hx y hy e.symm) h1, k1, k2.trans h2, by rw [show joinP q (lst A (-1)) (hd B (-1)) = setP (setN q (lst A (-1)) (hd B (-1))) (lst A (-1)) (hd B (-1)) from rfl, k3, h3], k4.fr.trans h4.fr, k4.ln.trans h4.ln, k4.tl.trans h4.tl, fun s hs ho => ?_⟩
  exact (k4.ot s hs fun x hx => ho x (List.mem_append_right _ hx)).trans (h4.ot s hs fun x hx => ho x (List.mem_append_left _ hx))
/-- The freed slots, the last one first. -/
def Fs (T : List El) : Int → List Int → Prop
  | _, [] => True
  | f, s :: r => f = s ∧ (at_ T s).b = false ∧ Fs T (at_ T s).n r
theorem fs_frame {T T' : List El} : ∀ {F : List Int} {f : Int}, (∀ s ∈ F, at_ T' s = at_ T s) → Fs T f F → Fs T' f F
  | [], _, _, h => h
  | s :: r, f, hf, h => by
    have e := hf s List.mem_cons_self
    exact ⟨h.1, by rw [e]; exact h.2.1, by rw [e]; exact fs_frame (fun y hy => hf y (List.mem_cons_of_mem _ hy)) h.2.2⟩
theorem fs_free {T : List El} : ∀ {F : List Int} {f : Int}, Fs T f F → ∀ s ∈ F, (at_ T s).b = false
  | [], _, _, s, hs => by cases hs
  | x :: r, f, h, s, hs => by
    rcases List.mem_cons.1 hs with rfl | hs
    · exact h.2.1
    · exact fs_free h.2.2 s hs
structure Lk (m : LM) (q : PS) : Prop where
  ch : Ch q.T (-1) m.E (-1)
  fi : m.E ≠ [] → q.fi = hd m.E (-1)
  la : m.E ≠ [] → q.la = lst m.E (-1)
  fs : Fs q.T q.fr m.F.reverse
  ln : q.ln = m.E.length
  tl : q.T.length = m.U
theorem Lk.empty : Lk LM.empty ⟨[], 0, 0, 0, 0⟩ := ⟨trivial, fun h => absurd rfl h, fun h => absurd rfl h, trivial, rfl, rfl⟩
theorem E_range {m : LM} (h : Wm m) (x : Int × Int) (hx : x ∈ m.E) : 0 ≤ x.1 ∧ x.1 < m.U := h.range (List.mem_append_left _ (List.mem_map_of_mem hx))
theorem F_range {m : LM} (h : Wm m) (x : Int) (hx : x ∈ m.F) : 0 ≤ x ∧ x < m.U := h.range (List.mem_append_right _ hx)
theorem EF_ne {m : LM} (h : Wm m) (x : Int × Int) (hx : x ∈ m.E) (s : Int) (hs : s ∈ m.F) : x.1 ≠ s := by
  have := h.nodup
  rw [slots, List.nodup_append] at this
  exact this.2.2 x.1 (List.mem_map_of_mem hx) s hs
theorem E_nodup {m : LM} (h : Wm m) : (m.E.map (·.1)).Nodup := by
  have := h.nodup
  rw [slots, List.nodup_append] at this
  exact this.1
theorem Lk.firstP {m : LM} {q : PS} (h : Lk m q) : firstP q = hd m.E (-1) := by
  unfold Go.Proofs.Ytjblfpifhbmfoaa.firstP
  rw [h.ln]
  by_cases h0 : m.E = []
  · rw [h0]; rfl
  · rw [if_neg (by simpa using h0), h.fi h0]
theorem Lk.lastP {m : LM} {q : PS} (h : Lk m q) : lastP q = lst m.E (-1) := by
  unfold Go.Proofs.Ytjblfpifhbmfoaa.lastP
  rw [h.ln]
  by_cases h0 : m.E = []
  · rw [h0]; rfl
  · rw [if_neg (by simpa using h0), h.la h0]
theorem hd_at (E : List (Int × Int)) : hd E (-1) = if 0 < E.length then (E.getD 0 (0, 0)).1 else -1 := by cases E <;> simp [hd]
theorem lst_at (E : List (Int × Int)) : lst E (-1) = if 0 < E.length then (E.getD (E.length - 1) (0, 0)).1 else -1 := by
  by_cases h : E = []
  · subst h; rfl
  · obtain ⟨A0, v, e⟩ := lst_mem E (-1) h
    have h0 : 0 < E.length := List.length_pos_iff.2 h
    rw [if_pos h0]
    generalize lst E (-1) = s at *
    rw [e]
    simp [List.getD]
theorem slotAt_first (m : LM) : slotAt m 0 = hd m.E (-1) := by
  rw [hd_at]
  unfold slotAt
  by_cases h : 0 < m.E.length
  · rw [if_pos h, if_neg (by omega)]; rfl
  · rw [if_neg h, if_pos (by omega)]
theorem slotAt_last (m : LM) : slotAt m ((m.E.length : Int) - 1) = lst m.E (-1) := by
  rw [lst_at]
  unfold slotAt
  by_cases h : 0 < m.E.length
  · rw [if_pos h, if_neg (by omega), show ((m.E.length : Int) - 1).toNat = m.E.length - 1 by omega]
  · rw [if_neg h, if_pos (by omega)]
/-- An element of the list: what stands before it, and behind. -/
theorem Lk.there {m : LM} {q : PS} (h : Lk m q) {s : Int} {i : Nat} (hp : placeM m s = (i : Int)) :
    ∃ A v B, m.E = A ++ (s, v) :: B ∧ A.length = i ∧ at_ q.T s = ⟨v, lst A (-1), hd B (-1), true⟩ ∧ m.E.take i = A ∧ m.E.drop (i + 1) = B ∧ m.E.getD i (0, 0) = (s, v) := by
  obtain ⟨hl, hs⟩ := place_at hp
  have he := split_at m.E i hl
  refine ⟨m.E.take i, (m.E.getD i (0, 0)).2, m.E.drop (i + 1), ?_, by rw [List.length_take]; omega, ?_, rfl, rfl, ?_⟩
  · conv => lhs; rw [he]
    rw [← hs]
  · have hc := h.ch
    rw [he, ch_app] at hc
    have := hc.2.1
    rw [hs] at this
    exact this
  · rw [← hs]
theorem Lk.has {m : LM} {q : PS} (h : Lk m q) (hw : Wm m) (s : Int) : hasP q s = !decide (placeM m s < 0) := by
  rcases placeM_range m s with hp | hp
  · rw [hp]
    unfold hasP
    rw [h.tl]
    by_cases h0 : 0 ≤ s
    · by_cases h1 : s < m.U
      · have hin : s ∈ slots m := (List.Perm.mem_iff hw).2 (by simp only [upto, List.mem_map, List.mem_range]; exact ⟨s.toNat, by omega, by omega⟩)
        rcases List.mem_append.1 hin with hin | hin
        · exfalso
          obtain ⟨x, hx, rfl⟩ := List.mem_map.1 hin
          obtain ⟨j, hj, hpj, -⟩ := mem_place hw (s := x.1) (v := x.2) hx
          omega
        · have := fs_free h.fs s (List.mem_reverse.2 hin)
          rw [this]
          simp
      · simp [h1]
    · simp [h0]
  · obtain ⟨i, hi⟩ := Int.eq_ofNat_of_zero_le hp.1
    obtain ⟨A, v, B, he, -, hat, -⟩ := h.there hi
    have hr := E_range hw (s, v) (by rw [he]; simp)
    unfold hasP
    rw [hat, h.tl]
    have h1 : ¬ placeM m s < 0 := by omega
    simp [hr.1, hr.2, h1]
theorem slotAt_next (m : LM) (i : Nat) (h : i < m.E.length) : slotAt m ((i : Int) + 1) = hd (m.E.drop (i + 1)) (-1) := by
  rw [hd_at]
  unfold slotAt
  rw [List.length_drop]
  by_cases h1 : i + 1 < m.E.length
  · rw [if_pos (show 0 < m.E.length - (i + 1) by omega), if_neg (show ¬ ((i : Int) + 1 < 0 ∨ (m.E.length : Int) ≤ (i : Int) + 1) by omega), show ((i : Int) + 1).toNat = i + 1 by omega]
    simp [List.getD]
  · rw [if_neg (show ¬ 0 < m.E.length - (i + 1) by omega), if_pos (show (i : Int) + 1 < 0 ∨ (m.E.length : Int) ≤ (i : Int) + 1 by omega)]
theorem slotAt_prev (m : LM) (i : Nat) (h : i < m.E.length) : slotAt m ((i : Int) + -1) = lst (m.E.take i) (-1) := by
  rw [lst_at]
  unfold slotAt
  rw [List.length_take]
  by_cases h1 : 0 < i
  · rw [if_pos (show 0 < min i m.E.length by omega), if_neg (show ¬ ((i : Int) + -1 < 0 ∨ (m.E.length : Int) ≤ (i : Int) + -1) by omega), show ((i : Int) + -1).toNat = i - 1 by omega, show min i m.E.length - 1 = i - 1 by omega]
    simp [List.getD, List.getElem?_take, show i - 1 < i by omega]
  · rw [if_neg (show ¬ 0 < min i m.E.length by omega), if_pos (show (i : Int) + -1 < 0 ∨ (m.E.length : Int) ≤ (i : Int) + -1 by omega)]
theorem Lk.nextP {m : LM} {q : PS} (h : Lk m q) (hw : Wm m) (s : Int) : nextP q s = nextM m s 1 := by
  unfold Go.Proofs.Ytjblfpifhbmfoaa.nextP nextM
  rw [h.has hw]
  by_cases hp : placeM m s < 0
  · simp [hp]
  · obtain ⟨i, hi⟩ := Int.eq_ofNat_of_zero_le (show 0 ≤ placeM m s by omega)
    obtain ⟨A, v, B, he, -, hat, -, hB, -⟩ := h.there hi
    have hl := (place_at hi).1
    rw [if_neg hp, hi, slotAt_next m i hl, hat, hB]
    simp [show ¬ ((i : Int) < 0) by omega]
theorem Lk.prevP {m : LM} {q : PS} (h : Lk m q) (hw : Wm m) (s : Int) : prevP q s = nextM m s (-1) := by
  unfold Go.Proofs.Ytjblfpifhbmfoaa.prevP nextM
  rw [h.has hw]
  by_cases hp : placeM m s < 0
  · simp [hp]
  · obtain ⟨i, hi⟩ := Int.eq_ofNat_of_zero_le (show 0 ≤ placeM m s by omega)
    obtain ⟨A, v, B, he, -, hat, hA, -, -⟩ := h.there hi
    have hl := (place_at hi).1
    rw [if_neg hp, hi, slotAt_prev m i hl, hat, hA]
    simp [show ¬ ((i : Int) < 0) by omega]
theorem Lk.value {m : LM} {q : PS} (h : Lk m q) (hw : Wm m) (s : Int) : valueM m s = if hasP q s then ((at_ q.T s).v, true) else (0, false) := by
  unfold valueM
  rw [h.has hw]
  by_cases hp : placeM m s < 0
  · simp [hp]
  · obtain ⟨i, hi⟩ := Int.eq_ofNat_of_zero_le (show 0 ≤ placeM m s by omega)
    obtain ⟨A, v, B, he, -, hat, -, -, hg⟩ := h.there hi
    rw [if_neg hp, hi, Int.toNat_natCast, hg, hat]
    simp [show ¬ ((i : Int) < 0) by omega]
/-- Behind unlink. -/
theorem Lk.unlink {m : LM} {q : PS} (h : Lk m q) (hw : Wm m) {s : Int} {i : Nat} (hp : placeM m s = (i : Int)) : ∃ A v B, m.E = A ++ (s, v) :: B ∧ without m.E i = A ++ B ∧ m.E.getD i (0, 0) = (s, v) ∧
    Ch (unlinkP q s).T (-1) (A ++ B) (-1) ∧ (A ++ B ≠ [] → (unlinkP q s).fi = hd (A ++ B) (-1)) ∧ (A ++ B ≠ [] → (unlinkP q s).la = lst (A ++ B) (-1)) ∧ Fs (unlinkP q s).T (unlinkP q s).fr m.F.reverse ∧ (unlinkP q s).ln = (A ++ B).length ∧ (unlinkP q s).T.length = m.U ∧ ∃ p n, at_ (unlinkP q s).T s = ⟨v, p, n, true⟩ := by
  obtain ⟨A, v, B, he, hl, hat, hA, hB, hg⟩ := h.there hp
  have hhas : hasP q s = true := by rw [h.has hw, hp]; simp
  have hpv : Go.Proofs.Ytjblfpifhbmfoaa.prevP q s = lst A (-1) := by unfold Go.Proofs.Ytjblfpifhbmfoaa.prevP; rw [if_pos hhas, hat]
  have hnx : Go.Proofs.Ytjblfpifhbmfoaa.nextP q s = hd B (-1) := by unfold Go.Proofs.Ytjblfpifhbmfoaa.nextP; rw [if_pos hhas, hat]
  have hc := h.ch
  rw [he, ch_app] at hc
  obtain ⟨hc1, hc2, hc3⟩ := hc
  have hr : ∀ x ∈ m.E, 0 ≤ x.1 ∧ x.1 < q.T.length := fun x hx => by rw [h.tl]; exact E_range hw x hx
  have hnd := E_nodup hw
  rw [he] at hr hnd
  have hin : ∀ x ∈ A ++ B, x ∈ A ++ (s, v) :: B := fun x hx => by
    rcases List.mem_append.1 hx with hx | hx
    · exact List.mem_append_left _ hx
    · exact List.mem_append_right _ (List.mem_cons_of_mem _ hx)
  have hp2 : (A ++ (s, v) :: B).Perm ((s, v) :: (A ++ B)) := List.perm_middle
  have hnd2 := (List.Perm.nodup_iff (hp2.map (·.1))).1 hnd
  rw [List.map_cons, List.nodup_cons] at hnd2
  have hne : ∀ x ∈ A ++ B, x.1 ≠ s := fun x hx e => hnd2.1 (List.mem_map.2 ⟨x, hx, e⟩)
  have hs := hr (s, v) (by simp)
  obtain ⟨j1, j2, j3, j4, j5⟩ := join_spec q A B (-1) _ _ (-1) hc1 hc3 (fun x hx => hr x (hin x hx)) hnd2.2
  have hu : unlinkP q s = lessP (joinP q (lst A (-1)) (hd B (-1))) := by unfold unlinkP; rw [hpv, hnx]
  rw [hu]
  refine ⟨A, v, B, he, by unfold without; rw [hA, hB], hg, (ch_app _ _ _ _ _).2 ⟨j1, j2⟩, fun hab => ?_, fun hab => ?_, ?_, ?_, j5.tl.trans h.tl, lst A (-1), hd B (-1), (j5.ot s hs.1 fun x hx => hne x hx).trans hat⟩
  · show (joinP q (lst A (-1)) (hd B (-1))).fi = _
    rw [j3, hd_app]
    by_cases hA0 : A = []
    · rw [if_pos hA0, hA0]; rfl
    · rw [if_neg hA0, h.fi (by rw [he]; simp), he, hd_app]
      exact hd_ne A hA0 _ _
  · show (joinP q (lst A (-1)) (hd B (-1))).la = _
    rw [j4, lst_app]
    by_cases hB0 : B = []
    · rw [if_pos hB0, hB0]; rfl
    · rw [if_neg hB0, h.la (by rw [he]; simp), he, lst_app]
      exact lst_ne B hB0 _ _
  · show Fs (joinP q (lst A (-1)) (hd B (-1))).T (joinP q (lst A (-1)) (hd B (-1))).fr _
    rw [j5.fr]
    refine fs_frame (fun k hk => ?_) h.fs
    have hkF := List.mem_reverse.1 hk
    exact j5.ot k (F_range hw k hkF).1 fun x hx => EF_ne hw x (by rw [he]; exact hin x hx) k hkF
  · show (joinP q (lst A (-1)) (hd B (-1))).ln - 1 = _
    rw [j5.ln, h.ln, he]
    simp
/-- An element comes to the end, or to the beginning. -/
theorem link_back {q : PS} {E : List (Int × Int)} {F : List Int} {U : Nat} {s v p n : Int} (hc : Ch q.T (-1) E (-1)) (hfi : E ≠ [] → q.fi = hd E (-1)) (hla : E ≠ [] → q.la = lst E (-1)) (hfs : Fs q.T q.fr F.reverse) (hln : q.ln = E.length) (htl : q.T.length = U)
    (hs : at_ q.T s = ⟨v, p, n, true⟩) (hr : ∀ x ∈ E ++ [(s, v)], 0 ≤ x.1 ∧ x.1 < q.T.length) (hn : ((E ++ [(s, v)]).map (·.1)).Nodup) (hF : ∀ k ∈ F, 0 ≤ k ∧ ∀ x ∈ E ++ [(s, v)], x.1 ≠ k) : Lk ⟨E ++ [(s, v)], F, U⟩ (linkP q (lst E (-1)) s (-1)) := by
  have hX : Ch q.T p [(s, v)] n := ⟨hs, trivial⟩
  obtain ⟨j1, j2, j3, j4, j5⟩ := join_spec q E [(s, v)] (-1) (-1) p n hc hX hr hn
  rw [show hd [(s, v)] (-1) = s from rfl] at j1 j2 j3 j4 j5
  have hE2 : Ch (joinP q (lst E (-1)) s).T (-1) (E ++ [(s, v)]) n := (ch_app _ _ _ _ _).2 ⟨j1, j2⟩
  generalize hq1 : joinP q (lst E (-1)) s = q1 at *
  have hl : lst (E ++ [(s, v)]) (-1) = s := by rw [lst_app]; rfl
  obtain ⟨k1, -, k3, k4, k5⟩ := join_spec q1 (E ++ [(s, v)]) [] (-1) n 0 0 hE2 trivial (by rw [List.append_nil, j5.tl]; exact hr) (by rw [List.append_nil]; exact hn)
  rw [hl, show hd [] (-1) = (-1 : Int) from rfl] at k1 k3 k4 k5
  rw [List.append_nil] at k5
  have hlk : linkP q (lst E (-1)) s (-1) = plusP (joinP q1 s (-1)) := by unfold linkP; rw [hq1]
  rw [hlk]
  refine ⟨k1, fun _ => ?_, fun _ => ?_, ?_, ?_, (k5.tl.trans j5.tl).trans htl⟩
  · show (joinP q1 s (-1)).fi = _
    rw [k3, if_neg (by simp), j3, hd_app]
    by_cases h0 : E = []
    · rw [if_pos h0, h0]; rfl
    · rw [if_neg h0, hfi h0]; exact hd_ne E h0 _ _
  · show (joinP q1 s (-1)).la = _
    rw [k4, if_pos rfl]
    exact hl.symm
  · show Fs (joinP q1 s (-1)).T (joinP q1 s (-1)).fr _
    rw [k5.fr, j5.fr]
    refine fs_frame (fun k hk => ?_) hfs
    obtain ⟨h1, h2⟩ := hF k (List.mem_reverse.1 hk)
    exact (k5.ot k h1 h2).trans (j5.ot k h1 h2)
  · show (joinP q1 s (-1)).ln + 1 = _
    rw [k5.ln, j5.ln, hln]
    simp
theorem link_front {q : PS} {E : List (Int × Int)} {F : List Int} {U : Nat} {s v p n : Int} (hc : Ch q.T (-1) E (-1)) (hfi : E ≠ [] → q.fi = hd E (-1)) (hla : E ≠ [] → q.la = lst E (-1)) (hfs : Fs q.T q.fr F.reverse) (hln : q.ln = E.length) (htl : q.T.length = U)
    (hs : at_ q.T s = ⟨v, p, n, true⟩) (hr : ∀ x ∈ (s, v) :: E, 0 ≤ x.1 ∧ x.1 < q.T.length) (hn : (((s, v) :: E).map (·.1)).Nodup) (hF : ∀ k ∈ F, 0 ≤ k ∧ ∀ x ∈ (s, v) :: E, x.1 ≠ k) : Lk ⟨(s, v) :: E, F, U⟩ (linkP q (-1) s (hd E (-1))) := by
  have hX : Ch q.T p [(s, v)] n := ⟨hs, trivial⟩
  have hrs := hr (s, v) List.mem_cons_self
  have hn2 := hn
  rw [List.map_cons, List.nodup_cons] at hn2
  obtain ⟨-, j2, j3, j4, j5⟩ := join_spec q [] [(s, v)] (-1) 0 p n trivial hX (fun x hx => by
    rw [List.nil_append, List.mem_singleton] at hx
    subst hx
    exact hrs) (by simp)
  rw [show hd [(s, v)] (-1) = s from rfl, show lst [] (-1) = (-1 : Int) from rfl] at j2 j3 j4 j5
  have hoth : ∀ x ∈ E, at_ (joinP q (-1) s).T x.1 = at_ q.T x.1 := fun x hx => j5.ot x.1 (hr x (List.mem_cons_of_mem _ hx)).1 fun y hy => by
    rw [List.nil_append, List.mem_singleton] at hy
    subst hy
    exact fun e => hn2.1 (List.mem_map.2 ⟨x, hx, e.symm⟩)
  have hE2 : Ch (joinP q (-1) s).T (-1) E (-1) := ch_frame hoth hc
  generalize hq1 : joinP q (-1) s = q1 at *
  obtain ⟨k1, k2, k3, k4, k5⟩ := join_spec q1 [(s, v)] E (-1) n (-1) (-1) j2 hE2 (by rw [j5.tl]; exact hr) hn
  rw [show lst [(s, v)] (-1) = s from rfl] at k1 k2 k3 k4 k5
  have hlk : linkP q (-1) s (hd E (-1)) = plusP (joinP q1 s (hd E (-1))) := by unfold linkP; rw [hq1]
  rw [hlk]
  refine ⟨⟨k1.1, k2⟩, fun _ => ?_, fun _ => ?_, ?_, ?_, (k5.tl.trans j5.tl).trans htl⟩
  · show (joinP q1 s (hd E (-1))).fi = _
    rw [k3, if_neg (by simp), j3, if_pos rfl]
    rfl
  · show (joinP q1 s (hd E (-1))).la = lst E s
    rw [k4]
    by_cases h0 : E = []
    · rw [if_pos h0, h0]; rfl
    · rw [if_neg h0, j4, if_neg (by simp), hla h0]; exact lst_ne E h0 _ _
  · show Fs (joinP q1 s (hd E (-1))).T (joinP q1 s (hd E (-1))).fr _
    rw [k5.fr, j5.fr]
    refine fs_frame (fun k hk => ?_) hfs
    obtain ⟨h1, h2⟩ := hF k (List.mem_reverse.1 hk)
    refine (k5.ot k h1 h2).trans (j5.ot k h1 fun x hx => h2 x ?_)
    rw [List.nil_append, List.mem_singleton] at hx
    rw [hx]; exact List.mem_cons_self
  · show (joinP q1 s (hd E (-1))).ln + 1 = _
    rw [k5.ln, j5.ln, hln]
    simp
theorem Lk.remove {m : LM} {q : PS} (h : Lk m q) (hw : Wm m) (s : Int) : Lk (removeM m s).1 (removeP q s).1 ∧ (removeP q s).2 = (removeM m s).2 := by
  unfold removeM removeP
  by_cases hp : placeM m s < 0
  · rw [if_pos hp, if_neg (by rw [h.has hw]; simp [hp])]
    exact ⟨h, rfl⟩
  · rw [if_neg hp, if_pos (by rw [h.has hw]; simp [hp])]
    obtain ⟨i, hi⟩ := Int.eq_ofNat_of_zero_le (show 0 ≤ placeM m s by omega)
    obtain ⟨A, v, B, he, hwo, hg, u1, u2, u3, u4, u5, u6, p, n, u7⟩ := h.unlink hw hi
    rw [hi, Int.toNat_natCast, hwo]
    have hin : ∀ x ∈ A ++ B, x ∈ m.E := fun x hx => by
      rw [he]
      rcases List.mem_append.1 hx with hx | hx
      · exact List.mem_append_left _ hx
      · exact List.mem_append_right _ (List.mem_cons_of_mem _ hx)
    have hnd := E_nodup hw
    rw [he] at hnd
    have hnd2 := (List.Perm.nodup_iff ((List.perm_middle (a := (s, v)) (l₁ := A) (l₂ := B)).map (·.1))).1 hnd
    rw [List.map_cons, List.nodup_cons] at hnd2
    have hs := E_range hw (s, v) (by rw [he]; simp)
    have hsT : s < ((unlinkP q s).T.length : Int) := by rw [u6]; exact hs.2
    refine ⟨⟨?_, u2, u3, ?_, u5, (putE_len _ _ _).trans u6⟩, rfl⟩
    · exact ch_frame (fun x hx => at_other _ _ _ _ hs.1 (E_range hw x (hin x hx)).1 fun e => hnd2.1 (List.mem_map.2 ⟨x, hx, e⟩)) u1
    · show Fs (putE (unlinkP q s).T s ⟨0, 0, (unlinkP q s).fr, false⟩) s (m.F ++ [s]).reverse
      rw [List.reverse_append]
      refine ⟨rfl, by rw [at_same _ _ _ hs.1 hsT], ?_⟩
      rw [at_same _ _ _ hs.1 hsT]
      exact fs_frame (fun k hk => at_other _ _ _ _ hs.1 (F_range hw k (List.mem_reverse.1 hk)).1 fun e => EF_ne hw (s, v) (by rw [he]; simp) k (List.mem_reverse.1 hk) e.symm) u4
theorem Lk.move {m : LM} {q : PS} (h : Lk m q) (hw : Wm m) (s : Int) : Lk (moveM m s).1 (moveP q s).1 ∧ (moveP q s).2 = (moveM m s).2 := by
  unfold moveM moveP
  by_cases hp : placeM m s < 0
  · rw [if_pos hp, if_neg (by rw [h.has hw]; simp [hp])]
    exact ⟨h, rfl⟩
  · rw [if_neg hp, if_pos (by rw [h.has hw]; simp [hp])]
    obtain ⟨i, hi⟩ := Int.eq_ofNat_of_zero_le (show 0 ≤ placeM m s by omega)
    obtain ⟨A, v, B, he, hwo, hg, u1, u2, u3, u4, u5, u6, p, n, u7⟩ := h.unlink hw hi
    rw [hi, Int.toNat_natCast, hwo, hg]
    have hperm : (A ++ B ++ [(s, v)]).Perm m.E := by
      rw [he, List.append_assoc]
      exact (List.perm_append_comm (l₁ := B) (l₂ := [(s, v)])).append_left A
    have hla : Go.Proofs.Ytjblfpifhbmfoaa.lastP (unlinkP q s) = lst (A ++ B) (-1) := by
      unfold Go.Proofs.Ytjblfpifhbmfoaa.lastP
      rw [u5]
      by_cases h0 : A ++ B = []
      · rw [h0]; rfl
      · rw [if_neg (by simpa using h0), u3 h0]
    refine ⟨?_, rfl⟩
    show Lk ⟨A ++ B ++ [(s, v)], m.F, m.U⟩ (linkP (unlinkP q s) (Go.Proofs.Ytjblfpifhbmfoaa.lastP (unlinkP q s)) s (-1))
    rw [hla]
    refine link_back u1 u2 u3 u4 u5 u6 u7 (fun x hx => ?_) ((List.Perm.nodup_iff (hperm.map (·.1))).2 (E_nodup hw)) fun k hk => ⟨(F_range hw k hk).1, fun x hx => EF_ne hw x (hperm.mem_iff.1 hx) k hk⟩
    rw [u6]
    exact E_range hw x (hperm.mem_iff.1 hx)
/-- Behind take: a slot of its own, the others as they were. -/
theorem Lk.take {m : LM} {q : PS} (h : Lk m q) (hw : Wm m) (v : Int) : (takeP q v).2 = (takeM m).2 ∧ Ch (takeP q v).1.T (-1) m.E (-1) ∧ (m.E ≠ [] → (takeP q v).1.fi = hd m.E (-1)) ∧ (m.E ≠ [] → (takeP q v).1.la = lst m.E (-1)) ∧ Fs (takeP q v).1.T (takeP q v).1.fr (takeM m).1.F.reverse ∧ (takeP q v).1.ln = m.E.length ∧
    (takeP q v).1.T.length = (takeM m).1.U ∧ at_ (takeP q v).1.T (takeP q v).2 = ⟨v, 0, 0, true⟩ := by
  have hcount := hw.count
  unfold takeP takeM
  by_cases h0 : m.F.length = 0
  · have hF : m.F = [] := List.eq_nil_of_length_eq_zero h0
    rw [if_pos h0, if_pos (by rw [h.ln, h.tl]; omega)]
    refine ⟨by rw [h.tl], ch_frame (fun x hx => ?_) h.ch, h.fi, h.la, by show Fs _ _ m.F.reverse; rw [hF]; trivial, h.ln, by simp [h.tl], ?_⟩
    · have := E_range hw x hx
      have hlt : x.1.toNat < q.T.length := by rw [h.tl]; omega
      simp [at_, List.getD, List.getElem?_append_left hlt]
    · simp [at_, List.getD]
  · rw [if_neg h0, if_neg (by rw [h.ln, h.tl]; omega)]
    have hlast : m.F.length - 1 < m.F.length := by omega
    have hFs : m.F = m.F.take (m.F.length - 1) ++ [m.F.getD (m.F.length - 1) 0] := by
      have := List.take_succ_eq_append_getElem hlast
      rw [show m.F.length - 1 + 1 = m.F.length by omega, List.take_length] at this
      rw [getD_lt m.F _ 0 hlast]
      exact this
    have hfs := h.fs
    have hin : m.F.getD (m.F.length - 1) 0 ∈ m.F := by rw [getD_lt m.F _ 0 hlast]; exact List.getElem_mem hlast
    have hnd := hw.nodup
    rw [slots, List.nodup_append] at hnd
    have hndF := hnd.2.1
    have hsub : ∀ k ∈ m.F.take (m.F.length - 1), k ∈ m.F := fun k hk => List.mem_of_mem_take hk
    have hrs := F_range hw _ hin
    have hneE := fun x hx => EF_ne hw x hx _ hin
    generalize m.F.getD (m.F.length - 1) 0 = s at *
    generalize m.F.take (m.F.length - 1) = F0 at *
    rw [hFs, List.reverse_append] at hfs
    obtain ⟨f1, f2, f3⟩ := hfs
    rw [hFs, List.nodup_append] at hndF
    rw [f1]
    have hsT : s < (q.T.length : Int) := by rw [h.tl]; exact hrs.2
    refine ⟨rfl, ch_frame (fun x hx => at_other _ _ _ _ hrs.1 (E_range hw x hx).1 (hneE x hx)) h.ch, h.fi, h.la, fs_frame (fun k hk => ?_) f3, h.ln, (putE_len _ _ _).trans h.tl, at_same _ _ _ hrs.1 hsT⟩
    have hk2 := List.mem_reverse.1 hk
    exact at_other _ _ _ _ hrs.1 (F_range hw k (hsub k hk2)).1 (hndF.2.2 k hk2 s (by simp))
theorem take_range {m : LM} (hw : Wm m) (v : Int) : (((takeM m).2, v) :: m.E).map (·.1) ++ (takeM m).1.F = (takeM m).2 :: (m.E.map (·.1) ++ (takeM m).1.F) := rfl
theorem Lk.pushB {m : LM} {q : PS} (h : Lk m q) (hw : Wm m) (v : Int) : Lk (pushB m v).1 (pushBP q v).1 ∧ (pushBP q v).2 = (pushB m v).2 := by
  obtain ⟨t0, t1, t2, t3, t4, t5, t6, t7⟩ := h.take hw v
  have hw2 := hw.pushB v
  have hEq : (Go.Proofs.Ytjblfpifhbmfoaa.pushB m v).1 = ⟨m.E ++ [((takeM m).2, v)], (takeM m).1.F, (takeM m).1.U⟩ := by unfold Go.Proofs.Ytjblfpifhbmfoaa.pushB; rw [takeM_E]
  rw [hEq] at hw2 ⊢
  refine ⟨?_, t0⟩
  unfold pushBP
  have hla : Go.Proofs.Ytjblfpifhbmfoaa.lastP (takeP q v).1 = lst m.E (-1) := by
    unfold Go.Proofs.Ytjblfpifhbmfoaa.lastP
    rw [t5]
    by_cases h0 : m.E = []
    · rw [h0]; rfl
    · rw [if_neg (by simpa using h0), t3 h0]
  rw [hla]
  rw [t0] at t7 ⊢
  refine link_back t1 t2 t3 t4 t5 t6 t7 (fun x hx => ?_) (E_nodup hw2) fun k hk => ⟨(F_range hw2 k hk).1, fun x hx => EF_ne hw2 x hx k hk⟩
  rw [t6]
  exact E_range hw2 x hx
theorem Lk.pushF {m : LM} {q : PS} (h : Lk m q) (hw : Wm m) (v : Int) : Lk (pushF m v).1 (pushFP q v).1 ∧ (pushFP q v).2 = (pushF m v).2 := by
  obtain ⟨t0, t1, t2, t3, t4, t5, t6, t7⟩ := h.take hw v
  have hw2 := hw.pushF v
  have hEq : (Go.Proofs.Ytjblfpifhbmfoaa.pushF m v).1 = ⟨((takeM m).2, v) :: m.E, (takeM m).1.F, (takeM m).1.U⟩ := by unfold Go.Proofs.Ytjblfpifhbmfoaa.pushF; rw [takeM_E]
  rw [hEq] at hw2 ⊢
  refine ⟨?_, t0⟩
  unfold pushFP
  have hla : Go.Proofs.Ytjblfpifhbmfoaa.firstP (takeP q v).1 = hd m.E (-1) := by
    unfold Go.Proofs.Ytjblfpifhbmfoaa.firstP
    rw [t5]
    by_cases h0 : m.E = []
    · rw [h0]; rfl
    · rw [if_neg (by simpa using h0), t2 h0]
  rw [hla]
  rw [t0] at t7 ⊢
  refine link_front t1 t2 t3 t4 t5 t6 t7 (fun x hx => ?_) (E_nodup hw2) fun k hk => ⟨(F_range hw2 k hk).1, fun x hx => EF_ne hw2 x hx k hk⟩
  rw [t6]
  exact E_range hw2 x hx
end Go.Proofs.Ytjblfpifhbmfoaa
